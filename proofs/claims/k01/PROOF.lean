import PyProof.Rows.All
import Wide.All
import OpenK.AllK
import Wide.FinOn
import HandS.ExcInit
import HandS.ExcIs
import HandS.ExcField
import HandS.MakeKw
import KE.KExcInit
import HandS.WordsExc
import KE.KExcIs
import HandS.ExcValue
import KE.GoesEnum
import HandS.Iter
import HandS.Style
import HandS.TupAny
import HandS.TupSets
import KE.KeyNested
import HandS.Strs
import KE.SortData
import PyProof.TupleOfSeq
import HandS.TupMul
import HandS.ForMost
import HandS.ForExc
import HandS.IsInst
import HandS.Deep
import HandS.NestedK
import HandS.Zip
import HandS.Wide
import KE.KIntText
import PyProof.Rows.StrBin
import KE.DataCmp
import HandS.Star
import HandS.Lambda
import HandS.Nested
import PySem.Challenge.RW_leadalike_k01_facts_required
import PyProof.ReprBulk
import PyProof.Rows.ReprShort
set_option Elab.async false
set_option linter.all false
set_option maxRecDepth 100000
set_option maxHeartbeats 1000000
section
set_option maxRecDepth 100000
set_option maxHeartbeats 4000000
/-! MX0: the call of an own exception class, with keywords too. -/
namespace MX
open PySem PySem.Spec PySem.W
section
variable {M : Model} {A : Around} {E : Value → Shared → Prop} {hp : Heap} {gs : Array GenState} {dr : Drawn} {tk : Nat} {os : OsState}
variable {nm q : Str} {C N : Addr} {bs bm bmB : List Value} {hdct : Bool} {sn : List Str} {sub : List Value} {ab : Bool} {col : Option Bool} {dd : Option Addr} {k0 k1 k2 k3 k5 : Option Value} {B newId initId : String}
/-- the class C at hp -/
abbrev ClsAt (hp : Heap) (nm q : Str) (C N : Addr) (bs bm : List Value) (hdct : Bool) (sn : List Str) (sub : List Value) (ab : Bool) (col : Option Bool) (dd : Option Addr) (k0 k1 k2 k3 k5 : Option Value) (newId : String) : Prop :=
  hp.get? C = some (excClassObj nm q C N bs bm hdct sn sub ab col dd k0 k1 k2 k3 k5 newId)

theorem new_checked (FB : ExcBaseFacts B newId initId bmB) (same : ∀ T : String, bm.contains (.type T) = bmB.contains (.type T)) (at_ : ClsAt hp nm q C N bs bm hdct sn sub ab col dd k0 k1 k2 k3 k5 newId)
    {vs : List Value} {kw : List (Str × Value)} {Q : Unit → Shared → Prop} (go : Q () ⟨hp, gs, dr, tk, os⟩) :
    wpAny M A (checkBuiltinCall newId ⟨.ref C :: vs, kw⟩) Q E ⟨hp, gs, dr, tk, os⟩ := by
  have c1 : (Value.ref C :: bm).contains (.type B) = true := by rw [List.contains_cons, same, FB.hasB, Bool.or_true]
  have c2 := FB.noStar
  unfold checkBuiltinCall
  simp only [FB.newKind, FB.newSplit, FB.newRow]
  repeat (first | with_reducible refine wpAny_loadPart_at at_ ?_ | (refine wpAny_isSubtype_exc at_ ?_; rw [c1]) | refine wpAny_staticBase_exc at_ ?_ | refine wpAny_madeBy_exc at_ ?_ | simp only [bne_self_eq_false, Bool.false_eq_true, if_false] | wp_step)
  exact go
end
section
variable {prog : Program} {w : World} {A : Around} {E : Value → Shared → Prop} {R : Result → Shared → Prop} {hp : Heap} {gs : Array GenState} {dr : Drawn} {tk : Nat} {os : OsState}
variable {nm q : Str} {C N : Addr} {bs bm bmB : List Value} {hdct : Bool} {sn : List Str} {sub : List Value} {ab : Bool} {col : Option Bool} {dd : Option Addr} {k0 k1 k2 k3 k5 : Option Value} {B newId initId : String}
/-- the heap with a new exception of the class C: its arguments, itself -/
abbrev withNew (hp : Heap) (C : Addr) (vs : List Value) : Heap := (hp.push (kdv_tup vs)).push (PySem.HandSPX.excO C hp.objs.size)
theorem withNew_keeps {vs : List Value} {b : Addr} {o : Obj} (e : hp.get? b = some o) : (withNew hp C vs).get? b = some o := Heap.get?_push_of_some _ (Heap.get?_push_of_some _ e)
theorem withNew_at {vs : List Value} : (withNew hp C vs).get? (hp.objs.size + 1) = some (PySem.HandSPX.excO C hp.objs.size) := by heap_get
theorem new_made (FB : ExcBaseFacts B newId initId bmB) (same : ∀ T : String, bm.contains (.type T) = bmB.contains (.type T)) (at_ : ClsAt hp nm q C N bs bm hdct sn sub ab col dd k0 k1 k2 k3 k5 newId)
    {vs : List Value} {kw : List (Str × Value)} (few : vs.length ≤ sizeLine) (go : R (.ok (.ret (.ref (hp.objs.size + 1)))) ⟨withNew hp C vs, gs, dr, tk, os⟩) :
    codeAny (model prog w) A (.builtin newId ⟨.ref C :: vs, kw⟩) R ⟨hp, gs, dr, tk, os⟩ := by
  have e0 := FB.ends
  have c1 : (Value.ref C :: bm).contains (.type B) = true := by rw [List.contains_cons, same, FB.hasB, Bool.or_true]
  have c2 : (Value.ref C :: bm).contains (.type "AttributeError") = false := by rw [List.contains_cons, same, FB.noAttr]; rfl
  have c3 : (Value.ref C :: bm).contains (.type "NameError") = false := by rw [List.contains_cons, same, FB.noName]; rfl
  refine codeAny_builtinAt FB.entry ?_
  unfold Builtin.«BaseException.__new__»
  refine wpAt_bind ?_
  show wpAt _ _ _ (stack >>= _) _ _ _
  refine wpAt_bind (wpAt_stack fun a1 a2 => wpAt_of_wpAny ?_)
  wp_walk
  refine wpAt_of_wpAny ?_
  rw [FB.owner]
  repeat (first | with_reducible refine wpAny_madeHere_exc FB.canon at_ ?_ | with_reducible refine wpAny_loadPart_at at_ ?_ | (with_reducible refine wpAny_isSubtype_exc at_ ?_; first | rw [c1] | rw [c2] | rw [c3]) | wp_step)
  show R _ _
  rw [Heap.size_push]
  exact go
/-- the class's __init__ is a def -/
theorem type_called (FB : ExcBaseFacts B newId initId bmB) (same : ∀ T : String, bm.contains (.type T) = bmB.contains (.type T)) (at_ : ClsAt hp nm q C N bs bm hdct sn sub ab col dd k0 k1 k2 k3 k5 newId)
    {vs : List Value} {kw : List (Str × Value)} {fI : Addr} {Q : Fin → Shared → Prop} (few : vs.length ≤ sizeLine)
    (hi : Looks (model prog w) hp (typeLookup (.ref C) "__init__") (some (.ref fI))) (hb : ∀ self, Looks (model prog w) hp (bindSpecial (.ref fI) self) (.ref fI, [self]))
    (go : codeAny (model prog w) A (.call (.ref fI) ⟨.ref (hp.objs.size + 1) :: vs, kw⟩)
      (fun r s' => match r with | .ok (.ret v) => v = .none ∧ Q (.done (.ret (.ref (hp.objs.size + 1)))) s' | .ok _ => False | .error e => E e s') ⟨withNew hp C vs, gs, dr, tk, os⟩) :
    wpAny (model prog w) A (Builtin.«type.__call__» ⟨.ref C :: vs, kw⟩) Q E ⟨hp, gs, dr, tk, os⟩ := by
  repeat (first | with_reducible refine wpAny_loadPart_at at_ ?_ | with_reducible refine wpAny_madeBy_exc at_ ?_ | wp_step)
  refine codeAny_call_builtin_code (Code.quiet_builtin _ FB.quiet) (new_checked FB same at_ ?_)
  refine new_made FB same at_ few ?_
  show wpAny _ _ _ _ _ _
  have at2 := withNew_keeps (C := C) (vs := vs) at_
  have new := withNew_at (hp := hp) (C := C) (vs := vs)
  have c0 : (Value.ref C :: bm).contains (.ref C) = true := by simp
  have keep : ∀ b o, hp.get? b = some o → (withNew hp C vs).get? b = some o := fun b o e => withNew_keeps e
  have hi2 := hi.keeps keep
  have hb2 := (hb (.ref (hp.objs.size + 1))).keeps keep
  unfold isInstance
  repeat (first | with_reducible refine wpAny_loadPart_at new ?_ | (with_reducible refine wpAny_isSubtype_exc at2 ?_; rw [c0]) | wp_step)
  show wpAny _ _ (typeLookup (.ref C) _) _ _ _
  refine hi2.at ?_
  refine wpAny_holding (wpAny_bind (hb2.at ?_))
  refine wpAny_bind (wpAny_call (codeAny_mono go fun r s' z => ?_))
  cases r with
  | error e => exact z
  | ok fl =>
    cases fl with
    | ret v =>
      obtain ⟨rfl, z⟩ := z
      first
        | exact wpAny_pure (wpAny_pure z)
        | (wp_walk; exact z)
    | next => exact z.elim
    | brk => exact z.elim
    | cont => exact z.elim
theorem checked_call {vs : List Value} {kw : List (Str × Value)} {Q : Unit → Shared → Prop} (at_ : ClsAt hp nm q C N bs bm hdct sn sub ab col dd k0 k1 k2 k3 k5 newId) (go : Q () ⟨hp, gs, dr, tk, os⟩) :
    wpAny (model prog w) A (checkBuiltinCall "type.__call__" ⟨.ref C :: vs, kw⟩) Q E ⟨hp, gs, dr, tk, os⟩ := by
  have c1 := tc_sub
  have ty : (⟨hp, gs, dr, tk, os⟩ : Shared).TypeIs (.ref C) "type" := ⟨_, at_, rfl⟩
  unfold checkBuiltinCall
  simp only [tc_kind, tc_split]
  repeat (any_goals (first | assumption | with_reducible refine wpAny_loadPart_at at_ ?_ | with_reducible refine wpAny_onRaise ?_ | with_reducible refine wpAny_map ?_ | wp_step))
/-- C(vs, kw): a new exception, then the class's __init__ -/
theorem class_called (FB : ExcBaseFacts B newId initId bmB) (same : ∀ T : String, bm.contains (.type T) = bmB.contains (.type T)) (at_ : ClsAt hp nm q C N bs bm hdct sn sub ab col dd k0 k1 k2 k3 k5 newId)
    {vs : List Value} {kw : List (Str × Value)} {fI : Addr} (few : vs.length ≤ sizeLine)
    (hi : Looks (model prog w) hp (typeLookup (.ref C) "__init__") (some (.ref fI))) (hb : ∀ self, Looks (model prog w) hp (bindSpecial (.ref fI) self) (.ref fI, [self]))
    (go : codeAny (model prog w) (A.under (.builtin "type.__call__" ⟨.ref C :: vs, kw⟩)) (.call (.ref fI) ⟨.ref (hp.objs.size + 1) :: vs, kw⟩) (InitBack (hp.objs.size + 1) R) ⟨withNew hp C vs, gs, dr, tk, os⟩) :
    codeAny (model prog w) A (.call (.ref C) ⟨vs, kw⟩) R ⟨hp, gs, dr, tk, os⟩ := by
  have l1 := tc_lookup
  have l2 := tc_bind (.ref C)
  have ty : (⟨hp, gs, dr, tk, os⟩ : Shared).TypeIs (.ref C) "type" := ⟨_, at_, rfl⟩
  refine codeAny_of_tree ?_
  show wpAny _ _ (callAny (.ref C) _) _ _ _
  repeat (any_goals (first | assumption | with_reducible refine wpAny_loadPart_at at_ ?_ | wp_step))
  refine ⟨rfl, ?_⟩
  refine codeAny_call_builtin_at (Code.quiet_builtin _ (by decide +kernel)) entry_typeCall (checked_call at_ (type_called FB same at_ few hi hb ?_))
  refine codeAny_mono go fun r s' z => ?_
  cases r with
  | error e => exact z
  | ok fl => cases fl <;> exact z
end
end MX
end

section
set_option maxRecDepth 100000
set_option maxHeartbeats 4000000
/-! MX1: exceptions of own classes as values: made, stored into, read, asked. -/
namespace MX
open PySem PySem.Spec PySem.W L2
/-- what an own class over a built-in exception must bear -/
structure EC (K : Frag) (C : Addr) : Prop where
  base : ∃ B newId initId bmB, ExcBaseFacts B newId initId bmB ∧ StoreFacts B bmB "object.__setattr__" "object" ∧ excInitIn K C bmB newId = true ∧ excOver K C bmB = true
  sa : findIn K (.ref C) "__setattr__" = some (some (.builtin "object.__setattr__"))
  kp : keepIn K (.ref C) = true
  ty : typeIn K (.ref C) = some (.type "type")
  is : ExcC K C
section
variable {X : Cx} {pins : List (Addr × Obj)} {σ : L2.St} {H : Hp} {s : Shared} {a C dx : Addr} {f : Str} {y : V} {u : Value} {fs : List (Str × V)} {Q : Unit → Shared → Prop} {E : Value → Shared → Prop} {A : Around}
theorem taker_none {K : Frag} (hno : findIn K (.ref C) f = some none) : takerIn K C f = some none := by
  unfold takerIn
  rw [hno]
  rfl
/-- the first field -/
theorem store_first (T : EC X.K C) (I : Inv X pins σ H s) (e : H a = some (exo a C none)) (hno : findIn X.K (.ref C) f = some none) (ry : RelV y u)
    (go : ∀ dx s', H dx = none → dx ≠ a → Inv X pins σ (upd (upd H dx (exd dx [(f, y)])) a (exo a C (some dx))) s' → Q () s') : wpAny (model X.prog X.w) A (setAttr (.ref a) f u) Q E s := by
  obtain ⟨B, nI, iI, bmB, FB, SF, q1, q2⟩ := T.base
  obtain ⟨cd, hc, hd'⟩ := any_some T.is.hd
  obtain ⟨t1, ho⟩ := exo_at I.hok e
  obtain ⟨hp, g, d, t, os⟩ := s
  have J : InstAt hp a (PySem.HandSPX.excO C t1) C none := ⟨ho, rfl, rfl, trivial⟩
  refine set_plain I.kIn J T.sa (osa_openX (s := ⟨hp, g, d, t + 1, os⟩) (od := none) SF I.kIn J q2 (taker_none hno) fun b => ?_)
  refine wpAny_bind (wpAny_pure (wpAny_bind (instanceDict_exc (s := ⟨hp, g, d, t + 1, os⟩) (c2 := .none) ho (looks_clsIn I.kIn hc) hd' ?_)))
  have lt : a < hp.objs.size := Heap.lt_size ho
  have ne : hp.objs.size ≠ a := Nat.ne_of_gt lt
  refine PySem.HandSPX.store_in_new (dx := hp.objs.size) ⟨_, #[], _, (Heap.get?_update_ne _ _ _ _ ne).trans (Heap.get?_push_at rfl rfl), rfl, fun e he => absurd he (by simp), fun _ => rfl⟩ fun h' tk' hn hs => ?_
  have hn0 : H hp.objs.size = none := I.hok.fresh (Nat.le_refl _)
  have keep : ∀ b o, b ≠ a → hp.get? b = some o → h'.get? b = some o := fun b o hb ho' => (hs.2 b (Nat.ne_of_lt (Heap.lt_size ho'))).trans ((Heap.get?_update_ne _ _ _ _ hb).trans (Heap.get?_push_of_some _ ho'))
  have new : h'.get? a = some ({ cls := .ref C, dict := some hp.objs.size, data := .fields #[.ref t1, .none, .none, .none, .bool false, .none] } : Obj) := (hs.2 a (Ne.symm ne)).trans (Heap.get?_update_self _ (Heap.get?_push_of_some _ ho) rfl)
  have nn : ∀ {b : Addr}, H b = none → b ≠ a := fun {b} n z => by rw [z, e] at n; cases n
  have nd : ∀ {b : Addr} {o : Obj}, hp.get? b = some o → b ≠ hp.objs.size := fun {b o} z => Nat.ne_of_lt (Heap.lt_size z)
  have U : Un X.fs [] H (upd (upd H hp.objs.size (exd hp.objs.size [(f, y)])) a (exo a C (some hp.objs.size))) hp h' := {
    keep := fun b o z n _ _ => keep b o (nn n) z
    slot := fun b o z n _ _ => ⟨o.slots, keep b o (nn n) z⟩
    free := fun b o z n _ => by rw [upd_ne (nn n), upd_ne (nd z)]; exact n
    there := fun b o z _ => by
      by_cases hb : b = a
      · subst hb; exact ⟨_, new⟩
      · exact ⟨o, keep b o hb z⟩
    tups := fun b xs z => by rw [upd_ne (at_ne e z exo_tup), upd_ne (ne_of_none z hn0)]; exact z
    frzs := fun b o v z => by rw [upd_ne (at_ne e z exo_frz), upd_ne (ne_of_none z hn0)]; exact z
    tbls := fun b ps z => ⟨#[], by rw [upd_ne (at_ne e z exo_tbl), upd_ne (ne_of_none z hn0), z]; simp⟩ }
  refine go hp.objs.size _ hn0 ne (I.un (t' := tk') U fun b o z => ?_)
  by_cases hb : b = a
  · subst hb
    rw [upd_same] at z
    cases z
    exact exo_ok new
  rw [upd_ne hb] at z
  by_cases hd : b = hp.objs.size
  · subst hd
    rw [upd_same] at z
    cases z
    exact exd_ok hn (relO_put (fs := []) ry fun g => True.intro)
  rw [upd_ne hd] at z
  refine (I.hok b o z).stay (fun c v hc w => keep c v ?_ w) (fun c hc => ?_) fun c xs hc => ?_
  · rcases hc with hc | hc
    · exact fun q => hb (hc ▸ q)
    · exact at_ne e hc exo_own
  · rw [upd_ne (at_ne e hc exo_own), upd_ne (ne_of_none hc hn0)]; exact hc
  · rw [upd_ne (at_ne e hc exo_tup), upd_ne (ne_of_none hc hn0)]; exact hc
/-- a further one -/
theorem store_more (T : EC X.K C) (I : Inv X pins σ H s) (e : H a = some (exo a C (some dx))) (ed : H dx = some (exd dx fs)) (few : fs.length ≤ 900) (hno : findIn X.K (.ref C) f = some none) (ry : RelV y u)
    (go : ∀ s', Inv X pins σ (upd H dx (exd dx ((f, y) :: fs))) s' → Q () s') : wpAny (model X.prog X.w) A (setAttr (.ref a) f u) Q E s := by
  obtain ⟨B, nI, iI, bmB, FB, SF, q1, q2⟩ := T.base
  obtain ⟨cd, hc, hd'⟩ := any_some T.is.hd
  obtain ⟨t1, ho⟩ := exo_at I.hok e
  obtain ⟨mA, hns, rel⟩ := exd_at I.hok ed
  have hw := within_of rel
  obtain ⟨hp, g, d, t, os⟩ := s
  obtain ⟨oD, _, _, hoD, _, _⟩ := hns.count hw
  have J : InstAt hp a ({ cls := .ref C, dict := some dx, data := .fields #[.ref t1, .none, .none, .none, .bool false, .none] } : Obj) C (some oD) := ⟨ho, rfl, rfl, hoD⟩
  refine set_plain I.kIn J T.sa (osa_openX (s := ⟨hp, g, d, t + 1, os⟩) (od := some oD) SF I.kIn J q2 (taker_none hno) fun b => ?_)
  refine wpAny_bind (wpAny_pure (wpAny_bind (wpAny_bind (wpAny_loadPart (s := ⟨hp, g, d, t + 1, os⟩) ho (wpAny_bind (Looks.here (s := ⟨hp, g, d, t + 1, os⟩) (looks_clsIn I.kIn hc) ?_))))))
  rw [hd']
  refine wpAny_pure (a := some dx) ?_
  refine PySem.OEX.store_in_old hns hw (by rw [List.length_map]; omega) fun h' tk' hn hs => ?_
  refine go _ (I.write (t' := tk') (x := dx) (e := dx) (o := exd dx ((f, y) :: fs)) (by rw [ed]; exact True.intro) (.inl rfl) (fun b o hb z => (hs.2 b hb).trans z) ?_ (exd_ok hn (relO_put ry rel)))
  obtain ⟨o, _, _, z, _⟩ := hn
  exact ⟨o, z⟩
end
end MX
end

section
set_option maxRecDepth 100000
set_option maxHeartbeats 4000000
/-! MX2: __init__ that stores its parameters; the calls C(..), C(f = ..). -/
namespace MX
open PySem PySem.Spec PyProof.Rows L2
def tStoF (K : PySem.W.Frag) (f : Str) (to te : TE) : TS := fun D σ H => te σ H fun y H1 => to σ H1 fun x H2 => ∃ a C : Addr, x = .ref a ∧ EC K C ∧ PySem.W.findIn K (.ref C) f = some none ∧
  ((H2 a = some (exo a C none) ∧ ∀ dx, H2 dx = none → dx ≠ a → D.nx σ (upd (upd H2 dx (exd dx [(f, y)])) a (exo a C (some dx)))) ∨
    ∃ (dx : Addr) (fs : List (Str × V)), H2 a = some (exo a C (some dx)) ∧ H2 dx = some (exd dx fs) ∧ fs.length ≤ 900 ∧ D.nx σ (upd H2 dx (exd dx ((f, y) :: fs))))
theorem ps_stoF {X : Cx} {o e : Expr} {to te : TE} {f : Str} {p' pos : Pos} (ho : PE X o to) (he : PE X e te) (hs : swapsWith e (some (.Attribute o f p')) pos.line X.env = pure false := by rfl) : PS X (.Assign [.Attribute o f p'] e pos) (tStoF X.K f to te) := by
  refine ⟨fun pins s σ H D I h => plainObj_wpAny_Assign_Attribute (thn (he.run pins s σ H _ I h) fun v s1 hv => ?_) hs⟩
  obtain ⟨y, H1, I1, r1, q1⟩ := hv
  refine thn (ho.run pins s1 σ H1 _ I1 q1) fun u s2 hu => ?_
  obtain ⟨x, H2, I2, r2, a, C, rfl, T, hno, q⟩ := hu
  cases r2
  rcases q with ⟨ea, q⟩ | ⟨dx, fs, ea, ed, hl, q⟩
  · exact store_first T I2 ea hno r1 fun dx s' n ne J => ⟨σ, _, J, q dx n ne⟩
  · exact store_more T I2 ea ed hl hno r1 fun s' J => ⟨σ, _, J, q⟩

/-- the fields as the exception's dict holds them: the last one first -/
def mkF (fs : List Str) (ws : List V) : List (Str × V) := (fs.zip ws).reverse
/-- __init__ with the exception first: the parameters are stored as these fields -/
def spE (np : Nat) (fs : List Str) (K : PySem.W.Frag) : Sp := fun vs H Q _ => vs.length = np ∧ ∃ (a C : Addr) (ws : List V), vs = .ref a :: ws ∧ EC K C ∧ (∀ f ∈ fs, PySem.W.findIn K (.ref C) f = some none) ∧ H a = some (exo a C none) ∧
  ∀ dx, H dx = none → dx ≠ a → Q .non (upd (upd H dx (exd dx (mkF fs ws))) a (exo a C (some dx)))
theorem upd_twice {H : Hp} {a d : Addr} {o o' u : HO} (h : d ≠ a) : upd (upd (upd H d o) a u) d o' = upd (upd H d o') a u := by
  funext b
  by_cases h1 : b = d
  · subst h1; rw [upd_same, upd_ne h, upd_same]
  · rw [upd_ne h1]
    by_cases h2 : b = a
    · subst h2; rw [upd_same, upd_same]
    · rw [upd_ne h2, upd_ne h1, upd_ne h2, upd_ne h1]
section
variable {P : Program} {w : World} {K : PySem.W.Frag} {mg : Str → Option Value} {base : Heap} {x qual self y z f g : Str} {st : Stmt} {fI : Addr} {fd : FuncData} {k : Nat} {p1 p2 p3 p4 q1 q2 q3 q4 : Pos}
theorem init_one (T : Fun K x qual st fI fd) (S : FnScope [self, y] [self, y] (defScope st)) (hb : defBody st = [.Assign [.Attribute (.Name self p1) f p2] (.Name y p3) p4]) (v0 : Vis (defScope st) self) (v1 : Vis (defScope st) y)
    (d0 : (self == ("__debug__" : Str)) = false := by decide) (d1 : (y == ("__debug__" : Str)) = false := by decide) (c0 : (self == ("__classdict__" : Str)) = false := by decide) (c1 : (y == ("__classdict__" : Str)) = false := by decide) :
    FnOk P w K mg base (L2.CX P w) (k + 1) fI fd [self, y] (spE 2 [f] K) := by
  refine T.okX S (fun vs H Q E h => h.1) fun cdv A outer s H vs Q E hr h => ?_
  rw [hb]
  refine ⟨_, pss_one (ps_stoF (pe_var (i := 0) rfl v0 d0 c0) (pe_var (i := 1) rfl v1 d1 c1)), ?_⟩
  obtain ⟨hl, a, C, ws, rfl, EC0, hf, ha, q⟩ := h
  match ws, hl with
  | [u], _ =>
    refine ⟨u, rfl, .ref a, rfl, a, C, rfl, EC0, hf f (by simp), .inl ⟨ha, fun dx h1 h2 => q dx h1 h2⟩⟩
theorem init_two (T : Fun K x qual st fI fd) (S : FnScope [self, y, z] [self, y, z] (defScope st)) (hb : defBody st = [.Assign [.Attribute (.Name self p1) f p2] (.Name y p3) p4, .Assign [.Attribute (.Name self q1) g q2] (.Name z q3) q4])
    (v0 : Vis (defScope st) self) (v1 : Vis (defScope st) y) (v2 : Vis (defScope st) z)
    (d0 : (self == ("__debug__" : Str)) = false := by decide) (d1 : (y == ("__debug__" : Str)) = false := by decide) (d2 : (z == ("__debug__" : Str)) = false := by decide) (c0 : (self == ("__classdict__" : Str)) = false := by decide) (c1 : (y == ("__classdict__" : Str)) = false := by decide) (c2 : (z == ("__classdict__" : Str)) = false := by decide) :
    FnOk P w K mg base (L2.CX P w) (k + 1) fI fd [self, y, z] (spE 3 [f, g] K) := by
  refine T.okX S (fun vs H Q E h => h.1) fun cdv A outer s H vs Q E hr h => ?_
  rw [hb]
  refine ⟨_, pss_cons (ps_stoF (pe_var (i := 0) rfl v0 d0 c0) (pe_var (i := 1) rfl v1 d1 c1)) (pss_one (ps_stoF (pe_var (i := 0) rfl v0 d0 c0) (pe_var (i := 2) rfl v2 d2 c2))), ?_⟩
  obtain ⟨hl, a, C, ws, rfl, EC0, hf, ha, q⟩ := h
  match ws, hl with
  | [u, u2], _ =>
    refine ⟨u, rfl, .ref a, rfl, a, C, rfl, EC0, hf f (by simp), .inl ⟨ha, fun dx h1 h2 => ?_⟩⟩
    refine ⟨u2, rfl, .ref a, rfl, a, C, rfl, EC0, hf g (by simp), .inr ⟨dx, [(f, u)], upd_same, by rw [upd_ne h2, upd_same], by simp, ?_⟩⟩
    show Q .non _
    rw [upd_twice h2]
    exact q dx h1 h2
end

/-! ### C(..) -/
/-- a new exception of the class C with these fields -/
def tMkE (C : Addr) (n m : Nat) (fs : List Str) (gA : List V → List V → List V) (t tk : TA) : TE := fun σ H Q => t σ H fun vs H1 => tk σ H1 fun zs H2 => vs.length = n ∧ zs.length = m ∧ n ≤ 1000 ∧
  ∀ a dx, H2 a = none → H2 dx = none → dx ≠ a → Q (.ref a) (upd (upd (upd H2 a (exo a C none)) dx (exd dx (mkF fs (gA vs zs)))) a (exo a C (some dx)))
section
variable {X : Cx} {k n np : Nat} {fI C : Addr} {fd : FuncData} {ps ks fs : List Str} {x : Str} {p pos : Pos} {e : Expr} {es : List Expr} {kws : List Keyword} {t tk : TA} {g : List Value → List Value → List Value} {gV gA : List V → List V → List V}
theorem run_mkE {pins : List (Addr × Obj)} {σ : L2.St} {H : Hp} {s : Shared} {Q : VK} {us ws : List Value} {vs zs : List V} (T : EC X.K C) (iC : PySem.W.findIn X.K (.ref C) "__init__" = some (some (.ref fI))) (tI : PySem.W.typeIn X.K (.ref fI) = some (.type "function"))
    (hfs : ∀ f ∈ fs, PySem.W.findIn X.K (.ref C) f = some none) (F : FnOk X.prog X.w X.K X.mg X.base (L2.CX X.prog X.w) k fI fd ps (spE np fs X.K)) (hr : Room (k + 1) X.A) (hb : KBn X.K fd ps (n + 1) ks g gV) (hg : ∀ a vs zs, vs.length = n → zs.length = ks.length → gV (V.ref a :: vs) zs = V.ref a :: gA vs zs ∧ (gA vs zs).length + 1 = np)
    (I : Inv X pins σ H s) (r : Vals vs us) (rz : Vals zs ws) (l1 : vs.length = n) (l2 : zs.length = ks.length) (few : n ≤ 1000)
    (h : ∀ a dx, H a = none → H dx = none → dx ≠ a → Q (.ref a) (upd (upd (upd H a (exo a C none)) dx (exd dx (mkF fs (gA vs zs)))) a (exo a C (some dx)))) :
    wpAny (model X.prog X.w) X.A (call (.ref C) us (ks.zip ws)) (EP X pins σ Q) X.xe s := by
  obtain ⟨B, nI, iI, bmB, FB, SF, q1, q2⟩ := T.base
  obtain ⟨nm, N', qn, bs, bm, hdct, sn, sub, ab, col, dd, k0, k1, k2, k3, k5, hC, hT⟩ := PySem.W.excInit_of I.kIn q1
  obtain ⟨hp, gs, dr, tok, os⟩ := s
  have keep : ∀ b o, hp.get? b = some o → (withNew hp C us).get? b = some o := fun b o q => withNew_keeps q
  have hsz : hp.objs.size ≤ hp.objs.size + 1 := Nat.le_succ _
  have ha : H (hp.objs.size + 1) = none := I.hok.fresh hsz
  have I2 : Inv X pins σ (upd H (hp.objs.size + 1) (exo (hp.objs.size + 1) C none)) ⟨withNew hp C us, gs, dr, tok, os⟩ :=
    I.laid (t' := tok) (a := hp.objs.size + 1) (o := exo (hp.objs.size + 1) C none) (h' := withNew hp C us) keep hsz (exo_ok (t1 := hp.objs.size) withNew_at)
  have r1 : Vals (V.ref (hp.objs.size + 1) :: vs) (Value.ref (hp.objs.size + 1) :: us) := .cons rfl r
  have r2 := hb.rel r1 rz
  obtain ⟨eg, eg2⟩ := hg (hp.objs.size + 1) vs zs l1 l2
  have lu : us.length ≤ sizeLine := by rw [← r.length, l1, sizeLine_eq]; omega
  have sp : spE np fs X.K (gV (V.ref (hp.objs.size + 1) :: vs) zs) (upd H (hp.objs.size + 1) (exo (hp.objs.size + 1) C none)) (fun v H2 => v = .non ∧ Q (.ref (hp.objs.size + 1)) H2) (fun _ _ _ => False) := by
    rw [eg]
    refine ⟨by simpa using eg2, hp.objs.size + 1, C, _, rfl, T, hfs, upd_same, fun dx h1 h2 => ⟨rfl, ?_⟩⟩
    exact h (hp.objs.size + 1) dx ha (by rw [upd_ne h2] at h1; exact h1) h2
  refine wpAny_call (class_called FB hT hC lu (PySem.W.looks_findIn I.kIn iC) (fun self => PySem.W.bind_fn I.kIn self tI) ?_)
  refine codeAny_mono (F.run _ X.stack _ _ ⟨Value.ref (hp.objs.size + 1) :: us, ks.zip ws⟩ (g (Value.ref (hp.objs.size + 1) :: us) ws) _ _ (fun _ _ _ => False) (hr.make C us (ks.zip ws)) (I2.env0.make C us (ks.zip ws))
    (hb.to _ (Value.ref (hp.objs.size + 1) :: us) ws I2.kIn (by rw [← r1.length]; simp [l1]) (by rw [← rz.length]; exact l2)) r2 sp) fun res s' hq => ?_
  cases res with
  | error e =>
    obtain ⟨_, _, _, _, _, _, _, _, _, _, _, _, z⟩ := hq
    exact z.elim
  | ok fl =>
    cases fl with
    | ret u =>
      obtain ⟨v, H', I3, rv, ev, q3⟩ := I2.after hq
      subst ev
      exact ⟨rv, ⟨V.ref (hp.objs.size + 1), H', I3, rfl, q3⟩⟩
    | next => exact False.elim hq
    | brk => exact False.elim hq
    | cont => exact False.elim hq
theorem pe_mkE (T : EC X.K C) (iC : PySem.W.findIn X.K (.ref C) "__init__" = some (some (.ref fI))) (tI : PySem.W.typeIn X.K (.ref fI) = some (.type "function"))
    (hfs : ∀ f ∈ fs, PySem.W.findIn X.K (.ref C) f = some none) (F : FnOk X.prog X.w X.K X.mg X.base (L2.CX X.prog X.w) k fI fd ps (spE np fs X.K)) (hr : Room (k + 1) X.A) (hb : KBn X.K fd ps (n + 1) [] g gV) (hg : ∀ a vs zs, vs.length = n → zs.length = ([] : List Str).length → gV (V.ref a :: vs) zs = V.ref a :: gA vs zs ∧ (gA vs zs).length + 1 = np)
    (hgl : Gl X x) (hm : X.mg x = some (.ref C)) (ha : PA X (e :: es) t)
    (hdb : (x == ("__debug__" : Str)) = false := by decide) (he : starEach (e :: es) X.env = (false, eval e X.env) :: starEach es X.env := by rfl) (hpl : (backTo pos (starEach es X.env)).any (·.1) = false := by rfl) :
    PE X (.Call (.Name x p) (e :: es) [] pos) (tMkE C n 0 fs gA t tNil) := by
  refine ⟨fun pins s σ H Q I h => ?_⟩
  refine wpAny_Call_Name_kw (ld_glob I hgl hm ?_ hdb)
  refine PySem.W.callWith_K (h₀ := X.base) I.ok.mod.kin T.kp (thn (ha.run pos pins s σ H _ I h) fun us s1 hu => ?_) he hpl
  obtain ⟨vs, H1, I1, r, l1, l2, few, q⟩ := hu
  exact ⟨I1.kIn, run_mkE (ks := []) (ws := []) (zs := []) T iC tI hfs F hr hb hg I1 r .nil l1 rfl few q⟩
theorem pe_mkEK (T : EC X.K C) (iC : PySem.W.findIn X.K (.ref C) "__init__" = some (some (.ref fI))) (tI : PySem.W.typeIn X.K (.ref fI) = some (.type "function"))
    (hfs : ∀ f ∈ fs, PySem.W.findIn X.K (.ref C) f = some none) (F : FnOk X.prog X.w X.K X.mg X.base (L2.CX X.prog X.w) k fI fd ps (spE np fs X.K)) (hr : Room (k + 1) X.A) (hb : KBn X.K fd ps (0 + 1) ks g gV) (hg : ∀ a vs zs, vs.length = 0 → zs.length = ks.length → gV (V.ref a :: vs) zs = V.ref a :: gA vs zs ∧ (gA vs zs).length + 1 = np)
    (hgl : Gl X x) (hm : X.mg x = some (.ref C)) (hkw : PK X kws tk) (hall : (backToKw pos (keywordEach kws X.env)).all (·.1.isSome) = true := by rfl) (hks : (backToKw pos (keywordEach kws X.env)).filterMap (·.1) = ks := by rfl)
    (hdb : (x == ("__debug__" : Str)) = false := by decide) (hpl : ((backTo pos (starEach [] X.env)).any (·.1) || (backToKw pos (keywordEach kws X.env)).any (·.1.isNone)) = false := by rfl) :
    PE X (.Call (.Name x p) [] kws pos) (tMkE C 0 ks.length fs gA tNil tk) := by
  refine ⟨fun pins s σ H Q I h => ?_⟩
  refine wpAny_Call_Name_kw (ld_glob I hgl hm ?_ hdb)
  refine PySem.W.callWith_KW0 (h₀ := X.base) I.ok.mod.kin T.kp hall (thn (hkw.run pos pins s σ H _ I h) fun ws s1 hu => ?_) hpl
  obtain ⟨zs, H1, I1, r, l1, l2, few, q⟩ := hu
  refine ⟨I1.kIn, ?_⟩
  rw [hks]
  exact run_mkE (n := 0) (us := []) (vs := []) T iC tI hfs F hr hb hg I1 .nil r rfl l2 few q
end
end MX
end

section
set_option maxRecDepth 100000
set_option maxHeartbeats 4000000
/-! MX3: C() of a class without own __init__; e.f; isinstance(e, T). -/
namespace MX
open PySem PySem.Spec PyProof.Rows L2
/-- an own class without an own __init__ -/
structure E0 (K : PySem.W.Frag) (C : Addr) : Prop where
  base : ∃ B newId initId bmB, ExcBaseFacts B newId initId bmB ∧ PySem.W.excIn K C bmB newId = true
  kp : PySem.W.keepIn K (.ref C) = true
  ty : PySem.W.typeIn K (.ref C) = some (.type "type")
/-- C() -/
def tMk0 (C : Addr) : TE := fun _ H Q => ∀ a, H a = none → Q (.ref a) (upd H a (exo a C none))
/-- e.f -/
def tFld (f : Str) (K : PySem.W.Frag) (te : TE) : TE := fun σ H Q => te σ H fun x H1 => ∃ (a C dx : Addr) (fs : List (Str × V)) (v : V), x = .ref a ∧ H1 a = some (exo a C (some dx)) ∧ H1 dx = some (exd dx fs) ∧ EC K C ∧ PySem.W.findIn K (.ref C) f = some none ∧ fs.lookup f = some v ∧ Q v H1
/-- isinstance(e, c) -/
def rIsX (K : PySem.W.Frag) : List V → Hp → VK → Prop := fun xs H Q => ∃ (a C : Addr) (c : V) (cv : Value) (b : Bool), xs = [.ref a, c] ∧ (H a = some (exo a C none) ∨ ∃ dx fs, H a = some (exo a C (some dx)) ∧ H dx = some (exd dx fs)) ∧ ExcC K C ∧ (∀ u, RelV c u → u = cv) ∧ PySem.W.kitOne K (.ref C) cv = some b ∧ Q (.bl b) H
section
variable {X : Cx} {C : Addr} {x f : Str} {e : Expr} {te : TE} {p pos : Pos}
theorem pe_mk0 (T : E0 X.K C) (hg : Gl X x) (hm : X.mg x = some (.ref C)) (hdb : (x == ("__debug__" : Str)) = false := by decide) : PE X (.Call (.Name x p) [] [] pos) (tMk0 C) := by
  refine ⟨fun pins s σ H Q I h => ?_⟩
  obtain ⟨B, nI, iI, bmB, FB, q⟩ := T.base
  refine wpAny_Call_Name_kw (ld_glob I hg hm ?_ hdb)
  refine PySem.W.callWith_K0 I.kIn T.kp ?_
  show wpAny _ _ (call (.ref C) []) _ _ _
  obtain ⟨bm, N, nm, qn, bs, hdct, sn, sub, ab, col, dd, k0, k1, k2, k3, k5, mN, hC, hN, hni, tl⟩ := exc_obj I.kIn q
  refine wpAny_call_exc_subT FB tl hC hN hni (fun h' a hm => ?_) (by show 0 ≤ sizeLine; exact Nat.zero_le _)
  have hn : H a = none := I.hok.gone hm.new
  obtain ⟨t, ht, _, _⟩ := hm.there
  exact ⟨.ref a, upd H a (exo a C none), I.laidN hm.keeps hm.new hn (exo_ok ht), rfl, h a hn⟩
theorem pe_fld (he : PE X e te) (hb : attributeBase e f X.env (eval e X.env) = eval e X.env := by rfl) : PE X (.Attribute e f pos) (tFld f X.K te) := by
  refine ⟨fun pins s σ H Q I h => attr_of hb (thn (he.run pins s σ H _ I h) fun u s1 hu => ?_)⟩
  obtain ⟨x, H1, I1, rx, a, C, dx, fs, v, rfl, ea, ed, T, hno, l, q⟩ := hu
  cases rx
  obtain ⟨t1, ho⟩ := exo_at I1.hok ea
  obtain ⟨mA, hns, hr⟩ := exd_at I1.hok ed
  obtain ⟨od, hod, hl⟩ := lookIn_ns hns
  obtain ⟨u, hu, ru⟩ := RelO.some_of (v := v) (o := mA f) (by rw [← l]; exact hr f)
  have J : PySem.W.InstAt s1.heap a ({ cls := .ref C, dict := some dx, data := .fields #[.ref t1, .none, .none, .none, .bool false, .none] } : Obj) C (some od) := ⟨ho, rfl, rfl, hod⟩
  exact HandSPX.exc_get I1.kIn J T.is.hg T.is.hk T.is.hs (PySem.W.findObj_own T.is.hd hno rfl (by rw [hl, hu])) (handed_of ru) ⟨v, H1, I1.tok _, ru, q⟩
theorem call_isX : CallR X (.builtin "isinstance") (rIsX X.K) := by
  intro pins s σ H xs us Q I r h
  obtain ⟨a, C, c, cv, b, rfl, hat, T, hcv, e, q⟩ := h
  cases r with
  | cons rx rr =>
    cases rr with
    | cons rt rr =>
      cases rr
      cases rx
      have ec := hcv _ rt
      subst ec
      have hcl : (PySem.W.clsIn X.K C).isSome = true := by
        obtain ⟨cd, hc, _⟩ := PySem.W.any_some T.hd
        rw [hc]; rfl
      have J : ∃ oe od, PySem.W.InstAt s.heap a oe C od := by
        rcases hat with ea | ⟨dx, fs, ea, ed⟩
        · obtain ⟨t1, ho⟩ := exo_at I.hok ea
          exact ⟨_, none, ho, rfl, rfl, trivial⟩
        · obtain ⟨t1, ho⟩ := exo_at I.hok ea
          obtain ⟨mA, ⟨od, _, _, hod, _⟩, _⟩ := exd_at I.hok ed
          exact ⟨_, some od, ho, rfl, rfl, hod⟩
      obtain ⟨oe, od, J⟩ := J
      exact PySem.W.kia_one (PySem.W.kitx_exc hcl T.hg T.hk T.hs T.ha T.hn T.ht T.hm) I.kIn J e (fun z => nomatch z) fun tk => ⟨.bl b, H, I.kept (t' := tk) fun _ _ z => z, rfl, q⟩
end
end MX
end

section
set_option maxRecDepth 100000
set_option maxHeartbeats 4000000
/-! MX4: raise C(..), raise C(). -/
namespace MX
open PySem PySem.Spec PyProof.Rows L2
/-- C(..) that is raised: its dict stands, itself is let go -/
def tMkR (C : Addr) (n : Nat) (fs : List Str) (t : TA) : L2.St → Hp → XK → Prop := fun σ H Q => t σ H fun vs H1 => vs.length = n ∧ n ≤ 1000 ∧ ∀ d, H1 d = none → Q (.ref C) (some d) (upd H1 d (.xd (mkF fs vs)))
theorem upd_let_go {H : Hp} {a d : Addr} {o u v w : HO} (ha : H a = none) (h : d ≠ a) : upd (del (upd (upd (upd H a o) d u) a v) a) d w = upd H d w := by
  funext b
  by_cases h1 : b = d
  · subst h1; rw [upd_same, upd_same]
  · rw [upd_ne h1, upd_ne h1]
    by_cases h2 : b = a
    · subst h2; rw [del_same, ha]
    · rw [del_ne h2, upd_ne h2, upd_ne h1, upd_ne h2]
section
variable {X : Cx} {k n : Nat} {fI C : Addr} {fd : FuncData} {ps fs : List Str} {x : Str} {p pos : Pos} {e : Expr} {es : List Expr} {t : TA}
theorem pmk_mkE (T : EC X.K C) (iC : PySem.W.findIn X.K (.ref C) "__init__" = some (some (.ref fI))) (tI : PySem.W.typeIn X.K (.ref fI) = some (.type "function"))
    (hfs : ∀ f ∈ fs, PySem.W.findIn X.K (.ref C) f = some none) (F : FnOk X.prog X.w X.K X.mg X.base (L2.CX X.prog X.w) k fI fd ps (spE (n + 1) fs X.K)) (hr : Room (k + 1) X.A) (hb : KBn X.K fd ps (n + 1) [] (fun us _ => us) (fun vs _ => vs))
    (hgl : Gl X x) (hm : X.mg x = some (.ref C)) (ha : PA X (e :: es) t)
    (hdb : (x == ("__debug__" : Str)) = false := by decide) (he : starEach (e :: es) X.env = (false, eval e X.env) :: starEach es X.env := by rfl) (hpl : (backTo pos (starEach es X.env)).any (·.1) = false := by rfl) :
    PMk X (.Call (.Name x p) (e :: es) [] pos) (tMkR C n fs t) := by
  intro pins s σ H Q I h
  obtain ⟨B, nI, iI, bmB, FB, SF, q1, q2⟩ := T.base
  refine wpAny_Call_Name_kw (ld_glob I hgl hm ?_ hdb)
  refine PySem.W.callWith_K (h₀ := X.base) I.ok.mod.kin T.kp (thn (ha.run pos pins s σ H _ I h) fun us s1 hu => ?_) he hpl
  obtain ⟨vs, H1, I1, r, l1, few, q⟩ := hu
  refine ⟨I1.kIn, ?_⟩
  show wpAny _ _ (call (.ref C) us) _ _ _
  obtain ⟨nm, N', qn, bs, bm, hdct, sn, sub, ab, col, dd, k0, k1, k2, k3, k5, hC, hT⟩ := PySem.W.excInit_of I1.kIn q1
  obtain ⟨hp, gs, dr, tok, os⟩ := s1
  have keep : ∀ b o, hp.get? b = some o → (withNew hp C us).get? b = some o := fun b o q => withNew_keeps q
  have hsz : hp.objs.size ≤ hp.objs.size + 1 := Nat.le_succ _
  have ha1 : H1 (hp.objs.size + 1) = none := I1.hok.fresh hsz
  have I2 : Inv X pins σ (upd H1 (hp.objs.size + 1) (exo (hp.objs.size + 1) C none)) ⟨withNew hp C us, gs, dr, tok, os⟩ :=
    I1.laid (t' := tok) (a := hp.objs.size + 1) (o := exo (hp.objs.size + 1) C none) (h' := withNew hp C us) keep hsz (exo_ok (t1 := hp.objs.size) withNew_at)
  have r1 : Vals (V.ref (hp.objs.size + 1) :: vs) (Value.ref (hp.objs.size + 1) :: us) := .cons rfl r
  have lu : us.length ≤ sizeLine := by rw [← r.length, l1, sizeLine_eq]; omega
  have sp : spE (n + 1) fs X.K (V.ref (hp.objs.size + 1) :: vs) (upd H1 (hp.objs.size + 1) (exo (hp.objs.size + 1) C none))
      (fun v H2 => v = .non ∧ ∃ (d : Addr) (gs : List (Str × V)), H2 (hp.objs.size + 1) = some (exo (hp.objs.size + 1) C (some d)) ∧ H2 d = some (exd d gs) ∧ H1 d = none ∧ Q (.ref C) (some d) (upd (del H2 (hp.objs.size + 1)) d (.xd gs))) (fun _ _ _ => False) := by
    refine ⟨by simpa using l1, hp.objs.size + 1, C, vs, rfl, T, hfs, upd_same, fun dx h1 h2 => ⟨rfl, dx, mkF fs vs, upd_same, ?_, ?_, ?_⟩⟩
    · rw [upd_ne h2, upd_same]
    · rw [upd_ne h2] at h1; exact h1
    · rw [upd_let_go ha1 h2]
      exact q dx (by rw [upd_ne h2] at h1; exact h1)
  refine wpAny_call (class_called FB hT hC lu (PySem.W.looks_findIn I1.kIn iC) (fun self => PySem.W.bind_fn I1.kIn self tI) ?_)
  refine codeAny_mono (F.run _ X.stack _ _ ⟨Value.ref (hp.objs.size + 1) :: us, []⟩ (Value.ref (hp.objs.size + 1) :: us) _ _ (fun _ _ _ => False) (hr.make C us []) (I2.env0.make C us [])
    (hb.to _ (Value.ref (hp.objs.size + 1) :: us) [] I2.kIn (by rw [← r1.length]; simp [l1]) rfl) r1 sp) fun res s' hq => ?_
  cases res with
  | error e =>
    obtain ⟨_, _, _, _, _, _, _, _, _, _, _, _, z⟩ := hq
    exact z.elim
  | ok fl =>
    cases fl with
    | ret u =>
      obtain ⟨v, H2, os2, bare2, un2, hok2, rv, ev, d, gs2, ea, ed, hd1, q2⟩ := hq
      subst ev
      obtain ⟨h2, g2, d2, t2, os'⟩ := s'
      exact ⟨rv, mk_end (raises_own T.is.hs T.ty) I1 hsz keep un2 hok2 os2 bare2 ea ed hd1 q2⟩
    | next => exact False.elim hq
    | brk => exact False.elim hq
    | cont => exact False.elim hq
/-- C() without an own __init__ -/
theorem pmk_mk0 (T : E0 X.K C) (hs : PySem.W.subIn X.K (.ref C) (.type "BaseException") = some true) (hg : Gl X x) (hm : X.mg x = some (.ref C)) (hdb : (x == ("__debug__" : Str)) = false := by decide) : PMk X (.Call (.Name x p) [] [] pos) (fun _ H Q => Q (.ref C) none H) := by
  intro pins s σ H Q I h
  obtain ⟨B, nI, iI, bmB, FB, q⟩ := T.base
  refine wpAny_Call_Name_kw (ld_glob I hg hm ?_ hdb)
  refine PySem.W.callWith_K0 I.kIn T.kp ?_
  show wpAny _ _ (call (.ref C) []) _ _ _
  obtain ⟨bm, N, nm, qn, bs, hdct, sn, sub, ab, col, dd, k0, k1, k2, k3, k5, mN, hC, hN, hni, tl⟩ := exc_obj I.kIn q
  refine wpAny_call_exc_subT FB tl hC hN hni (fun h' a hm => ?_) (by show 0 ≤ sizeLine; exact Nat.zero_le _)
  exact mk_of I hm (raises_own hs T.ty) h (I.hok.gone hm.new)
end
end MX
end

section
set_option maxRecDepth 100000
set_option maxHeartbeats 4000000
/-! MX5: in an except suite: isinstance of the error that it holds. -/
namespace MX
open PySem PySem.Spec PyProof.Rows L2
theorem xfC_of {K : PySem.W.Frag} {C : Addr} (h : ExcC K C) : XfC K C := ⟨h.hg, h.hk, h.hs, h.hd⟩
/-- isinstance(e, c), e held at a, of the class at C, its dict d -/
def rIsP (K : PySem.W.Frag) (C a : Addr) (d : Option Addr) : List V → Hp → VK → Prop := fun xs H Q => ∃ (c : V) (cv : Value) (b : Bool), xs = [.ref a, c] ∧ (d = none ∨ ∃ dd fs, d = some dd ∧ H dd = some (.xd fs)) ∧ (∀ u, RelV c u → u = cv) ∧ PySem.W.kitOne K (.ref C) cv = some b ∧ Q (.bl b) H
theorem call_isP {X : Cx} {a C : Addr} {d : Option Addr} {oe : Obj} {pn : List (Addr × Obj)} (T : ExcC X.K C) (hz : Zc (.ref C) d oe) (hf : ∃ vs, oe.data = .fields vs) : CallR (X.suite a ((a, oe) :: pn)) (.builtin "isinstance") (rIsP X.K C a d) := by
  intro pins s σ H xs us Q I r h
  obtain ⟨c, cv, b, rfl, hd, hcv, e, q⟩ := h
  cases r with
  | cons rx rr =>
    cases rr with
    | cons rt rr =>
      cases rr
      cases rx
      have ec := hcv _ rt
      subst ec
      have hcl : (PySem.W.clsIn X.K C).isSome = true := by
        obtain ⟨cd, hc, _⟩ := PySem.W.any_some T.hd
        rw [hc]; rfl
      obtain ⟨hget, _⟩ := I.pin (a, oe) (List.mem_append.mpr (.inl List.mem_cons_self))
      obtain ⟨vs, hv⟩ := hf
      have nc : PySem.W.notCls oe = true := by unfold PySem.W.notCls; rw [hv]
      have J : ∃ od, PySem.W.InstAt s.heap a oe C od := by
        rcases hd with rfl | ⟨dd, fs, rfl, ed⟩
        · exact ⟨none, hget, hz.1, nc, by rw [hz.2]; trivial⟩
        · obtain ⟨mA, ⟨od, _, _, hod, _⟩, _⟩ : ObjOk X.prog X.w H s.heap dd (.xd fs) := I.hok dd _ ed
          exact ⟨some od, hget, hz.1, nc, by rw [hz.2]; exact hod⟩
      obtain ⟨od, J⟩ := J
      exact PySem.W.kia_one (PySem.W.kitx_exc hcl T.hg T.hk T.hs T.ha T.hn T.ht T.hm) I.kIn J e (fun z => nomatch z) fun tk => ⟨.bl b, H, I.kept (t' := tk) fun _ _ z => z, rfl, q⟩
end MX
end

section
set_option maxRecDepth 100000
set_option maxHeartbeats 4000000
/-! MX6: enumerate of a tuple. -/
namespace PySem
open Sem (wp)
theorem mx_enum_new {v : Value} {o : Obj} {H : Heap → Prop} (B : Begins v o H) :
    Meets (Builtin.«enumerate.__new__» ⟨[.type "enumerate", v], []⟩) (fun _ R s => H s.heap ∧
      R (.ok (.ret (.ref (s.heap.push o).objs.size))) { s with heap := (s.heap.push o).push { cls := .type "enumerate", data := .fields #[.none, .bool false, .ref s.heap.objs.size, rawInt 0, .none, .none] } }) :=
  .of_wp fun prog w A R s h => by
    obtain ⟨hp, gs, dr, tk, os⟩ := s
    obtain ⟨h1, go⟩ := h
    have c1 := sub_enumerate
    have c2 : ∀ {A' : Around} {E : Value → Shared → Prop} {Q : Value → Shared → Prop}, Q (.ref hp.objs.size) ⟨hp.push o, gs, dr, tk, os⟩ → wpAny (model prog w) A' (pyIter v) Q E ⟨hp, gs, dr, tk, os⟩ :=
      fun z => B.iter prog w _ _ ⟨hp, gs, dr, tk, os⟩ _ h1 z
    wp_walk using c2
    refine wpAny_stack_any fun st => wpAny_pure ?_
    split
    · rename_i c _ _ _ _ _
      cases (c == Value.type "enumerate") <;> (wp_walk using c2; exact ⟨_, rfl, go⟩)
    · wp_walk using c2
      exact ⟨_, rfl, go⟩
end PySem
namespace MX
open PySem PySem.Spec PyProof.Rows L2
section
variable {prog : Program} {w : World} {A : Around} {E : Value → Shared → Prop} {s : Shared}
theorem enum_called {v : Value} {o : Obj} {H : Heap → Prop} {Q : Value → Shared → Prop} (B : Begins v o H) (h1 : H s.heap)
    (go : ∀ h', IsEnum h' (s.heap.objs.size + 1) s.heap.objs.size 0 .none → h'.get? s.heap.objs.size = some o → h'.objs.size = s.heap.objs.size + 2 →
      (∀ b o, s.heap.get? b = some o → h'.get? b = some o) → Q (.ref (s.heap.objs.size + 1)) { s with heap := h' }) :
    wpAny (model prog w) A (call (.type "enumerate") [v]) Q E s := by
  refine callType_new F.called_enumerate (by decide) (F.typeCall_enumerate_1 _) (F.newCall_enumerate_1 _) (fun obj => F.args_object_init_2 obj _) F.entry_enumerate_new (mx_enum_new B) ⟨h1, ?_⟩
  have size1 : (s.heap.push o).objs.size = s.heap.objs.size + 1 := Heap.size_push ..
  show _ ∧ _
  rw [size1]
  have en : IsEnum ((s.heap.push o).push { cls := .type "enumerate", data := .fields #[.none, .bool false, .ref s.heap.objs.size, rawInt 0, .none, .none] }) (s.heap.objs.size + 1) s.heap.objs.size 0 .none := by
    have z := Heap.get?_push_size (s.heap.push o) (o := { cls := .type "enumerate", data := .fields #[.none, .bool false, .ref s.heap.objs.size, rawInt 0, .none, .none] }) rfl
    rw [size1] at z
    exact z
  exact ⟨⟨_, en, rfl⟩, go _ en (Heap.get?_push_of_some _ (Heap.get?_push_size _ B.free)) (by rw [Heap.size_push, size1]) fun b u x => Heap.get?_push_of_some _ (Heap.get?_push_of_some _ x)⟩
end
/-- the pairs of a tuple's items with their places -/
def ItET (K : PySem.W.Frag) (a : Addr) : It :=
  ⟨fun i H => ∃ (xs : List V) (x : V), SqT K H a xs ∧ xs[i]? = some x, fun i H v H' => ∃ T x, v = .ref T ∧ H T = none ∧ H' = upd H T (.tup [.int (i : Nat), x]) ∧ ∀ xs, SqT K H a xs → xs[i]? = some x, fun i H => ∃ xs : List V, SqT K H a xs ∧ xs.length ≤ i⟩
theorem turn_enumT {P : Program} {w : World} {K : PySem.W.Frag} {elts : List Expr} {kk : Nat} {tpos : Pos} (a e it : Addr) :
    Turn P w K (.Tuple elts kk tpos) (ItET K a) [e, it] e (fun i h => (∃ old, IsEnum h e it ((i : Nat) : Int) old) ∧ h.IsTupleIter it a i ∧ e ≠ it) where
  mem := by simp
  obj := fun i h st b hb => by
    obtain ⟨⟨old, he⟩, ⟨o, ho, hc, hd⟩, _⟩ := st
    have hb' : b = e ∨ b = it := by simpa using hb
    rcases hb' with rfl | rfl
    · exact ⟨_, he, fun v q => nomatch q⟩
    · exact ⟨o, ho, fun v q => by rw [hd] at q; cases q⟩
  keep := fun i h h' st k => by
    obtain ⟨⟨old, he⟩, hi, hne⟩ := st
    exact ⟨⟨old, k e (by simp) _ he⟩, hi.at fun o q => k it (by simp) o q, hne⟩
  item := by
    intro X hP hw hK hc i pins s σ H E I hf st hg
    subst hP hw hK
    obtain ⟨⟨old, he⟩, hit, hne⟩ := st
    obtain ⟨xs, x, hq, hx⟩ := hg
    obtain ⟨its, rv, p, hz⟩ := I.tuple hq
    obtain ⟨u, hu, ru⟩ := rv.get hx
    have hp : s.heap.IsTuple a its.toArray := p
    have hel : e < s.heap.objs.size := Heap.lt_size he
    have hil : it < s.heap.objs.size := by obtain ⟨_, q, _⟩ := hit; exact Heap.lt_size q
    have hai : a ≠ it := fun z => by
      obtain ⟨o1, g1, c1, _⟩ := hp
      obtain ⟨o2, g2, c2, _⟩ := hit
      rw [z, g2] at g1
      cases g1
      rw [c2] at c1
      exact absurd c1 (by decide)
    have hae : e ≠ a := fun z => by
      obtain ⟨o1, g1, c1, _⟩ := hp
      have g2 : s.heap.get? e = _ := he
      rw [z, g1] at g2
      cases g2
      exact absurd (show (Value.type "enumerate") = Value.type "tuple" from c1) (by decide)
    have D := Draws.tuple (prog := X.prog) (w := X.w) (A := X.A.in1) (I.ok.hd hc) it a hai its.toArray
    have hlt : i < its.toArray.size := by
      have := (List.getElem?_eq_some_iff.mp hu).1
      simpa using this
    refine wpAny_pyNext_enum_itemD D he ⟨hit, hp⟩ hlt hne (by simp [hne, hae]) fun x' h' tk hx' ho hst hT hsz hk => ?_
    have ex' : x' = u := by
      have z : its[i]? = some x' := by simpa using hx'
      rw [hu] at z
      cases z
      rfl
    subst ex'
    refine ⟨_, rfl, wpAny_letOwnedTupleGo_enum (s := { s with heap := h', toks := tk + 1 }) ho fun h'' he' sb => ?_⟩
    have hT2 : h''.get? s.heap.objs.size = some { cls := .type "tuple", data := .seq #[.int i tk, x'] } := (sb.2 _ (Nat.ne_of_gt hel)).trans hT
    have new : ObjOk X.prog X.w (upd H s.heap.objs.size (.tup [.int (i : Nat), x])) h'' s.heap.objs.size (.tup [.int (i : Nat), x]) :=
      ⟨by show 2 ≤ sizeLine; decide, [.int i tk, x'], .cons ⟨_, rfl⟩ (.cons ru .nil), ⟨_, hT2, rfl, _, rfl⟩⟩
    have I1 : Inv X pins σ (upd H s.heap.objs.size (.tup [.int (i : Nat), x])) { s with heap := h'', toks := tk + 1 } :=
      I.turnedNew (ch := [e, it]) (fun b ob hb q => (sb.2 b (fun z => hb (by simp [z]))).trans (hk b ob (fun z => hb (by simp [z])) (fun z => hb (by simp [z])) q)) hf (Nat.le_refl _) new
    refine ⟨.ref s.heap.objs.size, _, I1, rfl, ⟨_, x, rfl, I.hok.fresh (Nat.le_refl _), rfl, fun ys hy => by rw [I.tuple_inj hy hq]; exact hx⟩, ⟨⟨x', ?_⟩, hst.1.at fun o q => (sb.2 it (Ne.symm hne)).trans q, hne⟩, fun b hb => ?_⟩
    · have e1 : ((i + 1 : Nat) : Int) = (i : Int) + 1 := by omega
      rw [e1]
      exact he'
    · have hb' : b = e ∨ b = it := by simpa using hb
      have lt : b < s.heap.objs.size := by rcases hb' with rfl | rfl <;> assumption
      rw [upd_ne (Nat.ne_of_lt lt)]
      exact (hf b hb).1
  done := by
    intro X hP hw hK hc i pins s σ H E I hf st hg
    subst hP hw hK
    obtain ⟨⟨old, he⟩, hit, hne⟩ := st
    obtain ⟨xs, hq, hx⟩ := hg
    obtain ⟨its, rv, p, hz⟩ := I.tuple hq
    obtain ⟨f0, f1, f2, f3, f4, f5⟩ := hf it (by simp)
    have hl := rv.length
    have hp : s.heap.IsTuple a its.toArray := p
    unfold pyNext
    refine wpAny_bind (wpAny_attempt (wpAny_callSpecial?_slot (name := Str.ofString "__next__") (show s.TypeIs (.ref e) "enumerate" from ⟨_, he, rfl⟩) F.slot_enumerate_next
      (wpAny_call_entry F.slot_enumerate_next (show s.TypeIs (.ref e) "enumerate" from ⟨_, he, rfl⟩) F.entry_enumerate_next ?_ (F.args_enumerate_next_1 _))))
    show wpAny _ _ (field (.ref e) 2 >>= _) _ _ _
    refine wpAny_bind (wpAny_field he rfl (x := .ref it) rfl ?_)
    refine wpAny_bind (wpAny_nextOf_tuple_end (I.ok.hd hc) hit hp (by simp; omega) fun h' x eb hx' => ?_)
    obtain ⟨o, ho, hcl⟩ := hx'
    refine wpAny_bind (wpAny_isInstance (T := "StopIteration") (b := true) ⟨o, ho, hcl⟩ isSubtype_stop ?_)
    exact wpAny_pure ⟨rfl, I.turned (t' := s.toks) (fun b o hb q => eb b o hb q) f0 f1 f3 f4 f5⟩
  self := fun A i s Q E st h => by
    obtain ⟨⟨_, he⟩, _⟩ := st
    exact wpAny_pyIter_enum he h
/-- enumerate(e), e a tuple -/
def iEnumT (K : PySem.W.Frag) (ta : TA) : TI := fun σ H R => ta σ H fun vs H1 => ∃ a xs, vs = [.ref a] ∧ SqT K H1 a xs ∧ R (ItET K a) H1
theorem pi_enumT {X : Cx} {e : Expr} {ta : TA} {p pos tpos : Pos} {elts : List Expr} {kk : Nat} (hg : Gl X "enumerate") (hm : X.mg "enumerate" = none) (ha : PA X [e] ta) (hs : starEach [e] X.env = [(false, eval e X.env)] := by rfl) :
    PI X (.Tuple elts kk tpos) (.Call (.Name "enumerate" p) [e] [] pos) (iEnumT X.K ta) := by
  refine ⟨fun pins s σ H R I h => Call_ (ld_blt I hg hm boot_enumerate (PyProof.Rows.callWith_type1 (thn (ha.run pos pins s σ H _ I h) fun us s1 hu => ?_) hs rfl))⟩
  obtain ⟨vs, H1, I1, r1, a, xs, rfl, hq, q⟩ := hu
  cases r1 with
  | cons r rr =>
    cases rr
    cases r
    obtain ⟨its, rv, p', hz⟩ := I1.tuple hq
    have hp : s1.heap.IsTuple a its.toArray := p'
    refine enum_called (begins_tuple a its.toArray) hp fun h' he hit hsz hk => wpAny_pyIter_enum he ?_
    have I2 : Inv X pins σ H1 { s1 with heap := h' } := I1.kept (t' := s1.toks) hk
    refine ⟨s1.heap.objs.size + 1, [s1.heap.objs.size + 1, s1.heap.objs.size], _, _, H1, rfl, I2, turn_enumT a (s1.heap.objs.size + 1) s1.heap.objs.size, ⟨⟨.none, he⟩, ⟨_, hit, rfl, rfl⟩, Nat.succ_ne_self _⟩, fun b hb => ?_, q⟩
    have hb' : b = s1.heap.objs.size + 1 ∨ b = s1.heap.objs.size := by simpa using hb
    have hle : s1.heap.objs.size ≤ b := by rcases hb' with rfl | rfl <;> omega
    exact I1.fpOk hle (I1.hok.fresh hle)
end MX
end

section
set_option maxRecDepth 100000
set_option maxHeartbeats 4000000
/-! MX7: t[::-1] of a tuple. -/
namespace HT
open PySem PySem.Spec PyProof.Rows
section
variable {prog : Program} {w : World} {A : Around} {E : Value → Shared → Prop} {s : Shared}
theorem mx_adjust (n : Nat) : Builtin.Slice.sliceAdjust none none (-1) (n : Int) = ((n : Int) - 1, -1) := by
  unfold Builtin.Slice.sliceAdjust
  simp
theorem mx_places (n : Nat) : Builtin.Slice.slicePlaces ((n : Int) - 1) (-1) (-1) = n := by
  unfold Builtin.Slice.slicePlaces
  have a1 : ¬ ((-1 : Int) > 0) := by decide
  have e : ((n : Int) - 1 - -1 - 1) / (- -1) = (n : Int) - 1 := by
    rw [show (- -1 : Int) = 1 by decide, Int.ediv_one]
    omega
  simp only [a1, if_false]
  split
  · rw [e]; omega
  · omega
theorem mx_congr {α β : Type} {f g : α → Option β} : ∀ l : List α, (∀ m ∈ l, f m = g m) → l.filterMap f = l.filterMap g
  | [], _ => rfl
  | x :: l, h => by
    have ih := mx_congr l fun m hm => h m (by simp [hm])
    simp [List.filterMap_cons, h x (by simp), ih]
theorem mx_pick (xs : Array Value) : ((List.range xs.size).filterMap fun (m : Nat) => xs[(((xs.size : Int) - 1) + (m : Int) * (-1)).toNat]?) = xs.toList.reverse := by
  have e1 : ∀ m ∈ List.range xs.size, xs[(((xs.size : Int) - 1) + (m : Int) * (-1)).toNat]? = xs[xs.size - 1 - m]? := fun m hm => by
    have hl := List.mem_range.mp hm
    have e : (((xs.size : Int) - 1) + (m : Int) * (-1)).toNat = xs.size - 1 - m := by omega
    rw [e]
  have e2 : ((List.range xs.size).filterMap fun (m : Nat) => xs[(((xs.size : Int) - 1) + (m : Int) * (-1)).toNat]?) = (List.range xs.size).filterMap fun m => xs[xs.size - 1 - m]? := mx_congr _ e1
  rw [e2]
  have e3 : ((List.range xs.size).filterMap fun m => xs[xs.size - 1 - m]?) = ((List.range xs.size).map fun k => xs.size - 1 - k).filterMap (xs[·]?) := by rw [List.filterMap_map]; rfl
  rw [e3, PySem.W.krv_range, List.filterMap_reverse, PySem.W.krv_all]
theorem mx_applied {sl : Addr} {vs : Value} {n : Nat} {Q : Int × Int × Nat → Shared → Prop} (hs : s.heap.IsSliceOf sl .none .none vs) (ps : IsPart vs (some (-1)))
    (go : Q ((n : Int) - 1, -1, n) s) : wpAny (model prog w) A (Builtin.Slice.sliceApplied (.ref sl) (pure (n : Int))) Q E s := by
  obtain ⟨o, ho, hc, hd⟩ := id hs
  unfold Builtin.Slice.sliceApplied Builtin.Slice.sliceFields
  refine wpAny_bind (wpAny_bind (wpAny_field ho hd (x := .none) rfl (wpAny_bind (wpAny_field ho hd (x := .none) rfl (wpAny_bind (wpAny_field ho hd (x := vs) rfl (wpAny_pure ?_)))))))
  refine wpAny_bind (slicePart_ ps ?_)
  show wpAny _ _ (if ((-1 : Int) == 0) = true then _ else _) _ _ s
  rw [if_neg (by decide)]
  refine wpAny_bind (slicePart_none (wpAny_bind (slicePart_none (wpAny_bind (wpAny_pure ?_)))))
  show wpAny _ _ (match Builtin.Slice.sliceAdjust none none (-1) (n : Int) with | (lo, hi) => pure (lo, (-1 : Int), Builtin.Slice.slicePlaces lo hi (-1))) _ _ s
  rw [mx_adjust n]
  show wpAny _ _ (pure (((n : Int) - 1), (-1 : Int), Builtin.Slice.slicePlaces ((n : Int) - 1) (-1) (-1))) _ _ s
  rw [mx_places]
  exact wpAny_pure go
theorem tuple_turned {t sl : Addr} {items : Array Value} {vs : Value} {Q : Value → Shared → Prop} (ht : IsTup s.heap t items) (hs : s.heap.IsSliceOf sl .none .none vs) (ps : IsPart vs (some (-1)))
    (go : Q (.ref s.heap.objs.size) { s with heap := s.heap.push { cls := .type "tuple", data := .seq items.toList.reverse.toArray } }) (few : items.size ≤ sizeLine) : wpAny (model prog w) A (getItem (.ref t) (.ref sl)) Q E s := by
  have ok : sizeOk (.seq items.toList.reverse.toArray) := by
    show items.toList.reverse.toArray.size ≤ sizeLine
    rw [List.size_toArray, List.length_reverse, Array.length_toList]
    exact few
  obtain ⟨o, ho, hc, hd⟩ := id hs
  have ty : s.TypeIs (.ref sl) "slice" := ⟨o, ho, hc⟩
  unfold getItem
  try with_reducible refine wpAny_holding ?_
  first | refine wpAny_bind (wpAny_pure ?_) | skip
  refine wpAny_bind (wpAny_sequenceKey ht.typeIs (by decide) ?_)
  refine wpAny_bind (wpAny_callSpecial?_slot (name := Str.ofString "__getitem__") ht.typeIs PyProof.Rows.slot_tuple_getitem
    (wpAny_call_entry PyProof.Rows.slot_tuple_getitem ht.typeIs entry_tuple_getitem ?_ (args_tuple_getitem _ _)))
  show wpAny _ _ (Builtin.Tuple.tupleItemsOf (.ref t) >>= _) _ _ s
  refine wpAny_bind (tupleItemsOf_ ht ?_)
  refine wpAny_bind (wpAny_typeOf ty ?_)
  rw [if_pos (by decide)]
  refine wpAny_bind (mx_applied hs ps ?_)
  have no : ¬ ((((items.size : Int) - 1) == 0 && (-1 : Int) == 1 && items.size == items.size) = true) := by
    intro z
    rw [Bool.and_eq_true, Bool.and_eq_true] at z
    exact absurd z.1.2 (by decide)
  show wpAny _ _ (if (((items.size : Int) - 1) == 0 && (-1 : Int) == 1 && items.size == items.size) = true then _ else _) _ _ s
  rw [if_neg no, mx_pick]
  first
    | exact wpAny_bind (m := Builtin.Tuple.tupleExact _) (wpAny_newObj_type (wpAny_pure ⟨_, rfl, wpAny_pure go⟩) ok)
    | exact wpAny_bind (m := Builtin.Tuple.tupleExact _) (wpAny_newObj_type (wpAny_bind (wpAny_pure (wpAny_pure ⟨_, rfl, wpAny_pure go⟩))) ok)
    | exact wpAny_bind (wpAny_bind (m := Builtin.Tuple.tupleExact _) (wpAny_newObj_type (wpAny_pure (wpAny_pure ⟨_, rfl, wpAny_pure go⟩)) ok))
    | exact wpAny_bind (wpAny_bind (m := Builtin.Tuple.tupleExact _) (wpAny_newObj_type (wpAny_pure ⟨_, rfl, wpAny_pure go⟩) ok))
end
end HT
namespace MX
open PySem PySem.Spec PyProof.Rows L2
def tRevT (K : PySem.W.Frag) (te : TE) : TE := fun σ H Q => te σ H fun x H1 => ∃ a xs, x = .ref a ∧ SqT K H1 a xs ∧ ∀ p, H1 p = none → Q (.ref p) (upd H1 p (.tup xs.reverse))
theorem pe_revT {X : Cx} {e : Expr} {te : TE} {k : Nat} {p1 p2 p3 pos : Pos} (he : PE X e te) : PE X (.Subscript e (.Slice none none (some (.UnaryOp .USub (.Constant (.int 1) k p1) p2)) p3) pos) (tRevT X.K te) := by
  refine ⟨fun pins s σ H Q I h => Subscript_ (thn (he.run pins s σ H _ I h) fun v s1 hv => ?_)⟩
  obtain ⟨x, H1, I1, r1, a, xs, rfl, hx, q⟩ := hv
  cases r1
  have part : PO X (some (.UnaryOp .USub (.Constant (.int 1) k p1) p2)) (tPart (tUn (rU fun i => .int (-i)) (tC (.int 1)))) := po_some (pe_un un_neg pe_int)
  refine wpAny_Slice (thn (po_none.run pins s1 σ H1 (fun o H2 => o = none ∧ H2 = H1) I1 ⟨rfl, rfl⟩) fun vl s2 h2 => ?_)
  obtain ⟨l, H2, I2, pl, rfl, rfl⟩ := h2
  refine thn (po_none.run pins s2 σ H2 (fun o H3 => o = none ∧ H3 = H2) I2 ⟨rfl, rfl⟩) fun vu s3 h3 => ?_
  obtain ⟨u, H3, I3, pu, rfl, rfl⟩ := h3
  refine thn (part.run pins s3 σ H3 (fun o H4 => o = some (-1) ∧ H4 = H3) I3 ⟨1, rfl, -1, rfl, rfl, rfl⟩) fun vs s4 h4 => ?_
  obtain ⟨o, H4, I4, ps, rfl, rfl⟩ := h4
  have I5 : Inv X pins σ H4 { s4 with heap := s4.heap.push { cls := .type "slice", data := .fields #[vl, vu, vs] } } := I4.kept (t' := s4.toks) fun b ob z => Heap.get?_push_of_some _ z
  obtain ⟨its, r, ht, hz⟩ := I5.tuple hx
  have len := r.length
  cases pl
  cases pu
  show wpAny (model X.prog X.w) X.A (subscriptTail e (.Slice none none (some (.UnaryOp .USub (.Constant (.int 1) k p1) p2)) p3) (.ref a) (.ref s4.heap.objs.size)) (EP X pins σ Q) X.xe { s4 with heap := s4.heap.push { cls := .type "slice", data := .fields #[.none, .none, vs] } }
  refine tail_any (ops := [.ref a, .ref s4.heap.objs.size]) ht.typeIs (PyProof.Rows.slot_tuple_getitem.lookup) ?_ (by with_unfolding_all rfl)
  refine HT.tuple_turned ht (Heap.IsSliceOf.new _ .none .none vs) ps ?_ (by rw [List.size_toArray]; omega)
  refine ⟨.ref _, _, I5.laid (t' := s4.toks) (o := .tup xs.reverse) (fun b ob z => Heap.get?_push_of_some _ z) (Nat.le_refl _) ?_, rfl, q _ (I5.hok.fresh (Nat.le_refl _))⟩
  exact ⟨by rw [List.length_reverse]; exact hz, _, r.reverse, IsTup.new _ _⟩
end MX
end

section
set_option maxRecDepth 100000
set_option maxHeartbeats 1000000
/-! MX8: the round i -> 5 i + 1 meets every number below a power of two; tables of any such size. -/
namespace MX
open PySem PySem.Spec PyProof.Rows L2

/-! ### the round -/
def cc : Nat → Nat
  | 0 => 0
  | k + 1 => cc k * 5 + 1
theorem cc_pow : ∀ a, 4 * cc a + 1 = 5 ^ a
  | 0 => rfl
  | a + 1 => by rw [cc, Nat.pow_succ, ← cc_pow a]; omega
theorem cc_add (a : Nat) : ∀ d, cc (a + d) = 5 ^ a * cc d + cc a
  | 0 => by simp [cc]
  | d + 1 => by
    have e : a + (d + 1) = (a + d) + 1 := by omega
    rw [e, cc, cc_add a d, cc, Nat.mul_add, ← cc_pow a]
    generalize cc d = x
    generalize cc a = y
    rw [Nat.mul_one, ← Nat.mul_assoc]
    omega
theorem cc_par : ∀ k, cc k % 2 = k % 2
  | 0 => rfl
  | k + 1 => by have := cc_par k; rw [cc]; omega
theorem five_four : ∀ e, 5 ^ e % 4 = 1
  | 0 => rfl
  | e + 1 => by have := five_four e; rw [Nat.pow_succ]; omega
theorem cc_two (e : Nat) : ∃ q, q % 2 = 1 ∧ cc (2 * e) = 2 * (cc e * q) := by
  have h := five_four e
  refine ⟨(5 ^ e + 1) / 2, by omega, ?_⟩
  have e1 : 2 * e = e + e := by omega
  have e2 : 2 * ((5 ^ e + 1) / 2) = 5 ^ e + 1 := by omega
  have e3 : 2 * (cc e * ((5 ^ e + 1) / 2)) = cc e * (2 * ((5 ^ e + 1) / 2)) := by rw [← Nat.mul_assoc, Nat.mul_comm 2 (cc e), Nat.mul_assoc]
  rw [e1, cc_add, e3, e2, Nat.mul_add, Nat.mul_one, Nat.mul_comm]
theorem cop_odd {q : Nat} (h : q % 2 = 1) (n : Nat) : Nat.Coprime (2 ^ n) q := by
  refine Nat.Coprime.pow_left n ?_
  rw [Nat.coprime_iff_gcd_eq_one, Nat.gcd_comm]
  have : Nat.gcd q 2 = Nat.gcd (2 % q) q ∨ True := .inr trivial
  have h1 : Nat.gcd q 2 ∣ 2 := Nat.gcd_dvd_right q 2
  have h2 : Nat.gcd q 2 ∣ q := Nat.gcd_dvd_left q 2
  have h3 : Nat.gcd q 2 ≤ 2 := Nat.le_of_dvd (by decide) h1
  have h4 : Nat.gcd q 2 ≠ 0 := fun z => by rw [z] at h1; simp at h1
  have h5 : Nat.gcd q 2 ≠ 2 := fun z => by rw [z] at h2; omega
  omega
theorem cc_dvd : ∀ n d, 2 ^ n ∣ cc d → 2 ^ n ∣ d
  | 0, d, _ => by rw [Nat.pow_zero]; exact Nat.one_dvd d
  | n + 1, d, h => by
    have p := cc_par d
    have h2 : 2 ∣ cc d := Nat.dvd_trans ⟨2 ^ n, by rw [Nat.pow_succ, Nat.mul_comm]⟩ h
    obtain ⟨e, rfl⟩ : ∃ e, d = 2 * e := ⟨d / 2, by omega⟩
    obtain ⟨q, hq, eq⟩ := cc_two e
    rw [eq, Nat.pow_succ, Nat.mul_comm] at h
    have h3 : 2 ^ n ∣ cc e * q := Nat.dvd_of_mul_dvd_mul_left (by decide) h
    have h4 := cc_dvd n e (Nat.Coprime.dvd_of_dvd_mul_right (cop_odd hq n) h3)
    rw [Nat.pow_succ, Nat.mul_comm]
    exact Nat.mul_dvd_mul_left 2 h4
theorem lcgI_cc (m i : Nat) (hi : i ≤ m) : ∀ k, lcgI m i k = (5 ^ k * i + cc k) % (m + 1)
  | 0 => by
    show i = _
    rw [Nat.pow_zero, Nat.one_mul, cc, Nat.add_zero, Nat.mod_eq_of_lt (by omega)]
  | k + 1 => by
    show (lcgI m i k * 5 + 1) % (m + 1) = _
    rw [lcgI_cc m i hi k, cc, Nat.pow_succ]
    have e : 5 ^ k * 5 * i + (cc k * 5 + 1) = (5 ^ k * i + cc k) * 5 + 1 := by
      rw [Nat.add_mul, Nat.mul_right_comm]
      omega
    rw [e, Nat.add_mod, Nat.mul_mod, Nat.mod_mod, ← Nat.mul_mod, ← Nat.add_mod]
/-- a mask: all ones -/
def Msk (m : Nat) : Prop := ∃ n, 3 ≤ n ∧ n ≤ 15 ∧ m + 1 = 2 ^ n
theorem Msk.le {m : Nat} (h : Msk m) : 7 ≤ m ∧ m ≤ 32767 ∧ m % 2 = 1 := by
  obtain ⟨n, h1, h2, e⟩ := h
  have : n = 3 ∨ n = 4 ∨ n = 5 ∨ n = 6 ∨ n = 7 ∨ n = 8 ∨ n = 9 ∨ n = 10 ∨ n = 11 ∨ n = 12 ∨ n = 13 ∨ n = 14 ∨ n = 15 := by omega
  rcases this with rfl | rfl | rfl | rfl | rfl | rfl | rfl | rfl | rfl | rfl | rfl | rfl | rfl <;> omega
theorem lcg_apart {m i a d : Nat} (hm : Msk m) (hi : i ≤ m) (h0 : 0 < d) (hd : d ≤ m) : lcgI m i a ≠ lcgI m i (a + d) := by
  intro e
  obtain ⟨n, _, _, en⟩ := hm
  rw [lcgI_cc m i hi, lcgI_cc m i hi, cc_add, Nat.pow_add, en] at e
  have ed := cc_pow d
  have key : 5 ^ a * 5 ^ d * i + (5 ^ a * cc d + cc a) = (5 ^ a * i + cc a) + 5 ^ a * (cc d * (4 * i + 1)) := by
    rw [← ed]
    generalize cc d = x
    generalize cc a = y
    generalize 5 ^ a = z
    have e1 : z * (4 * x + 1) * i = z * (4 * x * i) + z * i := by rw [Nat.mul_assoc, Nat.add_mul, Nat.one_mul, Nat.mul_add]
    have e2 : x * (4 * i + 1) = 4 * x * i + x := by rw [Nat.mul_add, Nat.mul_one, Nat.mul_left_comm, Nat.mul_assoc]
    rw [e1, e2, Nat.mul_add]
    omega
  rw [key] at e
  have dv : 2 ^ n ∣ 5 ^ a * (cc d * (4 * i + 1)) := by
    have := Nat.sub_mod_eq_zero_of_mod_eq e.symm
    rw [Nat.add_sub_cancel_left] at this
    exact Nat.dvd_of_mod_eq_zero this
  have f4 := five_four a
  have h1 := Nat.Coprime.dvd_of_dvd_mul_left (cop_odd (q := 5 ^ a) (by omega) n) dv
  have h2 := Nat.Coprime.dvd_of_dvd_mul_right (cop_odd (q := 4 * i + 1) (by omega) n) h1
  have h3 := Nat.le_of_dvd h0 (cc_dvd n d h2)
  omega
/-- among the first starts one is outside of a list that is short -/
theorem lcg_out {m i : Nat} (hm : Msk m) (hi : i ≤ m) (pl : List Nat) (hl : pl.length ≤ m) : ∃ k, k ≤ pl.length ∧ lcgI m i k ∉ pl := by
  rcases Classical.em (∃ k, k ≤ pl.length ∧ lcgI m i k ∉ pl) with c | c
  · exact c
  · exfalso
    have nd : ((List.range (pl.length + 1)).map (lcgI m i)).Nodup := by
      rw [List.Nodup, List.pairwise_map]
      refine List.Pairwise.imp_of_mem (fun {x y} hx hy hxy => ?_) List.pairwise_lt_range
      have hy' := List.mem_range.mp hy
      obtain ⟨d, rfl⟩ : ∃ d, y = x + d := ⟨y - x, by omega⟩
      exact lcg_apart hm hi (by omega) (by omega)
    have q := nat_nodup_len _ pl nd fun z hz => by
      obtain ⟨k, hk, rfl⟩ := List.mem_map.mp hz
      rcases Classical.em (lcgI m i k ∈ pl) with t | t
      · exact t
      · exact absurd ⟨k, by have := List.mem_range.mp hk; omega, t⟩ c
    rw [List.length_map, List.length_range] at q
    omega
/-- a run begins outside early -/
theorem run_out {m : Nat} (hm : Msk m) (h : Int) (pl : List Nat) (hl : pl.length ≤ m) : ∃ n, n ≤ 12 + pl.length ∧ runI m (SetTable.bits h) n ∉ pl := by
  obtain ⟨k, hk, e⟩ := lcg_out hm (runI_le m (SetTable.bits h) 12) pl hl
  exact ⟨12 + k, by omega, by rw [runI_tail (bits_lt h)]; exact e⟩
theorem step_le {m : Nat} (h : Int) (k : Nat) : way m h k ≤ m := by
  have hi : SetTable.bits h % (m + 1) ≤ m := Nat.le_of_lt_succ (Nat.mod_lt _ (Nat.succ_pos _))
  obtain ⟨a1, a2, _⟩ := runEnd_bd hi
  have q := nth_in (m := m) k (runAt m (SetTable.bits h % (m + 1)) (SetTable.bits h)) (by simp only [runAt]; omega)
  exact Nat.le_trans (Nat.le_add_right _ _) q
/-- the first step of a way that is outside -/
theorem way_out {m : Nat} (hm : Msk m) (h : Int) (pl : List Nat) (hl : pl.length ≤ m) : ∃ K, K ≤ 10 * (12 + pl.length) ∧ K < 10 * SetTable.turns m ∧ way m h K ∉ pl ∧ ∀ k, k < K → way m h k ∈ pl := by
  obtain ⟨n, hn, e⟩ := run_out hm h pl hl
  obtain ⟨k, hk, e2⟩ := run_nth m (SetTable.bits h) n
  have e3 : way m h k ∉ pl := by
    show (nth m (runAt m (SetTable.bits h % (m + 1)) (SetTable.bits h)) k).j ∉ pl
    rw [e2]
    exact e
  obtain ⟨K, h1, h2, h3⟩ := st_least (p := fun k => way m h k ∉ pl) k e3
  refine ⟨K, by omega, by unfold SetTable.turns; omega, h2, fun k' hk' => Classical.byContradiction (h3 k' hk')⟩

/-! ### the table: each hash is found again -/
structure Tab (t : SetTable) (hs : List Int) : Prop where
  asc : Ris t.place.toList
  nodum : t.dummies = #[]
  many : t.place.size = hs.length
  msk : Msk t.mask
  top : ∀ x ∈ t.place.toList, x ≤ t.mask
  met : ∀ (i : Nat) (h : Int) (j : Nat), hs[i]? = some h → t.place.toList[i]? = some j → ∃ k, way t.mask h k = j ∧ ∀ c, c < k → way t.mask h c ∈ t.place.toList
theorem Tab.free {t : SetTable} {hs : List Int} (T : Tab t hs) (hl : hs.length ≤ t.mask) (h : Int) : ∃ K, K ≤ 10 * (12 + hs.length) ∧ K < 10 * SetTable.turns t.mask ∧ way t.mask h K ∉ t.place.toList ∧ ∀ k, k < K → way t.mask h k ∈ t.place.toList := by
  have e : t.place.toList.length = hs.length := by rw [Array.length_toList]; exact T.many
  have q := way_out T.msk h t.place.toList (by rw [e]; exact hl)
  rwa [e] at q
theorem Tab.ahead {t : SetTable} {hs : List Int} (T : Tab t hs) {h : Int} {K i j : Nat} (hK : way t.mask h K ∉ t.place.toList) (hi : hs[i]? = some h) (hj : t.place.toList[i]? = some j) : ∃ k, k < K ∧ way t.mask h k = j := by
  obtain ⟨k, e, hb⟩ := T.met i h j hi hj
  refine ⟨k, Classical.byContradiction fun c => ?_, e⟩
  by_cases d : k = K
  · subst d
    rw [e] at hK
    exact hK (List.mem_of_getElem? hj)
  · exact hK (hb K (by omega))
/-! ### one more -/
theorem Tab.add {t : SetTable} {hs : List Int} (T : Tab t hs) {h : Int} {K : Nat} (hK : way t.mask h K ∉ t.place.toList) (hb : ∀ k, k < K → way t.mask h k ∈ t.place.toList) {j p : Nat} (ej : way t.mask h K = j) (ep : SetTable.below t.place j = p) :
    p ≤ hs.length ∧ Tab (t.put j).1 (hs.take p ++ h :: hs.drop p) ∧ (t.put j).1.fill = hs.length + 1 := by
  subst ej
  obtain ⟨b1, _, _⟩ := below_cut T.asc (way t.mask h K)
  rw [ep] at b1
  have lp : p ≤ t.place.toList.length := b1
  have lh : p ≤ hs.length := T.many ▸ b1
  have pl := put_place t (way t.mask h K)
  rw [ep] at pl
  have more : ∀ x, x ∈ t.place.toList → x ∈ (t.put (way t.mask h K)).1.place.toList := fun x hx => pl ▸ mem_ins.2 (.inr hx)
  have sz : (t.put (way t.mask h K)).1.place.size = hs.length + 1 := by
    have z := congrArg List.length pl
    rw [len_ins _ lp] at z
    simp only [Array.length_toList] at z
    rw [z, T.many]
  have dm := put_dm T.nodum (way t.mask h K)
  refine ⟨lh, { asc := ris_insert T.asc fun e => hK (List.mem_of_getElem? (Array.getElem?_toList.symm ▸ e)), nodum := dm, many := by rw [sz, len_ins _ lh], msk := T.msk, top := fun x hx => ?_, met := fun i h' j' h1 h2 => ?_ }, ?_⟩
  · rw [pl] at hx
    rcases mem_ins.1 hx with rfl | z
    · exact step_le h K
    · exact T.top x z
  · rw [tins_get hs lh] at h1
    rw [pl, tins_get _ lp] at h2
    have old : ∀ i', hs[i']? = some h' → t.place.toList[i']? = some j' → ∃ k, way t.mask h' k = j' ∧ ∀ c, c < k → way t.mask h' c ∈ (t.put (way t.mask h K)).1.place.toList := fun i' q1 q2 => by
      obtain ⟨k, e, z⟩ := T.met i' h' j' q1 q2
      exact ⟨k, e, fun c hc => more _ (z c hc)⟩
    by_cases c1 : i < p
    · simp only [c1, if_true] at h1 h2
      exact old _ h1 h2
    · by_cases c2 : i = p
      · simp only [c1, c2, if_false, if_true, Nat.lt_irrefl] at h1 h2
        cases h1; cases h2
        exact ⟨K, rfl, fun c hc => more _ (hb c hc)⟩
      · simp only [c1, c2, if_false] at h1 h2
        exact old _ h1 h2
  · show (t.put (way t.mask h K)).1.place.size + (t.put (way t.mask h K)).1.dummies.size = _
    rw [sz, dm]
    rfl

/-! ### all laid anew -/
theorem Own_more {m : Nat} (hm : Msk m) {done : List Int} {ow : Array (Option Nat)} (I : L2.Own m done ow) (hl : done.length ≤ m) (h : Int) :
    ∃ j, SetTable.layClean.free m ow (SetTable.turns m) (SetTable.bits h % (m + 1)) (SetTable.bits h) = some j ∧ L2.Own m (done ++ [h]) (ow.setIfInBounds j (some done.length)) := by
  obtain ⟨ps, eps, hps⟩ := I.ps
  obtain ⟨n, hn, out⟩ := run_out hm h ps (by omega)
  -- that run's start is free
  have rf : oAt ow (runI m (SetTable.bits h) n) = none := by
    cases z : oAt ow (runI m (SetTable.bits h) n) with
    | none => rfl
    | some k => exact absurd (hps _ (runI_le m _ n) (by rw [z]; simp)) out
  let O := off m (SetTable.bits h % (m + 1)) (SetTable.bits h) n
  have hw : way m h O = runI m (SetTable.bits h) n := by
    show (nth m (runAt m _ _) O).j = _
    rw [nth_off, itL_run]
    rfl
  obtain ⟨K, k1, k2, k3⟩ := st_least (p := fun k => oAt ow (way m h k) = none) O (by show oAt ow (way m h O) = none; rw [hw]; exact rf)
  have jm : way m h K ≤ m := step_le h K
  have jb : way m h K < ow.size := by rw [I.sz]; omega
  have self := oAt_set_self (some done.length) jb
  have keep : ∀ i, oAt ow i ≠ none → oAt (ow.setIfInBounds (way m h K) (some done.length)) i ≠ none := fun i hi => by
    by_cases c : i = way m h K
    · rw [c, self]; simp
    · rw [oAt_set_ne _ c]; exact hi
  refine ⟨way m h K, free_spec m ow (SetTable.turns m) n _ _ K (by unfold SetTable.turns; omega) k1 (fun k hk => ?_) ?_, ?_⟩
  · have q : oAt ow (way m h k) ≠ none := k3 k hk
    revert q
    show oAt ow (way m h k) ≠ none → (oAt ow (way m h k)).isNone = false
    cases oAt ow (way m h k) <;> simp
  · show (oAt ow (way m h K)).isNone = true
    rw [show oAt ow (way m h K) = none from k2]
    rfl
  · refine ⟨by simpa using I.sz, fun j k hj e => ?_, fun k hk => ?_, ⟨way m h K :: ps, by simp [eps], fun j hj e => ?_⟩⟩
    · by_cases c : j = way m h K
      · subst c
        rw [self] at e
        cases e
        exact ⟨h, K, by simp, rfl, fun k' hk' => keep _ (k3 k' hk')⟩
      · rw [oAt_set_ne _ c] at e
        obtain ⟨h', K', a1, a2, a3⟩ := I.at_ j k hj e
        exact ⟨h', K', by rw [List.getElem?_append_left (List.getElem?_eq_some_iff.mp a1).1]; exact a1, a2, fun k' hk' => keep _ (a3 k' hk')⟩
    · by_cases c : k < done.length
      · obtain ⟨j, hj, e⟩ := I.all k c
        have : j ≠ way m h K := fun z => by rw [z, k2] at e; cases e
        exact ⟨j, hj, by rw [oAt_set_ne _ this]; exact e⟩
      · have : k = done.length := by simp at hk; omega
        exact ⟨_, jm, this ▸ self⟩
    · by_cases c : j = way m h K
      · exact c ▸ List.mem_cons_self
      · rw [oAt_set_ne _ c] at e
        exact List.mem_cons_of_mem _ (hps j hj e)
theorem lay_all {m : Nat} (hm : Msk m) : ∀ (more done : List Int) (ow : Array (Option Nat)), L2.Own m done ow → done.length + more.length ≤ m →
    ∃ ow', more.foldl (stepF m) (some (ow, done.length)) = some (ow', (done ++ more).length) ∧ L2.Own m (done ++ more) ow'
  | [], done, ow, I, _ => ⟨ow, by simp, by simpa using I⟩
  | h :: more, done, ow, I, hl => by
    simp only [List.length_cons] at hl
    obtain ⟨j, e, I'⟩ := Own_more hm I (by omega) h
    obtain ⟨ow', f, I2⟩ := lay_all hm more (done ++ [h]) _ I' (by simp; omega)
    refine ⟨ow', ?_, by simpa using I2⟩
    rw [List.foldl_cons, stepF_some e]
    simpa using f
theorem relay_ok (t : SetTable) {hs : Array Int} {wanted M : Nat} (hw : SetTable.sizeAbove wanted - 1 = M) (hM : Msk M) (hn : hs.size ≤ M) :
    ∃ t' ord, t.relaid hs wanted = some (t', ord) ∧ ord.toList.Perm (List.range hs.size) ∧ Tab t' (ord.toList.map fun i => hs.getD i 0) ∧ t'.mask = M ∧ t'.led = t.led ∧ t'.plain = t.plain := by
  subst hw
  obtain ⟨ow, f, I⟩ := lay_all hM hs.toList [] _ (L2.Own.init _) (by simpa using hn)
  have lc : SetTable.layClean (SetTable.sizeAbove wanted - 1) hs = some ow := by
    rw [layClean_eq]
    simp only [List.length_nil] at f
    rw [f]
    rfl
  simp only [List.nil_append] at I
  have eq : t.relaid hs wanted = some (tabOf t (SetTable.sizeAbove wanted - 1) ow, ((liveOf (SetTable.sizeAbove wanted - 1) ow).map (·.2)).toArray) := by
    rw [relaid_eq, lc]
    rfl
  generalize SetTable.sizeAbove wanted - 1 = M at *
  have lv := fun {j k : Nat} => mem_live (m := M) (owner := ow) I.sz (j := j) (k := k)
  obtain ⟨r1, r2⟩ := ris_live (fun j => ow.getD j none) (List.range (M + 1)) List.pairwise_lt_range
  have r1' : Ris ((liveOf M ow).map (·.1)) := r1
  have nd : ((liveOf M ow).map (·.1)).Nodup := List.Pairwise.imp (fun h => Nat.ne_of_lt h) r1'
  have len : (liveOf M ow).length = hs.size := by
    obtain ⟨ps, p1, p2⟩ := I.ps
    have a := nat_nodup_len _ ps nd fun x hx => by
      obtain ⟨⟨y, k⟩, hq, rfl⟩ := List.mem_map.mp hx
      obtain ⟨z1, z2⟩ := lv.1 hq
      exact p2 _ z1 (by rw [z2]; simp)
    have b := nat_nodup_len (List.range hs.size) ((liveOf M ow).map (·.2)) List.nodup_range fun k hk => by
      obtain ⟨j, z1, z2⟩ := I.all k (by simpa using hk)
      exact List.mem_map.mpr ⟨(j, k), lv.2 ⟨z1, z2⟩, rfl⟩
    simp only [List.length_map, List.length_range, Array.length_toList] at a b p1
    omega
  refine ⟨tabOf t M ow, ((liveOf M ow).map (·.2)).toArray, ?_, ?_, ⟨r1', rfl, ?_, hM, fun x hx => ?_, fun i h j h1 h2 => ?_⟩, rfl, rfl, rfl⟩
  · exact eq
  · refine perm_range _ _ (by simpa using len) fun k hk => ?_
    obtain ⟨j, z1, z2⟩ := I.all k (by simpa using hk)
    exact List.mem_map.mpr ⟨(j, k), lv.2 ⟨z1, z2⟩, rfl⟩
  · simp [tabOf]
  · exact Nat.le_of_lt_succ (List.mem_range.mp (r2 x hx))
  · have g1 : (((liveOf M ow).map (·.2)).map fun i => hs.getD i 0)[i]? = some h := h1
    have g2 : ((liveOf M ow).map (·.1))[i]? = some j := h2
    simp only [List.getElem?_map] at g1 g2
    cases hq : (liveOf M ow)[i]? with
    | none => rw [hq] at g2; cases g2
    | some q =>
      obtain ⟨y, k⟩ := q
      rw [hq] at g1 g2
      simp only [Option.map_some, Option.some.injEq] at g1 g2
      subst g2
      obtain ⟨b1, b2⟩ := lv.1 (List.mem_of_getElem? hq)
      obtain ⟨h0, K, a1, a2, a3⟩ := I.at_ y k b1 b2
      have : h0 = h := by
        rw [← g1, Array.getD_eq_getD_getElem?, ← Array.getElem?_toList, a1]
        rfl
      subst this
      refine ⟨K, a2, fun c hc => ?_⟩
      show way M h0 c ∈ (liveOf M ow).map (·.1)
      cases z : oAt ow (way M h0 c) with
      | none => exact absurd z (a3 c hc)
      | some k2 => exact List.mem_map.mpr ⟨(way M h0 c, k2), lv.2 ⟨step_le h0 c, z⟩, rfl⟩
end MX
end

section
set_option maxRecDepth 100000
set_option maxHeartbeats 1000000
/-! MX9: sets of nested tuples of ints, of any size below 9000: looking up, adding. -/
namespace MX
open PySem PySem.Spec PyProof.Rows L2

mutual
/-- ints and None and tuples of such -/
def intK : NestedKey → Bool
  | .none => true
  | .num _ => true
  | .text _ => false
  | .tup ks => intKs ks
def intKs : List NestedKey → Bool
  | [] => true
  | k :: ks => intK k && intKs ks
end
section
variable {P : Program} {w : World} {E : Value → Shared → Prop}
/-- no: of no class statement -/
def NoCls (P : Program) (w : World) (A : Around) (E : Value → Shared → Prop) (s : Shared) (n : Nat) (v : Value) : Prop := ∀ Q : Bool → Shared → Prop, Q false s → wpAny (model P w) A (ofAClassStatement n v) Q E s
mutual
theorem cls_key : ∀ (k : NestedKey) (v : Value) (n : Nat) (A : Around) (s : Shared), NestedIs s.heap k v → k.depth ≤ n → NoCls P w A E s n v
  | .none, _, n, A, s, x, _ => by cases x; intro Q h; cases n <;> exact wpAny_pure h
  | .num i, _, n, A, s, x, _ => by
    intro Q h
    cases x with
    | int _ t => cases n <;> exact wpAny_pure h
    | bool e => cases n <;> exact wpAny_pure h
  | .text y, _, n, A, s, x, _ => by cases x; intro Q h; cases n <;> exact wpAny_pure h
  | .tup ks, _, n, A, s, x, hn => by
    cases x with
    | @tup b o vs m _ hg hc hd hk =>
      simp only [NestedKey.depth] at hn
      cases n with
      | zero => omega
      | succ n =>
        intro Q h
        have hT : s.TypeIs (.ref b) "tuple" := ⟨o, hg, hc⟩
        unfold ofAClassStatement
        refine wpAny_bind (wpAny_typeOf hT ?_)
        dsimp only
        have e : (("tuple" : String) == "tuple") = true := by decide
        simp only [e, if_true]
        try refine wpAny_bind (wpAny_pure ?_)
        try simp only [Bool.not_true, Bool.false_eq_true, if_false]
        show wpAny _ _ (seqItems? (.ref b) >>= _) _ _ s
        refine wpAny_bind (wpAny_seqItems hg hd ?_)
        dsimp only
        refine wpAny_bind ?_
        show wpAny _ _ (forIn vs _ _) _ _ s
        rw [← Array.forIn_toList]
        refine wpAny_forIn_list _ (fun rest r s' => r.1 = none ∧ s' = s ∧ ∀ v ∈ rest, NoCls P w A E s n v) _ ?_ ?_ _ _ ⟨rfl, rfl, cls_keys ks vs.toList n A s hk (by omega)⟩
        · rintro v rest r s' ⟨hr, rfl, hall⟩
          refine wpAny_bind (hall v List.mem_cons_self _ ?_)
          simp only [Bool.false_eq_true, if_false]
          exact wpAny_pure ⟨rfl, rfl, fun u hu' => hall u (List.mem_cons_of_mem _ hu')⟩
        · rintro ⟨r1, r2⟩ s' ⟨hr, rfl, _⟩
          simp only at hr
          subst hr
          exact wpAny_pure h
theorem cls_keys : ∀ (ks : List NestedKey) (vs : List Value) (n : Nat) (A : Around) (s : Shared), NestedAll s.heap ks vs → NestedKey.depthAll ks ≤ n → ∀ v ∈ vs, NoCls P w A E s n v
  | [], _, n, A, s, x, _, v, hv => by cases x; cases hv
  | k :: ks, _, n, A, s, x, hn, v, hv => by
    cases x with
    | cons x1 x2 =>
      simp only [NestedKey.depthAll] at hn
      rcases List.mem_cons.mp hv with rfl | hv
      · exact cls_key k _ n A s x1 (by omega)
      · exact cls_keys ks _ n A s x2 (by omega) v hv
end
/-- yes: its hash is the same in each run -/
def HashYes (P : Program) (w : World) (A : Around) (E : Value → Shared → Prop) (s : Shared) (n : Nat) (v : Value) : Prop := ∀ Q : Bool → Shared → Prop, Q true s → wpAny (model P w) A (hashByValue n v) Q E s
mutual
theorem hby_key : ∀ (k : NestedKey) (v : Value) (n : Nat) (A : Around) (s : Shared), NestedIs s.heap k v → k.depth ≤ n → intK k = true → HashYes P w A E s n v
  | .none, _, n, A, s, x, _, _ => by cases x; intro Q h; cases n <;> exact wpAny_pure h
  | .num i, _, n, A, s, x, _, _ => by
    intro Q h
    cases x with
    | int _ t => cases n <;> exact wpAny_pure h
    | bool e => cases n <;> exact wpAny_pure h
  | .text y, _, n, A, s, x, _, e => by simp [intK] at e
  | .tup ks, _, n, A, s, x, hn, e => by
    cases x with
    | @tup b o vs m _ hg hc hd hk =>
      simp only [NestedKey.depth] at hn
      cases n with
      | zero => omega
      | succ n =>
        intro Q h
        have hT : s.TypeIs (.ref b) "tuple" := ⟨o, hg, hc⟩
        unfold hashByValue
        refine wpAny_bind (wpAny_specialOf hT F.slot_tuple_hash.lookup ?_)
        show wpAny _ _ (seqItems? (.ref b) >>= _) _ _ s
        refine wpAny_bind (wpAny_seqItems hg hd ?_)
        refine wpAny_bind ?_
        show wpAny _ _ (forIn vs _ _) _ _ s
        rw [← Array.forIn_toList]
        refine wpAny_forIn_list _ (fun rest r s' => r.1 = none ∧ s' = s ∧ ∀ v ∈ rest, HashYes P w A E s n v) _ ?_ ?_ _ _ ⟨rfl, rfl, hby_keys ks vs.toList n A s hk (by omega) (by simpa [intK] using e)⟩
        · rintro v rest r s' ⟨hr, rfl, hall⟩
          refine wpAny_bind (hall v List.mem_cons_self _ ?_)
          simp only [Bool.not_true, Bool.false_eq_true, if_false]
          exact wpAny_pure ⟨rfl, rfl, fun u hu' => hall u (List.mem_cons_of_mem _ hu')⟩
        · rintro ⟨r1, r2⟩ s' ⟨hr, rfl, _⟩
          simp only at hr
          subst hr
          exact wpAny_pure h
theorem hby_keys : ∀ (ks : List NestedKey) (vs : List Value) (n : Nat) (A : Around) (s : Shared), NestedAll s.heap ks vs → NestedKey.depthAll ks ≤ n → intKs ks = true → ∀ v ∈ vs, HashYes P w A E s n v
  | [], _, n, A, s, x, _, _, v, hv => by cases x; cases hv
  | k :: ks, _, n, A, s, x, hn, e, v, hv => by
    cases x with
    | cons x1 x2 =>
      simp only [NestedKey.depthAll] at hn
      simp only [intKs, Bool.and_eq_true] at e
      rcases List.mem_cons.mp hv with rfl | hv
      · exact hby_key k _ n A s x1 (by omega) e.1
      · exact hby_keys ks _ n A s x2 (by omega) e.2 v hv
end

/-! ### a tuple that may stand in a set -/
structure Mem (h : Heap) (a : Addr) (k : NestedKey) : Prop where
  is : NestedIs h k (.ref a)
  deep : k.depth ≤ 8
  whole : intK k = true
theorem Mem.tup {h : Heap} {a : Addr} {k : NestedKey} (x : Mem h a k) : ∃ ks, k = .tup ks := by
  have y := x.is
  cases y
  exact ⟨_, rfl⟩
theorem Mem.kept {h h' : Heap} {a : Addr} {k : NestedKey} (x : Mem h a k) (hk : ∀ b o, h.get? b = some o → h'.get? b = some o) : Mem h' a k := ⟨NestedIs.at (fun b o vs n e _ => hk b o e) _ _ x.is, x.deep, x.whole⟩
theorem Mem.but {h h' : Heap} {a b : Addr} {k : NestedKey} {o : Obj} {es : Array (Int × Value)} {ep : Nat} {t : SetTable} (x : Mem h b k) (ho : h.get? a = some o) (hd : o.data = .set es ep t) (hs : Heap.SameBut a h h') : Mem h' b k := by
  refine ⟨NestedIs.at (fun c oc vs n e ed => ?_) _ _ x.is, x.deep, x.whole⟩
  have hne : c ≠ a := by
    rintro rfl
    rw [ho] at e
    cases e
    rw [hd] at ed
    cases ed
  rw [hs.2 c hne]
  exact e
variable {A : Around} {s : Shared}
theorem eq_mem {x y : Addr} {k j : NestedKey} {Q : Bool → Shared → Prop} (hx : Mem s.heap x k) (hy : Mem s.heap y j) (hu : A.units + 8 < cLine) (h : Q (decide (k = j)) s) : wpAny (model P w) A (eqBool (.ref x) (.ref y)) Q E s := by
  rw [NestedKey.decide_eq] at h
  exact eqAt_key k j A s _ _ hx.is hy.is (by have := hx.deep; omega) _ _ _ _ h
theorem seen_mem {b : Addr} {k : NestedKey} {Q : Bool → Shared → Prop} (hk : Mem s.heap b k) {ys : List Value} (hy : ∀ y ∈ ys, ∃ k' c, y = Value.ref c ∧ Mem s.heap c k') (h : Q false s) :
    wpAny (model P w) A (searchCouldBeSeen (.ref b) ys) Q E s := by
  have quiet : ∀ {c : Addr} {j : NestedKey} {Q : Bool → Shared → Prop}, Mem s.heap c j → Q true s → wpAny (model P w) A (eqIsQuiet 8 (.ref c)) Q E s := fun m q => quiet_key _ _ 8 s m.is m.deep _ _ _ q
  unfold searchCouldBeSeen
  refine wpAny_bind ?_
  refine wpAny_forIn_list _ (fun rest r s' => r.1 = none ∧ s' = s ∧ ∀ y ∈ rest, ∃ k' c, y = Value.ref c ∧ Mem s.heap c k') _ ?_ ?_ _ _ ⟨rfl, rfl, hy⟩
  · rintro v rest r s' ⟨hr, rfl, hall⟩
    obtain ⟨k', c, rfl, hc⟩ := hall v List.mem_cons_self
    have more := fun u (hu : u ∈ rest) => hall u (List.mem_cons_of_mem _ hu)
    dsimp only
    by_cases hv : (b == c || (carriedByValue (.ref b) && carriedByValue (.ref c))) = true
    · exact wp_if_pos hv (wpAny_pure ⟨rfl, rfl, more⟩)
    · refine wp_if_neg hv ?_
      refine wpAny_bind (quiet hk ?_)
      simp only [Bool.not_true, Bool.false_eq_true, if_false]
      refine wpAny_bind (quiet hc ?_)
      simp only [Bool.not_true, Bool.false_eq_true, if_false]
      refine wpAny_bind (cls_key _ _ 8 A s' hk.is hk.deep _ ?_)
      simp only [Bool.false_eq_true, if_false]
      refine wpAny_bind (cls_key _ _ 8 A s' hc.is hc.deep _ ?_)
      simp only [Bool.false_eq_true, if_false]
      exact wpAny_pure ⟨rfl, rfl, more⟩
  · rintro ⟨r1, r2⟩ s' ⟨hr, rfl, _⟩
    simp only at hr
    subst hr
    exact wpAny_pure h

/-! ### the set -/
def rowsK (w : World) (L : List (Addr × NestedKey)) : List (Int × Value) := L.map fun p => (p.2.hash w, Value.ref p.1)
structure SetK (w : World) (h : Heap) (a : Addr) (L : List (Addr × NestedKey)) (es : Array (Int × Value)) (ep : Nat) (t : SetTable) : Prop where
  ob : ∃ o, h.get? a = some o ∧ o.ExactSet ∧ o.data = .set es ep t
  rows : es.toList = rowsK w L
  tab : Tab t (L.map fun p => p.2.hash w)
  nd : (L.map (·.2)).Nodup
  mem : ∀ p ∈ L, Mem h p.1 p.2
  plain : t.plain = true
  led : w.params.followText "set-order" = true ∨ t.led = true
  room : L.length * 5 < t.mask * 3
  few : L.length < 9000
variable {a : Addr} {L : List (Addr × NestedKey)} {es : Array (Int × Value)} {ep : Nat} {t : SetTable}
theorem SetK.size (R : SetK w s.heap a L es ep t) : es.size = L.length := by
  have h := congrArg List.length R.rows
  simpa [rowsK] using h
theorem fits_of {t : SetTable} {n : Nat} (h1 : t.place.size = n) (h2 : t.dummies = #[]) (h3 : n ≤ t.mask) : t.fits n = true := by
  unfold SetTable.fits SetTable.fill
  rw [h2, h1]
  simp only [beq_self_eq_true, Bool.true_and, decide_eq_true_eq]
  show n + 0 ≤ t.mask
  omega
theorem SetK.fits (R : SetK w s.heap a L es ep t) : t.fits es.size = true := by
  have h1 := R.tab.many
  have h2 := R.size
  have h3 := R.room
  rw [List.length_map] at h1
  exact fits_of (by omega) R.tab.nodum (by omega)
theorem SetK.at_ (R : SetK w s.heap a L es ep t) {i : Nat} {p : Addr × NestedKey} (h : L[i]? = some p) : es[i]? = some (p.2.hash w, Value.ref p.1) := by
  rw [← Array.getElem?_toList, R.rows, rowsK, List.getElem?_map, h]
  rfl
theorem SetK.stays (R : SetK w s.heap a L es ep t) : ¬ t.gaveWay = true := by
  unfold SetTable.gaveWay
  rw [R.tab.msk.le.2.2]
  decide
/-- the search, from its c-th step on -/
theorem search_on (R : SetK w s.heap a L es ep t) {x : Addr} {k : NestedKey} (hx : Mem s.heap x k) (hu : A.units + 8 < cLine) (ad : Bool) {K : Nat} (hKf : K < 10 * SetTable.turns t.mask)
    (hK : way t.mask (k.hash w) K ∉ t.place.toList) (hKb : ∀ c, c < K → way t.mask (k.hash w) c ∈ t.place.toList) {Q : SetFound → Shared → Prop}
    (hin : ∀ (i : Nat) p, L[i]? = some p → p.2 = k → Q (.there (if ad = true then none else some i)) s) (hout : k ∉ L.map (·.2) → Q (.free (way t.mask (k.hash w) K) false) s) :
    ∀ (f c : Nat) (stand : Option SetTable.Probe), stand.getD (t.probeStart (k.hash w)) = nth t.mask (runAt t.mask (SetTable.bits (k.hash w) % (t.mask + 1)) (SetTable.bits (k.hash w))) c → c ≤ K → K - c < f →
      (∀ (i : Nat) p, L[i]? = some p → p.2 = k → ∃ d, c ≤ d ∧ d < K ∧ t.place.toList[i]? = some (way t.mask (k.hash w) d)) →
      wpAny (model P w) A (setSearchFrom a (.ref x) (k.hash w) ad f stand) Q E s
  | 0, c, stand, _, _, hf, _ => by omega
  | f + 1, c, stand, hst, hc, hf, hre => by
    obtain ⟨o, ho, hex, hd⟩ := R.ob
    rw [L2.setSearchFrom_succ]
    refine wpAny_bind (wpAny_setState_of ho hd R.fits ?_)
    dsimp only
    refine wp_if_neg R.stays ?_
    try refine wpAny_bind (wpAny_pure ?_)
    generalize ew : runAt t.mask (SetTable.bits (k.hash w) % (t.mask + 1)) (SetTable.bits (k.hash w)) = st at hst
    have wj : ∀ q, (nth t.mask (nth t.mask st c) q).j = way t.mask (k.hash w) (c + q) := fun q => by
      rw [← nth_add, ← ew]
    have nod : (nth t.mask st c).dummy = none := by
      have key : ∀ (n : Nat) (p : SetTable.Probe), p.dummy = none → (nth t.mask p n).dummy = none := by
        intro n
        induction n with
        | zero => exact fun p h => h
        | succ n ih => exact fun p h => ih (adv t.mask p) (by unfold adv; split <;> exact h)
      exact key c _ (by rw [← ew]; rfl)
    have spec := go_spec t R.tab.asc R.tab.nodum (fun i => (es[i]?.map (·.1)).getD 0) (k.hash w) (10 * SetTable.turns t.mask) (K - c) _ nod (by omega)
      (fun q hq => by rw [wj]; exact hKb _ (by omega)) (by rw [wj]; have e : c + (K - c) = K := by omega
                                                           rw [e]; exact hK)
    have hashAt : ∀ (i : Nat) p, L[i]? = some p → (es[i]?.map (·.1)).getD 0 = p.2.hash w := fun i p hp => by rw [R.at_ hp]; rfl
    rcases spec with ⟨q, i, hq, hi, hh, hno, hpr⟩ | ⟨hno, hpr⟩
    · have pr : t.probe (fun i => (es[i]?.map (·.1)).getD 0) (k.hash w) (stand.getD (t.probeStart (k.hash w))) = some (.candidate (way t.mask (k.hash w) (c + q)) i (nth t.mask st (c + (q + 1)))) := by
        rw [hst, ← wj, nth_add t.mask c st (q + 1)]
        exact hpr
      rw [pr]
      dsimp only
      rw [wj] at hi
      have il : i < L.length := by
        have h1 := (List.getElem?_eq_some_iff.mp hi).1
        have h2 := R.tab.many
        rw [List.length_map] at h2
        rw [Array.length_toList] at h1
        omega
      obtain ⟨p, hp⟩ : ∃ p, L[i]? = some p := ⟨_, List.getElem?_eq_getElem il⟩
      have pm : p ∈ L := List.mem_of_getElem? hp
      have slot : t.slot (way t.mask (k.hash w) (c + q)) = .live i := slot_live R.tab.asc hi
      have rest : wpAny (model P w) A (searchRest a (.ref x) (k.hash w) ad f es t (way t.mask (k.hash w) (c + q)) i (nth t.mask st (c + (q + 1)))) Q E s := by
        unfold searchRest
        rw [R.at_ hp]
        dsimp only
        refine wpAny_bind (wpAny_holding (eq_mem (R.mem p pm) hx hu ?_))
        refine wpAny_bind (wpAny_setState_of ho hd R.fits ?_)
        dsimp only
        by_cases hkk : p.2 = k
        · have yes := hin i p hp hkk
          cases ad with
          | true =>
            refine wp_if_pos (by simp [hkk]) ?_
            exact wpAny_pure yes
          | false =>
            refine wp_if_neg (by simp) ?_
            try refine wpAny_bind (wpAny_pure ?_)
            rw [sameMem]
            dsimp only
            simp only [if_true, slot, R.at_ hp]
            refine wpAny_bind (wpAny_isSame_ref_self (wpAny_bind (wpAny_pure ?_)))
            simp only [if_true]
            refine wp_if_pos (by simp [hkk]) ?_
            exact wpAny_pure yes
        · refine wp_if_neg (by simp [hkk]) ?_
          try refine wpAny_bind (wpAny_pure ?_)
          rw [sameMem]
          dsimp only
          simp only [if_true, slot, R.at_ hp]
          refine wpAny_bind (wpAny_isSame_ref_self (wpAny_bind (wpAny_pure ?_)))
          simp only [if_true]
          refine wp_if_neg (by simp [hkk]) ?_
          refine search_on R hx hu ad hKf hK hKb hin hout f (c + (q + 1)) _ (by rw [ew]; rfl) (by omega) (by omega) fun i0 p0 h0 hk0 => ?_
          obtain ⟨d, a1, a2, a3⟩ := hre i0 p0 h0 hk0
          refine ⟨d, Classical.byContradiction fun z => ?_, a2, a3⟩
          by_cases y : d = c + q
          · subst y
            rw [slot_live R.tab.asc a3] at slot
            injection slot with s0
            rw [s0, hp] at h0
            cases h0
            exact hkk hk0
          · refine hno (d - c) i0 (by omega) ?_ ((hashAt i0 p0 h0).trans (congrArg (NestedKey.hash w) hk0))
            rw [wj]
            have e : c + (d - c) = d := by omega
            rw [e]
            exact a3
      by_cases hl : t.led = true
      · refine wp_if_neg (by simp [hl]) ?_
        try refine wpAny_bind (wpAny_pure ?_)
        exact rest
      · refine wp_if_pos (by simp [hl]) ?_
        refine wpAny_bind (seen_mem hx (fun y hy => ?_) ?_)
        · obtain ⟨e, he, ee⟩ := List.mem_map.mp hy
          have he2 : e ∈ es.toList := by
            have : e ∈ es ∧ e.1 = k.hash w := by simpa using he
            simpa using this.1
          rw [R.rows] at he2
          obtain ⟨p2, hp2, rfl⟩ := List.mem_map.mp he2
          exact ⟨p2.2, p2.1, ee.symm, R.mem p2 hp2⟩
        · refine wp_if_neg (by decide) ?_
          try refine wpAny_bind (wpAny_pure ?_)
          exact rest
    · have pr : t.probe (fun i => (es[i]?.map (·.1)).getD 0) (k.hash w) (stand.getD (t.probeStart (k.hash w))) = some (.empty (way t.mask (k.hash w) K) none) := by
        have e2 : way t.mask (k.hash w) K = (nth t.mask (nth t.mask st c) (K - c)).j := by
          rw [wj]
          have e : c + (K - c) = K := by omega
          rw [e]
        rw [hst, e2]
        exact hpr
      rw [pr]
      dsimp only
      refine wpAny_pure (hout fun hm => ?_)
      obtain ⟨p0, h0, hk0⟩ := List.mem_map.mp hm
      obtain ⟨i0, hi0, e0⟩ := List.getElem_of_mem h0
      have h00 : L[i0]? = some p0 := by rw [List.getElem?_eq_getElem hi0, e0]
      obtain ⟨d, a1, a2, a3⟩ := hre i0 p0 h00 hk0
      refine hno (d - c) i0 (by omega) ?_ ((hashAt i0 p0 h00).trans (congrArg (NestedKey.hash w) hk0))
      rw [wj]
      have e : c + (d - c) = d := by omega
      rw [e]
      exact a3
/-- the whole search -/
theorem search_all (R : SetK w s.heap a L es ep t) {x : Addr} {k : NestedKey} (hx : Mem s.heap x k) (hu : A.units + 8 < cLine) (ad : Bool) {Q : SetFound → Shared → Prop}
    (hin : ∀ (i : Nat) p, L[i]? = some p → p.2 = k → Q (.there (if ad = true then none else some i)) s)
    (hout : ∀ K, k ∉ L.map (·.2) → way t.mask (k.hash w) K ∉ t.place.toList → (∀ c, c < K → way t.mask (k.hash w) c ∈ t.place.toList) → Q (.free (way t.mask (k.hash w) K) false) s) :
    wpAny (model P w) A (setSearch a (.ref x) (k.hash w) ad) Q E s := by
  have hroom := R.room
  have hfew := R.few
  obtain ⟨K, hKs, hKf, hK, hKb⟩ := R.tab.free (by rw [List.length_map]; omega) (k.hash w)
  rw [List.length_map] at hKs
  unfold setSearch
  refine search_on R hx hu ad hKf hK hKb hin (fun hn => hout K hn hK hKb) 100000 0 none rfl (Nat.zero_le _) (by omega) fun i p hp hk => ?_
  have hi : (L.map fun p => p.2.hash w)[i]? = some (k.hash w) := by rw [List.getElem?_map, hp, ← hk]; rfl
  have il : i < t.place.toList.length := by
    have h1 := (List.getElem?_eq_some_iff.mp hp).1
    have h2 := R.tab.many
    rw [List.length_map] at h2
    rw [Array.length_toList]
    omega
  obtain ⟨c, hc, e⟩ := R.tab.ahead hK hi (List.getElem?_eq_getElem il)
  exact ⟨c, Nat.zero_le _, hc, by rw [List.getElem?_eq_getElem il, e]⟩
/-- x in the set -/
theorem find_at (R : SetK w s.heap a L es ep t) {x : Addr} {k : NestedKey} (hx : Mem s.heap x k) (hu : A.units + 8 < cLine) {Q : Option Nat → Shared → Prop}
    (h : ∀ o : Option Nat, o.isSome = decide (k ∈ L.map (·.2)) → Q o s) : wpAny (model P w) A (setFind a (.ref x) (k.hash w)) Q E s := by
  obtain ⟨o, ho, hex, hd⟩ := R.ob
  unfold setFind
  show wpAny _ _ (setFindIn a (.ref x) (k.hash w) (99999 + 1)) _ _ _
  unfold setFindIn
  refine wpAny_bind (wpAny_setState_of ho hd R.fits ?_)
  dsimp only
  refine wp_if_neg (by simp [byScan, Value.scannable]) ?_
  try refine wpAny_bind (wpAny_pure ?_)
  refine wpAny_bind (search_all R hx hu false (fun i p hp hk => ?_) fun K hn _ _ => ?_)
  · exact wpAny_pure (h _ (by
      have : k ∈ L.map (·.2) := hk ▸ List.mem_map.mpr ⟨p, List.mem_of_getElem? hp, rfl⟩
      simp only [Bool.false_eq_true, if_false, Option.isSome_some, this, decide_true]))
  · exact wpAny_pure (h _ (by simp only [hn, decide_false]; rfl))
end
end MX
end

section
set_option maxRecDepth 100000
set_option maxHeartbeats 1000000
/-! MX10: adding to such sets. -/
namespace MX
open PySem PySem.Spec PyProof.Rows L2
section
variable {P : Program} {w : World} {E : Value → Shared → Prop} {A : Around} {s : Shared}
variable {a : Addr} {L : List (Addr × NestedKey)} {es : Array (Int × Value)} {ep : Nat} {t : SetTable}
theorem rowsK_ins (L : List (Addr × NestedKey)) (p : Nat) (x : Addr × NestedKey) : rowsK w (L.take p ++ x :: L.drop p) = (rowsK w L).take p ++ (x.2.hash w, Value.ref x.1) :: (rowsK w L).drop p := by
  simp only [rowsK, List.map_append, List.map_cons, List.map_take, List.map_drop]
theorem rowsK_order (order : Array Nat) (hr : es.toList = rowsK w L) (hp : order.toList.Perm (List.range L.length)) :
    ∃ L2, (order.filterMap (es[·]?)).toList = rowsK w L2 ∧ L2.Perm L ∧ (L2.map fun p => p.2.hash w) = order.toList.map fun i => (es.map (·.1)).getD i 0 := by
  have ent : ∀ i, es[i]? = (L[i]?).map (fun (p : Addr × NestedKey) => (p.2.hash w, Value.ref p.1)) := fun i => by
    rw [← Array.getElem?_toList, hr, rowsK, List.getElem?_map]
  refine ⟨order.toList.filterMap (L[·]?), ?_, ?_, ?_⟩
  · rw [Array.toList_filterMap]
    unfold rowsK
    rw [List.map_filterMap]
    exact congrArg (fun f => order.toList.filterMap f) (funext ent)
  · refine (hp.filterMap (L[·]?)).trans (List.Perm.of_eq ?_)
    exact List.filterMap_getElem?_range_length L
  · have all : ∀ i ∈ order.toList, i < L.length := fun i hi => List.mem_range.mp (hp.mem_iff.mp hi)
    revert all
    generalize order.toList = l
    induction l with
    | nil => intro _; rfl
    | cons i l ih =>
      intro all
      have hi := all i List.mem_cons_self
      rw [List.filterMap_cons_some (List.getElem?_eq_getElem hi), List.map_cons, List.map_cons, ih fun j hj => all j (List.mem_cons_of_mem _ hj)]
      congr 1
      have e := ent i
      rw [List.getElem?_eq_getElem hi] at e
      rw [Array.getD_eq_getD_getElem?, Array.getElem?_map, e]
      rfl
/-- the table laid anew -/
theorem relay_set {o : Obj} (ho : s.heap.get? a = some o) (hex : o.ExactSet) (hd : o.data = .set es ep t) (hrows : es.toList = rowsK w L) (hsz : t.place.size = es.size) (hdm : t.dummies = #[]) (hfl : es.size ≤ t.mask)
    (nd : (L.map (·.2)).Nodup) (mem : ∀ p ∈ L, Mem s.heap p.1 p.2) (pl : t.plain = true) (ld : w.params.followText "set-order" = true ∨ t.led = true) (few : L.length < 9000) {wanted M : Nat}
    (hw : SetTable.sizeAbove wanted - 1 = M) (hM : Msk M) (hw2 : SetTable.sizeAbove wanted ≤ 32768) (hn : L.length * 5 < M * 3) {Q : Unit → Shared → Prop}
    (hQ : ∀ h' L' es' ep' t', Heap.SameBut a s.heap h' → SetK w h' a L' es' ep' t' → t'.mask = M → L'.Perm L → Q () { s with heap := h' }) : wpAny (model P w) A (setRelay a wanted) Q E s := by
  have hsl : es.size = L.length := by simpa [rowsK] using congrArg List.length hrows
  obtain ⟨t', order, e, hp, T, em, el, ep'⟩ := relay_ok t (hs := es.map (·.1)) (wanted := wanted) hw hM (by rw [Array.size_map, hsl]; omega)
  rw [Array.size_map, hsl] at hp
  obtain ⟨L2, r1, r2, r3⟩ := rowsK_order order hrows hp
  rw [← r3] at T
  have hs2 : (order.filterMap (es[·]?)).size = es.size := by
    have h := congrArg List.length r1
    simp only [rowsK, Array.length_toList, List.length_map, r2.length_eq] at h
    omega
  rw [setRelay_eq]
  refine wpAny_bind (wpAny_setState_of ho hd (fits_of hsz hdm hfl) ?_)
  dsimp only
  refine wp_if_neg (by rw [sizeLine_eq]; omega) ?_
  try refine wpAny_bind (wpAny_pure ?_)
  rw [e]
  dsimp only
  refine wpAny_bind (wp_if_neg (by rw [hs2]; simp) ?_)
  try refine wpAny_bind (wpAny_pure ?_)
  refine wpAny_pure ?_
  dsimp only
  refine wpAny_storeSet_of ho hd ?_ (by rw [hs2, hsl, sizeLine_eq]; omega)
  have sb : Heap.SameBut a s.heap (s.heap.update a (Obj.putSet (order.filterMap (es[·]?)) t')) := Heap.SameBut.update ..
  refine hQ _ L2 _ (ep + 1) t' sb ⟨⟨_, store_at ho hd, ⟨hex.1, hex.2.1, hex.2.2⟩, rfl⟩, r1, T, (r2.map (·.2)).nodup_iff.mpr nd, fun p hpm => (mem p (r2.mem_iff.mp hpm)).but ho hd sb, ep'.trans pl, ?_, ?_, ?_⟩ em r2
  · rw [el]; exact ld
  · rw [r2.length_eq, em]; exact hn
  · rw [r2.length_eq]; exact few
theorem above_32 : SetTable.sizeAbove (SetTable.grown 5) = 32 := by decide +kernel
theorem above_128 : SetTable.sizeAbove (SetTable.grown 19) = 128 := by decide +kernel
theorem above_512 : SetTable.sizeAbove (SetTable.grown 77) = 512 := by decide +kernel
theorem above_2048 : SetTable.sizeAbove (SetTable.grown 307) = 2048 := by decide +kernel
theorem above_8192 : SetTable.sizeAbove (SetTable.grown 1229) = 8192 := by decide +kernel
theorem above_32768 : SetTable.sizeAbove (SetTable.grown 4915) = 32768 := by decide +kernel
/-- the masks that come by growing -/
def Grows (m : Nat) : Prop := m = 7 ∨ m = 31 ∨ m = 127 ∨ m = 511 ∨ m = 2047 ∨ m = 8191 ∨ m = 32767
theorem Grows.msk {m : Nat} (h : Grows m) : Msk m := by
  rcases h with rfl | rfl | rfl | rfl | rfl | rfl | rfl
  · exact ⟨3, by omega, by omega, rfl⟩
  · exact ⟨5, by omega, by omega, rfl⟩
  · exact ⟨7, by omega, by omega, rfl⟩
  · exact ⟨9, by omega, by omega, rfl⟩
  · exact ⟨11, by omega, by omega, rfl⟩
  · exact ⟨13, by omega, by omega, rfl⟩
  · exact ⟨15, by omega, by omega, rfl⟩
/-- a set that has only grown -/
structure SetG (w : World) (h : Heap) (a : Addr) (L : List (Addr × NestedKey)) (es : Array (Int × Value)) (ep : Nat) (t : SetTable) : Prop where
  k : SetK w h a L es ep t
  g : Grows t.mask
theorem next_mask {m n : Nat} (g : Grows m) (h1 : n * 5 < m * 3) (h2 : (n + 1) * 5 ≥ m * 3) (h3 : n + 1 < 9000) : ∃ M, SetTable.sizeAbove (SetTable.grown (n + 1)) - 1 = M ∧ Grows M ∧ SetTable.sizeAbove (SetTable.grown (n + 1)) ≤ 32768 ∧ (n + 1) * 5 < M * 3 ∧ n + 1 ≤ m := by
  rcases g with rfl | rfl | rfl | rfl | rfl | rfl | rfl
  · obtain rfl : n = 4 := by omega
    exact ⟨31, by rw [above_32], by simp [Grows], by rw [above_32]; decide, by decide, by decide⟩
  · obtain rfl : n = 18 := by omega
    exact ⟨127, by rw [above_128], by simp [Grows], by rw [above_128]; decide, by decide, by decide⟩
  · obtain rfl : n = 76 := by omega
    exact ⟨511, by rw [above_512], by simp [Grows], by rw [above_512]; decide, by decide, by decide⟩
  · obtain rfl : n = 306 := by omega
    exact ⟨2047, by rw [above_2048], by simp [Grows], by rw [above_2048]; decide, by decide, by decide⟩
  · obtain rfl : n = 1228 := by omega
    exact ⟨8191, by rw [above_8192], by simp [Grows], by rw [above_8192]; decide, by decide, by decide⟩
  · obtain rfl : n = 4914 := by omega
    exact ⟨32767, by rw [above_32768], by simp [Grows], by rw [above_32768]; decide, by decide, by decide⟩
  · omega
theorem put_any {α : Type} (L : List α) (p : Nat) (x : α) : (L.take p ++ x :: L.drop p).Perm (x :: L) := by
  have h := List.perm_middle (a := x) (l₁ := L.take p) (l₂ := L.drop p)
  rwa [List.take_append_drop] at h
theorem hashBy_mem {b : Addr} {k : NestedKey} {Q : Bool → Shared → Prop} (x : Mem s.heap b k) (h : Q true s) : wpAny (model P w) A (hashByValue 8 (.ref b)) Q E s := hby_key k _ 8 A s x.is x.deep x.whole Q h
/-- adding -/
theorem add_set (R : SetG w s.heap a L es ep t) {x : Addr} {k : NestedKey} (hx : Mem s.heap x k) (hu : A.units + 8 < cLine) (hfew : L.length + 1 < 9000) {Q : Bool → Shared → Prop}
    (hQ : ∀ b h' L' es' ep' t', Heap.SameBut a s.heap h' → SetG w h' a L' es' ep' t' → (k ∈ L.map (·.2) → L' = L) → (k ∉ L.map (·.2) → L'.Perm ((x, k) :: L)) → Q b { s with heap := h' }) :
    wpAny (model P w) A (setAddHashed a (.ref x) (k.hash w)) Q E s := by
  obtain ⟨o, ho, hex, hd⟩ := R.k.ob
  have hsl := R.k.size
  have hroom := R.k.room
  unfold setAddHashed
  refine wpAny_holding ?_
  rw [show (100000 : Nat) = 99999 + 1 from rfl, setAddHashedIn_succ]
  refine wpAny_bind (wpAny_setState_of ho hd R.k.fits ?_)
  dsimp only
  refine wp_if_neg (by simp [byScan, Value.scannable]) ?_
  try refine wpAny_bind (wpAny_pure ?_)
  refine wpAny_bind (search_all R.k hx hu true (fun i p hp hk => ?_) fun K hm hK hb => ?_)
  · simp only [if_true]
    have inn : k ∈ L.map (·.2) := hk ▸ List.mem_map.mpr ⟨p, List.mem_of_getElem? hp, rfl⟩
    exact wpAny_pure (hQ false s.heap L es ep t (Heap.SameBut.refl a s.heap) R (fun _ => rfl) fun z => absurd inn z)
  · dsimp only
    refine wpAny_bind (wpAny_setState_of ho hd R.k.fits ?_)
    dsimp only
    obtain ⟨p, ep0⟩ : ∃ p, SetTable.below t.place (way t.mask (k.hash w) K) = p := ⟨_, rfl⟩
    obtain ⟨q1, q2, q3⟩ := R.k.tab.add hK hb rfl ep0
    have f1 : (t.put (way t.mask (k.hash w) K)).1.mask = t.mask := rfl
    have f2 : (t.put (way t.mask (k.hash w) K)).1.led = t.led := rfl
    have f3 : (t.put (way t.mask (k.hash w) K)).1.plain = true := R.k.plain
    have f4 : (t.put (way t.mask (k.hash w) K)).2 = p := ep0
    generalize t.put (way t.mask (k.hash w) K) = pt at q2 q3 f1 f2 f3 f4 ⊢
    obtain ⟨t1, p1⟩ := pt
    dsimp only at q2 q3 f1 f2 f3 f4 ⊢
    subst f4
    first
      | (refine wpAny_bind ?_; refine wp_if_pos f3 ?_; refine hashBy_mem hx ?_)
      | refine wp_if_pos f3 (wpAny_bind (hashBy_mem hx ?_))
    simp only [if_true]
    have rin : (SetTable.insertAt es p1 (k.hash w, Value.ref x)).toList = rowsK w (L.take p1 ++ (x, k) :: L.drop p1) := by
      rw [SetTable.toList_insertAt, rowsK_ins, R.k.rows]
    have pm := put_any L p1 (x, k)
    have hlen : (L.take p1 ++ (x, k) :: L.drop p1).length = L.length + 1 := pm.length_eq
    have tab1 : Tab t1 ((L.take p1 ++ (x, k) :: L.drop p1).map fun p => p.2.hash w) := by
      simp only [List.map_append, List.map_cons, List.map_take, List.map_drop]
      exact q2
    have nd1 : ((L.take p1 ++ (x, k) :: L.drop p1).map (·.2)).Nodup := (pm.map (·.2)).nodup_iff.mpr (List.nodup_cons.mpr ⟨hm, R.k.nd⟩)
    have hes : (SetTable.insertAt es p1 (k.hash w, Value.ref x)).size = L.length + 1 := by
      have h := congrArg List.length rin
      simp only [rowsK, Array.length_toList, List.length_map, hlen] at h
      exact h
    generalize SetTable.insertAt es p1 (k.hash w, Value.ref x) = es1 at rin hes ⊢
    generalize L.take p1 ++ (x, k) :: L.drop p1 = L1 at pm hlen tab1 nd1 rin
    refine wpAny_bind (wpAny_storeSet_of ho hd ?_ (by rw [hes, sizeLine_eq]; omega))
    have sb : Heap.SameBut a s.heap (s.heap.update a (Obj.putSet es1 t1)) := Heap.SameBut.update ..
    have ho1 := store_at (es' := es1) (t' := t1) ho hd
    generalize s.heap.update a (Obj.putSet es1 t1) = h1 at sb ho1 ⊢
    have mem1 : ∀ p ∈ L1, Mem h1 p.1 p.2 := fun p hp => by
      rcases List.mem_cons.mp (pm.mem_iff.mp hp) with rfl | hp
      · exact hx.but ho hd sb
      · exact (R.k.mem p hp).but ho hd sb
    have led1 : w.params.followText "set-order" = true ∨ t1.led = true := by rw [f2]; exact R.k.led
    rw [List.length_map] at q3
    by_cases hf : t1.tooFull = true
    · first
        | (refine wpAny_bind ?_; refine wp_if_pos (by simp [hf]) ?_)
        | (refine wp_if_pos (by simp [hf]) ?_; refine wpAny_bind ?_)
      have hfull : (L.length + 1) * 5 ≥ t.mask * 3 := by
        have h := hf
        unfold SetTable.tooFull at h
        rw [decide_eq_true_eq, q3, f1] at h
        exact h
      obtain ⟨M, m1, m2, m3, m4, m5⟩ := next_mask R.g hroom hfull hfew
      have hsz1 : t1.place.size = es1.size := by
        have h := tab1.many
        rw [List.length_map, hlen] at h
        rw [h, hes]
      rw [hsl]
      refine relay_set (s := { s with heap := h1 }) ho1 ⟨hex.1, hex.2.1, hex.2.2⟩ rfl rin hsz1 tab1.nodum (by rw [hes, f1]; exact m5) nd1 mem1 f3 led1 (by rw [hlen]; exact hfew) m1 m2.msk m3 (by rw [hlen]; exact m4) ?_
      intro h2 L2 es2 ep2 t2 sb2 R2 em2 pm2
      refine wpAny_pure (hQ true h2 L2 es2 ep2 t2 (sb.trans sb2) ⟨R2, ?_⟩ (fun z => absurd z hm) fun _ => pm2.trans pm)
      rw [em2]
      exact m2
    · first
        | refine wp_if_neg (by simp [hf]) ?_
        | (refine wpAny_bind ?_; refine wp_if_neg (by simp [hf]) ?_; refine wpAny_pure ?_)
      refine wpAny_pure (hQ true h1 L1 es1 (ep + 1) t1 sb ⟨⟨⟨_, ho1, ⟨hex.1, hex.2.1, hex.2.2⟩, rfl⟩, rin, tab1, nd1, mem1, f3, led1, ?_, by rw [hlen]; exact hfew⟩, by rw [f1]; exact R.g⟩ (fun z => absurd z hm) fun _ => pm)
      have h := hf
      unfold SetTable.tooFull at h
      rw [decide_eq_true_eq, q3] at h
      rw [hlen]
      omega
end
end MX
end

section
set_option maxRecDepth 100000
set_option maxHeartbeats 8000000
/-! MX11: set(xs), s.add(x), x in s for such sets. -/
namespace MX
open PySem PySem.Spec PyProof.Rows L2
/-- one after the other, those whose key hasn't come -/
def nextK {α : Type} (acc : List (α × NestedKey)) (p : α × NestedKey) : List (α × NestedKey) := if p.2 ∈ acc.map (·.2) then acc else acc ++ [p]
def firstK {α : Type} (ks : List (α × NestedKey)) : List (α × NestedKey) := ks.foldl nextK []
theorem nextK_map {α β : Type} (f : α → β) (acc : List (α × NestedKey)) (p : α × NestedKey) : nextK (acc.map fun q => (f q.1, q.2)) (f p.1, p.2) = (nextK acc p).map fun q => (f q.1, q.2) := by
  unfold nextK
  rw [List.map_map]
  by_cases c : p.2 ∈ acc.map (·.2)
  · have c' : p.2 ∈ acc.map ((fun x : β × NestedKey => x.2) ∘ fun q : α × NestedKey => (f q.1, q.2)) := c
    rw [if_pos c, if_pos c']
  · have c' : ¬ p.2 ∈ acc.map ((fun x : β × NestedKey => x.2) ∘ fun q : α × NestedKey => (f q.1, q.2)) := c
    rw [if_neg c, if_neg c']
    simp
theorem foldl_map {α β : Type} (f : α → β) : ∀ (ks acc : List (α × NestedKey)), (ks.map fun q => (f q.1, q.2)).foldl nextK (acc.map fun q => (f q.1, q.2)) = (ks.foldl nextK acc).map fun q => (f q.1, q.2)
  | [], acc => rfl
  | k :: ks, acc => by
    rw [List.map_cons, List.foldl_cons, List.foldl_cons, nextK_map f acc k]
    exact foldl_map f ks _
theorem firstK_map {α β : Type} (f : α → β) (ks : List (α × NestedKey)) : firstK (ks.map fun q => (f q.1, q.2)) = (firstK ks).map fun q => (f q.1, q.2) := foldl_map f ks []
theorem firstK_take {α : Type} {ks : List (α × NestedKey)} {i : Nat} {p : α × NestedKey} (h : ks[i]? = some p) : firstK (ks.take (i + 1)) = nextK (firstK (ks.take i)) p := by
  unfold firstK
  rw [List.take_add_one, h]
  simp
theorem foldl_sub {α : Type} : ∀ (ks acc : List (α × NestedKey)) (q : α × NestedKey), q ∈ ks.foldl nextK acc → q ∈ acc ∨ q ∈ ks
  | [], acc, q, h => .inl h
  | p :: ks, acc, q, h => by
    rcases foldl_sub ks _ q h with z | z
    · unfold nextK at z
      split at z
      · exact .inl z
      · rcases List.mem_append.mp z with y | y
        · exact .inl y
        · exact .inr (by simp at y; simp [y])
    · exact .inr (List.mem_cons_of_mem _ z)
theorem foldl_len {α : Type} : ∀ (ks acc : List (α × NestedKey)), (ks.foldl nextK acc).length ≤ acc.length + ks.length
  | [], acc => by simp
  | p :: ks, acc => by
    have h := foldl_len ks (nextK acc p)
    have : (nextK acc p).length ≤ acc.length + 1 := by
      unfold nextK
      split <;> simp
    simp only [List.foldl_cons, List.length_cons]
    omega
theorem firstK_sub {α : Type} {ks : List (α × NestedKey)} {q : α × NestedKey} (h : q ∈ firstK ks) : q ∈ ks := (foldl_sub ks [] q h).elim (fun z => by cases z) id
theorem firstK_len {α : Type} (ks : List (α × NestedKey)) : (firstK ks).length ≤ ks.length := by
  have := foldl_len ks []
  simpa [firstK] using this

section
variable {P : Program} {w : World} {A : Around} {E : Value → Shared → Prop} {s : Shared}
theorem SetG.kept {h h' : Heap} {a : Addr} {L : List (Addr × NestedKey)} {es : Array (Int × Value)} {ep : Nat} {t : SetTable} (R : SetG w h a L es ep t) (ha : ∀ o, h.get? a = some o → h'.get? a = some o) (ht : ∀ p ∈ L, Mem h' p.1 p.2) : SetG w h' a L es ep t := by
  obtain ⟨⟨⟨o, ho, r⟩, r1, r2, r3, r4, r5, r6, r7, r8⟩, g⟩ := R
  exact ⟨⟨⟨o, ha o ho, r⟩, r1, r2, r3, ht, r5, r6, r7, r8⟩, g⟩
/-- a new set -/
theorem setG_new {h : Heap} {a : Addr} (ho : h.get? a = some { cls := .type "set", dict := none, data := .set #[] 0 (.fresh 0 0 (!w.params.followText "set-order")) }) : SetG w h a [] #[] 0 (.fresh 0 0 (!w.params.followText "set-order")) :=
  ⟨{ ob := ⟨_, ho, ⟨rfl, rfl, rfl⟩, rfl⟩, rows := rfl, nd := List.nodup_nil, mem := (fun p hp => by cases hp), plain := rfl, room := (by show 0 * 5 < 7 * 3; decide), few := (by show 0 < 9000; decide),
     tab := ⟨List.Pairwise.nil, rfl, rfl, ⟨3, by omega, by omega, rfl⟩, fun x hx => (by cases hx), fun i h j hi => by simp at hi⟩,
     led := (by
       show _ ∨ (!w.params.followText "set-order") = true
       cases w.params.followText "set-order" <;> simp) }, .inl rfl⟩
/-- hash(k) of such a tuple -/
theorem hash_mem {b : Addr} {k : NestedKey} {Q : Int → Shared → Prop} (x : Mem s.heap b k) (hu : A.units + 8 < cLine) (h : Q (k.hash w) { s with toks := s.toks + k.draws }) : wpAny (model P w) A (pyHash (.ref b)) Q E s :=
  pyHash_key k _ A s Q x.is (by have := x.deep; omega) h

/-- what update goes round -/
theorem update_loop {I : Addr} {fp wr : List Addr} {G : Array GenState → Array GenState → Prop} {n : Nat} {Pv : Nat → Value → Prop} {St : Nat → Shared → Prop} {R : Result → Shared → Prop}
    (W : WalksS P w A.in1 I fp wr G n Pv St) (S : Addr) (hSf : S ∉ fp) (ks : List (Addr × NestedKey)) (hn : n = ks.length) (hfew : ks.length < 9000) (hval : ∀ i v, Pv i v → ∃ p, ks[i]? = some p ∧ v = .ref p.1)
    (h0 : Heap) (hk : ∀ p ∈ ks, Mem h0 p.1 p.2) (hS0 : h0.get? S = none) (hw0 : ∀ b ∈ wr, h0.get? b = none) (hu : A.in1.units + 8 < cLine) :
    ∀ (k i : Nat) (s : Shared), n - i = k → i ≤ n → St i s → (∀ b o, h0.get? b = some o → s.heap.get? b = some o) → (∃ L es ep t, SetG w s.heap S L es ep t ∧ L.Perm (firstK (ks.take i))) →
      (∀ s' L es ep t, Moved (S :: wr) G s s' → SetG w s'.heap S L es ep t → L.Perm (firstK ks) → (∀ b o, h0.get? b = some o → s'.heap.get? b = some o) → R (.ok (.ret .none)) s') →
      codeAny (model P w) A (.builtin "set.update.loop" ⟨[.ref S, .ref I], []⟩) R s := by
  have hSw : S ∉ wr := fun h => hSf (W.sub _ h)
  have hsub : ∀ b ∈ wr, b ∈ S :: wr := fun b hb => List.mem_cons_of_mem _ hb
  have keepM : ∀ {s s' : Shared}, Moved wr G s s' → (∀ b o, h0.get? b = some o → s.heap.get? b = some o) → ∀ b o, h0.get? b = some o → s'.heap.get? b = some o := fun hm hkp b o e =>
    hm.heap b o (fun hb => by rw [hw0 b hb] at e; cases e) (hkp b o e)
  have inks : ∀ {i : Nat} {L : List (Addr × NestedKey)}, L.Perm (firstK (ks.take i)) → ∀ p ∈ L, p ∈ ks := fun g p hp => List.mem_of_mem_take (firstK_sub (g.mem_iff.mp hp))
  intro k
  induction k with
  | zero =>
    intro i s hk' hi hst hkp ⟨L, es, ep, t, hS, g⟩ hR
    obtain rfl : i = n := by omega
    refine codeAny_builtin F.entry_set_update_loop ?_
    rw [Around.under_plainId F.plain_set_update_loop _]
    show wpAny _ A.in1 (pyNext (.ref I) >>= _) _ _ s
    refine wpAny_bind (W.done s _ _ hst fun s' hm => ?_)
    show wpAny _ A.in1 (ret Value.none) _ _ s'
    have hkp' := keepM hm hkp
    have g' : L.Perm (firstK ks) := by
      rw [hn, List.take_length] at g
      exact g
    exact wpAny_pure (hR s' L es ep t (hm.mono hsub) (hS.kept (fun o e => hm.heap S o hSw e) fun p hp => (hk p (inks g p hp)).kept hkp') g' hkp')
  | succ k ih =>
    intro i s hk' hi hst hkp ⟨L, es, ep, t, hS, g⟩ hR
    have hlt : i < n := by omega
    refine codeAny_builtin F.entry_set_update_loop ?_
    rw [Around.under_plainId F.plain_set_update_loop _]
    show wpAny _ A.in1 (pyNext (.ref I) >>= _) _ _ s
    refine wpAny_bind (W.item i s _ _ hlt hst fun v s' hP hst' hm => ?_)
    obtain ⟨p, hp, rfl⟩ := hval i v hP
    have hkp' := keepM hm hkp
    have hS' : SetG w s'.heap S L es ep t := hS.kept (fun o e => hm.heap S o hSw e) fun q hq => (hk q (inks g q hq)).kept hkp'
    have hx : Mem s'.heap p.1 p.2 := (hk p (List.mem_of_getElem? hp)).kept hkp'
    show wpAny _ A.in1 (holding [Value.ref p.1] (setAdd S (.ref p.1)) >>= _) _ _ s'
    refine wpAny_bind (wpAny_holding ?_)
    unfold setAdd
    refine wpAny_holding ?_
    refine wpAny_bind (hash_mem hx hu ?_)
    have few : L.length + 1 < 9000 := by
      have h1 := g.length_eq
      have h2 := firstK_len (ks.take i)
      rw [List.length_take] at h2
      omega
    refine add_set (s := { s' with toks := s'.toks + p.2.draws }) hS' hx hu few fun b h' L' es' ep' t' hsb hS2 c1 c2 => ?_
    have g' : L'.Perm (firstK (ks.take (i + 1))) := by
      rw [firstK_take hp]
      unfold nextK
      have same := (g.map (·.2)).mem_iff (a := p.2)
      by_cases c : p.2 ∈ L.map (·.2)
      · rw [if_pos (same.mp c), c1 c]
        exact g
      · rw [if_neg (fun z => c (same.mpr z))]
        exact (c2 c).trans ((g.cons p).trans (List.perm_append_singleton p _).symm)
    have hkp2 : ∀ b o, h0.get? b = some o → h'.get? b = some o := fun b o e => (hsb.2 b (fun z => by rw [z, hS0] at e; cases e)).trans (hkp' b o e)
    refine wpAny_pure ⟨plainId_quiet F.plain_set_update_loop _, ih (i + 1) _ (by omega) hlt (W.frame _ s' _ _ hst' (Nat.le_add_right _ _) fun b hb o e => ?_) hkp2 ⟨L', es', ep', t', hS2, g'⟩ fun s'' L2 es2 ep2 t2 hm'' hS'' g'' hkp'' => ?_⟩
    · rw [hsb.2 b (fun h : b = S => hSf (by rw [← h]; exact hb))]; exact e
    · refine hR s'' L2 es2 ep2 t2 (Moved.trans W.gtrans ((hm.mono hsub).then_heap (Nat.le_add_right _ _) fun b o hb e => ?_) hm'') hS'' g'' hkp''
      rw [hsb.2 b (fun h : b = S => hb (by rw [h]; exact List.mem_cons_self))]; exact e

/-- the empty set's object -/
abbrev set0 (w : World) : Obj := { cls := .type "set", dict := none, data := .set #[] 0 (.fresh 0 0 (!w.params.followText "set-order")) }
/-- set(xs), xs a list or a tuple -/
theorem set_shell {l : Addr} {items : Array Value} {Q : Value → Shared → Prop} {Fin : Heap → Prop} (hh : A.handled = none) (hl : s.heap.IsList l items ∨ s.heap.IsTuple l items) (hu : A.units + 16 < cLine)
    (loop : ∀ {I : Addr} {fp wr : List Addr} {G : Array GenState → Array GenState → Prop} {St : Nat → Shared → Prop} {R : Result → Shared → Prop} {Aq : Around} (W : WalksS P w Aq.in1 I fp wr G items.size (fun i v => items[i]? = some v) St) (s1 : Shared), s.heap.objs.size ∉ fp → St 0 s1 → Aq.in1.units + 8 < cLine →
      (∀ b ∈ wr, s.heap.get? b = none) → (∀ b o, s.heap.get? b = some o → s1.heap.get? b = some o) → s1.heap.get? s.heap.objs.size = some (set0 w) →
      (∀ s', Moved (s.heap.objs.size :: wr) G s1 s' → Fin s'.heap → (∀ b o, s.heap.get? b = some o → s'.heap.get? b = some o) → R (.ok (.ret .none)) s') → codeAny (model P w) Aq (.builtin "set.update.loop" ⟨[.ref s.heap.objs.size, .ref I], []⟩) R s1)
    (h : ∀ (h' : Heap) (tk : Nat), Fin h' → (∀ b o, s.heap.get? b = some o → h'.get? b = some o) → Q (.ref s.heap.objs.size) { s with heap := h', toks := tk }) :
    wpAny (model P w) A (call (.type "set") [.ref l]) Q E s := by
  obtain ⟨c, tl, hmro⟩ := F.called_set.mro
  have hmade := F.called_set.made
  have hsub := F.called_set.sub
  refine wpAny_call (codeAny_of_tree ?_)
  show wpAny _ _ (callAny (.type "set") _) _ _ _
  refine wpAny_pure ⟨Code.quiet_builtin _ (by decide +kernel), codeAny_builtin F.entry_type_call ?_⟩
  rw [Around.under_plain (weight_type_call_type "set" [.ref l] []) rfl]
  have h1 := F.called_set.notType
  have h2 := F.called_set.canCreate
  have hct := F.typeCall_set_1 (.ref l)
  repeat (any_goals (first | assumption | wp_step))
  refine codeAny_mono (code_set_led1 (.ref l) (E := E) (Q₁ := fun obj s₁ => obj = .ref s.heap.objs.size ∧ s₁ = { s with heap := s.heap.push (set0 w) }) ⟨rfl, rfl⟩) fun r s₁ hr => ?_
  cases r with
  | error e => exact hr
  | ok fl =>
    cases fl with
    | ret obj =>
      obtain ⟨rfl, rfl⟩ := hr
      have hS : (s.heap.push (set0 w)).get? s.heap.objs.size = some (set0 w) := Heap.get?_push_size _ rfl
      have hT : Shared.TypeIs { s with heap := s.heap.push (set0 w) } (.ref s.heap.objs.size) "set" := ⟨_, hS, rfl⟩
      have hli := F.called_set.init.lookup
      have hbi := F.called_set.init.bind (.ref s.heap.objs.size)
      repeat (any_goals (first | assumption | wp_step))
      refine codeAny_mono (codeAny_call_builtin (R := wants (fun r s₂ => r = .none ∧ ∃ h' tk, s₂ = { s with heap := h', toks := tk } ∧ Fin h' ∧
          (∀ b o, s.heap.get? b = some o → h'.get? b = some o)) E) F.called_set.init.plain F.entry_set_init (check_set_init_1 hT ?_)) fun r₂ s₂ hr₂ => ?_
      · have hh3 : A.in1.in1.in1.handled = none := by simp [hh]
        have hz1 : (s.heap.push (set0 w)).objs.size = s.heap.objs.size + 1 := Heap.size_push ..
        have none_of : ∀ b, s.heap.objs.size ≤ b → s.heap.get? b = none := fun b hb => by
          cases q : s.heap.get? b with
          | none => rfl
          | some o => exact absurd (Nat.lt_of_lt_of_le (Heap.lt_size q) hb) (Nat.lt_irrefl _)
        have hu3 : A.in1.in1.in1.units + 8 < cLine := by simp only [Around.in1_units]; omega
        rcases hl with hl | hl
        · obtain ⟨⟨ocls, odict, odata, oslots⟩, hol, hcl, nl, hdl⟩ := hl
          simp only at hcl hdl
          subst hcl; subst hdl
          have hol' : (s.heap.push (set0 w)).get? l = some { cls := .type "list", dict := odict, data := .seq items nl, slots := oslots } := Heap.get?_push_of_some _ hol
          have hsls := F.sub_list_set
          have hslf := F.sub_list_frozenset
          have hne : (Value.type "list" == Value.type "dict") = false := by decide
          have hl1 : (s.heap.push (set0 w)).IsList l items := ⟨_, hol', rfl, nl, rfl⟩
          unfold Builtin.«set.__init__» noKeywords Builtin.Frozenset.updateFrom
          generalize hPI : pyIter = PI
          wp_walk
          subst hPI
          refine wpAny_pyIter_list hl1 ?_
          refine wpAny_bind (wpAny_runValue ?_)
          have hlS : l < s.heap.objs.size := Heap.lt_size hol
          have hneI : l ≠ (s.heap.push (set0 w)).objs.size := by rw [hz1]; exact Nat.ne_of_lt (Nat.lt_succ_of_lt hlS)
          have hSf : s.heap.objs.size ∉ [(s.heap.push (set0 w)).objs.size, l] := by
            rw [hz1]
            simp only [List.mem_cons, List.not_mem_nil, or_false, not_or]
            exact ⟨Nat.ne_of_lt (Nat.lt_succ_self _), Nat.ne_of_gt hlS⟩
          refine loop ((Walks.list hh3 _ l hneI items).toS) _ hSf ⟨⟨_, Heap.get?_push_size _ rfl, rfl, rfl⟩, (hl1.push _)⟩ hu3 (fun b hb => none_of b (by rw [List.mem_singleton.mp hb, hz1]; exact Nat.le_succ _)) (fun b o e => Heap.get?_push_of_some _ (Heap.get?_push_of_some _ e)) (Heap.get?_push_of_some _ hS) ?hR
          case hR =>
            intro s' hm fin hkp
            obtain ⟨h', g2, d', tk', os'⟩ := s'
            have eg : g2 = s.gens := hm.gens
            have ed : d' = s.drawn := hm.drawn
            have eo : os' = s.os := hm.os
            subst eg; subst ed; subst eo
            show wpAny _ _ _ _ _ _
            refine wpAny_pure ?_
            show wpAny _ _ (ret Value.none) _ _ _
            exact wpAny_pure ⟨rfl, h', tk', rfl, fin, hkp⟩
        · obtain ⟨⟨ocls, odict, odata, oslots⟩, hol, hcl, nl, hdl⟩ := hl
          simp only at hcl hdl
          subst hcl; subst hdl
          have hol' : (s.heap.push (set0 w)).get? l = some { cls := .type "tuple", dict := odict, data := .seq items nl, slots := oslots } := Heap.get?_push_of_some _ hol
          have hsls := F.sub_tuple_set
          have hslf := F.sub_tuple_frozenset
          have hne : (Value.type "tuple" == Value.type "dict") = false := by decide
          have hl1 : (s.heap.push (set0 w)).IsTuple l items := ⟨_, hol', rfl, nl, rfl⟩
          unfold Builtin.«set.__init__» noKeywords Builtin.Frozenset.updateFrom
          generalize hPI : pyIter = PI
          wp_walk
          subst hPI
          refine wpAny_pyIter_tuple hl1 ?_
          refine wpAny_bind (wpAny_runValue ?_)
          have hlS : l < s.heap.objs.size := Heap.lt_size hol
          have hneI : l ≠ (s.heap.push (set0 w)).objs.size := by rw [hz1]; exact Nat.ne_of_lt (Nat.lt_succ_of_lt hlS)
          have hSf : s.heap.objs.size ∉ [(s.heap.push (set0 w)).objs.size, l] := by
            rw [hz1]
            simp only [List.mem_cons, List.not_mem_nil, or_false, not_or]
            exact ⟨Nat.ne_of_lt (Nat.lt_succ_self _), Nat.ne_of_gt hlS⟩
          refine loop ((Walks.tuple hh3 _ l hneI items).toS) _ hSf ⟨⟨_, Heap.get?_push_size _ rfl, rfl, rfl⟩, (hl1.push _)⟩ hu3 (fun b hb => none_of b (by rw [List.mem_singleton.mp hb, hz1]; exact Nat.le_succ _)) (fun b o e => Heap.get?_push_of_some _ (Heap.get?_push_of_some _ e)) (Heap.get?_push_of_some _ hS) ?hT
          case hT =>
            intro s' hm fin hkp
            obtain ⟨h', g2, d', tk', os'⟩ := s'
            have eg : g2 = s.gens := hm.gens
            have ed : d' = s.drawn := hm.drawn
            have eo : os' = s.os := hm.os
            subst eg; subst ed; subst eo
            show wpAny _ _ _ _ _ _
            refine wpAny_pure ?_
            show wpAny _ _ (ret Value.none) _ _ _
            exact wpAny_pure ⟨rfl, h', tk', rfl, fin, hkp⟩
      · cases r₂ with
        | error e => exact hr₂
        | ok fl₂ =>
          cases fl₂ with
          | ret r =>
            obtain ⟨rfl, h', tk, rfl, fin, hk'⟩ := hr₂
            repeat (any_goals (first | assumption | wp_step))
            exact h _ _ fin hk'
          | _ => exact hr₂.elim
    | _ => exact hr.elim
/-- set(xs): tuples -/
theorem call_setK {l : Addr} {items : Array Value} (ks : List (Addr × NestedKey)) {Q : Value → Shared → Prop} (hh : A.handled = none) (hl : s.heap.IsList l items ∨ s.heap.IsTuple l items) (hit : items.toList = ks.map fun p => Value.ref p.1)
    (hk : ∀ p ∈ ks, Mem s.heap p.1 p.2) (hfew : ks.length < 9000) (hu : A.units + 16 < cLine)
    (h : ∀ (h' : Heap) (tk : Nat) L es ep t, SetG w h' s.heap.objs.size L es ep t → L.Perm (firstK ks) → (∀ b o, s.heap.get? b = some o → h'.get? b = some o) → Q (.ref s.heap.objs.size) { s with heap := h', toks := tk }) :
    wpAny (model P w) A (call (.type "set") [.ref l]) Q E s := by
  have hisz : items.size = ks.length := by simpa using congrArg List.length hit
  have hval : ∀ (i : Nat) (v : Value), items[i]? = some v → ∃ p, ks[i]? = some p ∧ v = .ref p.1 := fun i v hv => by
    have q : items.toList[i]? = some v := by rw [Array.getElem?_toList]; exact hv
    rw [hit, List.getElem?_map] at q
    cases hq : ks[i]? with
    | none => rw [hq] at q; cases q
    | some p =>
      rw [hq] at q
      exact ⟨p, rfl, (Option.some.inj q).symm⟩
  have hS0 : s.heap.get? s.heap.objs.size = none := by
    cases q : s.heap.get? s.heap.objs.size with
    | none => rfl
    | some o => exact absurd (Heap.lt_size q) (Nat.lt_irrefl _)
  refine set_shell (Fin := fun h' => ∃ L es ep t, SetG w h' s.heap.objs.size L es ep t ∧ L.Perm (firstK ks)) hh hl hu (fun W s1 hSf st hu1 hwr kp hs0 hR => ?_) fun h' tk ⟨L, es, ep, t, a, b⟩ c => h h' tk L es ep t a b c
  exact update_loop W s.heap.objs.size hSf ks hisz hfew hval s.heap hk hS0 hwr hu1 (items.size - 0) 0 s1 (by omega) (Nat.zero_le _) st kp ⟨[], #[], 0, _, setG_new hs0, List.Perm.refl _⟩ fun s' L es ep t m a b c => hR s' m ⟨L, es, ep, t, a, b⟩ c
theorem ints_get : ∀ {vs : List Value} {ns : List Int}, IntsAre vs ns → ∀ (i : Nat) (v : Value), vs[i]? = some v → ∃ k t, ns[i]? = some k ∧ v = .int k t
  | _, _, .nil, i, v, q => by simp at q
  | _, _, .cons k t h, 0, v, q => by simp at q; exact ⟨k, t, rfl, q.symm⟩
  | _, _, .cons k t h, i + 1, v, q => ints_get h i v (by simpa using q)
/-- set(xs): ints -/
theorem call_setI {l : Addr} {items : Array Value} (ns : List Int) {Q : Value → Shared → Prop} (hh : A.handled = none) (hl : s.heap.IsList l items ∨ s.heap.IsTuple l items) (hit : IntsAre items.toList ns) (hb : ns.length + 1 < scanBound) (hu : A.units + 16 < cLine)
    (h : ∀ (h' : Heap) (tk c : Nat), SetR w h' s.heap.objs.size (fun j => decide (j ∈ ns)) c → (∀ b o, s.heap.get? b = some o → h'.get? b = some o) → Q (.ref s.heap.objs.size) { s with heap := h', toks := tk }) :
    wpAny (model P w) A (call (.type "set") [.ref l]) Q E s := by
  have hisz : items.size = ns.length := by have := hit.length; simpa using this
  have hval : ∀ (i : Nat) (v : Value), items[i]? = some v → ∃ k t, ns[i]? = some k ∧ v = .int k t := fun i v hv => by
    have q : items.toList[i]? = some v := by rw [Array.getElem?_toList]; exact hv
    exact ints_get hit i v q
  refine set_shell (Fin := fun h' => ∃ c, SetR w h' s.heap.objs.size (fun j => decide (j ∈ ns)) c) hh hl hu (fun W s1 hSf st hu1 hwr kp hs0 hR => ?_) fun h' tk ⟨c, a⟩ b => h h' tk c a b
  refine set_update_ints W s.heap.objs.size hSf ns hisz hb hval (items.size - 0) 0 s1 (by omega) (Nat.zero_le _) st ⟨0, Nat.zero_le _, setR_new_at hs0⟩ fun s' c m _ a => hR s' m ⟨c, a⟩ fun b o e => ?_
  refine m.heap b o (fun hb => ?_) (kp b o e)
  rcases List.mem_cons.mp hb with rfl | hb
  · exact absurd (Heap.lt_size e) (Nat.lt_irrefl _)
  · rw [hwr b hb] at e; cases e
end
end MX
end

section
set_option maxRecDepth 100000
set_option maxHeartbeats 2000000
/-! MX12: x in s, s.add(x), sorted(s); over the layer of heaps. -/
namespace MX
open PySem PySem.Spec PyProof.Rows L2
section
variable {P : Program} {w : World} {A : Around} {E : Value → Shared → Prop} {s : Shared} {a : Addr} {L : List (Addr × NestedKey)} {es : Array (Int × Value)} {ep : Nat} {t : SetTable}
theorem contains_setK (R : SetG w s.heap a L es ep t) {x : Addr} {k : NestedKey} (hx : Mem s.heap x k) (hu : A.units + 16 < cLine) {Q : Bool → Shared → Prop}
    (h : Q (decide (k ∈ L.map (·.2))) { s with toks := s.toks + k.draws }) : wpAny (model P w) A (contains (.ref a) (.ref x)) Q E s := by
  obtain ⟨o, ho, hex, hd⟩ := R.k.ob
  have hT : s.TypeIs (.ref a) "set" := ⟨o, ho, hex.1⟩
  unfold contains
  try with_reducible refine wpAny_holding ?_
  refine wpAny_bind (wpAny_specialOf hT F.slot_set_contains.lookup ?_)
  refine wp_if_neg (by rw [beq_builtin_none]; exact Bool.false_ne_true) ?_
  refine wpAny_bind (wpAny_callSpecialUnlessNone?_slot (name := Str.ofString "__contains__") hT F.slot_set_contains (wpAny_call_entry F.slot_set_contains hT entry_set_contains ?_ (F.args_set_contains_2 _ _)))
  unfold Builtin.«frozenset.__contains__» Builtin.Frozenset.oneOther
  simp only [List.isEmpty_nil, bind_assoc]
  unfold Builtin.Frozenset.addrOf Builtin.Frozenset.withSetAsKey setContains
  refine wpAny_bind (wpAny_pure ?_)
  try dsimp only
  refine wpAny_bind (wpAny_pure ?_)
  try dsimp only
  refine wpAny_bind (wpAny_tryCatch (wpAny_holding (wpAny_bind (hash_mem hx (by simp only [Around.in1_units]; omega) ?_))))
  have R' : SetG w ({ s with toks := s.toks + k.draws } : Shared).heap a L es ep t := R
  refine wpAny_bind (find_at R'.k hx (by simp only [Around.in1_units]; omega) fun r hr => ?_)
  refine wpAny_pure ?_
  show wpAny _ _ (ret (Value.bool r.isSome)) _ _ _
  rw [hr]
  exact wpAny_pure ⟨_, rfl, wpAny_truthy_bool h⟩
theorem in_setK (R : SetG w s.heap a L es ep t) {x : Addr} {k : NestedKey} (hx : Mem s.heap x k) (hu : A.units + 16 < cLine) {Q : Value → Shared → Prop}
    (h : Q (.bool (decide (k ∈ L.map (·.2)))) { s with toks := s.toks + k.draws }) : wpAny (model P w) A (compareOp .In (.ref x) (.ref a)) Q E s := by
  show wpAny _ _ (do return .bool (← contains (.ref a) (.ref x))) Q E s
  exact wpAny_bind (contains_setK R hx hu (wpAny_pure h))
theorem notIn_setK (R : SetG w s.heap a L es ep t) {x : Addr} {k : NestedKey} (hx : Mem s.heap x k) (hu : A.units + 16 < cLine) {Q : Value → Shared → Prop}
    (h : Q (.bool (!decide (k ∈ L.map (·.2)))) { s with toks := s.toks + k.draws }) : wpAny (model P w) A (compareOp .NotIn (.ref x) (.ref a)) Q E s := by
  show wpAny _ _ (do return .bool (!(← contains (.ref a) (.ref x)))) Q E s
  exact wpAny_bind (contains_setK R hx hu (wpAny_pure h))
theorem setAdd_setK (R : SetG w s.heap a L es ep t) {x : Addr} {k : NestedKey} (hx : Mem s.heap x k) (hu : A.units + 16 < cLine) (hfew : L.length + 1 < 9000) {Q : Value → Shared → Prop}
    (h : ∀ h' L' es' ep' t' tk, Heap.SameBut a s.heap h' → SetG w h' a L' es' ep' t' → L'.Perm (nextK L (x, k)) → Q .none { s with heap := h', toks := tk }) :
    wpAny (model P w) A (call (.builtin "set.add") [.ref a, .ref x]) Q E s := by
  obtain ⟨o, ho, hex, hd⟩ := R.k.ob
  have hT : s.TypeIs (.ref a) "set" := ⟨o, ho, hex.1⟩
  refine wpAny_call_entry F.slot_set_add hT F.entry_set_add ?_ (F.args_set_add_2 _ _)
  unfold Builtin.«set.add» Builtin.Frozenset.oneOther
  simp only [List.isEmpty_nil, bind_assoc]
  unfold Builtin.Frozenset.addrOf setAdd
  refine wpAny_bind (wpAny_pure ?_)
  try dsimp only
  refine wpAny_bind (wpAny_pure ?_)
  try dsimp only
  refine wpAny_bind (wpAny_holding (wpAny_bind (hash_mem hx (by simp only [Around.in1_units]; omega) ?_)))
  have R' : SetG w ({ s with toks := s.toks + k.draws } : Shared).heap a L es ep t := R
  refine add_set (s := { s with toks := s.toks + k.draws }) R' hx (by simp only [Around.in1_units]; omega) hfew fun b h' L' es' ep' t' hsb hS c1 c2 => ?_
  show wpAny _ _ (ret Value.none) _ _ _
  refine wpAny_pure ⟨_, rfl, h h' L' es' ep' t' _ hsb hS ?_⟩
  unfold nextK
  by_cases c : k ∈ L.map (·.2)
  · rw [if_pos c, c1 c]
  · rw [if_neg c]
    exact (c2 c).trans (List.perm_append_singleton _ _).symm

/-! ### over the layer -/
/-- the set at a has these (their own objects aside) -/
def SetN (w : World) (h : Heap) (a : Addr) (L : List (Addr × NestedKey)) : Prop := ∃ (L' : List (Addr × NestedKey)) (es : Array (Int × Value)) (ep : Nat) (t : SetTable), L'.Perm L ∧ (∃ o, h.get? a = some o ∧ o.ExactSet ∧ o.data = .set es ep t) ∧ es.toList = rowsK w L' ∧ Tab t (L'.map fun p => p.2.hash w) ∧
  (L'.map (·.2)).Nodup ∧ t.plain = true ∧ (w.params.followText "set-order" = true ∨ t.led = true) ∧ L'.length * 5 < t.mask * 3 ∧ L'.length < 9000 ∧ Grows t.mask
theorem SetG.bare {h : Heap} {L2 : List (Addr × NestedKey)} (R : SetG w h a L es ep t) (pm : L.Perm L2) : SetN w h a L2 := ⟨L, es, ep, t, pm, R.k.ob, R.k.rows, R.k.tab, R.k.nd, R.k.plain, R.k.led, R.k.room, R.k.few, R.g⟩
theorem SetN.full {h : Heap} (R : SetN w h a L) (m : ∀ p ∈ L, Mem h p.1 p.2) : ∃ L' es ep t, SetG w h a L' es ep t ∧ L'.Perm L := by
  obtain ⟨L', es, ep, t, pm, h1, h2, h3, h4, h5, h6, h7, h8, h9⟩ := R
  exact ⟨L', es, ep, t, ⟨⟨h1, h2, h3, h4, fun p hp => m p (pm.mem_iff.mp hp), h5, h6, h7, h8⟩, h9⟩, pm⟩
def SetO (w : World) (a : Addr) (L : List (Addr × NestedKey)) : HO := .ext fun h => SetN w h a L
theorem setO_is {H : Hp} {h : Heap} (R : SetN w h a L) : ObjOk P w H h a (SetO w a L) := by
  have ⟨L', es, ep, t, pm, ⟨o, ho, _⟩, _⟩ := R
  refine ⟨R, ⟨o, ho⟩, fun h1 h2 q k => ?_⟩
  obtain ⟨L', es, ep, t, pm, ⟨o, ho, r⟩, q⟩ := q
  exact ⟨L', es, ep, t, pm, ⟨o, k o ho, r⟩, q⟩
theorem SetN.nodup {h : Heap} (R : SetN w h a L) : (L.map (·.2)).Nodup := by
  obtain ⟨L', es, ep, t, pm, _, _, _, h4, _⟩ := R
  exact (pm.map (·.2)).nodup_iff.mp h4
end
theorem refs_are : ∀ {ks : List (Addr × NestedKey)} {us : List Value}, Vals (ks.map fun p => V.ref p.1) us → us = ks.map fun p => Value.ref p.1
  | [], _, h => by cases h; rfl
  | p :: ks, _, h => by
    cases h with
    | cons r t => cases r; rw [refs_are t]; rfl
/-- the thing at p.1 is the key p.2, which may stand in a set -/
structure KeyAt (K : PySem.W.Frag) (H : Hp) (p : Addr × NestedKey) : Prop where
  d : Dp K H (.ref p.1) p.2.data
  deep : p.2.depth ≤ 8
  whole : intK p.2 = true
mutual
theorem nested_of {h : Heap} : ∀ (k : NestedKey) (u : Value) (as : List Addr), Reads h u k.data as → NestedIs h k u
  | .none, _, _, r => by simp only [NestedKey.data] at r; cases r; exact .none
  | .num i, _, _, r => by simp only [NestedKey.data] at r; cases r; exact .int _ _
  | .text x, _, _, r => by simp only [NestedKey.data] at r; cases r; exact .text _ _
  | .tup ks, _, _, r => by
    simp only [NestedKey.data] at r
    cases r with
    | tuple h1 h2 h3 h4 => exact .tup h1 h2 h3 (nested_all ks _ _ h4)
theorem nested_all {h : Heap} : ∀ (ks : List NestedKey) (us : List Value) (as : List Addr), ReadsAll h us (NestedKey.datas ks) as → NestedAll h ks us
  | [], _, _, r => by simp only [NestedKey.datas] at r; cases r; exact .nil
  | k :: ks, _, _, r => by
    simp only [NestedKey.datas] at r
    cases r with
    | cons h1 h2 => exact .cons (nested_of k _ _ h1) (nested_all ks _ _ h2)
end
section
variable {X : Cx} {pins : List (Addr × Obj)} {σ : L2.St} {H : Hp} {s : Shared}
theorem mem_of (I : Inv X pins σ H s) {p : Addr × NestedKey} (k : KeyAt X.K H p) : Mem s.heap p.1 p.2 := by
  obtain ⟨as, r⟩ := Dp.reads I _ _ (.ref p.1) k.d rfl
  exact ⟨nested_of _ _ _ r, k.deep, k.whole⟩
theorem setO_get (I : Inv X pins σ H s) {a : Addr} {L : List (Addr × NestedKey)} (ha : H a = some (SetO X.w a L)) (hk : ∀ p ∈ L, KeyAt X.K H p) : ∃ L' es ep t, SetG X.w s.heap a L' es ep t ∧ L'.Perm L :=
  SetN.full (I.hok a _ ha).1 fun p hp => mem_of I (hk p hp)
/-- set(xs) -/
def rSetK (K : PySem.W.Frag) (w : World) : List V → Hp → VK → Prop := fun xs H Q => ∃ (l : Addr) (ks : List (Addr × NestedKey)), xs = [V.ref l] ∧ (SqL K H l (ks.map fun p => V.ref p.1) ∨ SqT K H l (ks.map fun p => V.ref p.1)) ∧ (∀ p ∈ ks, KeyAt K H p) ∧ ks.length < 9000 ∧
  ∀ a, H a = none → Q (.ref a) (upd H a (SetO w a (firstK ks)))
theorem cr_setK (hc : X.calm = true) (hu : X.A.units + 16 < cLine) : CallR X (.type "set") (rSetK X.K X.w) := by
  intro pins s σ H xs us Q I r h
  obtain ⟨l, ks, rfl, hl, hk, hf, q⟩ := h
  rw [Vals.ref1 r]
  have src : ∃ its : List Value, its = (ks.map fun p => Value.ref p.1) ∧ (s.heap.IsList l its.toArray ∨ s.heap.IsTuple l its.toArray) := by
    rcases hl with hl | hl
    · obtain ⟨its, rv, pl, hz⟩ := I.list hl
      exact ⟨its, refs_are rv, .inl pl.isList⟩
    · obtain ⟨its, rv, ht, hz⟩ := I.tuple hl
      exact ⟨its, refs_are rv, .inr ht⟩
  obtain ⟨its, e, hl⟩ := src
  refine call_setK (P := X.prog) (w := X.w) ks (I.ok.hd hc) hl (by simpa using e) (fun p hp => mem_of I (hk p hp)) hf hu fun h' tk L es ep t R g k => ?_
  exact ⟨.ref s.heap.objs.size, _, I.laid (t' := tk) k (Nat.le_refl _) (setO_is (R.bare g)), rfl, q _ (I.hok.fresh (Nat.le_refl _))⟩
/-- x in s, x not in s -/
def rInK (K : PySem.W.Frag) (w : World) (f : Bool → Bool) : R2 := fun x y H Q => ∃ (b : Addr) (k : NestedKey) (a : Addr) (L : List (Addr × NestedKey)), x = .ref b ∧ y = .ref a ∧ KeyAt K H (b, k) ∧ H a = some (SetO w a L) ∧ (∀ p ∈ L, KeyAt K H p) ∧ Q (.bl (f (decide (k ∈ L.map (·.2))))) H
theorem perm_keys {L L' : List (Addr × NestedKey)} (pm : L'.Perm L) (k : NestedKey) : decide (k ∈ L'.map (·.2)) = decide (k ∈ L.map (·.2)) := by
  have := (pm.map (·.2)).mem_iff (a := k)
  simp only [this]
theorem or_inK (hu : X.A.units + 16 < cLine) : OpR X (compareOp .In) (rInK X.K X.w id) := by
  intro pins s σ H x y v u Q I rx ry h
  obtain ⟨b, k, a, L, rfl, rfl, hk, ha, hL, q⟩ := h
  cases rx
  cases ry
  obtain ⟨L', es, ep, t, R, pm⟩ := setO_get I ha hL
  refine in_setK R (mem_of I hk) hu ⟨.bl _, H, I.tok _, rfl, ?_⟩
  rw [perm_keys pm]
  exact q
theorem or_ninK (hu : X.A.units + 16 < cLine) : OpR X (compareOp .NotIn) (rInK X.K X.w not) := by
  intro pins s σ H x y v u Q I rx ry h
  obtain ⟨b, k, a, L, rfl, rfl, hk, ha, hL, q⟩ := h
  cases rx
  cases ry
  obtain ⟨L', es, ep, t, R, pm⟩ := setO_get I ha hL
  refine notIn_setK R (mem_of I hk) hu ⟨.bl _, H, I.tok _, rfl, ?_⟩
  rw [perm_keys pm]
  exact q
end
end MX
end

section
set_option maxRecDepth 100000
set_option maxHeartbeats 2000000
/-! MX13: sorted(x): x a list, a tuple, a set of such tuples. -/
namespace MX
open PySem PySem.Spec PyProof.Rows L2 PySem.W

mutual
/-- what a value reads off stands in the heap -/
theorem reads_live {h : Heap} : ∀ (d : PyData) (v : Value) (as : List Addr), d.hasDict = false → Reads h v d as → ∀ a ∈ as, ∃ o, h.get? a = some o
  | .none, _, _, _, r, a, ha => by cases r; cases ha
  | .bool b, _, _, _, r, a, ha => by cases r; cases ha
  | .int i, _, _, _, r, a, ha => by cases r; cases ha
  | .str x, _, _, _, r, a, ha => by cases r; cases ha
  | .dict _, _, _, n, r, a, ha => by simp [PyData.hasDict] at n
  | .list xs, _, _, n, r, a, ha => by
    cases r with
    | list h1 h2 h3 h4 =>
      rcases List.mem_cons.mp ha with rfl | ha
      · exact ⟨_, h1⟩
      · exact reads_lives xs _ _ (by simpa [PyData.hasDict] using n) h4 a ha
  | .tuple xs, _, _, n, r, a, ha => by
    cases r with
    | tuple h1 h2 h3 h4 => exact reads_lives xs _ _ (by simpa [PyData.hasDict] using n) h4 a ha
theorem reads_lives {h : Heap} : ∀ (ds : List PyData) (vs : List Value) (as : List Addr), PyData.hasDictAll ds = false → ReadsAll h vs ds as → ∀ a ∈ as, ∃ o, h.get? a = some o
  | [], _, _, _, r, a, ha => by cases r; cases ha
  | d :: ds, _, _, n, r, a, ha => by
    cases r with
    | cons h1 h2 =>
      have n' : d.hasDict = false ∧ PyData.hasDictAll ds = false := by simpa [PyData.hasDictAll] using n
      rcases List.mem_append.mp ha with z | z
      · exact reads_live d _ _ n'.1 h1 a z
      · exact reads_lives ds _ _ n'.2 h2 a z
end
/-- may be sorted: of one kind, not None, each tuple with an item -/
def sortOk (ds : List PyData) : Bool := (ds.all fun d => ds.all fun e => alike d e) && ((ds.all fun d => !d.hasDict && decide (d.depth ≤ 64)) && ((ds.all fun d => match d with | .tuple (_ :: _) => true | _ => false) || (ds.all fun d => match d with | .none => false | .tuple _ => false | _ => true)))
theorem sortOk_is {ds : List PyData} (h : sortOk ds = true) : AllAlike ds ∧ Sortable ds ∧ ∀ d ∈ ds, d.hasDict = false ∧ d.depth ≤ 64 := by
  unfold sortOk at h
  simp only [Bool.and_eq_true, List.all_eq_true, Bool.or_eq_true, Bool.not_eq_true', decide_eq_true_eq] at h
  obtain ⟨h1, h2, h3⟩ := h
  refine ⟨h1, ?_, h2⟩
  rcases h3 with h3 | h3
  · refine .inl fun d hd => ?_
    have := h3 d hd
    cases d with
    | tuple xs =>
      cases xs with
      | nil => cases this
      | cons x r => exact ⟨x, r, rfl⟩
    | _ => cases this
  · refine .inr fun d hd => ?_
    have := h3 d hd
    cases d with
    | none => cases this
    | tuple xs => cases this
    | _ => exact ⟨by simp, by simp⟩
/-- the order of data -/
abbrev leD (a b : PyData) : Bool := !dataLt b a
/-- what collecting leaves -/
def Col (s s' : Shared) : Prop := (∀ b o, s.heap.get? b = some o → s'.heap.get? b = some o) ∧ s.heap.objs.size ≤ s'.heap.objs.size ∧ s'.gens = s.gens ∧ s'.os = s.os
section
variable {P : Program} {w : World} {A : Around} {E : Value → Shared → Prop} {s : Shared}
theorem each_add {α β : Type} {R R' : α → β → Prop} : ∀ {as : List α} {bs : List β}, EachIs R as bs → (∀ b ∈ bs, ∀ a, R a b → R' a b) → EachIs R' as bs
  | _, _, .nil, _ => .nil
  | _, _, .cons r t, h => .cons (h _ List.mem_cons_self _ r) (each_add t fun b hb => h b (List.mem_cons_of_mem _ hb))
/-- a list's, a tuple's items, gathered -/
theorem collect_seq {it : Addr} {T : String} {o : Obj} {items : Array Value} {n : Nat} (hT : T = "list" ∨ T = "tuple") (ho : s.heap.get? it = some o) (hc : o.cls = .type T) (hd : o.data = .seq items n) (hsz : items.size ≤ sizeLine) {Q : List Value → Shared → Prop}
    (hQ : ∀ s1, Col s s1 → Q items.toList s1) : wpAny (model P w) A (collect (.ref it)) Q E s := by
  let hh : Heap := s.heap.push { cls := .type "list", data := .seq ([] : List Value).toArray }
  have at0 : hh.get? s.heap.objs.size = some { cls := .type "list", data := .seq #[] 0 } := Heap.get?_push_size _ rfl
  have at1 := Heap.get?_update_self (Obj.mapSeq (· ++ items)) at0 rfl
  have fin : wpAny (model P w) A (load s.heap.objs.size >>= fun x => match x.data with
      | Data.seq xs _ => pure xs.toList
      | _ => unsupported "internal:collect") Q E { s with heap := hh.update s.heap.objs.size (Obj.mapSeq (· ++ items)) } := by
    refine wpAny_bind (wpAny_load at1 (wpAny_pure ?_))
    have e : ((#[] : Array Value) ++ items).toList = items.toList := by simp
    show Q ((#[] : Array Value) ++ items).toList _
    rw [e]
    refine hQ _ ⟨fun b u hb => (Heap.get?_update_other _ _ (Nat.ne_of_gt (Heap.lt_size hb))).trans (Heap.get?_push_of_some _ hb), ?_, rfl, rfl⟩
    show s.heap.objs.size ≤ (hh.update _ _).objs.size
    rw [Heap.size_update, Heap.size_push]
    exact Nat.le_succ _
  unfold collect
  refine wpAny_bind (wpAny_runValue (codeAny_builtin F.entry_proto_collect ?_))
  rw [Around.under_plainId F.plain_proto_collect _]
  show wpAny _ A.in1 (newList [] >>= fun l => again (.builtin "list.__iadd__" ⟨[l, .ref it], []⟩)) _ _ s
  refine wpAny_bind (wpAny_newObj_type (wpAny_pure ⟨plainId_quiet F.plain_list_iadd _, codeAny_builtin F.entry_list_iadd ?_⟩))
  rw [Around.under_plainId F.plain_list_iadd _]
  show wpAny _ A.in1 (Builtin.List.listExtendWith (.ref s.heap.objs.size) (.ref it) (.ref s.heap.objs.size)) _ _ { s with heap := hh }
  refine wpAny_mono (wpAny_extend_seq (hsz := hsz) (A := A) (R := fun r s' => r = .ok (.ret (.ref s.heap.objs.size)) ∧ s' = { s with heap := hh.update s.heap.objs.size (Obj.mapSeq (· ++ items)) }) (s := { s with heap := hh }) _ it _ 0 hT at0 (Heap.get?_push_of_some _ ho) hc hd ⟨rfl, rfl⟩) (fun f s' q => ?_) fun e s' q => absurd q.1 (by simp)
  cases f with
  | done f =>
    obtain ⟨e, rfl⟩ := q
    cases e
    exact fin
  | again c' => exact ⟨q.1, codeAny_mono q.2 fun r s'' hr => by obtain ⟨rfl, rfl⟩ := hr; exact fin⟩
theorem sorted_core {a : Addr} {β : Type} {bs0 : List β} {enc : β → PyData} {R : Value → β → Prop} {C : List Value → Prop} {Dd : List β → Prop} (hcol : ∀ Q' : List Value → Shared → Prop, (∀ s1 vs, Col s s1 → C vs → Q' vs s1) → wpAny (model P w) A.in1 (collect (.ref a)) Q' E s)
    (hC : ∀ vs, C vs → ∃ bs : List β, bs.Perm bs0 ∧ Dd bs ∧ EachIs R vs bs) (hR : ∀ b ∈ bs0, ∀ v, R v b → ∃ as, Reads s.heap v (enc b) as) (hok : sortOk (bs0.map enc) = true) (hL : bs0.length ≤ sizeLine) (hu : A.units + 80 < cLine) {Q : Value → Shared → Prop}
    (h : ∀ (s2 : Shared) (p : Addr) (out : List Value) (n : Nat) (bs : List β), bs.Perm bs0 → Dd bs → (∀ b o, s.heap.get? b = some o → s2.heap.get? b = some o) → s2.gens = s.gens → s2.os = s.os → s.heap.objs.size ≤ p → s2.heap.get? p = some (seqObj "list" out.toArray n) →
      EachIs R out (bs.mergeSort fun x y => leD (enc x) (enc y)) → Q (.ref p) s2) : wpAny (model P w) A (call (.builtin "sorted") [.ref a]) Q E s := by
  obtain ⟨o1, o2, o3⟩ := sortOk_is hok
  refine Calls.call_function_entry kind_sorted plain_sorted entry_sorted (args_sorted1 _) ?_
  unfold Builtin.«sorted»
  refine wpAny_bind (m := checkCount "sorted" 1 1 _) (wpAny_pure ?_)
  refine wpAny_bind (hcol _ fun s1 vs c1 c2 => ?_)
  obtain ⟨bs, pm, dd, e⟩ := hC vs c2
  obtain ⟨k1, k2, k3, k4⟩ := c1
  have len : vs.length = bs0.length := by rw [e.length, pm.length_eq]
  refine wpAny_bind (wpAny_newList ?_ (by omega))
  have at_ : (s1.heap.push (seqObj "list" vs.toArray 0)).get? s1.heap.objs.size = some (seqObj "list" vs.toArray 0) := Heap.get?_push_size _ rfl
  have keep : ∀ b o, s.heap.get? b = some o → (s1.heap.push (seqObj "list" vs.toArray 0)).get? b = some o := fun b o q => Heap.get?_push_of_some _ (k1 b o q)
  have inb : ∀ b ∈ bs, b ∈ bs0 := fun b hb => pm.mem_iff.mp hb
  have dat : ∀ d ∈ bs.map enc, d ∈ bs0.map enc := fun d hd => by
    obtain ⟨b, hb, rfl⟩ := List.mem_map.mp hd
    exact List.mem_map.mpr ⟨b, inb b hb, rfl⟩
  have er : EachIs (fun v b => ∃ as, Reads (s1.heap.push (seqObj "list" vs.toArray 0)) v (enc b) as ∧ s1.heap.objs.size ∉ as) vs bs := each_add e fun b hb v r => by
    obtain ⟨as, z⟩ := hR b (inb b hb) v r
    refine ⟨as, Reads.keeps keep z, fun hm => ?_⟩
    obtain ⟨o, ho⟩ := reads_live _ _ _ (o3 _ (List.mem_map.mpr ⟨b, inb b hb, rfl⟩)).1 z _ hm
    exact absurd (Heap.lt_size (k1 _ _ ho)) (Nat.lt_irrefl _)
  refine wpAny_bind (wpAny_holding (list_sort_data (s := { s1 with heap := s1.heap.push (seqObj "list" vs.toArray 0) }) (R := R) (enc := enc) at_ e er (fun d hd d' hd' => o1 d (dat d hd) d' (dat d' hd')) (o2.imp (fun z d hd => z d (dat d hd)) fun z d hd => z d (dat d hd)) (by rw [pm.length_eq]; exact hL) (fun b hb => ?_) fun out l1 l2 => ?_))
  · have := (o3 _ (List.mem_map.mpr ⟨b, inb b hb, rfl⟩)).2
    simp only [Around.in1_units]
    omega
  · obtain ⟨n, hn⟩ := sortedHeap_at (vs := vs) (out := out.toArray) at_
    refine wpAny_pure ⟨_, rfl, h _ s1.heap.objs.size out n bs pm dd (fun b o q => ?_) k3 k4 k2 hn l2⟩
    have lt := Heap.lt_size (k1 b o q)
    show (sortedHeap (s1.heap.push (seqObj "list" vs.toArray 0)) s1.heap.objs.size vs out.toArray).get? b = some o
    rw [sortedHeap_old (Nat.ne_of_lt lt) (by rw [size_push']; exact Nat.lt_succ_of_lt lt)]
    exact keep b o q
end
/-! ### keys are told apart by their order -/
mutual
theorem key_one : ∀ k j : NestedKey, intK k = true → alike k.data j.data = true → PyData.eqv k.data j.data = true → k = j
  | .none, j, _, h, _ => by
    cases j <;> first | rfl | (simp only [NestedKey.data] at h; simp [alike] at h)
  | .num i, j, _, h, e => by
    cases j with
    | num x =>
      simp only [NestedKey.data, PyData.eqv, beq_iff_eq] at e
      rw [e]
    | _ => simp only [NestedKey.data] at h; simp [alike] at h
  | .text x, j, n, _, _ => by simp [intK] at n
  | .tup ks, j, n, h, e => by
    cases j with
    | tup js =>
      simp only [NestedKey.data, PyData.eqv] at e
      simp only [NestedKey.data, alike] at h
      rw [keys_one ks js (by simpa [intK] using n) h e]
    | _ => simp only [NestedKey.data] at h; simp [alike] at h
theorem keys_one : ∀ ks js : List NestedKey, intKs ks = true → alikeAll (NestedKey.datas ks) (NestedKey.datas js) = true → PyData.eqvAll (NestedKey.datas ks) (NestedKey.datas js) = true → ks = js
  | [], js, _, _, e => by
    cases js with
    | nil => rfl
    | cons j js => simp only [NestedKey.datas] at e; simp [PyData.eqvAll] at e
  | k :: ks, js, n, h, e => by
    cases js with
    | nil => simp only [NestedKey.datas] at e; simp [PyData.eqvAll] at e
    | cons j js =>
      simp only [intKs, Bool.and_eq_true] at n
      simp only [NestedKey.datas, alikeAll, Bool.and_eq_true] at h
      simp only [NestedKey.datas, PyData.eqvAll, Bool.and_eq_true] at e
      rw [key_one k j n.1 h.1 e.1, keys_one ks js n.2 h.2 e.2]
end
theorem leD_one {k j : NestedKey} (n : intK k = true) (h : alike k.data j.data = true) (h1 : leD k.data j.data = true) (h2 : leD j.data k.data = true) : k = j := by
  refine key_one k j n h ?_
  simp only [leD, Bool.not_eq_true'] at h1 h2
  have te : keyToks k.data = keyToks j.data := PyProof.Rows.lex_total _ _ h2 h1
  cases e : PyData.eqv k.data j.data with
  | true => rfl
  | false =>
    exfalso
    have z := (toks_eqv k.data j.data h).2 e [] [.inl 0]
    rw [te, List.append_nil, PyProof.Rows.lex_irrefl] at z
    have y := lex_pre (keyToks j.data) [] [.inl 0]
    rw [List.append_nil] at y
    rw [y] at z
    exact absurd z (by decide)
theorem leD_total {β : Type} (enc : β → PyData) : TotalLe (fun x y => leD (enc x) (enc y)) := sortLe_total (PyProof.Rows.listOrd PyProof.Rows.itemOrd) false fun b => keyToks (enc b)
theorem sort_perm {β : Type} {enc : β → PyData} {l m : List β} (pm : l.Perm m) (h : ∀ a ∈ m, ∀ b ∈ m, leD (enc a) (enc b) = true → leD (enc b) (enc a) = true → a = b) : l.mergeSort (fun x y => leD (enc x) (enc y)) = m.mergeSort (fun x y => leD (enc x) (enc y)) := by
  have p1 := List.mergeSort_perm l (fun x y => leD (enc x) (enc y))
  have p2 := List.mergeSort_perm m (fun x y => leD (enc x) (enc y))
  refine List.Perm.eq_of_pairwise (le := fun x y => leD (enc x) (enc y) = true) (fun a b ha hb h1 h2 => ?_) (sort_pairwise (leD_total enc) l) (sort_pairwise (leD_total enc) m) ((p1.trans pm).trans p2.symm)
  exact h a (pm.mem_iff.mp (p1.mem_iff.mp ha)) b (p2.mem_iff.mp hb) h1 h2

/-! ### over the layer -/
section
variable {X : Cx} {pins : List (Addr × Obj)} {σ : L2.St} {H : Hp} {s : Shared}
theorem vals_each {xs : List V} {us : List Value} : ∀ {ds : List PyData}, Vals xs us → xs.length = ds.length → EachIs (fun v (b : V × PyData) => RelV b.1 v) us (xs.zip ds) := by
  intro ds h
  induction h generalizing ds with
  | nil => intro _; exact .nil
  | cons r t ih =>
    intro hl
    cases ds with
    | nil => simp at hl
    | cons d ds => exact .cons r (ih (by simpa using hl))
theorem each_vals {β : Type} {f : β → V} : ∀ {us : List Value} {bs : List β}, EachIs (fun v b => RelV (f b) v) us bs → Vals (bs.map f) us
  | _, _, .nil => .nil
  | _, _, .cons r t => .cons r (each_vals t)
theorem dp_zip {K : PySem.W.Frag} {H : Hp} : ∀ {xs : List V} {ds : List PyData}, DpAll K H xs ds → ∀ p ∈ xs.zip ds, Dp K H p.1 p.2
  | _, _, .nil, p, hp => by cases hp
  | _, _, .cons h t, p, hp => by
    rcases List.mem_cons.mp hp with rfl | hp
    · exact h
    · exact dp_zip t p hp
theorem dp_len {K : PySem.W.Frag} {H : Hp} : ∀ {xs : List V} {ds : List PyData}, DpAll K H xs ds → xs.length = ds.length
  | _, _, .nil => rfl
  | _, _, .cons h t => by simp [dp_len t]
/-- the heap behind: all is kept, p is a new list -/
theorem inv_new {s2 : Shared} {p : Addr} {out : List Value} {n : Nat} {ys : List V} (I : Inv X pins σ H s) (k : ∀ b o, s.heap.get? b = some o → s2.heap.get? b = some o) (g : s2.gens = s.gens) (o : s2.os = s.os) (hp : s.heap.objs.size ≤ p) (hg : s2.heap.get? p = some (seqObj "list" out.toArray n)) (hv : Vals ys out) (hl : ys.length ≤ sizeLine) :
    Inv X pins σ (upd H p (.lst ys)) s2 := by
  have J : Inv X pins σ (upd H p (.lst ys)) { s with heap := s2.heap, gens := s2.gens, drawn := s2.drawn, toks := s2.toks } :=
    I.call (ch := []) (Un.laid k hp (I.hok.fresh hp)) (I.hok.laid k hp ⟨hl, out, n, hv, hg⟩) (by rw [g]; exact I.bare) (fun _ z => nomatch z)
  have e : s2 = { s with heap := s2.heap, gens := s2.gens, drawn := s2.drawn, toks := s2.toks } := by
    cases s2
    cases s
    cases o
    rfl
  rw [e]
  exact J
theorem perm_each {α β : Type} {f : β → α} : ∀ {vs : List α} {L : List β}, vs.Perm (L.map f) → ∃ bs, bs.Perm L ∧ EachIs (fun v b => v = f b) vs bs := by
  intro vs
  induction vs with
  | nil =>
    intro L pm
    have : L = [] := by simpa using pm.symm.eq_nil
    exact ⟨[], this ▸ .nil, .nil⟩
  | cons v vs ih =>
    intro L pm
    obtain ⟨b, hb, rfl⟩ := List.mem_map.mp (pm.mem_iff.mp (List.mem_cons_self (a := v) (l := vs)))
    obtain ⟨l, r, rfl⟩ := List.append_of_mem hb
    have p1 : vs.Perm ((l ++ r).map f) := by
      rw [List.map_append, List.map_cons] at pm
      rw [List.map_append]
      exact (pm.trans List.perm_middle).cons_inv
    obtain ⟨bs, p, e⟩ := ih p1
    exact ⟨b :: bs, (p.cons b).trans List.perm_middle.symm, .cons rfl e⟩
def rSortD (K : PySem.W.Frag) : List V → Hp → VK → Prop := fun vs H Q => ∃ (a : Addr) (xs : List V) (ds : List PyData), vs = [V.ref a] ∧ (SqL K H a xs ∨ SqT K H a xs) ∧ DpAll K H xs ds ∧ sortOk ds = true ∧
  ∀ p, H p = none → Q (.ref p) (upd H p (.lst (((xs.zip ds).mergeSort fun x y => leD x.2 y.2).map (·.1))))
theorem zip_snd {α β : Type} : ∀ {xs : List α} {ds : List β}, xs.length = ds.length → (xs.zip ds).map (·.2) = ds
  | [], [], _ => rfl
  | [], _ :: _, h => by simp at h
  | _ :: _, [], h => by simp at h
  | x :: xs, d :: ds, h => by simp [zip_snd (xs := xs) (ds := ds) (by simpa using h)]
theorem cr_sortD (hu : X.A.units + 80 < cLine) : CallR X (.builtin "sorted") (rSortD X.K) := by
  intro pins s σ H vs us Q I r h
  obtain ⟨a, xs, ds, rfl, hx, hd, hok, q⟩ := h
  rw [Vals.ref1 r]
  have hl := dp_len hd
  have src : ∃ (its : List Value) (o : Obj) (n : Nat) (T : String), Vals xs its ∧ (T = "list" ∨ T = "tuple") ∧ s.heap.get? a = some o ∧ o.cls = .type T ∧ o.data = .seq its.toArray n ∧ xs.length ≤ sizeLine := by
    rcases hx with hx | hx
    · obtain ⟨its, rv, pl, hz⟩ := I.list hx
      obtain ⟨o, ho, hc, n, hd⟩ := pl.isList
      exact ⟨its, o, n, _, rv, .inl rfl, ho, hc, hd, hz⟩
    · obtain ⟨its, rv, ⟨o, ho, hc, n, hd⟩, hz⟩ := I.tuple hx
      exact ⟨its, o, n, _, rv, .inr rfl, ho, hc, hd, hz⟩
  obtain ⟨its, o, n, T, rv, hT, ho, hc, hda, hz⟩ := src
  refine sorted_core (bs0 := xs.zip ds) (enc := (·.2)) (R := fun v b => RelV b.1 v) (C := fun vs => vs = its) (Dd := fun bs => bs = xs.zip ds) (fun Q' hQ => ?_) (fun vs e => ?_) (fun b hb v rb => Dp.reads I b.2 b.1 v (dp_zip hd b hb) rb) (by rw [zip_snd hl]; exact hok) (by rw [List.length_zip]; omega) hu fun s2 p out n bs pm dd k g o hp hg e => ?_
  · exact collect_seq hT ho hc hda (by rw [List.size_toArray, ← rv.length]; exact hz) fun s1 c => hQ s1 its c rfl
  · subst e
    exact ⟨_, List.Perm.refl _, rfl, vals_each rv hl⟩
  · subst dd
    have hv := each_vals (f := fun b : V × PyData => b.1) e
    refine ⟨.ref p, _, inv_new I k g o hp hg hv ?_, rfl, q p (I.hok.fresh hp)⟩
    rw [List.length_map, List.length_mergeSort, List.length_zip]
    omega
/-- .. of a set -/
def rSortK (K : PySem.W.Frag) (w : World) : List V → Hp → VK → Prop := fun vs H Q => ∃ (a : Addr) (L : List (Addr × NestedKey)), vs = [V.ref a] ∧ H a = some (SetO w a L) ∧ (∀ p ∈ L, KeyAt K H p) ∧ L.length < 4000 ∧ sortOk (L.map fun p => p.2.data) = true ∧
  ∀ p, H p = none → Q (.ref p) (upd H p (.lst ((L.mergeSort fun x y => leD x.2.data y.2.data).map fun p => .ref p.1)))
theorem cr_sortK (hc : X.calm = true) (hu : X.A.units + 80 < cLine) : CallR X (.builtin "sorted") (rSortK X.K X.w) := by
  intro pins s σ H vs us Q I r h
  obtain ⟨a, L, rfl, ha, hk, hf, hok, q⟩ := h
  rw [Vals.ref1 r]
  have nd := (I.hok a _ ha).1.nodup
  obtain ⟨L', es, ep, t, R, pm⟩ := setO_get I ha hk
  obtain ⟨o, ho, hex, hd⟩ := R.k.ob
  have one : ∀ p ∈ L, ∀ q ∈ L, leD p.2.data q.2.data = true → leD q.2.data p.2.data = true → p = q := fun p hp q hq h1 h2 => by
    have al := (sortOk_is hok).1 _ (List.mem_map.mpr ⟨p, hp, rfl⟩) _ (List.mem_map.mpr ⟨q, hq, rfl⟩)
    have e := leD_one (hk p hp).whole al h1 h2
    obtain ⟨i, hi, ei⟩ := List.mem_iff_getElem.mp hp
    obtain ⟨j, hj, ej⟩ := List.mem_iff_getElem.mp hq
    have : i = j := (List.getElem_inj (h₀ := by simpa using hi) (h₁ := by simpa using hj) nd).mp (by simp [ei, ej, e])
    subst this
    rw [← ei, ← ej]
  refine sorted_core (bs0 := L) (enc := (·.2.data)) (R := fun v b => v = .ref b.1) (C := fun vs => vs.Perm (L'.map fun p => Value.ref p.1)) (Dd := fun _ => True) (fun Q' hQ => ?_) (fun vs e => ?_) (fun b hb v rb => ?_) hok (by rw [sizeLine_eq]; omega) hu fun s2 p out n bs pm2 _ k g o hp hg e => ?_
  · refine collect_set (A := X.A.in1) (I.ok.hd hc) ⟨o, ho, hex.1, hd⟩ R.k.fits (by have := R.k.size; have := pm.length_eq; unfold scanBound; omega) R.k.tab.asc R.k.led fun s1 vs k1 hz g1 o1 pm1 => hQ s1 vs ⟨k1, hz, g1, o1⟩ ?_
    rw [R.k.rows] at pm1
    simpa [rowsK, Function.comp_def] using pm1
  · obtain ⟨bs, p1, p2⟩ := perm_each e
    exact ⟨bs, p1.trans pm, trivial, p2⟩
  · subst rb
    exact Dp.reads I _ _ (.ref b.1) (hk b hb).d rfl
  · have e2 := sort_perm (enc := fun p : Addr × NestedKey => p.2.data) pm2 one
    rw [e2] at e
    have hv := each_vals (f := fun b : Addr × NestedKey => V.ref b.1) e
    refine ⟨.ref p, _, inv_new I k g o hp hg hv ?_, rfl, q p (I.hok.fresh hp)⟩
    rw [List.length_map, List.length_mergeSort, sizeLine_eq]
    omega
end
end MX
end

section
set_option maxRecDepth 100000
set_option maxHeartbeats 2000000
/-! MX14: set(xs) of ints, over the layer; either of two rules. -/
namespace MX
open PySem PySem.Spec PyProof.Rows L2 PySem.W
section
variable {X : Cx}
theorem CallR.or {f : Value} {r r' : List V → Hp → VK → Prop} (h : CallR X f r) (h' : CallR X f r') : CallR X f (fun xs H Q => r xs H Q ∨ r' xs H Q) := by
  intro pins s σ H xs us Q I rv hh
  rcases hh with z | z
  · exact h pins s σ H xs us Q I rv z
  · exact h' pins s σ H xs us Q I rv z
/-- the number of members -/
theorem setR_many {w : World} {h : Heap} {a : Addr} {S : Int → Bool} {n : Nat} (R : SetR w h a S n) {js : List Int} (nd : js.Nodup) (hm : ∀ j, j ∈ js ↔ S j = true) : n = js.length := by
  obtain ⟨o, es, ep, t, ho, hex, hd, g, nd2, hm2, hb, hf, hn, hr, hl⟩ := R
  have pm : js.Perm (es.toList.map L2.keyOf) := (List.perm_ext_iff_of_nodup nd nd2).mpr fun j => (hm j).trans (hm2 j)
  have e := pm.length_eq
  rw [List.length_map, Array.length_toList] at e
  exact hn.symm.trans e.symm
def rSetI (K : PySem.W.Frag) (w : World) : List V → Hp → VK → Prop := fun xs H Q => ∃ (l : Addr) (is js : List Int), xs = [V.ref l] ∧ (SqL K H l (is.map V.int) ∨ SqT K H l (is.map V.int)) ∧ is.length + 1 < scanBound ∧ js.Nodup ∧ (∀ j, j ∈ js ↔ j ∈ is) ∧
  ∀ a, H a = none → Q (.ref a) (upd H a (L2.SetO w a (fun j => decide (j ∈ js)) js.length))
theorem cr_setI (hc : X.calm = true) (hu : X.A.units + 16 < cLine) : CallR X (.type "set") (rSetI X.K X.w) := by
  intro pins s σ H xs us Q I r h
  obtain ⟨l, is, js, rfl, hl, hf, nd, hm, q⟩ := h
  rw [Vals.ref1 r]
  have src : ∃ its : List Value, IntsAre its is ∧ (s.heap.IsList l its.toArray ∨ s.heap.IsTuple l its.toArray) := by
    rcases hl with hl | hl
    · obtain ⟨its, rv, pl, hz⟩ := I.list hl
      exact ⟨its, by simpa using rv.ints, .inl pl.isList⟩
    · obtain ⟨its, rv, ht, hz⟩ := I.tuple hl
      exact ⟨its, by simpa using rv.ints, .inr ht⟩
  obtain ⟨its, e, hl⟩ := src
  refine call_setI (P := X.prog) (w := X.w) is (I.ok.hd hc) hl (by simpa using e) hf hu fun h' tk c R k => ?_
  have em : (fun j => decide (j ∈ is)) = fun j => decide (j ∈ js) := funext fun j => by simp only [hm j]
  rw [em] at R
  have ec := setR_many R nd (fun j => by simp)
  subst ec
  exact ⟨.ref s.heap.objs.size, _, I.laid (t' := tk) k (Nat.le_refl _) (L2.setO_new R), rfl, q _ (I.hok.fresh (Nat.le_refl _))⟩
end
end MX
end

section
set_option maxRecDepth 100000
set_option maxHeartbeats 4000000
/-! MX15: tuple * 1, tuple * 0. -/
namespace MX
open PySem PySem.Spec PyProof.Rows L2
theorem tuple_mul1 (l : Addr) (items : Array Value) (n : Nat) (dd : Option Addr) (sl : Array (Option Value)) (u : Tok) :
    Meets (Builtin.«tuple.__mul__» ⟨[.ref l, .int 1 u], []⟩) (fun _ R s => s.heap.get? l = some { cls := .type "tuple", dict := dd, data := .seq items n, slots := sl } ∧ R (.ok (.ret (Value.ref l))) s) :=
  .of_wp fun prog w A R s h => by
    obtain ⟨hp, g, d, tk, os⟩ := s
    obtain ⟨hl, h⟩ := h
    have f1 := AutoSeq1.idx_int
    have c1 : (items.isEmpty || (1 : Int) == 1) = true := by simp
    wp_walk using wpAny_loadPart' hl
    repeat (first
      | (refine wpAny_ite_true (by first | exact c1 | decide | simp) ?_; wp_walk using wpAny_loadPart' hl)
      | (refine wpAny_ite_false (by first | decide | simp) ?_; wp_walk using wpAny_loadPart' hl))
    exact ⟨_, rfl, h⟩
theorem tuple_mul0 (l : Addr) (items : Array Value) (n : Nat) (dd : Option Addr) (sl : Array (Option Value)) (u : Tok) (hne : items.isEmpty = false) :
    Meets (Builtin.«tuple.__mul__» ⟨[.ref l, .int 0 u], []⟩) (fun _ R s => s.heap.get? l = some { cls := .type "tuple", dict := dd, data := .seq items n, slots := sl } ∧
      R (.ok (.ret (Value.ref s.heap.objs.size))) { s with heap := s.heap.push { cls := Value.type "tuple", data := Data.seq #[] }, toks := s.toks }) :=
  .of_wp fun prog w A R s h => by
    obtain ⟨hp, g, d, tk, os⟩ := s
    obtain ⟨hl, h⟩ := h
    have f1 := AutoSeq1.idx_int
    have c1 : ¬ (items.isEmpty || (0 : Int) == 1) = true := by rw [hne]; decide
    wp_walk using wpAny_loadPart' hl
    repeat (first
      | (refine wpAny_ite_false (by first | exact c1 | decide) ?_; wp_walk using wpAny_loadPart' hl)
      | (refine wpAny_ite_true (by first | decide | simp) ?_; wp_walk using wpAny_loadPart' hl))
    exact ⟨_, rfl, h⟩
def rRep01 (K : PySem.W.Frag) : R2 := fun x y H Q => ∃ l k xs, x = .ref l ∧ y = .int k ∧ SqT K H l xs ∧ ((k = 1 ∧ Q (.ref l) H) ∨ (k = 0 ∧ xs ≠ [] ∧ ∀ p, H p = none → Q (.ref p) (upd H p (.tup []))))
theorem op_rep01 {X : Cx} : OpR X (binaryOp .Mult) (rRep01 X.K) := by
  intro pins s σ H x y v u Q I rx ry h
  obtain ⟨l, k, xs, rfl, rfl, hT, h⟩ := h
  cases rx
  obtain ⟨t, rfl⟩ := ry
  obtain ⟨its, r, ⟨⟨cls, dd, data, sl⟩, ho, hc, n, hd⟩, hs⟩ := I.tuple hT
  simp only at hc hd
  subst hc hd
  have hle : its.length = xs.length := r.length.symm
  refine wpAny_binaryOp_repeat_ref (T := "tuple") (U := "int") (by decide) ⟨_, ho, rfl⟩ (fun s' => typeIs_int s' k t) noFill_tuple_mul F.fills_int_mul F.slot_int_rmul repeat_tuple F.slot_int_index.lookup
    (call_meets F.slot_int_rmul (typeIs_int s k t) F.entry_int_rmul (F.args_int_rmul_2 _ _) (int_rmul_tuple k t l its.toArray n dd sl) ⟨ho, rfl, ⟨_, ho, rfl⟩, ?_⟩)
  rcases h with ⟨rfl, q⟩ | ⟨rfl, hne, q⟩
  · exact call_meets F.slot_tuple_mul ⟨_, ho, rfl⟩ F.entry_tuple_mul (F.args_tuple_mul_2 _ _) (tuple_mul1 l its.toArray n dd sl t) ⟨ho, .ref l, H, I.tok _, rfl, q⟩
  · have hi : its.toArray.isEmpty = false := by
      cases its with
      | nil =>
        have : xs = [] := List.eq_nil_of_length_eq_zero hle.symm
        exact absurd this hne
      | cons a b => rfl
    refine call_meets F.slot_tuple_mul ⟨_, ho, rfl⟩ F.entry_tuple_mul (F.args_tuple_mul_2 _ _) (tuple_mul0 l its.toArray n dd sl t hi) ⟨ho, ?_⟩
    refine ⟨.ref s.heap.objs.size, _, I.laid (t' := s.toks) (o := .tup []) (fun b ob q => Heap.get?_push_of_some _ q) (Nat.le_refl _) ?_, rfl, q _ (I.hok.fresh (Nat.le_refl _))⟩
    exact ⟨by simp, [], .nil, IsTup.new _ _⟩
end MX
end

section
set_option maxRecDepth 100000
set_option maxHeartbeats 1000000
/-! MP: a small Python by values. D: a value (tuples, lists that are never changed again: by content; lists that may change: a number in the small heap).
  SE, ST, SS: an expression, a test, a block does what a plain function does. -/
namespace MP
open PySem PySem.Spec PyProof.Rows L2
/-- the world that the law runs in; the tables of code objects that grow -/
class WW where
  w : World
  T : List NdefX.NTab

inductive D where
  | non | bl (b : Bool) | int (i : Int) | str (x : Str) | tup (xs : List D) | lst (xs : List D) | scr (xs : List D) | obj (i : Nat) | err (c : Nat) (ns : List Str) (xs : List D) | xcp (t : Nat × Option Nat) (c : Nat) (ns : List Str) (xs : List D) | set (xs : List D) | ist (is : List Int) | dic0
  deriving Inhabited

mutual
def D.beq : D → D → Bool
  | .non, .non => true
  | .bl a, .bl b => a == b
  | .int a, .int b => a == b
  | .str a, .str b => decide (a = b)
  | .tup a, .tup b => D.beqs a b
  | .lst a, .lst b => D.beqs a b
  | .scr a, .scr b => D.beqs a b
  | .obj a, .obj b => a == b
  | .err c n a, .err d k b => (c == d && decide (n = k)) && D.beqs a b
  | .xcp t c n a, .xcp u d k b => (decide (t = u) && (c == d && decide (n = k))) && D.beqs a b
  | .set a, .set b => D.beqs a b
  | .ist a, .ist b => decide (a = b)
  | .dic0, .dic0 => true
  | _, _ => false
def D.beqs : List D → List D → Bool
  | [], [] => true
  | a :: as, b :: bs => D.beq a b && D.beqs as bs
  | _, _ => false
end
mutual
theorem D.beq_eq : ∀ {a b : D}, D.beq a b = true → a = b
  | .non, b, h => by cases b <;> simp_all [D.beq]
  | .bl a, b, h => by cases b <;> simp_all [D.beq]
  | .int a, b, h => by cases b <;> simp_all [D.beq]
  | .str a, b, h => by cases b <;> simp_all [D.beq]
  | .tup a, b, h => by
    cases b with
    | tup b => rw [D.beqs_eq (a := a) (b := b) (by simpa [D.beq] using h)]
    | _ => simp [D.beq] at h
  | .lst a, b, h => by
    cases b with
    | lst b => rw [D.beqs_eq (a := a) (b := b) (by simpa [D.beq] using h)]
    | _ => simp [D.beq] at h
  | .scr a, b, h => by
    cases b with
    | scr b => rw [D.beqs_eq (a := a) (b := b) (by simpa [D.beq] using h)]
    | _ => simp [D.beq] at h
  | .obj a, b, h => by cases b <;> simp_all [D.beq]
  | .err c n a, b, h => by
    cases b with
    | err d k b =>
      have h' : (c = d ∧ n = k) ∧ D.beqs a b = true := by simpa [D.beq] using h
      rw [h'.1.1, h'.1.2, D.beqs_eq (a := a) (b := b) h'.2]
    | _ => simp [D.beq] at h
  | .xcp t c n a, b, h => by
    cases b with
    | xcp u d k b =>
      have h' : (t = u ∧ c = d ∧ n = k) ∧ D.beqs a b = true := by simpa only [D.beq, Bool.and_eq_true, decide_eq_true_eq, beq_iff_eq] using h
      rw [h'.1.1, h'.1.2.1, h'.1.2.2, D.beqs_eq (a := a) (b := b) h'.2]
    | _ => simp [D.beq] at h
  | .set a, b, h => by
    cases b with
    | set b => rw [D.beqs_eq (a := a) (b := b) (by simpa [D.beq] using h)]
    | _ => simp [D.beq] at h
  | .ist a, b, h => by cases b <;> simp_all [D.beq]
  | .dic0, b, h => by cases b <;> simp_all [D.beq]
theorem D.beqs_eq : ∀ {a b : List D}, D.beqs a b = true → a = b
  | [], b, h => by cases b <;> simp_all [D.beqs]
  | x :: xs, b, h => by
    cases b with
    | nil => simp [D.beqs] at h
    | cons y ys =>
      have h' : D.beq x y = true ∧ D.beqs xs ys = true := by simpa [D.beqs] using h
      rw [D.beq_eq h'.1, D.beqs_eq h'.2]
end
mutual
theorem D.beq_refl : ∀ (a : D), D.beq a a = true
  | .non => by simp [D.beq]
  | .bl a => by simp [D.beq]
  | .int a => by simp [D.beq]
  | .str a => by simp [D.beq]
  | .tup a => by simp [D.beq, D.beqs_refl a]
  | .lst a => by simp [D.beq, D.beqs_refl a]
  | .scr a => by simp [D.beq, D.beqs_refl a]
  | .obj a => by simp [D.beq]
  | .err c n a => by simp [D.beq, D.beqs_refl a]
  | .xcp t c n a => by simp [D.beq, D.beqs_refl a]
  | .set a => by simp [D.beq, D.beqs_refl a]
  | .ist a => by simp [D.beq]
  | .dic0 => by simp [D.beq]
theorem D.beqs_refl : ∀ (a : List D), D.beqs a a = true
  | [] => by simp [D.beqs]
  | x :: xs => by simp [D.beqs, D.beq_refl x, D.beqs_refl xs]
end
mutual
/-- as a key of a set: ints and None and tuples of such -/
def D.key : D → Option NestedKey
  | .non => some .none
  | .int i => some (.num i)
  | .tup xs => match D.keys xs with
    | some ks => some (.tup ks)
    | none => none
  | _ => none
def D.keys : List D → Option (List NestedKey)
  | [] => some []
  | x :: xs => match D.key x, D.keys xs with
    | some k, some ks => some (k :: ks)
    | _, _ => none
end

/-- an error of one of the program's own classes: its class's name, its fields -/
structure Exc where
  cls : Nat
  ns : List Str
  xs : List D

/-- the small heap: lists that may change -/
abbrev EH := List (List D)
abbrev Ev := List (Option D)
inductive Res (α : Type) where
  | val (a : α)
  | exc (e : Exc)
inductive Fl where
  | nxt | brk | cnt | ret (d : D) | exc (e : Exc)
/-- what an expression does; a test; a block -/
abbrev FE := Ev → EH → Option (Res D × EH)
abbrev FT := Ev → EH → Option (Res Bool × EH)
abbrev FA := Ev → EH → Option (Res (List D) × EH)
abbrev FS := Ev → EH → Option (Fl × Ev × EH)
/-- what a def does -/
abbrev FF := List D → EH → Option (Res D × EH)

/-- where the function stands that a def has got, in which of its slots, what must be known of the plain world -/
class FV where
  fv : Addr
  slots : List Nat
  need : Hp → List Addr → Prop
  mono : ∀ F F' m m', Same F F' → m <+: m' → need F m → need F' m'

/-! ### how the values stand in the heap: F the lists and tuples that are never changed again, m where the lists that may change stand -/
variable [WW]
mutual
inductive Dn (K : PySem.W.Frag) (F : Hp) (m : List Addr) : V → D → Prop
  | non : Dn K F m .non .non
  | bl (b : Bool) : Dn K F m (.bl b) (.bl b)
  | int (i : Int) : Dn K F m (.int i) (.int i)
  | str (x : Str) : Dn K F m (.str x) (.str x)
  | tup {a : Addr} {vs : List V} {ds : List D} : SqT K F a vs → Dns K F m vs ds → Dn K F m (.ref a) (.tup ds)
  | lst {a : Addr} {vs : List V} {ds : List D} : F a = some (.lst vs) → Dns K F m vs ds → Dn K F m (.ref a) (.lst ds)
  | scr {a : Addr} {vs : List V} {ds : List D} : SqL K F a vs → Dns K F m vs ds → Dn K F m (.ref a) (.scr ds)
  | obj {a : Addr} {i : Nat} : m[i]? = some a → Dn K F m (.ref a) (.obj i)
  | err {a C dx : Addr} {fs : List (Str × V)} {ns : List Str} {ds : List D} : F a = some (exo a C (some dx)) → F dx = some (exd dx fs) → (MX.EC K C ∧ ∀ g ∈ ns, PySem.W.findIn K (.ref C) g = some none) → fs.map (·.1) = ns → Dns K F m (fs.map (·.2)) ds → Dn K F m (.ref a) (.err C ns ds)
  | xcp {a C d : Addr} {fs : List (Str × V)} {ns : List Str} {ds : List D} : F d = some (.xd fs) → (ExcC K C ∧ ∀ g ∈ ns, PySem.W.findIn K (.ref C) g = some none) → fs.map (·.1) = ns → Dns K F m (fs.map (·.2)) ds → Dn K F m (.ref a) (.xcp (a, some d) C ns ds)
  | xc0 {a C : Addr} : ExcC K C → Dn K F m (.ref a) (.xcp (a, none) C [] [])
  | er0 {a C : Addr} : F a = some (exo a C none) → ExcC K C → Dn K F m (.ref a) (.err C [] [])
  | set {a : Addr} {L : List (Addr × NestedKey)} {ds : List D} : F a = some (MX.SetO WW.w a L) → D.keys ds = some (L.map (·.2)) → (∀ p ∈ L, p.2.depth ≤ 8 ∧ MX.intK p.2 = true) → Dns K F m (L.map fun p => V.ref p.1) ds → Dn K F m (.ref a) (.set ds)
  | ist {a : Addr} {is : List Int} : F a = some (L2.SetO WW.w a (fun i => decide (i ∈ is)) is.length) → is.Nodup → Dn K F m (.ref a) (.ist is)
  | dic0 {a : Addr} : F a = some (.dK []) → Dn K F m (.ref a) .dic0
inductive Dns (K : PySem.W.Frag) (F : Hp) (m : List Addr) : List V → List D → Prop
  | nil : Dns K F m [] []
  | cons {v : V} {vs : List V} {d : D} {ds : List D} : Dn K F m v d → Dns K F m vs ds → Dns K F m (v :: vs) (d :: ds)
end

section
variable {K : PySem.W.Frag} {F F' : Hp} {m m' : List Addr}
theorem SqL.mono {a : Addr} {xs : List V} (e : Same F F') (h : SqL K F a xs) : SqL K F' a xs := e.seq h
theorem SqT.mono {a : Addr} {xs : List V} (e : Same F F') (h : SqT K F a xs) : SqT K F' a xs := by
  rcases h with (h | ⟨o, h⟩) | h
  · exact .inl (.inl (e _ _ h))
  · exact .inl (.inr ⟨o, e _ _ h⟩)
  · exact .inr h
theorem pre_get {α : Type} {m m' : List α} {i : Nat} {a : α} (p : m <+: m') (h : m[i]? = some a) : m'[i]? = some a := by
  obtain ⟨t, rfl⟩ := p
  rw [List.getElem?_append_left (List.getElem?_eq_some_iff.mp h).1]
  exact h
mutual
theorem Dn.mono (e : Same F F') (p : m <+: m') : ∀ {d : D} {v : V}, Dn K F m v d → Dn K F' m' v d
  | .non, _, h => by cases h; exact .non
  | .bl b, _, h => by cases h; exact .bl b
  | .int i, _, h => by cases h; exact .int i
  | .str i, _, h => by cases h; exact .str i
  | .tup ds, _, h => by
    cases h with
    | tup h1 h2 => exact .tup (SqT.mono e h1) (Dns.mono e p h2)
  | .lst ds, _, h => by
    cases h with
    | lst h1 h2 => exact .lst (e _ _ h1) (Dns.mono e p h2)
  | .scr ds, _, h => by
    cases h with
    | scr h1 h2 => exact .scr (SqL.mono e h1) (Dns.mono e p h2)
  | .obj i, _, h => by
    cases h with
    | obj h1 => exact .obj (pre_get p h1)
  | .err c n ds, _, h => by
    cases h with
    | err h1 h2 h3 h4 h5 => exact .err (e _ _ h1) (e _ _ h2) h3 h4 (Dns.mono e p h5)
    | er0 h1 h2 => exact .er0 (e _ _ h1) h2
  | .xcp t c n ds, _, h => by
    cases h with
    | xcp h2 h3 h4 h5 => exact .xcp (e _ _ h2) h3 h4 (Dns.mono e p h5)
    | xc0 h1 => exact .xc0 h1
  | .set ds, _, h => by
    cases h with
    | set h1 h2 h3 h4 => exact .set (e _ _ h1) h2 h3 (Dns.mono e p h4)
  | .ist is, _, h => by
    cases h with
    | ist h1 h2 => exact .ist (e _ _ h1) h2
  | .dic0, _, h => by
    cases h with
    | dic0 h1 => exact .dic0 (e _ _ h1)
theorem Dns.mono (e : Same F F') (p : m <+: m') : ∀ {ds : List D} {vs : List V}, Dns K F m vs ds → Dns K F' m' vs ds
  | [], _, h => by cases h; exact .nil
  | d :: ds, _, h => by
    cases h with
    | cons h1 h2 => exact .cons (Dn.mono e p h1) (Dns.mono e p h2)
end
theorem Dns.length : ∀ {vs : List V} {ds : List D}, Dns K F m vs ds → vs.length = ds.length
  | _, [], h => by cases h; rfl
  | _, d :: ds, h => by
    cases h with
    | cons h1 h2 => simp [Dns.length h2]
theorem Dns.get : ∀ {vs : List V} {ds : List D} {i : Nat} {d : D}, Dns K F m vs ds → ds[i]? = some d → ∃ v, vs[i]? = some v ∧ Dn K F m v d
  | _, [], i, d, h, e => by simp at e
  | _, d :: ds, i, d', h, e => by
    cases h with
    | cons h1 h2 =>
      cases i with
      | zero => simp at e; subst e; exact ⟨_, rfl, h1⟩
      | succ i =>
        obtain ⟨v, q1, q2⟩ := Dns.get (i := i) h2 (by simpa using e)
        exact ⟨v, by simpa using q1, q2⟩
theorem Dns.getV : ∀ {vs : List V} {ds : List D} {i : Nat} {v : V}, Dns K F m vs ds → vs[i]? = some v → ∃ d, ds[i]? = some d ∧ Dn K F m v d
  | _, [], i, d, h, e => by cases h; simp at e
  | _, d :: ds, i, d', h, e => by
    cases h with
    | cons h1 h2 =>
      cases i with
      | zero => simp at e; subst e; exact ⟨_, rfl, h1⟩
      | succ i =>
        obtain ⟨v, q1, q2⟩ := Dns.getV (i := i) h2 (by simpa using e)
        exact ⟨v, by simpa using q1, q2⟩
theorem Dns.append : ∀ {vs ws : List V} {ds es : List D}, Dns K F m vs ds → Dns K F m ws es → Dns K F m (vs ++ ws) (ds ++ es)
  | _, _, [], _, h, q => by cases h; exact q
  | _, _, d :: ds, _, h, q => by
    cases h with
    | cons h1 h2 => exact .cons h1 (Dns.append h2 q)
theorem Dns.take (n : Nat) : ∀ {vs : List V} {ds : List D}, Dns K F m vs ds → Dns K F m (vs.take n) (ds.take n) := by
  induction n with
  | zero => intro vs ds h; exact .nil
  | succ n ih =>
    intro vs ds h
    cases h with
    | nil => exact .nil
    | cons h1 h2 => exact .cons h1 (ih h2)
theorem Dns.drop (n : Nat) : ∀ {vs : List V} {ds : List D}, Dns K F m vs ds → Dns K F m (vs.drop n) (ds.drop n) := by
  induction n with
  | zero => intro vs ds h; exact h
  | succ n ih =>
    intro vs ds h
    cases h with
    | nil => exact .nil
    | cons h1 h2 => exact ih h2
theorem Dns.set (n : Nat) {v : V} {d : D} (q : Dn K F m v d) : ∀ {vs : List V} {ds : List D}, Dns K F m vs ds → Dns K F m (vs.set n v) (ds.set n d) := by
  induction n with
  | zero =>
    intro vs ds h
    cases h with
    | nil => exact .nil
    | cons h1 h2 => exact .cons q h2
  | succ n ih =>
    intro vs ds h
    cases h with
    | nil => exact .nil
    | cons h1 h2 => exact .cons h1 (ih h2)
theorem Dns.reverse {vs : List V} {ds : List D} (h : Dns K F m vs ds) : Dns K F m vs.reverse ds.reverse := by
  induction ds generalizing vs with
  | nil => cases h; exact .nil
  | cons d ds ih =>
    cases h with
    | cons h1 h2 =>
      rw [List.reverse_cons, List.reverse_cons]
      exact Dns.append (ih h2) (.cons h1 .nil)
theorem Dns.rep {vs : List V} {ds : List D} (h : Dns K F m vs ds) : ∀ k : Nat, Dns K F m (List.replicate k vs).flatten (List.replicate k ds).flatten
  | 0 => .nil
  | k + 1 => by
    rw [List.replicate_succ, List.replicate_succ, List.flatten_cons, List.flatten_cons]
    exact Dns.append h (Dns.rep h k)
theorem Dns.one {v : V} {d : D} (h : Dn K F m v d) : Dns K F m [v] [d] := .cons h .nil
end

/-- the small heap stands in the heap -/
structure R (K : PySem.W.Frag) (F : Hp) (m : List Addr) (H : Hp) (hp : EH) : Prop where
  sub : Same F H
  len : m.length = hp.length
  nod : m.Nodup
  fre : ∀ a, a ∈ m → F a = none
  obj : ∀ (i : Nat) (a : Addr) (ds : List D), m[i]? = some a → hp[i]? = some ds → ∃ vs, H a = some (.lst vs) ∧ Dns K F m vs ds
  tab : NdefX.TabsN WW.T H
  ntb : ∀ a ps, F a ≠ some (.tbl ps)
/-- the names -/
structure En [FV] (K : PySem.W.Frag) (F : Hp) (m : List Addr) (σ : L2.St) (env : Ev) : Prop where
  len : env.length = σ.length
  get : ∀ (i : Nat) (d : D), env[i]? = some (some d) → ∃ v, σ[i]? = some (some v) ∧ Dn K F m v d
  fn : ∀ i ∈ FV.slots, env[i]? = some none → σ[i]? = some (some (.ref FV.fv))
  nd : FV.need F m
/-- what happens between two moments -/
structure Nx (F : Hp) (m : List Addr) (H : Hp) (F' : Hp) (m' : List Addr) (H' : Hp) : Prop where
  fz : Same F F'
  pre : m <+: m'
  kp : ∀ a o, H a = some o → a ∉ m → (∀ ps, o ≠ .tbl ps) → H' a = some o
  nw : ∀ a, a ∈ m' → a ∈ m ∨ H a = none
  nf : ∀ a o, F' a = some o → F a = some o ∨ H a = none ∨ ∃ q, o = LamX.CodeO a q
  tr : ∀ a o, H a = some o → ∃ o', H' a = some o'
section
variable {K : PySem.W.Frag} {F F' F1 F2 : Hp} {m m' m1 m2 : List Addr} {H H' H1 H2 : Hp} {hp hp' : EH} {σ : L2.St} {env : Ev}
theorem Nx.refl : Nx F m H F m H := ⟨Same.refl _, List.prefix_refl _, fun _ _ h _ _ => h, fun _ h => .inl h, fun _ _ h => .inl h, fun _ o h => ⟨o, h⟩⟩
theorem pre_mem {α : Type} {m m' : List α} (p : m <+: m') {a : α} (h : a ∈ m) : a ∈ m' := by
  obtain ⟨t, rfl⟩ := p
  exact List.mem_append_left _ h
theorem R.there {a : Addr} (r : R K F m H hp) (h : a ∈ m) : ∃ vs, H a = some (.lst vs) := by
  obtain ⟨i, hi, e⟩ := List.mem_iff_getElem.mp h
  have h1 : m[i]? = some a := by rw [List.getElem?_eq_getElem hi, e]
  have h2 : i < hp.length := by rw [← r.len]; exact hi
  obtain ⟨vs, q, _⟩ := r.obj i a hp[i] h1 (List.getElem?_eq_getElem h2)
  exact ⟨vs, q⟩
theorem Nx.trans (a : Nx F m H F1 m1 H1) (b : Nx F1 m1 H1 F2 m2 H2) : Nx F m H F2 m2 H2 where
  fz := a.fz.trans b.fz
  pre := a.pre.trans b.pre
  kp := fun c o e n t => b.kp c o (a.kp c o e n t) (fun q => by
    rcases a.nw c q with z | z
    · exact n z
    · rw [z] at e; cases e) t
  nw := fun c q => by
    rcases b.nw c q with z | z
    · exact a.nw c z
    · cases e : H c with
      | none => exact .inr rfl
      | some o =>
        obtain ⟨o', q⟩ := a.tr c o e
        rw [q] at z; cases z
  nf := fun c o q => by
    rcases b.nf c o q with z | z | z
    · exact a.nf c o z
    · cases e : H c with
      | none => exact .inr (.inl rfl)
      | some o =>
        obtain ⟨o', q⟩ := a.tr c o e
        rw [q] at z; cases z
    · exact .inr (.inr z)
  tr := fun c o e => by
    obtain ⟨o', q⟩ := a.tr c o e
    exact b.tr c o' q
theorem tabs_new {a : Addr} {o : HO} (t : NdefX.TabsN WW.T H) (hn : H a = none) : NdefX.TabsN WW.T (upd H a o) := t.ext fun b u e => by rw [upd_ne (ne_of_none e hn)]; exact e
theorem tabs_write {a : Addr} {vs ws : List V} (t : NdefX.TabsN WW.T H) (ha : H a = some (.lst vs)) : NdefX.TabsN WW.T (upd H a (.lst ws)) := fun p hp => by
  obtain ⟨ps, h1, h2, h3⟩ := t p hp
  refine ⟨ps, by rw [upd_ne (ne_of h1 ha (by simp))]; exact h1, h2, fun pos cv hc => ?_⟩
  obtain ⟨c, e1, e2⟩ := h3 pos cv hc
  exact ⟨c, e1, by rw [upd_ne (ne_of e2 ha (by unfold LamX.CodeO; simp))]; exact e2⟩
/-- a new thing that is never changed again -/
theorem R.fresh {a : Addr} {o : HO} (r : R K F m H hp) (hn : H a = none) (no : ∀ ps, o ≠ .tbl ps := by intro ps z; cases z) : R K (upd F a o) m (upd H a o) hp ∧ Nx F m H (upd F a o) m (upd H a o) := by
  have fn : F a = none := r.sub.free hn
  have s1 : Same F (upd F a o) := fun b x e => by rw [upd_ne (ne_of_none e fn)]; exact e
  have nm : ∀ b, b ∈ m → b ≠ a := fun b hb => by
    obtain ⟨vs, q⟩ := r.there hb
    exact ne_of_none q hn
  refine ⟨⟨fun b x e => ?_, r.len, r.nod, fun b hb => ?_, fun i b ds h1 h2 => ?_, tabs_new r.tab hn, fun b ps e => ?_⟩, ⟨s1, List.prefix_refl _, fun b x e _ _ => ?_, fun _ h => .inl h, fun b x e => ?_, fun b x e => ⟨x, ?_⟩⟩⟩
  · by_cases hb : b = a
    · subst hb; rw [upd_same] at e ⊢; exact e
    · rw [upd_ne hb] at e ⊢; exact r.sub _ _ e
  · rw [upd_ne (nm b hb)]; exact r.fre b hb
  · obtain ⟨vs, q1, q2⟩ := r.obj i b ds h1 h2
    exact ⟨vs, by rw [upd_ne (ne_of_none q1 hn)]; exact q1, q2.mono s1 (List.prefix_refl _)⟩
  · by_cases hb : b = a
    · subst hb; rw [upd_same] at e; cases e; exact no ps rfl
    · rw [upd_ne hb] at e; exact r.ntb b ps e
  · rw [upd_ne (ne_of_none e hn)]; exact e
  · by_cases hb : b = a
    · subst hb; exact .inr (.inl hn)
    · rw [upd_ne hb] at e; exact .inl e
  · rw [upd_ne (ne_of_none e hn)]; exact e
/-- a new thing that nothing speaks of -/
theorem R.loose {a : Addr} {o : HO} (r : R K F m H hp) (hn : H a = none) : R K F m (upd H a o) hp ∧ Nx F m H F m (upd H a o) := by
  refine ⟨⟨fun b x e => ?_, r.len, r.nod, r.fre, fun i b ds h1 h2 => ?_, tabs_new r.tab hn, r.ntb⟩, ⟨Same.refl _, List.prefix_refl _, fun b x e _ _ => ?_, fun _ h => .inl h, fun _ _ h => .inl h, fun b x e => ⟨x, ?_⟩⟩⟩
  · rw [upd_ne (ne_of_none (r.sub _ _ e) hn)]; exact r.sub _ _ e
  · obtain ⟨vs, q1, q2⟩ := r.obj i b ds h1 h2
    exact ⟨vs, by rw [upd_ne (ne_of_none q1 hn)]; exact q1, q2⟩
  · rw [upd_ne (ne_of_none e hn)]; exact e
  · rw [upd_ne (ne_of_none e hn)]; exact e
/-- a new list that may change -/
theorem R.newobj {a : Addr} {vs : List V} {ds : List D} (r : R K F m H hp) (hn : H a = none) (hd : Dns K F m vs ds) :
    R K F (m ++ [a]) (upd H a (.lst vs)) (hp ++ [ds]) ∧ Nx F m H F (m ++ [a]) (upd H a (.lst vs)) := by
  have p : m <+: m ++ [a] := List.prefix_append _ _
  have nm : a ∉ m := fun q => by
    obtain ⟨vs, z⟩ := r.there q
    rw [hn] at z; cases z
  refine ⟨⟨fun b x e => ?_, by simp [r.len], ?_, fun b hb => ?_, fun i b es h1 h2 => ?_, tabs_new r.tab hn, r.ntb⟩, ⟨Same.refl _, p, fun b x e _ _ => ?_, fun b hb => ?_, fun _ _ h => .inl h, fun b x e => ⟨x, ?_⟩⟩⟩
  · rw [upd_ne (ne_of_none (r.sub _ _ e) hn)]; exact r.sub _ _ e
  · rw [List.nodup_append]
    refine ⟨r.nod, by simp, fun x hx y hy => ?_⟩
    rw [List.mem_singleton] at hy
    subst hy
    intro e
    subst e
    exact nm hx
  · rcases List.mem_append.mp hb with h | h
    · exact r.fre b h
    · rw [List.mem_singleton] at h; subst h; exact r.sub.free hn
  · by_cases hi : i < m.length
    · rw [List.getElem?_append_left hi] at h1
      rw [List.getElem?_append_left (by rw [← r.len]; exact hi)] at h2
      obtain ⟨us, q1, q2⟩ := r.obj i b es h1 h2
      exact ⟨us, by rw [upd_ne (ne_of_none q1 hn)]; exact q1, q2.mono (Same.refl _) p⟩
    · have e1 : i = m.length := by
        have := (List.getElem?_eq_some_iff.mp h1).1
        simp at this; omega
      subst e1
      rw [List.getElem?_append_right (Nat.le_refl _)] at h1
      rw [List.getElem?_append_right (by rw [r.len]; exact Nat.le_refl _)] at h2
      simp at h1
      have e2 : m.length - hp.length = 0 := by rw [r.len]; omega
      rw [e2] at h2
      simp at h2
      subst h1; subst h2
      exact ⟨vs, upd_same, hd.mono (Same.refl _) p⟩
  · rw [upd_ne (ne_of_none e hn)]; exact e
  · rcases List.mem_append.mp hb with h | h
    · exact .inl h
    · rw [List.mem_singleton] at h; subst h; exact .inr hn
  · rw [upd_ne (ne_of_none e hn)]; exact e
/-- a list that may change is changed -/
theorem R.write {i : Nat} {a : Addr} {vs : List V} {ds : List D} (r : R K F m H hp) (hi : m[i]? = some a) (hd : Dns K F m vs ds) :
    R K F m (upd H a (.lst vs)) (hp.set i ds) ∧ Nx F m H F m (upd H a (.lst vs)) := by
  have ha : a ∈ m := List.mem_of_getElem? hi
  refine ⟨⟨fun b x e => ?_, by simp [r.len], r.nod, r.fre, fun j b es h1 h2 => ?_, (r.there ha).elim fun ws q => tabs_write r.tab q, r.ntb⟩, ⟨Same.refl _, List.prefix_refl _, fun b x e n _ => ?_, fun _ h => .inl h, fun _ _ h => .inl h, fun b x e => ?_⟩⟩
  · have : b ≠ a := fun z => by subst z; rw [r.fre b ha] at e; cases e
    rw [upd_ne this]; exact r.sub _ _ e
  · by_cases hj : j = i
    · subst hj
      rw [hi] at h1; cases h1
      have hl : j < hp.length := by rw [← r.len]; exact (List.getElem?_eq_some_iff.mp hi).1
      rw [List.getElem?_set_self hl] at h2
      cases h2
      exact ⟨vs, upd_same, hd⟩
    · rw [List.getElem?_set_ne (Ne.symm hj)] at h2
      obtain ⟨us, q1, q2⟩ := r.obj j b es h1 h2
      have : b ≠ a := fun z => by
        subst z
        obtain ⟨l1, e1⟩ := List.getElem?_eq_some_iff.mp hi
        obtain ⟨l2, e2⟩ := List.getElem?_eq_some_iff.mp h1
        exact hj ((List.getElem_inj r.nod).mp (e2.trans e1.symm))
      exact ⟨us, by rw [upd_ne this]; exact q1, q2⟩
  · have : b ≠ a := fun z => by subst z; exact n ha
    rw [upd_ne this]; exact e
  · by_cases hb : b = a
    · subst hb; exact ⟨_, upd_same⟩
    · rw [upd_ne hb]; exact ⟨x, e⟩
/-- a list that nobody else knows (or a code object) is never changed again from now on -/
theorem R.freeze {F0 : Hp} {m0 : List Addr} {H0 : Hp} {a : Addr} {o : HO} (r : R K F m H hp) (n : Nx F0 m0 H0 F m H) (h : H a = some o) (hm : a ∉ m) (hf : F a = none) (h0 : H0 a = none ∨ ∃ q, o = LamX.CodeO a q) (no : ∀ ps, o ≠ .tbl ps := by intro ps z; cases z) :
    R K (upd F a o) m H hp ∧ Nx F0 m0 H0 (upd F a o) m H ∧ Same F (upd F a o) := by
  have s1 : Same F (upd F a o) := fun b x e => by rw [upd_ne (ne_of_none e hf)]; exact e
  refine ⟨⟨fun b x e => ?_, r.len, r.nod, fun b hb => ?_, fun i b ds h1 h2 => ?_, r.tab, fun b ps e => ?_⟩, ⟨n.fz.trans s1, n.pre, n.kp, n.nw, fun b x e => ?_, n.tr⟩, s1⟩
  · by_cases hb : b = a
    · subst hb; rw [upd_same] at e; cases e; exact h
    · rw [upd_ne hb] at e; exact r.sub _ _ e
  · rw [upd_ne (fun e => hm (by rw [← e]; exact hb))]; exact r.fre b hb
  · obtain ⟨vs, q1, q2⟩ := r.obj i b ds h1 h2
    exact ⟨vs, q1, q2.mono s1 (List.prefix_refl _)⟩
  · by_cases hb : b = a
    · subst hb; rw [upd_same] at e; cases e; exact no ps rfl
    · rw [upd_ne hb] at e; exact r.ntb b ps e
  · by_cases hb : b = a
    · subst hb; rw [upd_same] at e; cases e; exact .inr h0
    · rw [upd_ne hb] at e; exact n.nf b x e
/-- a code object is known to the plain world from now on -/
theorem R.code {c : Addr} {q : Str} (r : R K F m H hp) (h : H c = some (LamX.CodeO c q)) : ∃ F', F' c = some (LamX.CodeO c q) ∧ R K F' m H hp ∧ Nx F m H F' m H := by
  cases e : F c with
  | some o =>
    have z := r.sub _ _ e
    rw [h] at z
    cases z
    exact ⟨F, e, r, Nx.refl⟩
  | none =>
    have hm : c ∉ m := fun z => by
      obtain ⟨vs, y⟩ := r.there z
      rw [h] at y
      unfold LamX.CodeO at y
      cases y
    obtain ⟨r', n', _⟩ := r.freeze (Nx.refl (F := F) (m := m) (H := H)) h hm e (.inr ⟨q, rfl⟩) (fun ps => LamX.codeO_ne ps)
    exact ⟨_, upd_same, r', n'⟩
section
variable [FV]
theorem En.mono (n : Nx F m H F' m' H') (e : En K F m σ env) : En K F' m' σ env := ⟨e.len, fun i d h => by
  obtain ⟨v, q1, q2⟩ := e.get i d h
  exact ⟨v, q1, q2.mono n.fz n.pre⟩, e.fn, FV.mono _ _ _ _ n.fz n.pre e.nd⟩
theorem En.set {i : Nat} {v : V} {d : D} (e : En K F m σ env) (h : Dn K F m v d) : En K F m (σ.set i (some v)) (env.set i (some d)) := ⟨by simpa using e.len, fun j d' q => by
  by_cases hj : j = i
  · subst hj
    by_cases hl : j < env.length
    · rw [List.getElem?_set_self hl] at q
      cases q
      exact ⟨v, by rw [List.getElem?_set_self (by rw [← e.len]; exact hl)], h⟩
    · rw [List.getElem?_eq_none (by simpa using hl)] at q; cases q
  · rw [List.getElem?_set_ne (Ne.symm hj)] at q ⊢
    exact e.get j d' q, fun j hs q => by
  by_cases hj : j = i
  · subst hj
    by_cases hl : j < env.length
    · rw [List.getElem?_set_self hl] at q
      cases q
    · rw [List.getElem?_eq_none (by simpa using hl)] at q; cases q
  · rw [List.getElem?_set_ne (Ne.symm hj)] at q ⊢
    exact e.fn j hs q, e.nd⟩
end
end
end MP
end

section
set_option maxRecDepth 100000
set_option maxHeartbeats 1000000
namespace MP
open PySem PySem.Spec PyProof.Rows L2
variable [WW] [FV]

/-- the error e is an exception of the class c with its own dict at dd -/
def Xc (K : PySem.W.Frag) (mg : Str → Option Value) (F : Hp) (m : List Addr) (H : Hp) (e : Exc) (c : Value) (dd : Option Addr) : Prop :=
  c = .ref e.cls ∧ ExcC K e.cls ∧ (∀ g ∈ e.ns, PySem.W.findIn K (.ref e.cls) g = some none) ∧ ((∃ d fs, dd = some d ∧ F d = some (.xd fs) ∧ fs.map (·.1) = e.ns ∧ Dns K F m (fs.map (·.2)) e.xs) ∨ (dd = none ∧ e.ns = [] ∧ e.xs = []))

section
variable {ι : Type} (X : ι → Cx) (K : PySem.W.Frag) (mg : Str → Option Value) (W : WX)
/-- where an expression's outcome leads -/
def OutE (F : Hp) (m : List Addr) (σ : L2.St) (H : Hp) (hp' : EH) (Q : VK) : Res D → Prop
  | .val d => ∀ v F' m' H', Nx F m H F' m' H' → R K F' m' H' hp' → Dn K F' m' v d → Q v H'
  | .exc e => ∀ F' m' H' c dd, Nx F m H F' m' H' → R K F' m' H' hp' → Xc K mg F' m' H' e c dd → W c dd σ H'
def OutT (F : Hp) (m : List Addr) (σ : L2.St) (H : Hp) (hp' : EH) (Q : Bool → Hp → Prop) : Res Bool → Prop
  | .val b => ∀ F' m' H', Nx F m H F' m' H' → R K F' m' H' hp' → Q b H'
  | .exc e => ∀ F' m' H' c dd, Nx F m H F' m' H' → R K F' m' H' hp' → Xc K mg F' m' H' e c dd → W c dd σ H'
def OutA (F : Hp) (m : List Addr) (σ : L2.St) (H : Hp) (hp' : EH) (Q : List V → Hp → Prop) : Res (List D) → Prop
  | .val ds => ∀ vs F' m' H', Nx F m H F' m' H' → R K F' m' H' hp' → Dns K F' m' vs ds → Q vs H'
  | .exc e => ∀ F' m' H' c dd, Nx F m H F' m' H' → R K F' m' H' hp' → Xc K mg F' m' H' e c dd → W c dd σ H'
structure SE (e : Expr) (f : FE) : Prop where
  ex : ∃ t : TE, (∀ i, PE (X i) e t) ∧ ∀ σ H env hp F m, R K F m H hp → En K F m σ env → ∀ r hp', f env hp = some (r, hp') → ∀ Q, OutE K mg W F m σ H hp' Q r → t σ H Q
structure ST (e : Expr) (f : FT) : Prop where
  ex : ∃ t : TT, (∀ i, PT (X i) e t) ∧ ∀ σ H env hp F m, R K F m H hp → En K F m σ env → ∀ r hp', f env hp = some (r, hp') → ∀ Q, OutT K mg W F m σ H hp' Q r → t σ H Q
/-- a test whatever its whole is (and, or) -/
structure SW (e : Expr) (f : FT) : Prop where
  ex : ∃ t : TT, (∀ i, PW (X i) e t) ∧ ∀ σ H env hp F m, R K F m H hp → En K F m σ env → ∀ r hp', f env hp = some (r, hp') → ∀ Q, OutT K mg W F m σ H hp' Q r → t σ H Q
structure SA (es : List Expr) (f : FA) : Prop where
  ex : ∃ t : TA, (∀ i, PA (X i) es t) ∧ ∀ σ H env hp F m, R K F m H hp → En K F m σ env → ∀ r hp', f env hp = some (r, hp') → ∀ Q, OutA K mg W F m σ H hp' Q r → t σ H Q
end

/-- contexts that share what the module has written -/
structure Fam {ι : Type} (X : ι → Cx) (K : PySem.W.Frag) (mg : Str → Option Value) : Prop where
  k : ∀ j, (X j).K = K
  g : ∀ j, (X j).mg = mg
  calm : ∀ j, (X j).calm = true
  nd : ∀ j, (X j).N.Nodup

/-! ### the plain functions -/
/-- first f, then g of its value -/
def bnd {α β : Type} (f : Ev → EH → Option (Res α × EH)) (g : α → Ev → EH → Option (Res β × EH)) : Ev → EH → Option (Res β × EH) := fun env hp =>
  match f env hp with
  | none => none
  | some (.exc e, hp1) => some (.exc e, hp1)
  | some (.val a, hp1) => g a env hp1
def ret {α : Type} (a : α) : Ev → EH → Option (Res α × EH) := fun _ hp => some (.val a, hp)
def stuck {α : Type} : Ev → EH → Option (Res α × EH) := fun _ _ => none
def eVar (i : Nat) : FE := fun env hp => match env[i]? with
  | some (some d) => some (.val d, hp)
  | _ => none

section
variable {ι : Type} {X : ι → Cx} {K : PySem.W.Frag} {mg : Str → Option Value} {W : WX} {a b e : Expr} {fa fb : FE} {pos : Pos}
/-- what follows a first part follows from its outcome -/
theorem OutE.nx {F F1 : Hp} {m m1 : List Addr} {σ : L2.St} {H H1 : Hp} {hp' : EH} {Q : VK} {r : Res D} (n : Nx F m H F1 m1 H1) (h : OutE K mg W F m σ H hp' Q r) : OutE K mg W F1 m1 σ H1 hp' Q r := by
  cases r with
  | val d => exact fun v F' m' H' n2 r2 d2 => h v F' m' H' (n.trans n2) r2 d2
  | exc e => exact fun F' m' H' c dd n2 r2 d2 => h F' m' H' c dd (n.trans n2) r2 d2
theorem OutT.nx {F F1 : Hp} {m m1 : List Addr} {σ : L2.St} {H H1 : Hp} {hp' : EH} {Q : Bool → Hp → Prop} {r : Res Bool} (n : Nx F m H F1 m1 H1) (h : OutT K mg W F m σ H hp' Q r) : OutT K mg W F1 m1 σ H1 hp' Q r := by
  cases r with
  | val d => exact fun F' m' H' n2 r2 => h F' m' H' (n.trans n2) r2
  | exc e => exact fun F' m' H' c dd n2 r2 d2 => h F' m' H' c dd (n.trans n2) r2 d2
theorem OutA.nx {F F1 : Hp} {m m1 : List Addr} {σ : L2.St} {H H1 : Hp} {hp' : EH} {Q : List V → Hp → Prop} {r : Res (List D)} (n : Nx F m H F1 m1 H1) (h : OutA K mg W F m σ H hp' Q r) : OutA K mg W F1 m1 σ H1 hp' Q r := by
  cases r with
  | val d => exact fun v F' m' H' n2 r2 d2 => h v F' m' H' (n.trans n2) r2 d2
  | exc e => exact fun F' m' H' c dd n2 r2 d2 => h F' m' H' c dd (n.trans n2) r2 d2
/-- an outcome that is a value, here and now -/
theorem OutE.now {F : Hp} {m : List Addr} {σ : L2.St} {H : Hp} {hp : EH} {Q : VK} {d : D} {v : V} (h : OutE K mg W F m σ H hp Q (.val d)) (r : R K F m H hp) (q : Dn K F m v d) : Q v H := h v F m H Nx.refl r q
theorem OutT.now {F : Hp} {m : List Addr} {σ : L2.St} {H : Hp} {hp : EH} {Q : Bool → Hp → Prop} {d : Bool} (h : OutT K mg W F m σ H hp Q (.val d)) (r : R K F m H hp) : Q d H := h F m H Nx.refl r

theorem se_var {i : Nat} {x : Str} (hN : ∀ j, (X j).N[i]? = some x := by intro _; rfl) (hv : ∀ j, Vis (X j).env.scope x := by first | exact fun _ => Or.inl rfl | exact fun _ => Or.inr (Or.inl rfl) | exact fun _ => Or.inr (Or.inr rfl)) (hd : (x == ("__debug__" : Str)) = false := by decide)
    (hcd : (x == ("__classdict__" : Str)) = false := by decide) : SE X K mg W (.Name x pos) (eVar i) := ⟨⟨_, fun j => pe_var (hN j) (hv j) hd hcd, fun σ H env hp F m r n r' hp' e Q q => by
  unfold eVar at e
  split at e
  · rename_i d h
    cases e
    obtain ⟨v, h1, h2⟩ := n.get i d h
    exact ⟨v, h1, q.now r h2⟩
  · cases e⟩⟩
theorem se_int {i : Int} {j} : SE X K mg W (.Constant (.int i) j pos) (ret (.int i)) := ⟨⟨_, fun _ => pe_int, fun σ H env hp F m r n r' hp' e Q q => by cases e; exact q.now r (.int i)⟩⟩
theorem se_bl {b : Bool} {j} : SE X K mg W (.Constant (.bool b) j pos) (ret (.bl b)) := ⟨⟨_, fun _ => pe_bl, fun σ H env hp F m r n r' hp' e Q q => by cases e; exact q.now r (.bl b)⟩⟩
theorem se_non {j} : SE X K mg W (.Constant .none j pos) (ret .non) := ⟨⟨_, fun _ => pe_non, fun σ H env hp F m r n r' hp' e Q q => by cases e; exact q.now r .non⟩⟩
theorem se_str {x : Str} {j} : SE X K mg W (.Constant (.str x) j pos) (ret (.str x)) := ⟨⟨_, fun _ => pe_str, fun σ H env hp F m r n r' hp' e Q q => by cases e; exact q.now r (.str x)⟩⟩
/-- a constant of the module: a number, a text, a tuple that is written -/
theorem se_glob {x : Str} {v : V} {u : Value} {d : D} (hg : ∀ j, Gl (X j) x) (hm : ∀ j, (X j).mg x = some u) (rv : RelV v u) (hd : Dn K (fun _ => none) [] v d) (hdb : (x == ("__debug__" : Str)) = false := by decide) : SE X K mg W (.Name x pos) (ret d) :=
  ⟨⟨_, fun j => pe_glob (hg j) (hm j) rv hdb, fun σ H env hp F m r n r' hp' e Q q => by
    cases e
    exact q.now r (hd.mono (fun _ _ z => by simp at z) (List.nil_prefix))⟩⟩

/-! #### binary operators: by a function of the two values that changes nothing but may make a new thing -/
/-- how a two-place operation on values is told by a plain function g: what it answers is a value, a new tuple, a new list -/
def OpS (K : PySem.W.Frag) (r : R2) (g : D → D → EH → Option D) : Prop :=
  ∀ (F : Hp) (m : List Addr) (H : Hp) (hp : EH) (x y : V) (d e z : D), R K F m H hp → Dn K F m x d → Dn K F m y e → g d e hp = some z → ∀ Q : VK,
    (∀ v F' H', Nx F m H F' m H' → R K F' m H' hp → Dn K F' m v z → Q v H') → r x y H Q
def eBin (g : D → D → EH → Option D) (fa fb : FE) : FE := bnd fa fun x => bnd fb fun y env hp => match g x y hp with
  | some z => some (.val z, hp)
  | none => none
theorem bin_run {ta tb : TE} {r : R2} {g : D → D → EH → Option D} (ho : OpS K r g) {σ : L2.St} {H : Hp} {env : Ev} {hp : EH} {F : Hp} {m : List Addr}
    (ha : ∀ r hp', fa env hp = some (r, hp') → ∀ Q, OutE K mg W F m σ H hp' Q r → ta σ H Q)
    (hb : ∀ H1 hp1 F1 m1, R K F1 m1 H1 hp1 → En K F1 m1 σ env → ∀ r hp', fb env hp1 = some (r, hp') → ∀ Q, OutE K mg W F1 m1 σ H1 hp' Q r → tb σ H1 Q)
    (n : En K F m σ env) {r' : Res D} {hp' : EH} (e : eBin g fa fb env hp = some (r', hp')) {Q : VK} (q : OutE K mg W F m σ H hp' Q r') : tOp r ta tb σ H Q := by
  unfold eBin bnd at e
  cases hfa : fa env hp with
  | none => rw [hfa] at e; cases e
  | some p =>
    obtain ⟨ra, hp1⟩ := p
    rw [hfa] at e
    cases ra with
    | exc x =>
      cases e
      exact ha _ _ hfa _ q
    | val d =>
      refine ha _ _ hfa _ fun v F1 m1 H1 n1 r1 d1 => ?_
      simp only at e
      cases hfb : fb env hp1 with
      | none => rw [hfb] at e; cases e
      | some p =>
        obtain ⟨rb, hp2⟩ := p
        rw [hfb] at e
        cases rb with
        | exc x =>
          cases e
          exact hb _ _ _ _ r1 (n.mono n1) _ _ hfb _ (OutE.nx n1 q)
        | val d' =>
          refine hb _ _ _ _ r1 (n.mono n1) _ _ hfb _ fun u F2 m2 H2 n2 r2 d2 => ?_
          simp only at e
          split at e
          · rename_i z hz
            cases e
            refine ho F2 m2 H2 _ v u d d' z r2 (d1.mono n2.fz n2.pre) d2 hz Q fun w F' H' n3 r3 d3 => q w F' m2 H' ((n1.trans n2).trans n3) r3 d3
          · cases e
theorem se_bin {op : Operator} {r : R2} {g : D → D → EH → Option D} (ho : ∀ j, OpR (X j) (binaryOp op) r) (hs : OpS K r g) (ha : SE X K mg W a fa) (hb : SE X K mg W b fb) : SE X K mg W (.BinOp a op b pos) (eBin g fa fb) := by
  obtain ⟨ta, pa, qa⟩ := ha.ex
  obtain ⟨tb, pb, qb⟩ := hb.ex
  exact ⟨⟨_, fun j => pe_op (ho j) (pa j) (pb j), fun σ H env hp F m r1 n r' hp' e Q q => bin_run hs (qa σ H env hp F m r1 n) (fun H1 hp1 F1 m1 r1 n1 => qb σ H1 env hp1 F1 m1 r1 n1) n e q⟩⟩
theorem se_cmp {op : CmpOp} {r : R2} {g : D → D → EH → Option D} (ho : ∀ j, OpR (X j) (compareOp op) r) (hs : OpS K r g) (ha : SE X K mg W a fa) (hb : SE X K mg W b fb) (hm : behindInMarks op b = false) : SE X K mg W (.Compare a [op] [b] pos) (eBin g fa fb) := by
  obtain ⟨ta, pa, qa⟩ := ha.ex
  obtain ⟨tb, pb, qb⟩ := hb.ex
  exact ⟨⟨_, fun j => pe_cmpR (ho j) (pa j) (pb j) hm, fun σ H env hp F m r1 n r' hp' e Q q => bin_run hs (qa σ H env hp F m r1 n) (fun H1 hp1 F1 m1 r1 n1 => qb σ H1 env hp1 F1 m1 r1 n1) n e q⟩⟩
theorem se_ix {r : R2} {g : D → D → EH → Option D} (ho : ∀ j, IxR (X j) r) (hs : OpS K r g) (ha : SE X K mg W a fa) (hb : SE X K mg W b fb) (hx : PlainIx b) : SE X K mg W (.Subscript a b pos) (eBin g fa fb) := by
  obtain ⟨ta, pa, qa⟩ := ha.ex
  obtain ⟨tb, pb, qb⟩ := hb.ex
  exact ⟨⟨_, fun j => pe_ix (ho j) (pa j) (pb j) hx, fun σ H env hp F m r1 n r' hp' e Q q => bin_run hs (qa σ H env hp F m r1 n) (fun H1 hp1 F1 m1 r1 n1 => qb σ H1 env hp1 F1 m1 r1 n1) n e q⟩⟩
theorem OpS.or {r r' : R2} {g g' : D → D → EH → Option D} (h : OpS K r g) (h' : OpS K r' g') : OpS K (fun x y H Q => r x y H Q ∨ r' x y H Q) (fun x y hp => match g x y hp with | some z => some z | none => g' x y hp) := by
  intro F m H hp x y d e z r1 d1 d2 hz Q q
  cases hg : g d e hp with
  | some z' =>
    simp only [hg] at hz; cases hz
    exact .inl (h F m H hp x y d e z r1 d1 d2 hg Q q)
  | none =>
    simp only [hg] at hz
    exact .inr (h' F m H hp x y d e z r1 d1 d2 hz Q q)
/-! ##### ints -/
def iOp (C : Int → Int → Bool) (g : Int → Int → Int) : D → D → EH → Option D := fun x y _ => match x, y with
  | .int i, .int j => if C i j = true then some (.int (g i j)) else none
  | _, _ => none
def iCmp (g : Int → Int → Bool) : D → D → EH → Option D := fun x y _ => match x, y with
  | .int i, .int j => some (.bl (g i j))
  | _, _ => none
theorem ops_I {C : Int → Int → Prop} {Cb : Int → Int → Bool} {g : Int → Int → Int} (h : ∀ i j, Cb i j = true → C i j) : OpS K (rI C fun i j => .int (g i j)) (iOp Cb g) := by
  intro F m H hp x y d e z r1 d1 d2 hz Q q
  unfold iOp at hz
  split at hz
  · rename_i i j
    split at hz
    · rename_i hc
      cases hz
      cases d1; cases d2
      exact ⟨i, j, rfl, rfl, h _ _ hc, q _ F H Nx.refl r1 (.int _)⟩
    · cases hz
  · cases hz
theorem ops_I0 {g : Int → Int → Int} : OpS K (rI0 fun i j => .int (g i j)) (iOp (fun _ _ => true) g) := by
  intro F m H hp x y d e z r1 d1 d2 hz Q q
  unfold iOp at hz
  split at hz
  · rename_i i j
    rw [if_pos rfl] at hz
    cases hz
    cases d1; cases d2
    exact ⟨i, j, rfl, rfl, q _ F H Nx.refl r1 (.int _)⟩
  · cases hz
theorem ops_B0 {g : Int → Int → Bool} : OpS K (rI0 fun i j => .bl (g i j)) (iCmp g) := by
  intro F m H hp x y d e z r1 d1 d2 hz Q q
  unfold iCmp at hz
  split at hz
  · rename_i i j
    cases hz
    cases d1; cases d2
    exact ⟨i, j, rfl, rfl, q _ F H Nx.refl r1 (.bl _)⟩
  · cases hz
end
end MP
end

section
set_option maxRecDepth 100000
set_option maxHeartbeats 1000000
namespace MP
open PySem PySem.Spec PyProof.Rows L2
variable [WW] [FV]

/-! ### data -/
mutual
def D.toP : D → Option PyData
  | .non => some .none
  | .bl b => some (.bool b)
  | .int i => some (.int i)
  | .str x => some (.str x)
  | .tup xs => match D.toPs xs with
    | some ps => some (.tuple ps)
    | none => none
  | .lst xs => match D.toPs xs with
    | some ps => some (.list ps)
    | none => none
  | .scr _ => none
  | .obj _ => none
  | .err _ _ _ => none
  | .xcp _ _ _ _ => none
  | .set _ => none
  | .ist _ => none
  | .dic0 => none
def D.toPs : List D → Option (List PyData)
  | [] => some []
  | x :: xs => match D.toP x, D.toPs xs with
    | some p, some ps => some (p :: ps)
    | _, _ => none
end
/-- .. a list that may change at the top -/
def toPh (hp : EH) : D → Option PyData
  | .obj i => match hp[i]? with
    | some xs => match D.toPs xs with
      | some ps => some (.list ps)
      | none => none
    | none => none
  | d => d.toP
/-- the items of a list; of a list or tuple -/
def asL (hp : EH) : D → Option (List D)
  | .lst xs => some xs
  | .obj i => hp[i]?
  | _ => none
def asQ (hp : EH) : D → Option (List D)
  | .lst xs => some xs
  | .scr xs => some xs
  | .tup xs => some xs
  | .obj i => hp[i]?
  | _ => none

section
variable {ι : Type} {X : ι → Cx} {K : PySem.W.Frag} {mg : Str → Option Value} {W : WX} {F F' : Hp} {m m' : List Addr} {H H' : Hp} {hp hp' : EH}
mutual
theorem dp_of (s : Same F H) : ∀ {d : D} {v : V} {p : PyData}, Dn K F m v d → d.toP = some p → Dp K H v p
  | .non, _, _, h, e => by cases h; simp [D.toP] at e; subst e; exact .non
  | .bl b, _, _, h, e => by cases h; simp [D.toP] at e; subst e; exact .bl b
  | .int b, _, _, h, e => by cases h; simp [D.toP] at e; subst e; exact .int b
  | .str b, _, _, h, e => by cases h; simp [D.toP] at e; subst e; exact .str b
  | .tup xs, _, _, h, e => by
    cases h with
    | tup h1 h2 =>
      simp only [D.toP] at e
      split at e
      · rename_i ps hps
        cases e
        exact .tup (SqT.mono s h1) (dps_of s h2 hps)
      · cases e
  | .lst xs, _, _, h, e => by
    cases h with
    | lst h1 h2 =>
      simp only [D.toP] at e
      split at e
      · rename_i ps hps
        cases e
        exact .lst (SqL.of (s _ _ h1)) (dps_of s h2 hps)
      · cases e
  | .scr i, _, _, h, e => by simp [D.toP] at e
  | .obj i, _, _, h, e => by simp [D.toP] at e
  | .err _ _ _, _, _, h, e => by simp [D.toP] at e
  | .xcp _ _ _ _, _, _, h, e => by simp [D.toP] at e
  | .set _, _, _, h, e => by simp [D.toP] at e
  | .ist _, _, _, h, e => by simp [D.toP] at e
  | .dic0, _, _, h, e => by simp [D.toP] at e
theorem dps_of (s : Same F H) : ∀ {ds : List D} {vs : List V} {ps : List PyData}, Dns K F m vs ds → D.toPs ds = some ps → DpAll K H vs ps
  | [], _, _, h, e => by cases h; simp [D.toPs] at e; subst e; exact .nil
  | d :: ds, _, _, h, e => by
    cases h with
    | cons h1 h2 =>
      simp only [D.toPs] at e
      split at e
      · rename_i p ps hp hps
        cases e
        exact .cons (dp_of s h1 hp) (dps_of s h2 hps)
      · cases e
end
theorem dph_of {d : D} {v : V} {p : PyData} (r : R K F m H hp) (h : Dn K F m v d) (e : toPh hp d = some p) : Dp K H v p := by
  cases d with
  | obj i =>
    cases h with
    | obj hi =>
      simp only [toPh] at e
      split at e
      · rename_i xs hx
        split at e
        · rename_i ps hps
          cases e
          obtain ⟨vs, q1, q2⟩ := r.obj i _ xs hi hx
          exact .lst (SqL.of q1) (dps_of r.sub q2 hps)
        · cases e
      · cases e
  | _ => exact dp_of r.sub h (by simpa [toPh] using e)
/-- a list: where it stands -/
theorem rd_of {d : D} {v : V} {xs : List D} (r : R K F m H hp) (h : Dn K F m v d) (e : asL hp d = some xs) : ∃ a vs, v = .ref a ∧ H a = some (.lst vs) ∧ Dns K F m vs xs := by
  cases d with
  | obj i =>
    cases h with
    | obj hi =>
      obtain ⟨vs, q1, q2⟩ := r.obj i _ xs hi e
      exact ⟨_, vs, rfl, q1, q2⟩
  | lst ys =>
    cases h with
    | lst h1 h2 =>
      simp [asL] at e
      subst e
      exact ⟨_, _, rfl, r.sub _ _ h1, h2⟩
  | _ => simp [asL] at e
theorem sq_of {d : D} {v : V} {xs : List D} (r : R K F m H hp) (h : Dn K F m v d) (e : asQ hp d = some xs) : ∃ a vs, v = .ref a ∧ (SqL K H a vs ∨ SqT K H a vs) ∧ Dns K F m vs xs := by
  cases d with
  | obj i =>
    obtain ⟨a, vs, q1, q2, q3⟩ := rd_of r h (by simpa [asL, asQ] using e)
    exact ⟨a, vs, q1, .inl (SqL.of q2), q3⟩
  | lst ys =>
    obtain ⟨a, vs, q1, q2, q3⟩ := rd_of r h (by simpa [asL, asQ] using e)
    exact ⟨a, vs, q1, .inl (SqL.of q2), q3⟩
  | tup ys =>
    cases h with
    | tup h1 h2 =>
      simp [asQ] at e
      subst e
      exact ⟨_, _, rfl, .inr (SqT.mono r.sub h1), h2⟩
  | scr ys =>
    cases h with
    | scr h1 h2 =>
      simp [asQ] at e
      subst e
      exact ⟨_, _, rfl, .inl (SqL.mono r.sub h1), h2⟩
  | _ => simp [asQ] at e

/-! ### what is new -/
theorem new_lst {xs : List V} {ds : List D} {σ : L2.St} (r : R K F m H hp) (hd : Dns K F m xs ds) {a : Addr} (hn : H a = none) :
    ∃ F', Nx F m H F' m (upd H a (.lst xs)) ∧ R K F' m (upd H a (.lst xs)) hp ∧ Dn K F' m (.ref a) (.lst ds) := by
  obtain ⟨r', n'⟩ := r.fresh (o := .lst xs) hn
  exact ⟨_, n', r', .lst upd_same (hd.mono n'.fz n'.pre)⟩
theorem new_tup {xs : List V} {ds : List D} {σ : L2.St} (r : R K F m H hp) (hd : Dns K F m xs ds) {a : Addr} (hn : H a = none) :
    ∃ F', Nx F m H F' m (upd H a (.tup xs)) ∧ R K F' m (upd H a (.tup xs)) hp ∧ Dn K F' m (.ref a) (.tup ds) := by
  obtain ⟨r', n'⟩ := r.fresh (o := .tup xs) hn
  exact ⟨_, n', r', .tup (SqT.of upd_same) (hd.mono n'.fz n'.pre)⟩

/-! ### + and * -/
def gCatL : D → D → EH → Option D := fun x y hp => match asL hp x, asL hp y with
  | some xs, some ys => if xs.length + ys.length ≤ 16777216 then some (.lst (xs ++ ys)) else none
  | _, _ => none
def gCatT : D → D → EH → Option D := fun x y hp => match x, y with
  | .tup xs, .tup ys => if xs.length + ys.length ≤ 16777216 then some (.tup (xs ++ ys)) else none
  | _, _ => none
theorem line16 : sizeLine = 16777216 := sizeLine_eq
theorem ops_catL : OpS K rCat gCatL := by
  intro F m H hp x y d e z r1 d1 d2 hz Q q
  unfold gCatL at hz
  split at hz
  · rename_i xs ys hx hy
    split at hz
    · rename_i hl
      cases hz
      obtain ⟨a, vs, rfl, q1, q2⟩ := rd_of r1 d1 hx
      obtain ⟨b, ws, rfl, q3, q4⟩ := rd_of r1 d2 hy
      refine ⟨a, b, vs, ws, rfl, rfl, q1, q3, by rw [q2.length, q4.length, line16]; exact hl, fun p hp' => ?_⟩
      obtain ⟨F', n', r', d'⟩ := new_lst (σ := []) r1 (q2.append q4) hp'
      exact q _ F' _ n' r' d'
    · cases hz
  · cases hz
theorem ops_catT : OpS K (rCatA K) gCatT := by
  intro F m H hp x y d e z r1 d1 d2 hz Q q
  unfold gCatT at hz
  split at hz
  · rename_i xs ys
    split at hz
    · rename_i hl
      cases hz
      cases d1 with
      | tup a1 a2 =>
        cases d2 with
        | tup b1 b2 =>
          rename_i a vs b ws
          refine ⟨a, b, vs, ws, rfl, rfl, SqT.mono r1.sub a1, SqT.mono r1.sub b1, by rw [a2.length, b2.length, line16]; exact hl, fun e => ?_, fun e1 e2 => ?_, fun _ _ p hp' => ?_⟩
          · subst e
            cases xs with
            | nil => exact q _ F H Nx.refl r1 (.tup b1 b2)
            | cons x xs => cases a2
          · subst e2
            cases ys with
            | nil => rw [List.append_nil] at q; exact q _ F H Nx.refl r1 (.tup a1 a2)
            | cons x xs => cases b2
          · obtain ⟨F', n', r', d'⟩ := new_tup (σ := []) r1 (a2.append b2) hp'
            exact q _ F' _ n' r' d'
    · cases hz
  · cases hz
def gRepL : D → D → EH → Option D := fun x y hp => match asL hp x, y with
  | some xs, .int k => if 0 ≤ k ∧ k ≤ 1000 ∧ xs.length ≤ 10000 then some (.lst (List.replicate k.toNat xs).flatten) else none
  | _, _ => none
theorem ops_repL : OpS K rRep gRepL := by
  intro F m H hp x y d e z r1 d1 d2 hz Q q
  unfold gRepL at hz
  split at hz
  · rename_i xs k hx
    split at hz
    · rename_i hl
      obtain ⟨h0, h1, h2⟩ := hl
      cases hz
      obtain ⟨a, vs, rfl, q1, q2⟩ := rd_of r1 d1 hx
      cases d2
      refine ⟨a, k, vs, rfl, rfl, q1, by omega, by omega, ?_, fun p hp' => ?_⟩
      · rw [q2.length, line16]
        have : xs.length * k.toNat ≤ 10000 * 1000 := Nat.mul_le_mul h2 (by omega)
        omega
      · obtain ⟨F', n', r', d'⟩ := new_lst (σ := []) r1 (q2.rep k.toNat) hp'
        exact q _ F' _ n' r' d'
    · cases hz
  · cases hz

/-! ### ==, !=, in, not in -/
def dEq (hp : EH) (x y : D) : Option Bool := match toPh hp x, toPh hp y with
  | some p, some q => if SeqAt.shaped p = true ∧ SeqAt.shaped q = true then some (PyData.eqv p q) else none
  | _, _ => none
def gEq : D → D → EH → Option D := fun x y hp => (dEq hp x y).map .bl
def gNe : D → D → EH → Option D := fun x y hp => (dEq hp x y).map fun b => .bl (!b)
theorem dEq_run {x y : V} {d e : D} {b : Bool} (r1 : R K F m H hp) (d1 : Dn K F m x d) (d2 : Dn K F m y e) (hz : dEq hp d e = some b) :
    ∃ p q, Dp K H x p ∧ Dp K H y q ∧ SeqAt.shaped p = true ∧ SeqAt.shaped q = true ∧ b = PyData.eqv p q := by
  unfold dEq at hz
  split at hz
  · rename_i p q hp1 hq1
    split at hz
    · rename_i hs
      cases hz
      exact ⟨p, q, dph_of r1 d1 hp1, dph_of r1 d2 hq1, hs.1, hs.2, rfl⟩
    · cases hz
  · cases hz
theorem ops_eq : OpS K (rEqD K) gEq := by
  intro F m H hp x y d e z r1 d1 d2 hz Q q
  unfold gEq at hz
  rw [Option.map_eq_some_iff] at hz
  obtain ⟨b, hb, rfl⟩ := hz
  obtain ⟨p, p', h1, h2, h3, h4, rfl⟩ := dEq_run r1 d1 d2 hb
  exact ⟨p, p', h1, h2, h3, h4, q _ F H Nx.refl r1 (.bl _)⟩
theorem ops_ne : OpS K (rNeD K) gNe := by
  intro F m H hp x y d e z r1 d1 d2 hz Q q
  unfold gNe at hz
  rw [Option.map_eq_some_iff] at hz
  obtain ⟨b, hb, rfl⟩ := hz
  obtain ⟨p, p', h1, h2, h3, h4, rfl⟩ := dEq_run r1 d1 d2 hb
  exact ⟨p, p', h1, h2, h3, h4, q _ F H Nx.refl r1 (.bl _)⟩
/-! ### x[i] -/
def gIx : D → D → EH → Option D := fun x y hp => match asQ hp x, y with
  | some xs, .int i => atI xs i
  | _, _ => none
theorem atI_get2 {xs : List D} {vs : List V} {i : Int} {d : D} (h : Dns K F m vs xs) (e : atI xs i = some d) : ∃ v, atI vs i = some v ∧ Dn K F m v d := by
  unfold atI at e ⊢
  rw [h.length]
  cases hj : ixN xs.length i with
  | none => rw [hj] at e; cases e
  | some j =>
    rw [hj] at e
    exact h.get e
theorem ops_ix : OpS K (rIx K) gIx := by
  intro F m H hp x y d e z r1 d1 d2 hz Q q
  unfold gIx at hz
  split at hz
  · rename_i xs i hx
    obtain ⟨a, vs, rfl, q1, q2⟩ := sq_of r1 d1 hx
    cases d2
    obtain ⟨w, e1, e2⟩ := atI_get2 q2 hz
    rcases q1 with q1 | q1
    · exact .inl ⟨a, vs, i, w, rfl, rfl, q1, e1, q _ F H Nx.refl r1 e2⟩
    · exact .inr (.inl ⟨a, vs, i, w, rfl, rfl, q1, e1, q _ F H Nx.refl r1 e2⟩)
  · cases hz
end
end MP
end

section
set_option maxRecDepth 100000
set_option maxHeartbeats 1000000
namespace MP
open PySem PySem.Spec PyProof.Rows L2
variable [WW] [FV]

/-! ### argument lists, displays -/
def aNil : FA := ret []
def aCons (f : FE) (g : FA) : FA := bnd f fun d => bnd g fun ds => ret (d :: ds)
section
variable {ι : Type} {X : ι → Cx} {K : PySem.W.Frag} {mg : Str → Option Value} {W : WX} {a b c e : Expr} {es : List Expr} {fa fb fe : FE} {ga : FA} {pos : Pos} {F F' : Hp} {m m' : List Addr} {H H' : Hp} {hp hp' : EH}
/-- a first part and what comes behind it, at any kind of end -/
theorem bnd_val {α β : Type} {f : Ev → EH → Option (Res α × EH)} {g : α → Ev → EH → Option (Res β × EH)} {env : Ev} {hp hp' : EH} {r : Res β} (e : bnd f g env hp = some (r, hp')) :
    (∃ x, f env hp = some (.exc x, hp') ∧ r = .exc x) ∨ ∃ a hp1, f env hp = some (.val a, hp1) ∧ g a env hp1 = some (r, hp') := by
  unfold bnd at e
  cases hf : f env hp with
  | none => rw [hf] at e; cases e
  | some p =>
    obtain ⟨ra, hp1⟩ := p
    rw [hf] at e
    cases ra with
    | exc x => cases e; exact .inl ⟨x, rfl, rfl⟩
    | val d => exact .inr ⟨d, hp1, rfl, e⟩
theorem sa_nil : SA X K mg W [] aNil := ⟨⟨_, fun _ => pa_nil, fun σ H env hp F m r n r' hp' e Q q => by cases e; exact q _ F m H Nx.refl r .nil⟩⟩
theorem sa_cons (ha : SE X K mg W e fa) (hr : SA X K mg W es ga) (hs : ∀ j, starEach (e :: es) (X j).env = (false, eval e (X j).env) :: starEach es (X j).env := by intro _; rfl) : SA X K mg W (e :: es) (aCons fa ga) := by
  obtain ⟨ta, pa, qa⟩ := ha.ex
  obtain ⟨tr, pr, qr⟩ := hr.ex
  refine ⟨⟨_, fun j => pa_cons (pa j) (pr j) (hs j), fun σ H env hp F m r n r' hp' e Q q => ?_⟩⟩
  show ta σ H fun x H1 => tr σ H1 fun xs H2 => Q (x :: xs) H2
  rcases bnd_val e with ⟨x, h1, rfl⟩ | ⟨d, hp1, h1, h2⟩
  · exact qa σ H env hp F m r n _ _ h1 _ q
  · refine qa σ H env hp F m r n _ _ h1 _ fun v F1 m1 H1 n1 r1 d1 => ?_
    rcases bnd_val h2 with ⟨x, h3, rfl⟩ | ⟨ds, hp2, h3, h4⟩
    · exact qr σ H1 env hp1 F1 m1 r1 (n.mono n1) _ _ h3 _ (OutA.nx n1 q)
    · cases h4
      exact qr σ H1 env hp1 F1 m1 r1 (n.mono n1) _ _ h3 _ fun vs F2 m2 H2 n2 r2 d2 => q _ F2 m2 H2 (n1.trans n2) r2 (.cons (d1.mono n2.fz n2.pre) d2)
def eTup (g : FA) : FE := bnd g fun ds _ hp => if ds.length ≤ 16777216 then some (.val (.tup ds), hp) else none
/-- a list that is never changed again -/
def eLst (g : FA) : FE := bnd g fun ds _ hp => if ds.length ≤ 16777216 then some (.val (.lst ds), hp) else none
/-- a list that may change -/
def eObj (g : FA) : FE := bnd g fun ds _ hp => if ds.length ≤ 16777216 then some (.val (.obj hp.length), hp ++ [ds]) else none
theorem se_tup {x1} (h : SA X K mg W es ga) : SE X K mg W (.Tuple es x1 pos) (eTup ga) := by
  obtain ⟨t, p, q0⟩ := h.ex
  refine ⟨⟨_, fun j => pe_tup (p j), fun σ H env hp F m r n r' hp' e Q q => ?_⟩⟩
  rcases bnd_val e with ⟨x, h1, rfl⟩ | ⟨ds, hp1, h1, h2⟩
  · exact q0 σ H env hp F m r n _ _ h1 _ q
  · refine q0 σ H env hp F m r n _ _ h1 _ fun vs F1 m1 H1 n1 r1 d1 => ?_
    split at h2
    · rename_i hl
      cases h2
      refine ⟨by rw [d1.length, line16]; exact hl, fun p hp' => ?_⟩
      obtain ⟨F', n', r', d'⟩ := new_tup (σ := σ) r1 d1 hp'
      exact q _ F' m1 _ (n1.trans n') r' d'
    · cases h2
theorem se_lst (h : SA X K mg W es ga) : SE X K mg W (.List es pos) (eLst ga) := by
  obtain ⟨t, p, q0⟩ := h.ex
  refine ⟨⟨_, fun j => pe_lst (p j), fun σ H env hp F m r n r' hp' e Q q => ?_⟩⟩
  rcases bnd_val e with ⟨x, h1, rfl⟩ | ⟨ds, hp1, h1, h2⟩
  · exact q0 σ H env hp F m r n _ _ h1 _ q
  · refine q0 σ H env hp F m r n _ _ h1 _ fun vs F1 m1 H1 n1 r1 d1 => ?_
    split at h2
    · rename_i hl
      cases h2
      refine ⟨by rw [d1.length, line16]; exact hl, fun p hp' => ?_⟩
      obtain ⟨F', n', r', d'⟩ := new_lst (σ := σ) r1 d1 hp'
      exact q _ F' m1 _ (n1.trans n') r' d'
    · cases h2
theorem se_obj (h : SA X K mg W es ga) : SE X K mg W (.List es pos) (eObj ga) := by
  obtain ⟨t, p, q0⟩ := h.ex
  refine ⟨⟨_, fun j => pe_lst (p j), fun σ H env hp F m r n r' hp' e Q q => ?_⟩⟩
  rcases bnd_val e with ⟨x, h1, rfl⟩ | ⟨ds, hp1, h1, h2⟩
  · exact q0 σ H env hp F m r n _ _ h1 _ q
  · refine q0 σ H env hp F m r n _ _ h1 _ fun vs F1 m1 H1 n1 r1 d1 => ?_
    split at h2
    · rename_i hl
      cases h2
      refine ⟨by rw [d1.length, line16]; exact hl, fun p hp' => ?_⟩
      obtain ⟨r', n'⟩ := r1.newobj hp' d1
      exact q _ F1 _ _ (n1.trans n') r' (.obj (by rw [List.getElem?_append_right (by rw [r1.len]; exact Nat.le_refl _), r1.len]; simp))
    · cases h2

/-! ### calls of built-ins -/
/-- how a built-in is told by a plain function of its arguments: it changes nothing, its answer may be new -/
def CallS (K : PySem.W.Frag) (r : List V → Hp → VK → Prop) (g : List D → EH → Option D) : Prop :=
  ∀ (F : Hp) (m : List Addr) (H : Hp) (hp : EH) (vs : List V) (ds : List D) (z : D), R K F m H hp → Dns K F m vs ds → g ds hp = some z → ∀ Q : VK,
    (∀ v F' H', Nx F m H F' m H' → R K F' m H' hp → Dn K F' m v z → Q v H') → r vs H Q
def eCall (g : List D → EH → Option D) (fa : FA) : FE := bnd fa fun ds _ hp => match g ds hp with
  | some z => some (.val z, hp)
  | none => none
theorem se_callB {id : String} {r : List V → Hp → VK → Prop} {g : List D → EH → Option D} {x : Str} {p : Pos} (hc : ∀ j, CallR (X j) (.builtin id) r) (hs : CallS K r g) (hg : ∀ j, Gl (X j) x) (hm : mg x = none) (hF : Fam X K mg) (hv : bootBuiltins x = some (.builtin id)) (ha : SA X K mg W (e :: es) ga) (hn : x ≠ "__name__" := by decide) (hdb : (x == ("__debug__" : Str)) = false := by decide)
    (he : ∀ j, starEach (e :: es) (X j).env = (false, eval e (X j).env) :: starEach es (X j).env := by intro _; rfl) (hpl : ∀ j, (backTo pos (starEach es (X j).env)).any (·.1) = false := by intro _; rfl) : SE X K mg W (.Call (.Name x p) (e :: es) [] pos) (eCall g ga) := by
  obtain ⟨t, pt, q0⟩ := ha.ex
  refine ⟨⟨_, fun j => pe_callB (hc j) (hg j) (by rw [hF.g j]; exact hm) hv (pt j) hn hdb (he j) (hpl j), fun σ H env hp F m r1 n r' hp' e Q q => ?_⟩⟩
  rcases bnd_val e with ⟨x, h1, rfl⟩ | ⟨ds, hp1, h1, h2⟩
  · exact q0 σ H env hp F m r1 n _ _ h1 _ q
  · refine q0 σ H env hp F m r1 n _ _ h1 _ fun vs F1 m1 H1 n1 r2 d1 => ?_
    try simp only at h2
    split at h2
    · rename_i z hz
      cases h2
      exact hs F1 m1 H1 _ vs ds z r2 d1 hz Q fun v F' H' n' r' d' => q v F' m1 H' (n1.trans n') r' d'
    · cases h2
theorem se_callTy {T : String} {r : List V → Hp → VK → Prop} {g : List D → EH → Option D} {x : Str} {p : Pos} (hc : ∀ j, CallR (X j) (.type T) r) (hs : CallS K r g) (hg : ∀ j, Gl (X j) x) (hm : mg x = none) (hF : Fam X K mg) (hv : bootBuiltins x = some (.type T)) (ha : SA X K mg W (e :: es) ga) (hn : x ≠ "__name__" := by decide) (hdb : (x == ("__debug__" : Str)) = false := by decide)
    (he : ∀ j, starEach (e :: es) (X j).env = (false, eval e (X j).env) :: starEach es (X j).env := by intro _; rfl) (hpl : ∀ j, (backTo pos (starEach es (X j).env)).any (·.1) = false := by intro _; rfl) : SE X K mg W (.Call (.Name x p) (e :: es) [] pos) (eCall g ga) := by
  obtain ⟨t, pt, q0⟩ := ha.ex
  refine ⟨⟨_, fun j => pe_callTy (hc j) (hg j) (by rw [hF.g j]; exact hm) hv (pt j) hn hdb (he j) (hpl j), fun σ H env hp F m r1 n r' hp' e Q q => ?_⟩⟩
  rcases bnd_val e with ⟨x, h1, rfl⟩ | ⟨ds, hp1, h1, h2⟩
  · exact q0 σ H env hp F m r1 n _ _ h1 _ q
  · refine q0 σ H env hp F m r1 n _ _ h1 _ fun vs F1 m1 H1 n1 r2 d1 => ?_
    try simp only at h2
    split at h2
    · rename_i z hz
      cases h2
      exact hs F1 m1 H1 _ vs ds z r2 d1 hz Q fun v F' H' n' r' d' => q v F' m1 H' (n1.trans n') r' d'
    · cases h2
def gLen : List D → EH → Option D := fun ds hp => match ds with
  | [d] => match asQ hp d with
    | some xs => some (.int xs.length)
    | none => none
  | _ => none
theorem calls_len : CallS K (fun xs H Q => ∃ p ys, xs = [.ref p] ∧ (SqL K H p ys ∨ SqT K H p ys) ∧ Q (.int ys.length) H) gLen := by
  intro F m H hp vs ds z r1 d1 hz Q q
  unfold gLen at hz
  split at hz
  · rename_i d
    split at hz
    · rename_i xs hx
      cases hz
      cases d1 with
      | cons h1 h2 =>
        cases h2
        obtain ⟨a, ws, rfl, q1, q2⟩ := sq_of r1 h1 hx
        exact ⟨a, ws, rfl, q1, by rw [q2.length]; exact q _ F H Nx.refl r1 (.int _)⟩
    · cases hz
  · cases hz
def gList : List D → EH → Option D := fun ds hp => match ds with
  | [d] => match asQ hp d with
    | some xs => some (.lst xs)
    | none => none
  | _ => none
theorem calls_list : CallS K (fun xs H Q => ∃ p ys, xs = [.ref p] ∧ (SqL K H p ys ∨ SqT K H p ys) ∧ ∀ l, H l = none → Q (.ref l) (upd H l (.lst ys))) gList := by
  intro F m H hp vs ds z r1 d1 hz Q q
  unfold gList at hz
  split at hz
  · rename_i d
    split at hz
    · rename_i xs hx
      cases hz
      cases d1 with
      | cons h1 h2 =>
        cases h2
        obtain ⟨a, ws, rfl, q1, q2⟩ := sq_of r1 h1 hx
        refine ⟨a, ws, rfl, q1, fun l hl => ?_⟩
        obtain ⟨F', n', r', d'⟩ := new_lst (σ := []) r1 q2 hl
        exact q _ F' _ n' r' d'
    · cases hz
  · cases hz
def gTuple : List D → EH → Option D := fun ds hp => match ds with
  | [d] => match asQ hp d with
    | some xs => some (.tup xs)
    | none => none
  | _ => none
theorem calls_tuple : CallS K (fun xs H Q => ∃ p ys, xs = [.ref p] ∧ ((SqL K H p ys ∧ ∀ l, H l = none → Q (.ref l) (upd H l (.tup ys))) ∨ (SqT K H p ys ∧ Q (.ref p) H))) gTuple := by
  intro F m H hp vs ds z r1 d1 hz Q q
  unfold gTuple at hz
  split at hz
  · rename_i d
    split at hz
    · rename_i xs hx
      cases hz
      cases d1 with
      | cons h1 h2 =>
        cases h2
        cases d with
        | tup ys =>
          simp [asQ] at hx
          subst hx
          cases h1 with
          | tup h1 h2 => exact ⟨_, _, rfl, .inr ⟨SqT.mono r1.sub h1, q _ F H Nx.refl r1 (.tup h1 h2)⟩⟩
        | lst ys =>
          obtain ⟨a, ws, rfl, q1, q2⟩ := rd_of r1 h1 (by simpa [asL, asQ] using hx)
          refine ⟨a, ws, rfl, .inl ⟨SqL.of q1, fun l hl => ?_⟩⟩
          obtain ⟨F', n', r', d'⟩ := new_tup (σ := []) r1 q2 hl
          exact q _ F' _ n' r' d'
        | scr ys =>
          simp [asQ] at hx
          subst hx
          cases h1 with
          | scr h1 h2 =>
            refine ⟨_, _, rfl, .inl ⟨SqL.mono r1.sub h1, fun l hl => ?_⟩⟩
            obtain ⟨F', n', r', d'⟩ := new_tup (σ := []) r1 h2 hl
            exact q _ F' _ n' r' d'
        | obj ys =>
          obtain ⟨a, ws, rfl, q1, q2⟩ := rd_of r1 h1 (by simpa [asL, asQ] using hx)
          refine ⟨a, ws, rfl, .inl ⟨SqL.of q1, fun l hl => ?_⟩⟩
          obtain ⟨F', n', r', d'⟩ := new_tup (σ := []) r1 q2 hl
          exact q _ F' _ n' r' d'
        | _ => simp [asQ] at hx
    · cases hz
  · cases hz
def gInt : List D → EH → Option D := fun ds _ => match ds with
  | [.int i] => some (.int i)
  | [.bl b] => some (.int (if b then 1 else 0))
  | _ => none
theorem calls_int : CallS K (fun xs H Q => (∃ i, xs = [.int i] ∧ Q (.int i) H) ∨ ∃ k, xs = [.bl k] ∧ Q (.int (if k then 1 else 0)) H) gInt := by
  intro F m H hp vs ds z r1 d1 hz Q q
  unfold gInt at hz
  split at hz
  · cases hz
    cases d1 with
    | cons h1 h2 => cases h1; cases h2; exact .inl ⟨_, rfl, q _ F H Nx.refl r1 (.int _)⟩
  · cases hz
    cases d1 with
    | cons h1 h2 => cases h1; cases h2; exact .inr ⟨_, rfl, q _ F H Nx.refl r1 (.int _)⟩
  · cases hz
def gMin2 : List D → EH → Option D := fun ds _ => match ds with
  | [.int i, .int j] => some (.int (if j < i then j else i))
  | _ => none
def gMax2 : List D → EH → Option D := fun ds _ => match ds with
  | [.int i, .int j] => some (.int (if j > i then j else i))
  | _ => none
theorem calls_min2 : CallS K (fun xs H Q => ∃ i j, xs = [.int i, .int j] ∧ Q (.int (if j < i then j else i)) H) gMin2 := by
  intro F m H hp vs ds z r1 d1 hz Q q
  unfold gMin2 at hz
  split at hz
  · cases hz
    cases d1 with
    | cons h1 h2 =>
      cases h1
      cases h2 with
      | cons h2 h3 => cases h2; cases h3; exact ⟨_, _, rfl, q _ F H Nx.refl r1 (.int _)⟩
  · cases hz
theorem calls_max2 : CallS K (fun xs H Q => ∃ i j, xs = [.int i, .int j] ∧ Q (.int (if j > i then j else i)) H) gMax2 := by
  intro F m H hp vs ds z r1 d1 hz Q q
  unfold gMax2 at hz
  split at hz
  · cases hz
    cases d1 with
    | cons h1 h2 =>
      cases h1
      cases h2 with
      | cons h2 h3 => cases h2; cases h3; exact ⟨_, _, rfl, q _ F H Nx.refl r1 (.int _)⟩
  · cases hz

/-! ### tests -/
def tB (f : FE) : FT := bnd f fun d _ hp => match d with
  | .bl b => some (.val b, hp)
  | _ => none
def tNot (f : FT) : FT := bnd f fun b => ret (!b)
def tAnd (f g : FT) : FT := bnd f fun b => if b = true then g else ret false
def tOr (f g : FT) : FT := bnd f fun b => if b = true then ret true else g
def eIf (t : FT) (f g : FE) : FE := bnd t fun b => if b = true then f else g
def eNot (f : FE) : FE := bnd (tB f) fun b => ret (.bl (!b))
def eAnd (f g : FE) : FE := bnd (tB f) fun b => if b = true then g else ret (.bl false)
def eOr (f g : FE) : FE := bnd (tB f) fun b => if b = true then ret (.bl true) else g
variable {ta tb tc : FT} {rest : List Expr}
theorem tB_run {t : TE} {σ : L2.St} {env : Ev} {r : Res Bool} (ha : ∀ r hp', fa env hp = some (r, hp') → ∀ Q, OutE K mg W F m σ H hp' Q r → t σ H Q)
    (e : MP.tB fa env hp = some (r, hp')) {Q : Bool → Hp → Prop} (q : OutT K mg W F m σ H hp' Q r) : t σ H fun x H1 => ∃ c, x = .bl c ∧ Q c H1 := by
  rcases bnd_val e with ⟨x, h1, rfl⟩ | ⟨d, hp1, h1, h2⟩
  · exact ha _ _ h1 _ q
  · refine ha _ _ h1 _ fun v F1 m1 H1 n1 r1 d1 => ?_
    try simp only at h2
    split at h2
    · cases h2
      cases d1
      exact ⟨_, rfl, q F1 m1 H1 n1 r1⟩
    · cases h2
theorem st_val (h : SE X K mg W e fe) (he : ∀ j whole, isTrue e (X j).env whole = (do let v ← whole; standAt e.pos; holding [v] (truthy v)) := by intro _ _; rfl) : ST X K mg W e (MP.tB fe) := by
  obtain ⟨t, p, q0⟩ := h.ex
  exact ⟨⟨_, fun j => pt_val (p j) (he j), fun σ H env hp F m r n r' hp' e Q q => tB_run (q0 σ H env hp F m r n) e q⟩⟩
theorem st_cmp {op : CmpOp} {r : R2} {g : D → D → EH → Option D} (ho : ∀ j, OpR (X j) (compareOp op) r) (hs : OpS K r g) (ha : SE X K mg W a fa) (hb : SE X K mg W b fb) (hm : behindInMarks op b = false) : ST X K mg W (.Compare a [op] [b] pos) (MP.tB (eBin g fa fb)) := by
  obtain ⟨ta, pa, qa⟩ := ha.ex
  obtain ⟨tb, pb, qb⟩ := hb.ex
  exact ⟨⟨_, fun j => pt_cmpR (ho j) (pa j) (pb j) hm, fun σ H env hp F m r1 n r' hp' e Q q => tB_run (fa := eBin g fa fb) (fun r hp' e Q q => bin_run hs (qa σ H env hp F m r1 n) (fun H1 hp1 F1 m1 r1 n1 => qb σ H1 env hp1 F1 m1 r1 n1) n e q) e q⟩⟩
theorem SW.st (h : SW X K mg W e tc) : ST X K mg W e tc := by
  obtain ⟨t, p, q⟩ := h.ex
  exact ⟨⟨t, fun j => (p j).pt, q⟩⟩
theorem sw_and1 (ha : ST X K mg W a ta) : SW X K mg W (.BoolOp .And [a] pos) ta := by
  obtain ⟨t, p, q⟩ := ha.ex
  exact ⟨⟨t, fun j => pw_and1 (p j), q⟩⟩
theorem sw_or1 (ha : ST X K mg W a ta) : SW X K mg W (.BoolOp .Or [a] pos) ta := by
  obtain ⟨t, p, q⟩ := ha.ex
  exact ⟨⟨t, fun j => pw_or1 (p j), q⟩⟩
theorem sw_and (ha : ST X K mg W a ta) (hb : SW X K mg W (.BoolOp .And (b :: rest) pos) tb) : SW X K mg W (.BoolOp .And (a :: b :: rest) pos) (MP.tAnd ta tb) := by
  obtain ⟨t, p, q0⟩ := ha.ex
  obtain ⟨u, p2, q2⟩ := hb.ex
  refine ⟨⟨_, fun j => pw_and (p j) (p2 j), fun σ H env hp F m r n r' hp' e Q q => ?_⟩⟩
  rcases bnd_val e with ⟨x, h1, rfl⟩ | ⟨d, hp1, h1, h2⟩
  · exact q0 σ H env hp F m r n _ _ h1 _ q
  · refine q0 σ H env hp F m r n _ _ h1 _ fun F1 m1 H1 n1 r1 => ?_
    cases d with
    | true => exact q2 σ H1 env hp1 F1 m1 r1 (n.mono n1) _ _ h2 _ (OutT.nx n1 q)
    | false => cases h2; exact q F1 m1 H1 n1 r1
theorem sw_or (ha : ST X K mg W a ta) (hb : SW X K mg W (.BoolOp .Or (b :: rest) pos) tb) : SW X K mg W (.BoolOp .Or (a :: b :: rest) pos) (MP.tOr ta tb) := by
  obtain ⟨t, p, q0⟩ := ha.ex
  obtain ⟨u, p2, q2⟩ := hb.ex
  refine ⟨⟨_, fun j => pw_or (p j) (p2 j), fun σ H env hp F m r n r' hp' e Q q => ?_⟩⟩
  rcases bnd_val e with ⟨x, h1, rfl⟩ | ⟨d, hp1, h1, h2⟩
  · exact q0 σ H env hp F m r n _ _ h1 _ q
  · refine q0 σ H env hp F m r n _ _ h1 _ fun F1 m1 H1 n1 r1 => ?_
    cases d with
    | false => exact q2 σ H1 env hp1 F1 m1 r1 (n.mono n1) _ _ h2 _ (OutT.nx n1 q)
    | true => cases h2; exact q F1 m1 H1 n1 r1
theorem st_not (ha : ST X K mg W a ta) : ST X K mg W (.UnaryOp .Not a pos) (MP.tNot ta) := by
  obtain ⟨t, p, q0⟩ := ha.ex
  refine ⟨⟨_, fun j => pt_not (p j), fun σ H env hp F m r n r' hp' e Q q => ?_⟩⟩
  rcases bnd_val e with ⟨x, h1, rfl⟩ | ⟨d, hp1, h1, h2⟩
  · exact q0 σ H env hp F m r n _ _ h1 _ q
  · cases h2
    exact q0 σ H env hp F m r n _ _ h1 _ fun F1 m1 H1 n1 r1 => q F1 m1 H1 n1 r1
theorem se_if (hc : ST X K mg W c tc) (ha : SE X K mg W a fa) (hb : SE X K mg W b fb) : SE X K mg W (.IfExp c a b pos) (MP.eIf tc fa fb) := by
  obtain ⟨t, p, q0⟩ := hc.ex
  obtain ⟨ua, pa, qa⟩ := ha.ex
  obtain ⟨ub, pb, qb⟩ := hb.ex
  refine ⟨⟨_, fun j => pe_ifExp (p j) (pa j) (pb j), fun σ H env hp F m r n r' hp' e Q q => ?_⟩⟩
  rcases bnd_val e with ⟨x, h1, rfl⟩ | ⟨d, hp1, h1, h2⟩
  · exact q0 σ H env hp F m r n _ _ h1 _ q
  · refine q0 σ H env hp F m r n _ _ h1 _ fun F1 m1 H1 n1 r1 => ?_
    cases d with
    | true => exact qa σ H1 env hp1 F1 m1 r1 (n.mono n1) _ _ h2 _ (OutE.nx n1 q)
    | false => exact qb σ H1 env hp1 F1 m1 r1 (n.mono n1) _ _ h2 _ (OutE.nx n1 q)
theorem se_one {op} (h : SE X K mg W a fa) : SE X K mg W (.BoolOp op [a] pos) fa := by
  obtain ⟨t, p, q0⟩ := h.ex
  exact ⟨⟨t, fun j => pe_one (p j), q0⟩⟩
theorem se_and (ha : SE X K mg W a fa) (hb : SE X K mg W (.BoolOp .And (b :: rest) pos) fb) : SE X K mg W (.BoolOp .And (a :: b :: rest) pos) (MP.eAnd fa fb) := by
  obtain ⟨t, p, q0⟩ := ha.ex
  obtain ⟨u, p2, q2⟩ := hb.ex
  refine ⟨⟨_, fun j => pe_and (p j) (p2 j), fun σ H env hp F m r n r' hp' e Q q => ?_⟩⟩
  show t σ H fun x H1 => ∃ c, x = .bl c ∧ (if c = true then u σ H1 Q else Q (.bl false) H1)
  rcases bnd_val e with ⟨x, h1, rfl⟩ | ⟨d, hp1, h1, h2⟩
  · exact tB_run (q0 σ H env hp F m r n) h1 (r := .exc x) q
  · refine tB_run (q0 σ H env hp F m r n) h1 (r := .val d) fun F1 m1 H1 n1 r1 => ?_
    cases d with
    | true => exact q2 σ H1 env hp1 F1 m1 r1 (n.mono n1) _ _ h2 _ (OutE.nx n1 q)
    | false => cases h2; exact q _ F1 m1 H1 n1 r1 (.bl false)
theorem se_or (ha : SE X K mg W a fa) (hb : SE X K mg W (.BoolOp .Or (b :: rest) pos) fb) : SE X K mg W (.BoolOp .Or (a :: b :: rest) pos) (MP.eOr fa fb) := by
  obtain ⟨t, p, q0⟩ := ha.ex
  obtain ⟨u, p2, q2⟩ := hb.ex
  refine ⟨⟨_, fun j => pe_or (p j) (p2 j), fun σ H env hp F m r n r' hp' e Q q => ?_⟩⟩
  show t σ H fun x H1 => ∃ c, x = .bl c ∧ (if c = true then Q (.bl true) H1 else u σ H1 Q)
  rcases bnd_val e with ⟨x, h1, rfl⟩ | ⟨d, hp1, h1, h2⟩
  · exact tB_run (q0 σ H env hp F m r n) h1 (r := .exc x) q
  · refine tB_run (q0 σ H env hp F m r n) h1 (r := .val d) fun F1 m1 H1 n1 r1 => ?_
    cases d with
    | false => exact q2 σ H1 env hp1 F1 m1 r1 (n.mono n1) _ _ h2 _ (OutE.nx n1 q)
    | true => cases h2; exact q _ F1 m1 H1 n1 r1 (.bl true)
theorem se_not (ha : SE X K mg W a fa) : SE X K mg W (.UnaryOp .Not a pos) (MP.eNot fa) := by
  obtain ⟨t, p, q0⟩ := ha.ex
  refine ⟨⟨_, fun j => pe_not (p j), fun σ H env hp F m r n r' hp' e Q q => ?_⟩⟩
  show t σ H fun x H1 => ∃ c, x = .bl c ∧ Q (.bl (!c)) H1
  rcases bnd_val e with ⟨x, h1, rfl⟩ | ⟨d, hp1, h1, h2⟩
  · exact tB_run (q0 σ H env hp F m r n) h1 (r := .exc x) q
  · cases h2
    exact tB_run (q0 σ H env hp F m r n) h1 (r := .val d) fun F1 m1 H1 n1 r1 => q _ F1 m1 H1 n1 r1 (.bl _)
/-- a number's sign -/
def eNeg (f : FE) : FE := bnd f fun d _ hp => match d with
  | .int i => some (.val (.int (-i)), hp)
  | _ => none
theorem se_neg (ha : SE X K mg W a fa) : SE X K mg W (.UnaryOp .USub a pos) (MP.eNeg fa) := by
  obtain ⟨t, p, q0⟩ := ha.ex
  refine ⟨⟨_, fun j => pe_un un_neg (p j), fun σ H env hp F m r n r' hp' e Q q => ?_⟩⟩
  rcases bnd_val e with ⟨x, h1, rfl⟩ | ⟨d, hp1, h1, h2⟩
  · exact q0 σ H env hp F m r n _ _ h1 _ q
  · refine q0 σ H env hp F m r n _ _ h1 _ fun v F1 m1 H1 n1 r1 d1 => ?_
    try simp only at h2
    split at h2
    · cases h2
      cases d1
      exact ⟨_, rfl, q _ F1 m1 H1 n1 r1 (.int _)⟩
    · cases h2
/-- x is None -/
def dIsN : D → Bool
  | .non => true
  | _ => false
theorem dn_non {v : V} {d : D} (h : Dn K F m v d) : decide (v = V.non) = dIsN d := by
  cases h <;> simp [dIsN]
def eIsN (f : FE) : FE := bnd f fun d => ret (.bl (dIsN d))
def eNotN (f : FE) : FE := bnd f fun d => ret (.bl (!dIsN d))
theorem se_isN {j pos'} (ha : SE X K mg W a fa) : SE X K mg W (.Compare a [.Is] [.Constant .none j pos'] pos) (eIsN fa) := by
  obtain ⟨t, p, q0⟩ := ha.ex
  refine ⟨⟨_, fun j => pe_cmp (pc_isN (p j)), fun σ H env hp F m r n r' hp' e Q q => ?_⟩⟩
  rcases bnd_val e with ⟨x, h1, rfl⟩ | ⟨d, hp1, h1, h2⟩
  · exact q0 σ H env hp F m r n _ _ h1 _ q
  · cases h2
    refine q0 σ H env hp F m r n _ _ h1 _ fun v F1 m1 H1 n1 r1 d1 => ?_
    rw [dn_non d1]
    exact q _ F1 m1 H1 n1 r1 (.bl _)
theorem se_notN {j pos'} (ha : SE X K mg W a fa) : SE X K mg W (.Compare a [.IsNot] [.Constant .none j pos'] pos) (eNotN fa) := by
  obtain ⟨t, p, q0⟩ := ha.ex
  refine ⟨⟨_, fun j => pe_cmp (pc_notN (p j)), fun σ H env hp F m r n r' hp' e Q q => ?_⟩⟩
  rcases bnd_val e with ⟨x, h1, rfl⟩ | ⟨d, hp1, h1, h2⟩
  · exact q0 σ H env hp F m r n _ _ h1 _ q
  · cases h2
    refine q0 σ H env hp F m r n _ _ h1 _ fun v F1 m1 H1 n1 r1 d1 => ?_
    rw [dn_non d1]
    exact q _ F1 m1 H1 n1 r1 (.bl _)

/-! ### slices -/
abbrev FO := Ev → EH → Option (Res (Option Int) × EH)
def OutO (K : PySem.W.Frag) (mg : Str → Option Value) (W : WX) (F : Hp) (m : List Addr) (σ : L2.St) (H : Hp) (hp' : EH) (Q : Option Int → Hp → Prop) : Res (Option Int) → Prop
  | .val d => ∀ F' m' H', Nx F m H F' m' H' → R K F' m' H' hp' → Q d H'
  | .exc e => ∀ F' m' H' c dd, Nx F m H F' m' H' → R K F' m' H' hp' → Xc K mg F' m' H' e c dd → W c dd σ H'
theorem OutO.nx {F F1 : Hp} {m m1 : List Addr} {σ : L2.St} {H H1 : Hp} {hp' : EH} {Q : Option Int → Hp → Prop} {r : Res (Option Int)} (n : Nx F m H F1 m1 H1) (h : OutO K mg W F m σ H hp' Q r) : OutO K mg W F1 m1 σ H1 hp' Q r := by
  cases r with
  | val d => exact fun F' m' H' n2 r2 => h F' m' H' (n.trans n2) r2
  | exc e => exact fun F' m' H' c dd n2 r2 d2 => h F' m' H' c dd (n.trans n2) r2 d2
structure SO {ι : Type} (X : ι → Cx) (K : PySem.W.Frag) (mg : Str → Option Value) (W : WX) (e : Option Expr) (f : FO) : Prop where
  ex : ∃ t : TO, (∀ i, PO (X i) e t) ∧ ∀ σ H env hp F m, R K F m H hp → En K F m σ env → ∀ r hp', f env hp = some (r, hp') → ∀ Q, OutO K mg W F m σ H hp' Q r → t σ H Q
def oSome (f : FE) : FO := bnd f fun d _ hp => match d with
  | .int i => some (.val (some i), hp)
  | _ => none
theorem so_none : SO X K mg W none (ret none) := ⟨⟨_, fun _ => po_none, fun σ H env hp F m r n r' hp' e Q q => by cases e; exact q F m H Nx.refl r⟩⟩
theorem so_some (h : SE X K mg W e fe) : SO X K mg W (some e) (oSome fe) := by
  obtain ⟨t, p, q0⟩ := h.ex
  refine ⟨⟨_, fun j => po_some (p j), fun σ H env hp F m r n r' hp' e Q q => ?_⟩⟩
  show t σ H fun x H1 => ∃ i, x = .int i ∧ Q (some i) H1
  rcases bnd_val e with ⟨x, h1, rfl⟩ | ⟨d, hp1, h1, h2⟩
  · exact q0 σ H env hp F m r n _ _ h1 _ q
  · refine q0 σ H env hp F m r n _ _ h1 _ fun v F1 m1 H1 n1 r1 d1 => ?_
    try simp only at h2
    split at h2
    · cases h2
      cases d1
      exact ⟨_, rfl, q F1 m1 H1 n1 r1⟩
    · cases h2
def cutD (xs : List D) (lo hi : Option Int) : List D := (xs.drop (HT.sIx xs.length 0 lo)).take (HT.sIx xs.length xs.length hi - HT.sIx xs.length 0 lo)
theorem cut_of {vs : List V} {ds : List D} (h : Dns K F m vs ds) (lo hi : Option Int) : Dns K F m (cutV vs lo hi) (cutD ds lo hi) := by
  unfold cutV cutD
  rw [h.length]
  exact (h.drop _).take _
def gCut (d : D) (lo hi : Option Int) (hp : EH) : Option D := match d with
  | .tup xs => some (.tup (cutD xs lo hi))
  | .scr xs => some (.lst (cutD xs lo hi))
  | d => match asL hp d with
    | some xs => some (.lst (cutD xs lo hi))
    | none => none
def eCut (f : FE) (lo hi : FO) : FE := bnd f fun d => bnd lo fun l => bnd hi fun h _ hp => match gCut d l h hp with
  | some z => some (.val z, hp)
  | none => none
theorem sl_any {Y : Cx} (h : Y.K = K) : SlR Y (fun x lo hi H Q => rSlA K x lo hi H Q ∨ rSlL K x lo hi H Q) := by
  subst h
  exact sl_tupA.or sl_list
theorem cut_whole {xs : List D} {lo hi : Option Int} (h : HT.sIx xs.length 0 lo = 0 ∧ HT.sIx xs.length xs.length hi = xs.length) : cutD xs lo hi = xs := by
  unfold cutD
  rw [h.1, h.2]
  simp
theorem se_slice {lo hi : Option Expr} {fl fh : FO} {p2 : Pos} (hF : Fam X K mg) (ha : SE X K mg W e fe) (hl : SO X K mg W lo fl) (hh : SO X K mg W hi fh) : SE X K mg W (.Subscript e (.Slice lo hi none p2) pos) (eCut fe fl fh) := by
  obtain ⟨t, p, q0⟩ := ha.ex
  obtain ⟨tl, pl, ql⟩ := hl.ex
  obtain ⟨th, ph, qh⟩ := hh.ex
  refine ⟨⟨_, fun j => pe_slice (sl_any (hF.k j)) (p j) (pl j) (ph j), fun σ H env hp F m r n r' hp' e Q q => ?_⟩⟩
  rcases bnd_val e with ⟨x, h1, rfl⟩ | ⟨d, hp1, h1, h2⟩
  · exact q0 σ H env hp F m r n _ _ h1 _ q
  refine q0 σ H env hp F m r n _ _ h1 _ fun v F1 m1 H1 n1 r1 d1 => ?_
  rcases bnd_val h2 with ⟨x, h3, rfl⟩ | ⟨l, hp2, h3, h4⟩
  · exact ql σ H1 env hp1 F1 m1 r1 (n.mono n1) _ _ h3 _ (OutE.nx n1 q)
  refine ql σ H1 env hp1 F1 m1 r1 (n.mono n1) _ _ h3 _ fun F2 m2 H2 n2 r2 => ?_
  have n12 := n1.trans n2
  rcases bnd_val h4 with ⟨x, h5, rfl⟩ | ⟨h, hp3, h5, h6⟩
  · exact qh σ H2 env hp2 F2 m2 r2 (n.mono n12) _ _ h5 _ (OutE.nx n12 q)
  refine qh σ H2 env hp2 F2 m2 r2 (n.mono n12) _ _ h5 _ fun F3 m3 H3 n3 r3 => ?_
  have n13 := n12.trans n3
  have d3 := (d1.mono n2.fz n2.pre).mono n3.fz n3.pre
  try simp only at h6
  split at h6
  · rename_i z hz
    cases h6
    have list : ∀ xs, asL hp' d = some xs → z = .lst (cutD xs l h) → rSlL K v l h H3 Q := fun xs hx ez => by
      subst ez
      obtain ⟨a, vs, rfl, q1, q2⟩ := rd_of r3 d3 hx
      refine ⟨a, vs, rfl, SqL.of q1, fun p hp' => ?_⟩
      obtain ⟨F', n', r', d'⟩ := new_lst (σ := σ) r3 (cut_of q2 l h) hp'
      exact q _ F' m3 _ (n13.trans n') r' d'
    cases d with
    | tup xs =>
      simp [gCut] at hz
      subst hz
      cases d3 with
      | tup a1 a2 =>
        rename_i a vs
        have a2l := a2.length
        refine .inl ⟨a, vs, rfl, SqT.mono r3.sub a1, fun hw => ?_, fun _ p hp' => ?_⟩
        · rw [a2l] at hw
          rw [cut_whole hw] at q
          exact q _ F3 m3 H3 n13 r3 (.tup a1 a2)
        · obtain ⟨F', n', r', d'⟩ := new_tup (σ := σ) r3 (cut_of a2 l h) hp'
          exact q _ F' m3 _ (n13.trans n') r' d'
    | scr xs =>
      simp [gCut] at hz
      subst hz
      cases d3 with
      | scr a1 a2 =>
        refine .inr ⟨_, _, rfl, SqL.mono r3.sub a1, fun p hp' => ?_⟩
        obtain ⟨F', n', r', d'⟩ := new_lst (σ := σ) r3 (cut_of a2 l h) hp'
        exact q _ F' m3 _ (n13.trans n') r' d'
    | lst xs =>
      simp [gCut, asL] at hz
      exact .inr (list xs rfl hz.symm)
    | obj i =>
      simp only [gCut, asL] at hz
      split at hz
      · rename_i xs hx
        cases hz
        exact .inr (list xs hx rfl)
      · cases hz
    | _ => simp [gCut, asL] at hz
  · cases h6
end
end MP
end

section
set_option maxRecDepth 100000
set_option maxHeartbeats 1000000
namespace MP
open PySem PySem.Spec PyProof.Rows L2 RZ
variable [WW] [FV]

theorem wipe_get (σ : L2.St) (i : Nat) : ∀ vs : List Nat, (wipe σ vs)[i]? = if i ∈ vs then (σ[i]?).map (fun _ => none) else σ[i]?
  | [] => by simp [wipe]
  | v :: vs => by
    rw [wipe, List.getElem?_set, wipe_get σ i vs, wipe_length]
    by_cases h : v = i
    · subst h
      by_cases hl : v < σ.length
      · simp [hl, List.getElem?_eq_getElem hl]
      · simp [hl, List.getElem?_eq_none (Nat.le_of_not_lt hl)]
    · have h' : ¬ i = v := fun e => h e.symm
      simp [h, h']
theorem wipe_set (σ : L2.St) (j : Nat) (x : Option V) (vs : List Nat) (hj : j ∈ vs) : wipe (σ.set j x) vs = wipe σ vs := by
  apply List.ext_getElem?
  intro i
  rw [wipe_get, wipe_get]
  by_cases h : i ∈ vs
  · simp only [h, if_true]
    rw [List.getElem?_set]
    by_cases hij : j = i
    · subst hij
      by_cases hl : j < σ.length
      · simp [hl, List.getElem?_eq_getElem hl]
      · simp [hl, List.getElem?_eq_none (Nat.le_of_not_lt hl)]
    · simp [hij]
  · simp only [h, if_false]
    rw [List.getElem?_set_ne]
    intro e
    subst e
    exact h hj
/-- the same over the known names -/
def wipeE (env : Ev) : List Nat → Ev
  | [] => env
  | v :: vs => (wipeE env vs).set v none
theorem wipeE_get (σ : Ev) (i : Nat) : ∀ vs : List Nat, (wipeE σ vs)[i]? = if i ∈ vs then (σ[i]?).map (fun _ => none) else σ[i]?
  | [] => by simp [wipeE]
  | v :: vs => by
    have hl : (wipeE σ vs).length = σ.length := by
      induction vs with
      | nil => rfl
      | cons w ws ih => simp [wipeE, ih]
    rw [wipeE, List.getElem?_set, wipeE_get σ i vs, hl]
    by_cases h : v = i
    · subst h
      by_cases hl : v < σ.length
      · simp [hl, List.getElem?_eq_getElem hl]
      · simp [hl, List.getElem?_eq_none (Nat.le_of_not_lt hl)]
    · have h' : ¬ i = v := fun e => h e.symm
      simp [h, h']
theorem wipeE_len (σ : Ev) : ∀ vs : List Nat, (wipeE σ vs).length = σ.length
  | [] => rfl
  | v :: vs => by simp [wipeE, wipeE_len σ vs]
theorem En.wipe {K : PySem.W.Frag} {F : Hp} {m : List Addr} {σ : L2.St} {env : Ev} (n : En K F m σ env) (vs : List Nat) (hv : ∀ i ∈ vs, i ∉ FV.slots) : En K F m (L2.wipe σ vs) (wipeE env vs) := ⟨by rw [wipeE_len, wipe_length]; exact n.len, fun i d h => by
  rw [wipeE_get] at h
  by_cases hi : i ∈ vs
  · simp only [hi, if_true] at h
    cases e : env[i]? with
    | none => rw [e] at h; cases h
    | some o => rw [e] at h; cases h
  · simp only [hi, if_false] at h
    rw [wipe_get]
    simp only [hi, if_false]
    exact n.get i d h, fun i hs h => by
  have hi : i ∉ vs := fun z => hv i z hs
  rw [wipeE_get] at h
  rw [wipe_get]
  simp only [hi, if_false] at h ⊢
  exact n.fn i hs h, n.nd⟩

section
variable {ι : Type} {X : ι → Cx} {K : PySem.W.Frag} {mg : Str → Option Value} {W : WX} {F F' : Hp} {m m' : List Addr} {H H' : Hp} {hp hp' : EH}

/-! ### targets: a name, several names in brackets -/
structure SG {ι : Type} (X : ι → Cx) (K : PySem.W.Frag) (tg : Expr) (js : List Nat) (g : D → Ev → Option Ev) : Prop where
  ex : ∃ t : TG, (∀ j, PG (X j) tg t) ∧ ∀ v d σ H env (hp : EH) F m, R K F m H hp → En K F m σ env → Dn K F m v d → ∀ env', g d env = some env' → ∀ Q : L2.St → Hp → Prop,
    (∀ σ', En K F m σ' env' → (∀ vs : List Nat, (∀ j, j ∈ js → j ∈ vs) → wipe σ' vs = wipe σ vs) → Q σ' H) → t v σ H Q
structure SGs {ι : Type} (X : ι → Cx) (K : PySem.W.Frag) (tgs : List Expr) (js : List Nat) (g : List D → Ev → Option Ev) : Prop where
  ex : ∃ t : TGs, (∀ j, PGs (X j) tgs t) ∧ ∀ vs ds σ H env (hp : EH) F m, R K F m H hp → En K F m σ env → Dns K F m vs ds → ∀ env', g ds env = some env' → ∀ Q : L2.St → Hp → Prop,
    (∀ σ', En K F m σ' env' → (∀ vs : List Nat, (∀ j, j ∈ js → j ∈ vs) → wipe σ' vs = wipe σ vs) → Q σ' H) → t vs σ H Q
def tgN (i : Nat) : D → Ev → Option Ev := fun d env => some (env.set i (some d))
def tgNil : List D → Ev → Option Ev := fun ds env => match ds with
  | [] => some env
  | _ => none
def tgCons (g : D → Ev → Option Ev) (gs : List D → Ev → Option Ev) : List D → Ev → Option Ev := fun ds env => match ds with
  | d :: ds => match g d env with
    | some env1 => gs ds env1
    | none => none
  | [] => none
def tgT (n : Nat) (gs : List D → Ev → Option Ev) : D → Ev → Option Ev := fun d env => match d with
  | .tup ds => if ds.length = n then gs ds env else none
  | _ => none
variable {tg e : Expr} {es : List Expr} {js ks : List Nat} {g : D → Ev → Option Ev} {gs : List D → Ev → Option Ev} {pos : Pos}
theorem sg_name {i : Nat} {x : Str} (hF : Fam X K mg) (hi : ∀ j, (X j).N[i]? = some x := by intro _; rfl) (hx : ∀ j, Loc (X j).env.scope x := by first | exact fun _ => Or.inl rfl | exact fun _ => Or.inr rfl) (hf : ∀ j, (X j).fn x = true ∨ (X j).env.scope.names.lookup x = some .local := by first | exact fun _ => .inl rfl | exact fun _ => .inr rfl) : SG X K (.Name x pos) [i] (tgN i) :=
  ⟨⟨_, fun j => pg_name (hF.nd j) (hi j) (hx j) (hf j), fun v d σ H env hp F m r n dn env' e Q q => by
    cases e
    exact q _ (n.set dn) fun vs hv => wipe_set σ i _ vs (hv i (by simp))⟩⟩
theorem sgs_nil : SGs X K [] [] tgNil := ⟨⟨_, fun _ => pgs_nil, fun vs ds σ H env hp F m r n dn env' e Q q => by
  unfold tgNil at e
  split at e
  · cases e
    cases dn
    exact ⟨rfl, q _ n fun _ _ => rfl⟩
  · cases e⟩⟩
theorem sgs_cons (h1 : SG X K e js g) (h2 : SGs X K es ks gs) (hp : ∀ j t u, PG (X j) e t → PGs (X j) es u → PGs (X j) (e :: es) (gCons t u) := by intro j t u a b; exact pgs_cons a b) : SGs X K (e :: es) (js ++ ks) (tgCons g gs) := by
  obtain ⟨t, p, q0⟩ := h1.ex
  obtain ⟨u, p2, q2⟩ := h2.ex
  refine ⟨⟨_, fun j => hp j _ _ (p j) (p2 j), fun vs ds σ H env hp F m r n dn env' e Q q => ?_⟩⟩
  unfold tgCons at e
  split at e
  · rename_i d ds'
    split at e
    · rename_i env1 he
      cases dn with
      | cons d1 d2 =>
        refine ⟨_, _, rfl, q0 _ _ σ H env hp F m r n d1 env1 he _ fun σ1 n1 w1 => ?_⟩
        refine q2 _ _ σ1 H env1 hp F m r n1 d2 env' e _ fun σ2 n2 w2 => ?_
        exact q σ2 n2 fun vs hv => (w2 vs fun j hj => hv j (List.mem_append_right _ hj)).trans (w1 vs fun j hj => hv j (List.mem_append_left _ hj))
    · cases e
  · cases e
theorem sg_tup {k n : Nat} (h : SGs X K es js gs) (hp : ∀ j t, PGs (X j) es t → PG (X j) (.Tuple es k pos) (gTup (X j).K n t)) (hF : Fam X K mg) : SG X K (.Tuple es k pos) js (tgT n gs) := by
  obtain ⟨t, p, q0⟩ := h.ex
  refine ⟨⟨_, fun j => by have z := hp j _ (p j); rw [hF.k j] at z; exact z, fun v d σ H env hp F m r n dn env' e Q q => ?_⟩⟩
  unfold tgT at e
  split at e
  · split at e
    · rename_i hl
      cases dn with
      | tup a1 a2 =>
        exact ⟨_, _, rfl, SqT.mono r.sub a1, by rw [a2.length]; exact hl, q0 _ _ σ H env hp F m r n a2 env' e Q q⟩
    · cases e
  · cases e

/-! ### what is walked -/
structure ItOk (K : PySem.W.Frag) (F : Hp) (m : List Addr) (J : It) (ds : List D) (chk : EH → Bool) : Prop where
  go : ∀ i F' m' H' hp', Same F F' → m <+: m' → R K F' m' H' hp' → chk hp' = true → i < ds.length → J.go i H'
  stop : ∀ F' m' H' hp', Same F F' → m <+: m' → R K F' m' H' hp' → chk hp' = true → J.stop ds.length H'
  yld : ∀ i F' m' H' hp' v H'', Same F F' → m <+: m' → R K F' m' H' hp' → chk hp' = true → i < ds.length → J.yld i H' v H'' → ∃ d F'', ds[i]? = some d ∧ Nx F' m' H' F'' m' H'' ∧ R K F'' m' H'' hp' ∧ Dn K F'' m' v d
def OutI (K : PySem.W.Frag) (mg : Str → Option Value) (W : WX) (F : Hp) (m : List Addr) (σ : L2.St) (H : Hp) (hp' : EH) (Q : It → Hp → Prop) : Res (List D × (EH → Bool)) → Prop
  | .val p => ∀ J F' m' H', Nx F m H F' m' H' → R K F' m' H' hp' → ItOk K F' m' J p.1 p.2 → Q J H'
  | .exc e => ∀ F' m' H' c dd, Nx F m H F' m' H' → R K F' m' H' hp' → Xc K mg F' m' H' e c dd → W c dd σ H'
abbrev FI := Ev → EH → Option (Res (List D × (EH → Bool)) × EH)
structure SI {ι : Type} (X : ι → Cx) (K : PySem.W.Frag) (mg : Str → Option Value) (W : WX) (tg iter : Expr) (f : FI) : Prop where
  ex : ∃ wi : TI, (∀ j, PI (X j) tg iter wi) ∧ ∀ σ H env hp F m, R K F m H hp → En K F m σ env → ∀ r hp', f env hp = some (r, hp') → ∀ Q, OutI K mg W F m σ H hp' Q r → wi σ H Q
theorem PI.or {Y : Cx} {iter : Expr} {w1 w2 : TI} (a : PI Y tg iter w1) (b : PI Y tg iter w2) : PI Y tg iter (fun σ H R => w1 σ H R ∨ w2 σ H R) := ⟨fun pins s σ H R I h => by
  rcases h with h | h
  · exact a.run pins s σ H R I h
  · exact b.run pins s σ H R I h⟩
def yes : EH → Bool := fun _ => true
def sameObj (i : Nat) (xs : List D) : EH → Bool := fun hp => match hp[i]? with
  | some ys => D.beqs ys xs
  | none => false
theorem sameObj_eq {i : Nat} {xs : List D} {hp : EH} (h : sameObj i xs hp = true) : hp[i]? = some xs := by
  unfold sameObj at h
  split at h
  · rename_i ys hy
    rw [hy, D.beqs_eq h]
  · cases h
/-- over a list, a tuple -/
def iSeq (f : FE) : FI := bnd f fun d _ hp => match d with
  | .lst xs => some (.val (xs, yes), hp)
  | .tup xs => some (.val (xs, yes), hp)
  | .obj i => match hp[i]? with
    | some xs => some (.val (xs, sameObj i xs), hp)
    | none => none
  | _ => none
theorem it_list {a : Addr} {vs : List V} {xs : List D} {chk : EH → Bool} (h : ∀ F' m' H' hp', Same F F' → m <+: m' → R K F' m' H' hp' → chk hp' = true → ∃ vs, SqL K H' a vs ∧ Dns K F' m' vs xs)
    (inj : ∀ (H' : Hp) vs ws, SqL K H' a vs → SqL K H' a ws → vs = ws ∨ True := by intros; exact .inr trivial) : ItOk K F m (Itl K a) xs chk where
  go := fun i F' m' H' hp' s p r c hi => by
    obtain ⟨vs, h1, h2⟩ := h F' m' H' hp' s p r c
    have hl : i < vs.length := by rw [h2.length]; exact hi
    exact ⟨vs, vs[i], h1, List.getElem?_eq_getElem hl⟩
  stop := fun F' m' H' hp' s p r c => by
    obtain ⟨vs, h1, h2⟩ := h F' m' H' hp' s p r c
    exact ⟨vs, h1, by rw [h2.length]; exact Nat.le_refl _⟩
  yld := fun i F' m' H' hp' v H'' s p r c hi y => by
    obtain ⟨vs, h1, h2⟩ := h F' m' H' hp' s p r c
    obtain ⟨e, y2⟩ := y
    subst e
    obtain ⟨d, q1, q2⟩ := h2.getV (y2 vs h1)
    exact ⟨d, F', q1, Nx.refl, r, q2⟩
theorem it_tup {a : Addr} {vs : List V} {xs : List D} (h1 : SqT K F a vs) (h2 : Dns K F m vs xs) : ItOk K F m (Itt K a) xs yes where
  go := fun i F' m' H' hp' s p r c hi => by
    have hl : i < vs.length := by rw [h2.length]; exact hi
    exact ⟨vs, vs[i], SqT.mono (s.trans r.sub) h1, List.getElem?_eq_getElem hl⟩
  stop := fun F' m' H' hp' s p r c => ⟨vs, SqT.mono (s.trans r.sub) h1, by rw [h2.length]; exact Nat.le_refl _⟩
  yld := fun i F' m' H' hp' v H'' s p r c hi y => by
    obtain ⟨e, y2⟩ := y
    subst e
    obtain ⟨d, q1, q2⟩ := h2.getV (y2 vs (SqT.mono (s.trans r.sub) h1))
    exact ⟨d, F', q1, Nx.refl, r, q2.mono s p⟩
variable {iter : Expr} {fe : FE} {ga : FA}
theorem si_seq (hF : Fam X K mg) (h : SE X K mg W iter fe) : SI X K mg W tg iter (iSeq fe) := by
  obtain ⟨t, p, q0⟩ := h.ex
  refine ⟨⟨_, fun j => by have z := PI.or (tg := tg) (pi_list (p j)) (pi_tup (p j)); rw [hF.k j] at z; exact z, fun σ H env hp F m r n r' hp' e Q q => ?_⟩⟩
  rcases bnd_val e with ⟨x, h1, rfl⟩ | ⟨d, hp1, h1, h2⟩
  · exact .inl (q0 σ H env hp F m r n _ _ h1 _ q)
  · try simp only at h2
    split at h2
    · cases h2
      refine .inl (q0 σ H env hp F m r n _ _ h1 _ fun v F1 m1 H1 n1 r1 d1 => ?_)
      cases d1 with
      | lst a1 a2 =>
        rename_i a vs
        exact ⟨_, rfl, ⟨_, SqL.of (r1.sub _ _ a1)⟩, q _ F1 m1 H1 n1 r1 (it_list (vs := vs) fun F' m' H' hp' s p r c => ⟨vs, SqL.of ((s.trans r.sub) _ _ a1), a2.mono s p⟩)⟩
    · cases h2
      refine .inr (q0 σ H env hp F m r n _ _ h1 _ fun v F1 m1 H1 n1 r1 d1 => ?_)
      cases d1 with
      | tup a1 a2 => exact ⟨_, rfl, ⟨_, SqT.mono r1.sub a1⟩, q _ F1 m1 H1 n1 r1 (it_tup a1 a2)⟩
    · split at h2
      · rename_i xs hx
        cases h2
        refine .inl (q0 σ H env hp F m r n _ _ h1 _ fun v F1 m1 H1 n1 r1 d1 => ?_)
        cases d1 with
        | obj hi =>
          rename_i a
          obtain ⟨vs, w1, w2⟩ := r1.obj _ a xs hi hx
          refine ⟨a, rfl, ⟨vs, SqL.of w1⟩, q _ F1 m1 H1 n1 r1 (it_list (vs := vs) fun F' m' H' hp' s p r c => ?_)⟩
          obtain ⟨ws, z1, z2⟩ := r.obj _ a xs (pre_get p hi) (sameObj_eq c)
          exact ⟨ws, SqL.of z1, z2⟩
      · cases h2
    · cases h2
/-- over range(n), range(a, b) -/
def rangeD (lo : Int) (n : Nat) : List D := (List.range n).map fun i => .int (lo + (i : Nat))
def iRange1 (g : FA) : FI := bnd g fun ds _ hp => match ds with
  | [.int j] => if j ≤ 1000000 ∧ -1000000 ≤ j then some (.val (rangeD 0 j.toNat, yes), hp) else none
  | _ => none
def iRange2 (g : FA) : FI := bnd g fun ds _ hp => match ds with
  | [.int i, .int j] => if i ≤ 1000000 ∧ -1000000 ≤ i ∧ j ≤ 1000000 ∧ -1000000 ≤ j then some (.val (rangeD i (j - i).toNat, yes), hp) else none
  | _ => none
theorem it_range {lo : Int} {n : Nat} : ItOk K F m (Itr lo n) (rangeD lo n) yes where
  go := fun i F' m' H' hp' s p r c hi => by
    show i < n
    simpa [rangeD] using hi
  stop := fun F' m' H' hp' s p r c => by show n ≤ (rangeD lo n).length; simp [rangeD]
  yld := fun i F' m' H' hp' v H'' s p r c hi y => by
    obtain ⟨e, y2⟩ := y
    subst e; subst y2
    have hn : i < n := by simpa [rangeD] using hi
    exact ⟨.int (lo + (i : Nat)), F', by simp [rangeD, hn], Nx.refl, r, .int _⟩
theorem si_range1 {a : Expr} {p : Pos} (hF : Fam X K mg) (hg : ∀ j, Gl (X j) "range") (hm : mg "range" = none) (ha : SA X K mg W [a] ga) (hs : ∀ j, starEach [a] (X j).env = [(false, eval a (X j).env)] := by intro _; rfl) : SI X K mg W tg (.Call (.Name "range" p) [a] [] pos) (iRange1 ga) := by
  obtain ⟨t, pt, q0⟩ := ha.ex
  refine ⟨⟨_, fun j => pi_range1 (hg j) (by rw [hF.g j]; exact hm) (pt j) (hs j), fun σ H env hp F m r n r' hp' e Q q => ?_⟩⟩
  rcases bnd_val e with ⟨x, h1, rfl⟩ | ⟨ds, hp1, h1, h2⟩
  · exact q0 σ H env hp F m r n _ _ h1 _ q
  · refine q0 σ H env hp F m r n _ _ h1 _ fun vs F1 m1 H1 n1 r1 d1 => ?_
    try simp only at h2
    split at h2
    · split at h2
      · rename_i hj
        cases h2
        cases d1 with
        | cons c1 c2 =>
          cases c1; cases c2
          exact ⟨_, rfl, by omega, by omega, q _ F1 m1 H1 n1 r1 it_range⟩
      · cases h2
    · cases h2
theorem si_range2 {a b : Expr} {p : Pos} (hF : Fam X K mg) (hg : ∀ j, Gl (X j) "range") (hm : mg "range" = none) (ha : SA X K mg W [a, b] ga) (hs : ∀ j, starEach [a, b] (X j).env = [(false, eval a (X j).env), (false, eval b (X j).env)] := by intro _; rfl) (hs2 : ∀ j, starEach [b] (X j).env = [(false, eval b (X j).env)] := by intro _; rfl) : SI X K mg W tg (.Call (.Name "range" p) [a, b] [] pos) (iRange2 ga) := by
  obtain ⟨t, pt, q0⟩ := ha.ex
  refine ⟨⟨_, fun j => pi_range2 (hg j) (by rw [hF.g j]; exact hm) (pt j) (hs j) (hs2 j), fun σ H env hp F m r n r' hp' e Q q => ?_⟩⟩
  rcases bnd_val e with ⟨x, h1, rfl⟩ | ⟨ds, hp1, h1, h2⟩
  · exact q0 σ H env hp F m r n _ _ h1 _ q
  · refine q0 σ H env hp F m r n _ _ h1 _ fun vs F1 m1 H1 n1 r1 d1 => ?_
    try simp only at h2
    split at h2
    · split at h2
      · rename_i hj
        cases h2
        cases d1 with
        | cons c1 c2 =>
          cases c1
          cases c2 with
          | cons c2 c3 =>
            cases c2; cases c3
            exact ⟨_, _, rfl, by omega, q _ F1 m1 H1 n1 r1 it_range⟩
      · cases h2
    · cases h2
/-- over zip of two lists, of two tuples -/
def zipD : List D → List D → List D
  | x :: xs, y :: ys => .tup [x, y] :: zipD xs ys
  | _, _ => []
theorem zipD_get : ∀ (xs ys : List D) (i : Nat) (x y : D), xs[i]? = some x → ys[i]? = some y → (zipD xs ys)[i]? = some (.tup [x, y])
  | [], _, i, _, _, h, _ => by simp at h
  | x :: xs, [], i, _, _, _, h => by simp at h
  | x :: xs, y :: ys, 0, _, _, h1, h2 => by
    simp at h1 h2
    subst h1; subst h2
    rfl
  | x :: xs, y :: ys, i + 1, _, _, h1, h2 => zipD_get xs ys i _ _ (by simpa using h1) (by simpa using h2)
theorem zipD_len : ∀ xs ys : List D, (zipD xs ys).length = min xs.length ys.length
  | [], _ => by simp [zipD]
  | x :: xs, [] => by simp [zipD]
  | x :: xs, y :: ys => by simp [zipD, zipD_len xs ys]
def iZip (g : FA) : FI := bnd g fun ds _ hp => match ds with
  | [.lst xs, .lst ys] => some (.val (zipD xs ys, yes), hp)
  | [.tup xs, .tup ys] => some (.val (zipD xs ys, yes), hp)
  | _ => none
theorem it_zipT {a b : Addr} {vs ws : List V} {xs ys : List D} (h1 : SqT K F a vs) (h2 : Dns K F m vs xs) (k1 : SqT K F b ws) (k2 : Dns K F m ws ys) : ItOk K F m (ItzT K a b) (zipD xs ys) yes where
  go := fun i F' m' H' hp' s p r c hi => by
    rw [zipD_len] at hi
    have hl : i < vs.length := by rw [h2.length]; omega
    have hl2 : i < ws.length := by rw [k2.length]; omega
    exact ⟨vs, ws, vs[i], ws[i], SqT.mono (s.trans r.sub) h1, SqT.mono (s.trans r.sub) k1, List.getElem?_eq_getElem hl, List.getElem?_eq_getElem hl2⟩
  stop := fun F' m' H' hp' s p r c => ⟨vs, ws, SqT.mono (s.trans r.sub) h1, SqT.mono (s.trans r.sub) k1, by rw [zipD_len, h2.length, k2.length]; omega⟩
  yld := fun i F' m' H' hp' v H'' s p r c hi y => by
    obtain ⟨T, x, z, e1, nT, e2, y1, y2⟩ := y
    subst e1; subst e2
    obtain ⟨d, q1, q2⟩ := h2.getV (y1 vs (SqT.mono (s.trans r.sub) h1))
    obtain ⟨d', q3, q4⟩ := k2.getV (y2 ws (SqT.mono (s.trans r.sub) k1))
    obtain ⟨F'', n', r', d''⟩ := new_tup (σ := []) (ds := [d, d']) r (.cons (q2.mono s p) (.cons (q4.mono s p) .nil)) nT
    exact ⟨_, F'', zipD_get _ _ _ _ _ q1 q3, n', r', d''⟩
theorem it_zipL {a b : Addr} {vs ws : List V} {xs ys : List D} (h1 : F a = some (.lst vs)) (h2 : Dns K F m vs xs) (k1 : F b = some (.lst ws)) (k2 : Dns K F m ws ys) : ItOk K F m (Itz K a b) (zipD xs ys) yes where
  go := fun i F' m' H' hp' s p r c hi => by
    rw [zipD_len] at hi
    have hl : i < vs.length := by rw [h2.length]; omega
    have hl2 : i < ws.length := by rw [k2.length]; omega
    exact ⟨vs, ws, vs[i], ws[i], SqL.of ((s.trans r.sub) _ _ h1), SqL.of ((s.trans r.sub) _ _ k1), List.getElem?_eq_getElem hl, List.getElem?_eq_getElem hl2⟩
  stop := fun F' m' H' hp' s p r c => ⟨vs, ws, SqL.of ((s.trans r.sub) _ _ h1), SqL.of ((s.trans r.sub) _ _ k1), by rw [zipD_len, h2.length, k2.length]; omega⟩
  yld := fun i F' m' H' hp' v H'' s p r c hi y => by
    obtain ⟨T, x, z, e1, nT, e2, y1, y2⟩ := y
    subst e1; subst e2
    obtain ⟨d, q1, q2⟩ := h2.getV (y1 vs (SqL.of ((s.trans r.sub) _ _ h1)))
    obtain ⟨d', q3, q4⟩ := k2.getV (y2 ws (SqL.of ((s.trans r.sub) _ _ k1)))
    obtain ⟨F'', n', r', d''⟩ := new_tup (σ := []) (ds := [d, d']) r (.cons (q2.mono s p) (.cons (q4.mono s p) .nil)) nT
    exact ⟨_, F'', zipD_get _ _ _ _ _ q1 q3, n', r', d''⟩
theorem si_zip {a b : Expr} {elts : List Expr} {kk : Nat} {tpos p : Pos} (hF : Fam X K mg) (hg : ∀ j, Gl (X j) "zip") (hm : mg "zip" = none) (ha : SA X K mg W [a, b] ga)
    (hs : ∀ j, starEach [a, b] (X j).env = (false, eval a (X j).env) :: starEach [b] (X j).env := by intro _; rfl) (hpl : ∀ j, (backTo pos (starEach [b] (X j).env)).any (·.1) = false := by intro _; rfl) : SI X K mg W (.Tuple elts kk tpos) (.Call (.Name "zip" p) [a, b] [] pos) (iZip ga) := by
  obtain ⟨t, pt, q0⟩ := ha.ex
  refine ⟨⟨_, fun j => by have z := pi_zipA (elts := elts) (kk := kk) (tpos := tpos) (p := p) (pos := pos) (hg j) (by rw [hF.g j]; exact hm) (pt j) (hs j) (hpl j); rw [hF.k j] at z; exact z, fun σ H env hp F m r n r' hp' e Q q => ?_⟩⟩
  rcases bnd_val e with ⟨x, h1, rfl⟩ | ⟨ds, hp1, h1, h2⟩
  · exact q0 σ H env hp F m r n _ _ h1 _ q
  · refine q0 σ H env hp F m r n _ _ h1 _ fun vs F1 m1 H1 n1 r1 d1 => ?_
    try simp only at h2
    split at h2
    · cases h2
      cases d1 with
      | cons c1 c2 =>
        cases c2 with
        | cons c2 c3 =>
          cases c3
          cases c1 with
          | lst a1 a2 =>
            cases c2 with
            | lst b1 b2 => exact ⟨_, _, _, _, rfl, .inl ⟨SqL.of (r1.sub _ _ a1), SqL.of (r1.sub _ _ b1), q _ F1 m1 H1 n1 r1 (it_zipL a1 a2 b1 b2)⟩⟩
    · cases h2
      cases d1 with
      | cons c1 c2 =>
        cases c2 with
        | cons c2 c3 =>
          cases c3
          cases c1 with
          | tup a1 a2 =>
            cases c2 with
            | tup b1 b2 => exact ⟨_, _, _, _, rfl, .inr ⟨SqT.mono r1.sub a1, SqT.mono r1.sub b1, q _ F1 m1 H1 n1 r1 (it_zipT a1 a2 b1 b2)⟩⟩
    · cases h2

/-! ### list comprehensions (one for) -/
/-- the turns: g the target, t the tests, f the element; nothing may be raised -/
def lcRun (g : D → Ev → Option Ev) (chk : EH → Bool) (t : FT) (f : FE) (env : Ev) : List D → EH → Option (List D × EH)
  | [], hp => if chk hp = true then some ([], hp) else none
  | d :: ds, hp => if chk hp = true then match g d env with
    | none => none
    | some env1 => match t env1 hp with
      | some (.val true, hp1) => match f env1 hp1 with
        | some (.val y, hp2) => match lcRun g chk t f env ds hp2 with
          | some (ys, hp3) => some (y :: ys, hp3)
          | none => none
        | _ => none
      | some (.val false, hp1) => lcRun g chk t f env ds hp1
      | _ => none
    else none
def eLc (src : FI) (vs : List Nat) (g : D → Ev → Option Ev) (t : FT) (f : FE) : FE := bnd src fun p env hp => match lcRun g p.2 t f (wipeE env vs) p.1 hp with
  | some (ys, hp') => if ys.length ≤ 16777216 then some (.val (.lst ys), hp') else none
  | none => none
def tYesF : FT := ret true
abbrev WF : WX := fun _ _ _ _ => False
structure STs {ι : Type} (X : ι → Cx) (K : PySem.W.Frag) (mg : Str → Option Value) (W : WX) (ifs : List Expr) (f : FT) : Prop where
  ex : ∃ t : TT, (∀ j, PTs (X j) ifs t) ∧ ∀ σ H env hp F m, R K F m H hp → En K F m σ env → ∀ r hp', f env hp = some (r, hp') → ∀ Q, OutT K mg W F m σ H hp' Q r → t σ H Q
theorem sts_nil : STs X K mg W [] tYesF := ⟨⟨_, fun _ => pts_nil, fun σ H env hp F m r n r' hp' e Q q => by cases e; exact q F m H Nx.refl r⟩⟩
theorem sts_one {c : Expr} {f : FT} (h : ST X K mg W c f) : STs X K mg W [c] f := by
  obtain ⟨t, p, q0⟩ := h.ex
  exact ⟨⟨_, fun j => pts_one (p j), q0⟩⟩
/-- the turns of a comprehension -/
theorem lc_turns {J : It} {tgt : TG} {tt : TT} {te : TE} {g : D → Ev → Option Ev} {t : FT} {f : FE} {vs : List Nat} {js : List Nat} {ds : List D} {chk : EH → Bool} {σ : L2.St} {env : Ev} {Dl : Addr} {ys : List D}
    (hjs : ∀ j, j ∈ js → j ∈ vs) (hfs : ∀ i ∈ vs, i ∉ FV.slots)
    (qg : ∀ v d σ H env (hp : EH) F m, R K F m H hp → En K F m σ env → Dn K F m v d → ∀ env', g d env = some env' → ∀ Q : L2.St → Hp → Prop, (∀ σ', En K F m σ' env' → (∀ vs : List Nat, (∀ j, j ∈ js → j ∈ vs) → wipe σ' vs = wipe σ vs) → Q σ' H) → tgt v σ H Q)
    (qt : ∀ σ H env hp F m, R K F m H hp → En K F m σ env → ∀ r hp', t env hp = some (r, hp') → ∀ Q, OutT K mg WF F m σ H hp' Q r → tt σ H Q)
    (qe : ∀ σ H env hp F m, R K F m H hp → En K F m σ env → ∀ r hp', f env hp = some (r, hp') → ∀ Q, OutE K mg WF F m σ H hp' Q r → te σ H Q)
    (ok : ItOk K F m J ds chk) (r : R K F m H hp) (n : En K F m σ env) (nD : H Dl = none)
    (e : lcRun g chk t f (wipeE env vs) ds hp = some (ys, hp')) (hl : ys.length ≤ 16777216) {Q : Hp → Prop}
    (q : ∀ ws F' m' H', Nx F m H F' m' H' → R K F' m' H' hp' → Dns K F' m' ws ys → H' Dl = some (.lst ws) → Dl ∉ m' → F' Dl = none → Q H') :
    ∃ Wx : Nat → Nat → Hp → Prop, (∃ k, Wx 0 k (upd H Dl (.lst []))) ∧ ∀ i k H, Wx i k H → (J.stop i H ∧ Q H) ∨ (J.go i H ∧ ∃ Nxt : Hp → Prop, (∀ H', Nxt H' → ∃ k', k' < k ∧ Wx (i + 1) k' H') ∧
      ∀ x H', J.yld i H x H' → tgt x (wipe σ vs) H' fun σ2 H2 => wipe σ2 vs = wipe σ vs ∧ tt σ2 H2 fun b H3 => if b = true then te σ2 H3 fun y H4 => ∃ acc, H4 Dl = some (.lst acc) ∧ acc.length < sizeLine ∧ Nxt (upd H4 Dl (.lst (acc ++ [y]))) else Nxt H3) := by
  have ww : wipe (wipe σ vs) vs = wipe σ vs := by
    apply List.ext_getElem?
    intro i
    rw [wipe_get, wipe_get]
    by_cases h : i ∈ vs
    · simp only [h, if_true]
      cases σ[i]? <;> rfl
    · simp only [h, if_false]
  -- the list at Dl: not known to the plain world
  let S : Hp → List Addr → Hp → EH → List V → Prop := fun F1 m1 H1 hp1 ws => R K F1 m1 H1 hp1 ∧ Nx F m H F1 m1 H1 ∧ H1 Dl = some (.lst ws) ∧ Dl ∉ m1 ∧ F1 Dl = none
  have mv : ∀ {F1 m1 H1 hp1 F2 m2 H2 hp2} {ws : List V}, S F1 m1 H1 hp1 ws → Nx F1 m1 H1 F2 m2 H2 → R K F2 m2 H2 hp2 → S F2 m2 H2 hp2 ws := by
    intro F1 m1 H1 hp1 F2 m2 H2 hp2 ws hS n2 r2
    obtain ⟨a1, a2, a3, a4, a5⟩ := hS
    have b1 : Dl ∉ m2 := fun hm => by
      rcases n2.nw Dl hm with z | z
      · exact a4 z
      · rw [a3] at z; cases z
    have b2 : F2 Dl = none := by
      cases z : F2 Dl with
      | none => rfl
      | some o =>
        rcases n2.nf Dl o z with z' | z' | ⟨q', z'⟩
        · rw [a5] at z'; cases z'
        · rw [a3] at z'; cases z'
        · have y := r2.sub _ _ z
          rw [n2.kp _ _ a3 a4 (by intro _ z; cases z), z'] at y
          unfold LamX.CodeO at y
          cases y
    exact ⟨r2, a2.trans n2, n2.kp _ _ a3 a4 (by intro _ z; cases z), b1, b2⟩
  obtain ⟨r0, n0⟩ := r.loose (o := .lst []) nD
  have nm : Dl ∉ m := fun hm => by
    obtain ⟨_, z⟩ := r.there hm
    rw [nD] at z; cases z
  refine ⟨fun i k H1 => k = ds.length - i ∧ i ≤ ds.length ∧ ∃ F1 m1 hp1 ws zs rest, S F1 m1 H1 hp1 ws ∧ Dns K F1 m1 ws zs ∧ lcRun g chk t f (wipeE env vs) (ds.drop i) hp1 = some (rest, hp') ∧ zs ++ rest = ys,
    ⟨ds.length, by simp, Nat.zero_le _, F, m, hp, [], [], ys, ⟨r0, n0, upd_same, nm, r.sub.free nD⟩, .nil, e, rfl⟩, ?_⟩
  rintro i k H1 ⟨rfl, hi, F1, m1, hp1, ws, zs, rest, hS, dz, er, ez⟩
  obtain ⟨r1, n1, hD1, hm1, hf1⟩ := id hS
  by_cases hlt : i < ds.length
  · right
    rw [List.drop_eq_getElem_cons hlt] at er
    have ck : chk hp1 = true := by
      unfold lcRun at er
      by_cases c : chk hp1 = true
      · exact c
      · rw [if_neg c] at er; cases er
    refine ⟨ok.go i F1 m1 H1 hp1 n1.fz n1.pre r1 ck hlt, ?_⟩
    unfold lcRun at er
    rw [if_pos ck] at er
    refine ⟨fun H2 => ∃ F2 m2 hp2 ws2 zs2 rest2, S F2 m2 H2 hp2 ws2 ∧ Dns K F2 m2 ws2 zs2 ∧ lcRun g chk t f (wipeE env vs) (ds.drop (i + 1)) hp2 = some (rest2, hp') ∧ zs2 ++ rest2 = ys,
      fun H2 h2 => ⟨ds.length - (i + 1), by omega, rfl, hlt, h2⟩, fun x H2 y => ?_⟩
    obtain ⟨d, F2, hd, n2, r2, dd⟩ := ok.yld i F1 m1 H1 hp1 x H2 n1.fz n1.pre r1 ck hlt y
    have hd' : ds[i] = d := by
      rw [List.getElem?_eq_getElem hlt] at hd
      exact Option.some.inj hd
    rw [hd'] at er
    have S2 := mv hS n2 r2
    split at er
    · cases er
    · rename_i env1 hg
      refine qg x d (wipe σ vs) H2 (wipeE env vs) hp1 F2 m1 r2 ((n.wipe vs hfs).mono (n1.trans n2)) dd env1 hg _ fun σ2 e2 w2 => ?_
      refine ⟨(w2 vs hjs).trans ww, ?_⟩
      cases ht : t env1 hp1 with
      | none => rw [ht] at er; cases er
      | some p =>
        obtain ⟨rb, hp2⟩ := p
        rw [ht] at er
        cases rb with
        | exc x => cases er
        | val b =>
          refine qt σ2 H2 env1 hp1 F2 m1 r2 e2 _ _ ht _ fun F3 m3 H3 n3 r3 => ?_
          have S3 := mv S2 n3 r3
          cases b with
          | false =>
            simp only [Bool.false_eq_true, if_false]
            exact ⟨F3, m3, hp2, ws, zs, rest, S3, (dz.mono n2.fz n2.pre).mono n3.fz n3.pre, er, ez⟩
          | true =>
            simp only [if_true]
            simp only at er
            cases hf : f env1 hp2 with
            | none => rw [hf] at er; cases er
            | some p =>
              obtain ⟨ry, hp3⟩ := p
              rw [hf] at er
              cases ry with
              | exc x => cases er
              | val y =>
                simp only at er
                refine qe σ2 H3 env1 hp2 F3 m3 r3 (e2.mono n3) _ _ hf _ fun yv F4 m4 H4 n4 r4 dy => ?_
                have S4 := mv S3 n4 r4
                cases hr : lcRun g chk t f (wipeE env vs) (ds.drop (i + 1)) hp3 with
                | none => rw [hr] at er; cases er
                | some p =>
                  obtain ⟨rest2, hp4⟩ := p
                  rw [hr] at er
                  cases er
                  have dz4 := (((dz.mono n2.fz n2.pre).mono n3.fz n3.pre).mono n4.fz n4.pre)
                  have hlen : ws.length < sizeLine := by
                    have h1 := congrArg List.length ez
                    simp at h1
                    rw [dz.length, line16]
                    omega
                  obtain ⟨a1, a2, a3, a4, a5⟩ := S4
                  refine ⟨ws, a3, hlen, F4, m4, hp3, ws ++ [yv], zs ++ [y], rest2, ⟨⟨fun b o q => ?_, a1.len, a1.nod, a1.fre, fun j b es q1 q2 => ?_, tabs_write a1.tab a3, a1.ntb⟩, ⟨a2.fz, a2.pre, fun b o q qn qt => ?_, a2.nw, a2.nf, fun b o q => ?_⟩, upd_same, a4, a5⟩, dz4.append (.cons dy .nil), hr, by rw [← ez]; simp⟩
                  · rw [upd_ne (fun z => by rw [z] at q; rw [a5] at q; cases q)]; exact a1.sub _ _ q
                  · obtain ⟨us, q3, q4⟩ := a1.obj j b es q1 q2
                    exact ⟨us, by rw [upd_ne (fun z => a4 (by rw [← z]; exact List.mem_of_getElem? q1))]; exact q3, q4⟩
                  · rw [upd_ne (fun z => by rw [z] at q; rw [nD] at q; cases q)]; exact a2.kp _ _ q qn qt
                  · rw [upd_ne (fun z => by rw [z] at q; rw [nD] at q; cases q)]; exact a2.tr _ _ q
  · left
    have ei : i = ds.length := by omega
    subst ei
    rw [List.drop_length] at er
    unfold lcRun at er
    by_cases ck : chk hp1 = true
    · rw [if_pos ck] at er
      cases er
      rw [List.append_nil] at ez
      subst ez
      exact ⟨ok.stop F1 m1 H1 _ n1.fz n1.pre r1 ck, q ws F1 m1 H1 n1 r1 dz hD1 hm1 hf1⟩
    · rw [if_neg ck] at er; cases er

variable {elt : Expr} {ifs : List Expr} {scope : Scope} {own : List (Str × Nat)} {src : FI} {ft : FT} {f : FE}
/-- the reading of a comprehension -/
theorem lc_read {wi : TI} {tgt : TG} {tt : TT} {te : TE} {vs : List Nat} (hjs : ∀ j, j ∈ js → j ∈ vs) (hfs : ∀ i ∈ vs, i ∉ FV.slots)
    (qi : ∀ σ H env hp F m, R K F m H hp → En K F m σ env → ∀ r hp', src env hp = some (r, hp') → ∀ Q, OutI K mg W F m σ H hp' Q r → wi σ H Q)
    (qg : ∀ v d σ H env (hp : EH) F m, R K F m H hp → En K F m σ env → Dn K F m v d → ∀ env', g d env = some env' → ∀ Q : L2.St → Hp → Prop, (∀ σ', En K F m σ' env' → (∀ vs : List Nat, (∀ j, j ∈ js → j ∈ vs) → wipe σ' vs = wipe σ vs) → Q σ' H) → tgt v σ H Q)
    (qt : ∀ σ H env hp F m, R K F m H hp → En K F m σ env → ∀ r hp', ft env hp = some (r, hp') → ∀ Q, OutT K mg WF F m σ H hp' Q r → tt σ H Q)
    (qe : ∀ σ H env hp F m, R K F m H hp → En K F m σ env → ∀ r hp', f env hp = some (r, hp') → ∀ Q, OutE K mg WF F m σ H hp' Q r → te σ H Q)
    {σ : L2.St} {env : Ev} (r : R K F m H hp) (n : En K F m σ env) {r' : Res D} (e : eLc src vs g ft f env hp = some (r', hp')) {Q : VK} (q : OutE K mg W F m σ H hp' Q r') : tLc wi tgt tt te vs σ H Q := by
  show wi σ H fun J H1 => _
  rcases bnd_val e with ⟨x, h1, rfl⟩ | ⟨p, hp1, h1, h2⟩
  · exact qi σ H env hp F m r n _ _ h1 _ q
  · refine qi σ H env hp F m r n _ _ h1 _ fun J F1 m1 H1 n1 r1 ok => ?_
    intro Dl nD
    cases hr : lcRun g p.2 ft f (wipeE env vs) p.1 hp1 with
    | none => rw [hr] at h2; cases h2
    | some w =>
      obtain ⟨ys, hp2⟩ := w
      rw [hr] at h2
      simp only at h2
      split at h2
      · rename_i hl
        cases h2
        refine lc_turns (js := js) hjs hfs qg qt qe ok r1 (n.mono n1) nD hr hl fun ws F2 m2 H2 n2 r2 d2 hD hm hf => ?_
        obtain ⟨r3, n3, s3⟩ := r2.freeze n2 hD hm hf (.inl nD)
        exact q _ _ m2 H2 (n1.trans n3) r3 (.lst upd_same (d2.mono s3 (List.prefix_refl _)))
      · cases h2
abbrev BI (ι : Type) := ι × Shared × Hp × Addr × List (Str × Addr) × List Addr
/-- the contexts of a comprehension's own block -/
@[reducible] def blkF {ι : Type} (X : ι → Cx) (scope : Scope) : BI ι → Cx := fun p => (X p.1).blk p.2.1 p.2.2.1 scope (compEnvC scope p.2.2.2.2.1 p.2.2.2.1 (X p.1).env) p.2.2.2.2.2
theorem Fam.blk (hF : Fam X K mg) (scope : Scope) : Fam (blkF X scope) K mg := ⟨fun p => hF.k p.1, fun p => hF.g p.1, fun p => hF.calm p.1, fun p => hF.nd p.1⟩
theorem se_lc (hF : Fam X K mg) (hi : SI X K mg W tg iter src) (ok : ∀ j, BlkOk (X j).N (X j).env.scope scope own) (hjs : ∀ j, j ∈ js → j ∈ own.map (·.2))
    (hg : SG (blkF X scope) K tg js g) (ht : STs (blkF X scope) K mg WF ifs ft) (he : SE (blkF X scope) K mg WF elt f) (hs : ∀ j x, foldedSetIterable iter (X j).env x = pure x := by intro _ _; rfl) (hfs : ∀ i ∈ own.map (·.2), i ∉ FV.slots := by first | decide | simp +zetaDelta [FV.slots]) :
    SE X K mg W (.ListComp elt [⟨tg, iter, ifs, 0⟩] scope pos) (eLc src (own.map (·.2)) g ft f) := by
  obtain ⟨wi, pi, qi⟩ := hi.ex
  obtain ⟨tgt, pg, qg⟩ := hg.ex
  obtain ⟨tt, pt, qt⟩ := ht.ex
  obtain ⟨te, pe, qe⟩ := he.ex
  exact ⟨⟨_, fun j => pe_lc (hF.calm j) (hF.nd j) (pi j) (ok j) (fun s H C cl fp => pg (j, s, H, C, cl, fp)) (fun s H C cl fp => pt (j, s, H, C, cl, fp)) (fun s H C cl fp => pe (j, s, H, C, cl, fp)) (hs j),
    fun σ H env hp F m r n r' hp' e Q q => lc_read hjs hfs qi qg qt qe r n e q⟩⟩
end
end MP
end

section
set_option maxRecDepth 100000
set_option maxHeartbeats 1000000
namespace MP
open PySem PySem.Spec PyProof.Rows L2
variable [WW] [FV]

/-- where a statement's outcome leads -/
def OutS (K : PySem.W.Frag) (mg : Str → Option Value) (W : WX) (F : Hp) (m : List Addr) (H : Hp) (env' : Ev) (hp' : EH) (Dd : Ends) : Fl → Prop
  | .nxt => ∀ σ' F' m' H', Nx F m H F' m' H' → R K F' m' H' hp' → En K F' m' σ' env' → Dd.nx σ' H'
  | .brk => ∀ σ' F' m' H', Nx F m H F' m' H' → R K F' m' H' hp' → En K F' m' σ' env' → Dd.bk σ' H'
  | .cnt => ∀ σ' F' m' H', Nx F m H F' m' H' → R K F' m' H' hp' → En K F' m' σ' env' → Dd.ct σ' H'
  | .ret d => ∀ v F' m' H', Nx F m H F' m' H' → R K F' m' H' hp' → Dn K F' m' v d → Dd.rt v H'
  | .exc e => ∀ σ' F' m' H' c dd, Nx F m H F' m' H' → R K F' m' H' hp' → En K F' m' σ' env' → Xc K mg F' m' H' e c dd → W c dd σ' H'
structure SS {ι : Type} (X : ι → Cx) (K : PySem.W.Frag) (mg : Str → Option Value) (W : WX) (st : Stmt) (f : FS) : Prop where
  ex : ∃ t : TS, (∀ j, PS (X j) st t) ∧ ∀ σ H env hp F m, R K F m H hp → En K F m σ env → ∀ fl env' hp', f env hp = some (fl, env', hp') → ∀ Dd, OutS K mg W F m H env' hp' Dd fl → t Dd σ H
structure SB {ι : Type} (X : ι → Cx) (K : PySem.W.Frag) (mg : Str → Option Value) (W : WX) (st : List Stmt) (f : FS) : Prop where
  ex : ∃ t : TS, (∀ j, PSs (X j) st t) ∧ ∀ σ H env hp F m, R K F m H hp → En K F m σ env → ∀ fl env' hp', f env hp = some (fl, env', hp') → ∀ Dd, OutS K mg W F m H env' hp' Dd fl → t Dd σ H

/-! ### the plain functions -/
/-- first an expression, then g of its value -/
def fE {α : Type} (f : Ev → EH → Option (Res α × EH)) (g : α → FS) : FS := fun env hp => match f env hp with
  | none => none
  | some (.exc e, hp1) => some (.exc e, env, hp1)
  | some (.val a, hp1) => g a env hp1
def fNext : FS := fun env hp => some (.nxt, env, hp)
def fSeq (f g : FS) : FS := fun env hp => match f env hp with
  | some (.nxt, env1, hp1) => g env1 hp1
  | r => r
def fBrk : FS := fun env hp => some (.brk, env, hp)
def fCnt : FS := fun env hp => some (.cnt, env, hp)
def fRet (f : FE) : FS := fE f fun d env hp => some (.ret d, env, hp)
def fRetN : FS := fun env hp => some (.ret .non, env, hp)
def fDrop (f : FE) : FS := fE f fun _ => fNext
def fAsg (f : FE) (g : D → Ev → Option Ev) : FS := fE f fun d env hp => match g d env with
  | some env' => some (.nxt, env', hp)
  | none => none
def fPar (f : FA) (i j : Nat) : FS := fE f fun ds env hp => match ds with
  | [a, b] => some (.nxt, (env.set i (some a)).set j (some b), hp)
  | _ => none
def fIf (t : FT) (f g : FS) : FS := fE t fun b => if b = true then f else g
/-- o[i] = e -/
def fSto (f fo fi : FE) : FS := fE f fun v => fE fo fun o => fE fi fun i env hp => match o, i with
  | .obj k, .int n => match hp[k]? with
    | some xs => match ixN xs.length n with
      | some j => some (.nxt, env, hp.set k (xs.set j v))
      | none => none
    | none => none
  | _, _ => none
/-- a for's turns -/
def fTurns (g : D → Ev → Option Ev) (chk : EH → Bool) (body : FS) : List D → FS
  | [], env, hp => if chk hp = true then some (.nxt, env, hp) else none
  | d :: ds, env, hp => if chk hp = true then match g d env with
    | none => none
    | some env1 => match body env1 hp with
      | none => none
      | some (.nxt, env2, hp2) => fTurns g chk body ds env2 hp2
      | some (.cnt, env2, hp2) => fTurns g chk body ds env2 hp2
      | some (.brk, env2, hp2) => some (.nxt, env2, hp2)
      | some (fl, env2, hp2) => some (fl, env2, hp2)
    else none
def fFor (src : FI) (g : D → Ev → Option Ev) (body : FS) : FS := fE src fun p => fTurns g p.2 body p.1
/-- a while's turns, at most n -/
def fWhile (t : FT) (body : FS) : Nat → FS
  | 0, _, _ => none
  | n + 1, env, hp => match t env hp with
    | none => none
    | some (.exc e, hp1) => some (.exc e, env, hp1)
    | some (.val false, hp1) => some (.nxt, env, hp1)
    | some (.val true, hp1) => match body env hp1 with
      | none => none
      | some (.nxt, env2, hp2) => fWhile t body n env2 hp2
      | some (.cnt, env2, hp2) => fWhile t body n env2 hp2
      | some (.brk, env2, hp2) => some (.nxt, env2, hp2)
      | some (fl, env2, hp2) => some (fl, env2, hp2)

section
variable {ι : Type} {X : ι → Cx} {K : PySem.W.Frag} {mg : Str → Option Value} {W : WX} {F F' F1 : Hp} {m m' m1 : List Addr} {H H' H1 : Hp} {hp hp' hp1 : EH} {st : Stmt} {sts : List Stmt} {e c : Expr} {fe : FE} {f g : FS} {tc : FT} {pos : Pos} {env env' : Ev} {Dd : Ends} {fl : Fl}
theorem OutS.nx (n : Nx F m H F1 m1 H1) (h : OutS K mg W F m H env' hp' Dd fl) : OutS K mg W F1 m1 H1 env' hp' Dd fl := by
  cases fl with
  | nxt => exact fun σ' F' m' H' n2 r2 e2 => h σ' F' m' H' (n.trans n2) r2 e2
  | brk => exact fun σ' F' m' H' n2 r2 e2 => h σ' F' m' H' (n.trans n2) r2 e2
  | cnt => exact fun σ' F' m' H' n2 r2 e2 => h σ' F' m' H' (n.trans n2) r2 e2
  | ret d => exact fun v F' m' H' n2 r2 e2 => h v F' m' H' (n.trans n2) r2 e2
  | exc e => exact fun σ' F' m' H' c dd n2 r2 e2 x2 => h σ' F' m' H' c dd (n.trans n2) r2 e2 x2
theorem fE_val {α : Type} {f : Ev → EH → Option (Res α × EH)} {g : α → FS} (e : fE f g env hp = some (fl, env', hp')) :
    (∃ x, f env hp = some (.exc x, hp') ∧ fl = .exc x ∧ env' = env) ∨ ∃ a hp1, f env hp = some (.val a, hp1) ∧ g a env hp1 = some (fl, env', hp') := by
  unfold fE at e
  cases hf : f env hp with
  | none => rw [hf] at e; cases e
  | some p =>
    obtain ⟨ra, hp1⟩ := p
    rw [hf] at e
    cases ra with
    | exc x => cases e; exact .inl ⟨x, rfl, rfl, rfl⟩
    | val d => exact .inr ⟨d, hp1, rfl, e⟩
/-- an expression's error as a statement's -/
theorem OutS.exc {σ : L2.St} {x : Exc} {Q : VK} (n : En K F m σ env) (h : OutS K mg W F m H env hp' Dd (.exc x)) : OutE K mg W F m σ H hp' Q (.exc x) :=
  fun F' m' H' c dd n2 r2 d2 => h σ F' m' H' c dd n2 r2 (n.mono n2) d2
theorem OutS.excT {σ : L2.St} {x : Exc} {Q : Bool → Hp → Prop} (n : En K F m σ env) (h : OutS K mg W F m H env hp' Dd (.exc x)) : OutT K mg W F m σ H hp' Q (.exc x) :=
  fun F' m' H' c dd n2 r2 d2 => h σ F' m' H' c dd n2 r2 (n.mono n2) d2
theorem OutS.excA {σ : L2.St} {x : Exc} {Q : List V → Hp → Prop} (n : En K F m σ env) (h : OutS K mg W F m H env hp' Dd (.exc x)) : OutA K mg W F m σ H hp' Q (.exc x) :=
  fun F' m' H' c dd n2 r2 d2 => h σ F' m' H' c dd n2 r2 (n.mono n2) d2
theorem OutS.excI {σ : L2.St} {x : Exc} {Q : It → Hp → Prop} (n : En K F m σ env) (h : OutS K mg W F m H env hp' Dd (.exc x)) : OutI K mg W F m σ H hp' Q (.exc x) :=
  fun F' m' H' c dd n2 r2 d2 => h σ F' m' H' c dd n2 r2 (n.mono n2) d2

theorem sb_nil : SB X K mg W [] fNext := ⟨⟨_, fun _ => pss_nil, fun σ H env hp F m r n fl env' hp' e Dd q => by cases e; exact q σ F m H Nx.refl r n⟩⟩
theorem sb_cons (h1 : SS X K mg W st f) (h2 : SB X K mg W sts g) : SB X K mg W (st :: sts) (fSeq f g) := by
  obtain ⟨t, p, q0⟩ := h1.ex
  obtain ⟨u, p2, q2⟩ := h2.ex
  refine ⟨⟨_, fun j => pss_cons (p j) (p2 j), fun σ H env hp F m r n fl env' hp' e Dd q => ?_⟩⟩
  show t { Dd with nx := u Dd } σ H
  unfold fSeq at e
  cases hf : f env hp with
  | none => rw [hf] at e; cases e
  | some p =>
    obtain ⟨fl1, env1, hp1⟩ := p
    rw [hf] at e
    cases fl1 with
    | nxt => exact q0 σ H env hp F m r n _ _ _ hf _ fun σ1 F1 m1 H1 n1 r1 e1 => q2 σ1 H1 env1 hp1 F1 m1 r1 e1 _ _ _ e _ (OutS.nx n1 q)
    | brk => cases e; exact q0 σ H env hp F m r n _ _ _ hf _ q
    | cnt => cases e; exact q0 σ H env hp F m r n _ _ _ hf _ q
    | ret d => cases e; exact q0 σ H env hp F m r n _ _ _ hf _ q
    | exc x => cases e; exact q0 σ H env hp F m r n _ _ _ hf _ q
theorem sb_one (h1 : SS X K mg W st f) : SB X K mg W [st] f := by
  obtain ⟨t, p, q0⟩ := h1.ex
  exact ⟨⟨t, fun j => pss_one (p j), q0⟩⟩
theorem ss_pass : SS X K mg W (.Pass pos) fNext := ⟨⟨_, fun _ => ps_pass, fun σ H env hp F m r n fl env' hp' e Dd q => by cases e; exact q σ F m H Nx.refl r n⟩⟩
theorem ss_brk : SS X K mg W (.Break pos) fBrk := ⟨⟨_, fun _ => ps_break, fun σ H env hp F m r n fl env' hp' e Dd q => by cases e; exact q σ F m H Nx.refl r n⟩⟩
theorem ss_cnt : SS X K mg W (.Continue pos) fCnt := ⟨⟨_, fun _ => ps_continue, fun σ H env hp F m r n fl env' hp' e Dd q => by cases e; exact q σ F m H Nx.refl r n⟩⟩
theorem ss_doc {x j pos'} : SS X K mg W (.Expr (.Constant (.str x) j pos) pos') fNext := ⟨⟨_, fun _ => ps_doc, fun σ H env hp F m r n fl env' hp' e Dd q => by cases e; exact q σ F m H Nx.refl r n⟩⟩
theorem ss_ret (h : SE X K mg W e fe) : SS X K mg W (.Return (some e) pos) (fRet fe) := by
  obtain ⟨t, p, q0⟩ := h.ex
  refine ⟨⟨_, fun j => ps_ret (p j), fun σ H env hp F m r n fl env' hp' e Dd q => ?_⟩⟩
  show t σ H Dd.rt
  rcases fE_val e with ⟨x, h1, rfl, rfl⟩ | ⟨d, hp1, h1, h2⟩
  · exact q0 σ H env' hp F m r n _ _ h1 _ (OutS.exc n q)
  · cases h2
    exact q0 σ H _ hp F m r n _ _ h1 _ fun v F1 m1 H1 n1 r1 d1 => q v F1 m1 H1 n1 r1 d1
theorem ss_retN : SS X K mg W (.Return none pos) fRetN := ⟨⟨_, fun _ => ps_retN, fun σ H env hp F m r n fl env' hp' e Dd q => by cases e; exact q _ F m H Nx.refl r .non⟩⟩
theorem ss_expr (h : SE X K mg W e fe) (hs : ∀ j, swapsWith e none pos.line (X j).env = pure false := by intro _; rfl) : SS X K mg W (.Expr e pos) (fDrop fe) := by
  obtain ⟨t, p, q0⟩ := h.ex
  refine ⟨⟨_, fun j => ps_expr (p j) (hs j), fun σ H env hp F m r n fl env' hp' e Dd q => ?_⟩⟩
  show t σ H fun _ H1 => Dd.nx σ H1
  rcases fE_val e with ⟨x, h1, rfl, rfl⟩ | ⟨d, hp1, h1, h2⟩
  · exact q0 σ H env' hp F m r n _ _ h1 _ (OutS.exc n q)
  · cases h2
    exact q0 σ H _ hp F m r n _ _ h1 _ fun v F1 m1 H1 n1 r1 d1 => q σ F1 m1 H1 n1 r1 (n.mono n1)
theorem ss_set {i : Nat} {x : Str} {p2 : Pos} (hF : Fam X K mg) (h : SE X K mg W e fe) (hi : ∀ j, (X j).N[i]? = some x := by intro _; rfl) (hx : ∀ j, Loc (X j).env.scope x := by first | exact fun _ => Or.inl rfl | exact fun _ => Or.inr rfl)
    (hs : ∀ j, swapsWith e (some (.Name x p2)) pos.line (X j).env = pure false := by intro _; rfl) (hf : ∀ j, (X j).fn x = true ∨ (X j).env.scope.names.lookup x = some .local := by first | exact fun _ => .inl rfl | exact fun _ => .inr rfl) :
    SS X K mg W (.Assign [.Name x p2] e pos) (fAsg fe (tgN i)) := by
  obtain ⟨t, p, q0⟩ := h.ex
  refine ⟨⟨_, fun j => ps_set (hF.nd j) (hi j) (hx j) (p j) (hs j) (hf j), fun σ H env hp F m r n fl env' hp' e Dd q => ?_⟩⟩
  show t σ H fun x H1 => Dd.nx (σ.set i (some x)) H1
  rcases fE_val e with ⟨x, h1, rfl, rfl⟩ | ⟨d, hp1, h1, h2⟩
  · exact q0 σ H env' hp F m r n _ _ h1 _ (OutS.exc n q)
  · cases h2
    exact q0 σ H _ hp F m r n _ _ h1 _ fun v F1 m1 H1 n1 r1 d1 => q _ F1 m1 H1 n1 r1 ((n.mono n1).set d1)
/-- several names at once -/
theorem ss_asg {tg : Expr} {js : List Nat} {gg : D → Ev → Option Ev} (h : SE X K mg W e fe) (hg : SG X K tg js gg) (hs : ∀ j, swapsWithSole [tg] e pos.line (X j).env = pure false := by intro _; rfl) (hw : ∀ j, swappedStores [tg] e (X j).env = pure none := by intro _; rfl)
    (h1 : ∀ j, (assignEach [tg] (X j).env).map (·.2) = [assign tg (X j).env] := by intro _; rfl) (h2 : ∀ j, (assignEach [tg] (X j).env).findIdx? (·.1) = none := by intro _; rfl) :
    SS X K mg W (.Assign [tg] e pos) (fAsg fe gg) := by
  obtain ⟨t, p, q0⟩ := h.ex
  obtain ⟨u, p2, q2⟩ := hg.ex
  refine ⟨⟨_, fun j => ps_asg (p j) (p2 j) (hs j) (hw j) (h1 j), fun σ H env hp F m r n fl env' hp' e Dd q => ?_⟩⟩
  show t σ H fun x H1 => u x σ H1 Dd.nx
  rcases fE_val e with ⟨x, h1, rfl, rfl⟩ | ⟨d, hp1, h1, h2⟩
  · exact q0 σ H env' hp F m r n _ _ h1 _ (OutS.exc n q)
  · try simp only at h2
    split at h2
    · rename_i env1 hg1
      cases h2
      exact q0 σ H _ hp F m r n _ _ h1 _ fun v F1 m1 H1 n1 r1 d1 => q2 v d σ H1 env _ F1 m1 r1 (n.mono n1) d1 _ hg1 _ fun σ' e' _ => q σ' F1 m1 H1 n1 r1 e'
    · cases h2
theorem ss_par {i j : Nat} {x y : Str} {a b : Expr} {fa : FA} {px py pt : Pos} {kt k2 pt2} (hF : Fam X K mg) (ha : SA X K mg W [a, b] fa) (hi : ∀ k, (X k).N[i]? = some x := by intro _; rfl) (hj : ∀ k, (X k).N[j]? = some y := by intro _; rfl) (hij : i ≠ j := by decide)
    (hx : ∀ k, (X k).env.scope.names.lookup x = some .local := by intro _; rfl) (hy : ∀ k, (X k).env.scope.names.lookup y = some .local := by intro _; rfl)
    (hw : ∀ k, swappedStores [.Tuple [.Name x px, .Name y py] kt pt] (.Tuple [a, b] k2 pt2) (X k).env = pure (some [x, y]) := by intro _; rfl)
    (hs : ∀ k, swapsWithSole [.Tuple [.Name x px, .Name y py] kt pt] (.Tuple [a, b] k2 pt2) pos.line (X k).env = pure false := by intro _; rfl) :
    SS X K mg W (.Assign [.Tuple [.Name x px, .Name y py] kt pt] (.Tuple [a, b] k2 pt2) pos) (fPar fa i j) := by
  obtain ⟨t, p, q0⟩ := ha.ex
  refine ⟨⟨_, fun k => ps_par (hF.calm k) (hF.nd k) (hi k) (hj k) hij (hx k) (hy k) (p k) (hw k) (hs k), fun σ H env hp F m r n fl env' hp' e Dd q => ?_⟩⟩
  show t σ H fun vs H1 => ∃ v w, vs = [v, w] ∧ Dd.nx ((σ.set i (some v)).set j (some w)) H1
  rcases fE_val e with ⟨x, h1, rfl, rfl⟩ | ⟨d, hp1, h1, h2⟩
  · exact q0 σ H env' hp F m r n _ _ h1 _ (OutS.excA n q)
  · try simp only at h2
    split at h2
    · cases h2
      refine q0 σ H _ hp F m r n _ _ h1 _ fun vs F1 m1 H1 n1 r1 d1 => ?_
      cases d1 with
      | cons d1 d2 =>
        cases d2 with
        | cons d2 d3 =>
          cases d3
          exact ⟨_, _, rfl, q _ F1 m1 H1 n1 r1 (((n.mono n1).set d1).set d2)⟩
    · cases h2
theorem ss_if {a b : List Stmt} (hc : ST X K mg W c tc) (ha : SB X K mg W a f) (hb : SB X K mg W b g) : SS X K mg W (.If c a b pos) (fIf tc f g) := by
  obtain ⟨t, p, q0⟩ := hc.ex
  obtain ⟨ua, pa, qa⟩ := ha.ex
  obtain ⟨ub, pb, qb⟩ := hb.ex
  refine ⟨⟨_, fun j => ps_if (p j) (pa j) (pb j), fun σ H env hp F m r n fl env' hp' e Dd q => ?_⟩⟩
  show t σ H fun b H1 => if b = true then ua Dd σ H1 else ub Dd σ H1
  rcases fE_val e with ⟨x, h1, rfl, rfl⟩ | ⟨d, hp1, h1, h2⟩
  · exact q0 σ H env' hp F m r n _ _ h1 _ (OutS.excT n q)
  · refine q0 σ H _ hp F m r n _ _ h1 _ fun F1 m1 H1 n1 r1 => ?_
    cases d with
    | true => exact qa σ H1 _ hp1 F1 m1 r1 (n.mono n1) _ _ _ h2 _ (OutS.nx n1 q)
    | false => exact qb σ H1 _ hp1 F1 m1 r1 (n.mono n1) _ _ _ h2 _ (OutS.nx n1 q)
theorem ss_sto {o i : Expr} {fo fi : FE} {p2 : Pos} (hF : Fam X K mg) (h : SE X K mg W e fe) (ho : SE X K mg W o fo) (hi : SE X K mg W i fi)
    (ha : ∀ j v, assign (.Subscript o i p2) (X j).env v = (do
      let ov ← holding [v] (eval o (X j).env)
      let iv ← holding [v, ov] (eval i (X j).env)
      standAt p2
      holding [v, ov, iv] (setItem ov iv v)
      release [v, ov, iv] []) := by intro _ _; rfl)
    (hs : ∀ j, swapsWithSole [.Subscript o i p2] e pos.line (X j).env = pure false := by intro _; rfl) (hw : ∀ j, swappedStores [.Subscript o i p2] e (X j).env = pure none := by intro _; rfl) :
    SS X K mg W (.Assign [.Subscript o i p2] e pos) (fSto fe fo fi) := by
  obtain ⟨t, p, q0⟩ := h.ex
  obtain ⟨uo, po, qo⟩ := ho.ex
  obtain ⟨ui, pi, qi⟩ := hi.ex
  refine ⟨⟨_, fun j => ps_asg (p j) (pg_sub (po j) (pi j) set_list (ha j)) (hs j) (hw j), fun σ H env hp F m r n fl env' hp' e Dd q => ?_⟩⟩
  show t σ H fun x H1 => uo σ H1 fun o H1 => ui σ H1 fun i H2 => rSetL o i x H2 fun H3 => Dd.nx σ H3
  rcases fE_val e with ⟨x, h1, rfl, rfl⟩ | ⟨d, hp1, h1, h2⟩
  · exact q0 σ H env' hp F m r n _ _ h1 _ (OutS.exc n q)
  refine q0 σ H _ hp F m r n _ _ h1 _ fun v F1 m1 H1 n1 r1 d1 => ?_
  rcases fE_val h2 with ⟨x, h3, rfl, rfl⟩ | ⟨d2, hp2, h3, h4⟩
  · exact qo σ H1 env' hp1 F1 m1 r1 (n.mono n1) _ _ h3 _ (OutS.exc (n.mono n1) (OutS.nx n1 q))
  refine qo σ H1 _ hp1 F1 m1 r1 (n.mono n1) _ _ h3 _ fun v2 F2 m2 H2 n2 r2 e2 => ?_
  have n12 := n1.trans n2
  rcases fE_val h4 with ⟨x, h5, rfl, rfl⟩ | ⟨d3, hp3, h5, h6⟩
  · exact qi σ H2 env' hp2 F2 m2 r2 (n.mono n12) _ _ h5 _ (OutS.exc (n.mono n12) (OutS.nx n12 q))
  refine qi σ H2 _ hp2 F2 m2 r2 (n.mono n12) _ _ h5 _ fun v3 F3 m3 H3 n3 r3 e3 => ?_
  have n13 := n12.trans n3
  try simp only at h6
  split at h6
  · rename_i k z
    split at h6
    · rename_i xs hx
      split at h6
      · rename_i jx hjx
        cases h6
        cases e2.mono n3.fz n3.pre with
        | obj hk =>
          rename_i ad
          cases e3
          obtain ⟨vs, w1, w2⟩ := r3.obj k ad xs hk hx
          obtain ⟨r4, n4⟩ := r3.write hk (w2.set jx ((d1.mono n2.fz n2.pre).mono n3.fz n3.pre))
          exact ⟨ad, vs, z, jx, rfl, rfl, w1, by rw [w2.length]; exact hjx, q σ F3 m3 _ (n13.trans n4) r4 (n.mono (n13.trans n4))⟩
      · cases h6
    · cases h6
  · cases h6

/-! ### loops -/
/-- what the turns of a for are asked -/
theorem turns_read {J : It} {tgt : TG} {tb : TS} {gg : D → Ev → Option Ev} {js : List Nat} {ds : List D} {chk : EH → Bool} {σ : L2.St}
    (qg : ∀ v d σ H env (hp : EH) F m, R K F m H hp → En K F m σ env → Dn K F m v d → ∀ env', gg d env = some env' → ∀ Q : L2.St → Hp → Prop, (∀ σ', En K F m σ' env' → (∀ vs : List Nat, (∀ j, j ∈ js → j ∈ vs) → wipe σ' vs = wipe σ vs) → Q σ' H) → tgt v σ H Q)
    (qb : ∀ σ H env hp F m, R K F m H hp → En K F m σ env → ∀ fl env' hp', f env hp = some (fl, env', hp') → ∀ Dd, OutS K mg W F m H env' hp' Dd fl → tb Dd σ H)
    (ok : ItOk K F m J ds chk) (r : R K F m H hp) (n : En K F m σ env) (e : fTurns gg chk f ds env hp = some (fl, env', hp')) (q : OutS K mg W F m H env' hp' Dd fl) :
    ∃ Wx : Nat → Nat → L2.St → Hp → Prop, (∃ k, Wx 0 k σ H) ∧ ∀ i k σ H, Wx i k σ H → (J.stop i H ∧ Dd.nx σ H) ∨ (J.go i H ∧ ∃ Nxt : L2.St → Hp → Prop, (∀ σ' H', Nxt σ' H' → ∃ k', k' < k ∧ Wx (i + 1) k' σ' H') ∧
      ∀ x H', J.yld i H x H' → tgt x σ H' fun σ2 H2 => tb { Dd with nx := Nxt, ct := Nxt, bk := Dd.nx } σ2 H2) := by
  refine ⟨fun i k σ1 H1 => k = ds.length - i ∧ i ≤ ds.length ∧ ∃ F1 m1 env1 hp1, R K F1 m1 H1 hp1 ∧ Nx F m H F1 m1 H1 ∧ En K F1 m1 σ1 env1 ∧ fTurns gg chk f (ds.drop i) env1 hp1 = some (fl, env', hp'),
    ⟨ds.length, by simp, Nat.zero_le _, F, m, env, hp, r, Nx.refl, n, e⟩, ?_⟩
  rintro i k σ1 H1 ⟨rfl, hi, F1, m1, env1, hp1, r1, n1, e1, er⟩
  by_cases hlt : i < ds.length
  · right
    rw [List.drop_eq_getElem_cons hlt] at er
    unfold fTurns at er
    by_cases ck : chk hp1 = true
    · rw [if_pos ck] at er
      refine ⟨ok.go i F1 m1 H1 hp1 n1.fz n1.pre r1 ck hlt, fun σ2 H2 => ∃ F2 m2 env2 hp2, R K F2 m2 H2 hp2 ∧ Nx F m H F2 m2 H2 ∧ En K F2 m2 σ2 env2 ∧ fTurns gg chk f (ds.drop (i + 1)) env2 hp2 = some (fl, env', hp'),
        fun σ2 H2 h2 => ⟨ds.length - (i + 1), by omega, rfl, hlt, h2⟩, fun x H2 y => ?_⟩
      obtain ⟨d, F2, hd, n2, r2, dd⟩ := ok.yld i F1 m1 H1 hp1 x H2 n1.fz n1.pre r1 ck hlt y
      have hd' : ds[i] = d := by
        rw [List.getElem?_eq_getElem hlt] at hd
        exact Option.some.inj hd
      rw [hd'] at er
      have n12 := n1.trans n2
      split at er
      · cases er
      · rename_i env2 hg
        refine qg x d σ1 H2 env1 hp1 F2 m1 r2 (e1.mono n2) dd env2 hg _ fun σ2 e2 _ => ?_
        cases hb : f env2 hp1 with
        | none => rw [hb] at er; cases er
        | some p =>
          obtain ⟨fl3, env3, hp3⟩ := p
          rw [hb] at er
          refine qb σ2 H2 env2 hp1 F2 m1 r2 e2 _ _ _ hb _ ?_
          cases fl3 with
          | nxt => exact fun σ' F' m' H' n3 r3 e3 => ⟨F', m', env3, hp3, r3, n12.trans n3, e3, er⟩
          | cnt => exact fun σ' F' m' H' n3 r3 e3 => ⟨F', m', env3, hp3, r3, n12.trans n3, e3, er⟩
          | brk => cases er; exact fun σ' F' m' H' n3 r3 e3 => q σ' F' m' H' (n12.trans n3) r3 e3
          | ret d => cases er; exact fun v F' m' H' n3 r3 e3 => q v F' m' H' (n12.trans n3) r3 e3
          | exc x => cases er; exact fun σ' F' m' H' c dd n3 r3 e3 x3 => q σ' F' m' H' c dd (n12.trans n3) r3 e3 x3
    · rw [if_neg ck] at er; cases er
  · left
    have ei : i = ds.length := by omega
    subst ei
    rw [List.drop_length] at er
    unfold fTurns at er
    by_cases ck : chk hp1 = true
    · rw [if_pos ck] at er
      cases er
      exact ⟨ok.stop F1 m1 H1 _ n1.fz n1.pre r1 ck, q σ1 F1 m1 H1 n1 r1 e1⟩
    · rw [if_neg ck] at er; cases er
variable {tg iter : Expr} {src : FI} {js : List Nat} {gg : D → Ev → Option Ev} {body : List Stmt}
theorem ss_for (hF : Fam X K mg) (hP : ∀ j, PassesOwn (model (X j).prog (X j).w) (X j).A (X j).env (X j).xe) (hi : SI X K mg W tg iter src) (hg : SG X K tg js gg) (hb : SB X K mg W body f)
    (hs : ∀ j x, foldedSetIterable iter (X j).env x = pure x := by intro _ _; rfl) : SS X K mg W (.For tg iter body [] pos) (fFor src gg f) := by
  obtain ⟨wi, pi, qi⟩ := hi.ex
  obtain ⟨tgt, pg, qg⟩ := hg.ex
  obtain ⟨tb, pb, qb⟩ := hb.ex
  refine ⟨⟨_, fun j => ps_for (hP j) (hF.calm j) (pi j) (pg j) (pb j) (hs j), fun σ H env hp F m r n fl env' hp' e Dd q => ?_⟩⟩
  show wi σ H fun J H1 => _
  rcases fE_val e with ⟨x, h1, rfl, rfl⟩ | ⟨p, hp1, h1, h2⟩
  · exact qi σ H env' hp F m r n _ _ h1 _ (OutS.excI n q)
  · exact qi σ H _ hp F m r n _ _ h1 _ fun J F1 m1 H1 n1 r1 ok => turns_read qg qb ok r1 (n.mono n1) h2 (OutS.nx n1 q)
theorem ss_while (N : Nat) (hP : ∀ j, PassesOwn (model (X j).prog (X j).w) (X j).A (X j).env (X j).xe) (hc : ST X K mg W c tc) (hb : SB X K mg W body f) : SS X K mg W (.While c body [] pos) (fWhile tc f N) := by
  obtain ⟨t, p, q0⟩ := hc.ex
  obtain ⟨tb, pb, qb⟩ := hb.ex
  refine ⟨⟨_, fun j => ps_while (hP j) (p j) (pb j), fun σ H env hp F m r n fl env' hp' e Dd q => ?_⟩⟩
  refine ⟨fun k σ1 H1 => ∃ F1 m1 env1 hp1, R K F1 m1 H1 hp1 ∧ Nx F m H F1 m1 H1 ∧ En K F1 m1 σ1 env1 ∧ fWhile tc f k env1 hp1 = some (fl, env', hp'), ⟨N, F, m, env, hp, r, Nx.refl, n, e⟩, ?_⟩
  rintro k σ1 H1 ⟨F1, m1, env1, hp1, r1, n1, e1, er⟩
  cases k with
  | zero => unfold fWhile at er; cases er
  | succ k =>
    unfold fWhile at er
    cases ht : tc env1 hp1 with
    | none => rw [ht] at er; cases er
    | some p =>
      obtain ⟨rb, hp2⟩ := p
      rw [ht] at er
      cases rb with
      | exc x =>
        cases er
        exact q0 σ1 H1 _ hp1 F1 m1 r1 e1 _ _ ht _ (OutS.excT e1 (OutS.nx n1 q))
      | val b =>
        refine q0 σ1 H1 env1 hp1 F1 m1 r1 e1 _ _ ht _ fun F2 m2 H2 n2 r2 => ?_
        have n12 := n1.trans n2
        cases b with
        | false =>
          cases er
          simp only [Bool.false_eq_true, if_false]
          exact q σ1 F2 m2 H2 n12 r2 (e1.mono n2)
        | true =>
          simp only [if_true]
          refine ⟨fun σ' H' => ∃ F1 m1 env1 hp1, R K F1 m1 H' hp1 ∧ Nx F m H F1 m1 H' ∧ En K F1 m1 σ' env1 ∧ fWhile tc f k env1 hp1 = some (fl, env', hp'), fun σ' H' h' => ⟨k, Nat.lt_succ_self _, h'⟩, ?_⟩
          cases hb : f env1 hp2 with
          | none => simp only [hb] at er; cases er
          | some p =>
            obtain ⟨fl3, env3, hp3⟩ := p
            simp only [hb] at er
            refine qb σ1 H2 env1 hp2 F2 m2 r2 (e1.mono n2) _ _ _ hb _ ?_
            cases fl3 with
            | nxt => exact fun σ' F' m' H' n3 r3 e3 => ⟨F', m', env3, hp3, r3, n12.trans n3, e3, er⟩
            | cnt => exact fun σ' F' m' H' n3 r3 e3 => ⟨F', m', env3, hp3, r3, n12.trans n3, e3, er⟩
            | brk => cases er; exact fun σ' F' m' H' n3 r3 e3 => q σ' F' m' H' (n12.trans n3) r3 e3
            | ret d => cases er; exact fun v F' m' H' n3 r3 e3 => q v F' m' H' (n12.trans n3) r3 e3
            | exc x => cases er; exact fun σ' F' m' H' c dd n3 r3 e3 x3 => q σ' F' m' H' c dd (n12.trans n3) r3 e3 x3
/-- y = [..] on one line -/
theorem ss_setLc {i : Nat} {y : Str} {py pos2 : Pos} {elt : Expr} {ifs : List Expr} {scope : Scope} {own : List (Str × Nat)} {ft : FT} {fx : FE} (hF : Fam X K mg) (hy : ∀ j, (X j).N[i]? = some y := by intro _; rfl) (hyl : ∀ j, (X j).env.scope.names.lookup y = some .local := by intro _; rfl)
    (hsw : ∀ j, swapsWith (.ListComp elt [⟨tg, iter, ifs, 0⟩] scope pos) (some (.Name y py)) pos2.line (X j).env = pure true)
    (hi : SI X K mg W tg iter src) (ok : ∀ j, BlkOk (X j).N (X j).env.scope scope own) (hjs : ∀ j, j ∈ js → j ∈ own.map (·.2))
    (hg : SG (blkF X scope) K tg js gg) (ht : STs (blkF X scope) K mg WF ifs ft) (he : SE (blkF X scope) K mg WF elt fx) (hs : ∀ j x, foldedSetIterable iter (X j).env x = pure x := by intro _ _; rfl) (hfs : ∀ i ∈ own.map (·.2), i ∉ FV.slots := by first | decide | simp +zetaDelta [FV.slots]) :
    SS X K mg W (.Assign [.Name y py] (.ListComp elt [⟨tg, iter, ifs, 0⟩] scope pos) pos2) (fAsg (eLc src (own.map (·.2)) gg ft fx) (tgN i)) := by
  obtain ⟨wi, pi, qi⟩ := hi.ex
  obtain ⟨tgt, pg, qg⟩ := hg.ex
  obtain ⟨tt, pt, qt⟩ := ht.ex
  obtain ⟨te, pe, qe⟩ := he.ex
  refine ⟨⟨_, fun j => ps_setLc (hF.calm j) (hF.nd j) (hy j) (hyl j) (hsw j) (pi j) (ok j) (fun s H C cl fp => pg (j, s, H, C, cl, fp)) (fun s H C cl fp => pt (j, s, H, C, cl, fp)) (fun s H C cl fp => pe (j, s, H, C, cl, fp)) (hs j),
    fun σ H env hp F m r n fl env' hp' e Dd q => ?_⟩⟩
  show tLc wi tgt tt te (own.map (·.2)) σ H fun x H1 => Dd.nx (σ.set i (some x)) H1
  rcases fE_val e with ⟨x, h1, rfl, rfl⟩ | ⟨d, hp1, h1, h2⟩
  · exact lc_read hjs hfs qi qg qt qe r n h1 (OutS.exc n q)
  · cases h2
    exact lc_read hjs hfs qi qg qt qe r n h1 fun v F1 m1 H1 n1 r1 d1 => q _ F1 m1 H1 n1 r1 ((n.mono n1).set d1)
end
end MP
end

section
set_option maxRecDepth 100000
set_option maxHeartbeats 1000000
namespace MP
open PySem PySem.Spec PyProof.Rows L2
variable [WW] [FV]

section
variable {ι : Type} {X : ι → Cx} {K : PySem.W.Frag} {mg : Str → Option Value} {W : WX} {F F' F1 : Hp} {m m' m1 : List Addr} {H H' H1 : Hp} {hp hp' hp1 : EH} {o e : Expr} {es : List Expr} {fo fe : FE} {fa : FA} {pos apos cpos : Pos}

/-! ### methods of lists that may change -/
/-- o is a list that may change; then the argument -/
def eObjArg (fo : FE) (fa : FA) (g : Nat → List D → FE) : FE := bnd fo fun o env hp => match o with
  | .obj k => if k < hp.length then bnd fa (g k) env hp else none
  | _ => none
/-- o.append(e) -/
def gApp (k : Nat) (ds : List D) : FE := fun _ hp => match ds, hp[k]? with
  | [d], some xs => if xs.length < 16777216 then some (.val .non, hp.set k (xs ++ [d])) else none
  | _, _ => none
/-- the items of a list, a tuple of our own -/
def asX (hp : EH) : D → Option (List D)
  | .lst xs => some xs
  | .tup xs => some xs
  | .obj i => hp[i]?
  | _ => none
/-- o.extend(e) -/
def gExt (k : Nat) (ds : List D) : FE := fun _ hp => match ds, hp[k]? with
  | [d], some xs => match asX hp d with
    | some ys => if xs.length + ys.length ≤ 16777216 then some (.val .non, hp.set k (xs ++ ys)) else none
    | none => none
  | _, _ => none
/-- extend by a tuple, whatever else the tuple's object bears -/
theorem ext_any (l b : Addr) (xs ys : Array Value) (n n2 : Nat) (dd : Option Addr) (sl : Array (Option Value)) (h0 : ¬(!xs.isEmpty && Builtin.List.listTooLong (xs.size + ys.size)) = true) (h1 : xs.size ≤ sizeLine) (h2 : xs.size + ys.size ≤ sizeLine + 1) :
    Meets (Builtin.«list.extend» ⟨[.ref l, .ref b], []⟩) (fun _ R s => s.heap.get? l = some { cls := .type "list", data := .seq xs n } ∧ s.heap.get? b = some { cls := .type "tuple", dict := dd, data := .seq ys n2, slots := sl } ∧
      R (.ok (.ret Value.none)) { s with heap := s.heap.update l (Obj.mapSeq fun x => x ++ ys), toks := s.toks }) :=
  .of_wp fun prog w A R s hh => by
    obtain ⟨hp, g, d, tk, os⟩ := s
    obtain ⟨hl, hb, hh⟩ := hh
    have f1 := AutoSeq1.idx_int
    have f2 := AutoSeq1.sub_tuple_tuple
    have f3 := AutoSeq1.sub_list_list
    have f4 := AutoSeq1.sub_tuple_list
    have f5 := AutoSeq1.sub_list_tuple
    have tot : (xs ++ ys).size ≤ sizeLine + 1 := by
      rw [Array.size_append]
      exact h2
    wp_walk using (wpAny_updateSeq hl rfl (hz := h1) (_hz' := tot)), wpAny_loadPart' hl, wpAny_loadPart' hb
    exact ⟨_, rfl, hh⟩
/-- extend by a list, by a tuple -/
def rExtT (K : PySem.W.Frag) : V → List V → Hp → VK → Prop := fun x vs H Q => ∃ l b xs zs, x = .ref l ∧ vs = [.ref b] ∧ H l = some (.lst xs) ∧ SqT K H b zs ∧ xs.length + zs.length ≤ sizeLine ∧ Q .non (upd H l (.lst (xs ++ zs)))
theorem mt_extT {Y : Cx} : MtM Y "list.extend" (rExtT Y.K) := by
  intro pins s σ H x vs v us Q I rx rv hh
  obtain ⟨l, b, xs, zs, rfl, rfl, h1, h2, hz, hq⟩ := hh
  cases rx
  obtain ⟨u, rfl, ru⟩ := rv.one
  cases ru
  obtain ⟨_, its, n, w1, hl, e1⟩ := I.lstM h1
  obtain ⟨jts, w2, ⟨⟨c2, dd2, da2, sl2⟩, ho, hc, n2, hd⟩, _⟩ := I.tuple h2
  simp only at hc hd
  subst hc hd
  have hl2 := w2.length
  have tot : its.toArray.size + jts.toArray.size ≤ sizeLine := by
    rw [List.size_toArray, List.size_toArray]
    omega
  have short : ¬ (!its.toArray.isEmpty && Builtin.List.listTooLong (its.toArray.size + jts.toArray.size)) = true := by
    rw [notLongL tot]
    simp
  refine call_meets F.slot_list_extend ⟨_, e1, rfl⟩ F.entry_list_extend (F.args_list_extend_2 _ _) (ext_any l b its.toArray jts.toArray n n2 dd2 sl2 short (by rw [List.size_toArray]; omega) (by omega)) ⟨e1, ho, ?_⟩
  exact ⟨.non, _, I.lset (its' := its ++ jts) h1 e1 (by simp) (w1.append w2) (by rw [List.length_append]; omega), rfl, hq⟩
theorem MtM.or {Y : Cx} {id : String} {r r' : V → List V → Hp → VK → Prop} (h : MtM Y id r) (h' : MtM Y id r') : MtM Y id (fun x xs H Q => r x xs H Q ∨ r' x xs H Q) := by
  intro pins s σ H x xs v us Q I rx rxs hh
  rcases hh with z | z
  · exact h pins s σ H x xs v us Q I rx rxs z
  · exact h' pins s σ H x xs v us Q I rx rxs z
/-- a method of a list that may change -/
theorem se_objm {nm : Str} {rr : V → List V → Hp → VK → Prop} {g : Nat → List D → FE} (hF : Fam X K mg) (ho : SE X K mg W o fo) (ha : SA X K mg W es fa)
    (h : ∀ j to ta, PE (X j) o to → PA (X j) es ta → PE (X j) (.Call (.Attribute o nm apos) es [] cpos) (tBM (X j).K "list" rr to ta))
    (hr : ∀ (F : Hp) (m : List Addr) (H : Hp) (hp : EH) (k : Nat) (a : Addr) (vs : List V) (ds : List D) (env : Ev) (z : Res D) (hp' : EH), R K F m H hp → m[k]? = some a → Dns K F m vs ds → g k ds env hp = some (z, hp') → ∃ d, z = .val d ∧ ∀ Q : VK,
      (∀ v H', Nx F m H F m H' → R K F m H' hp' → Dn K F m v d → Q v H') → rr (.ref a) vs H Q) :
    SE X K mg W (.Call (.Attribute o nm apos) es [] cpos) (eObjArg fo fa g) := by
  obtain ⟨t, p, q0⟩ := ho.ex
  obtain ⟨u, p2, q2⟩ := ha.ex
  refine ⟨⟨_, fun j => by have z := h j _ _ (p j) (p2 j); rw [hF.k j] at z; exact z, fun σ H env hp F m r n r' hp' e Q q => ?_⟩⟩
  show t σ H fun x H1 => tyV K "list" x H1 ∧ u σ H1 fun xs H2 => rr x xs H2 Q
  rcases bnd_val e with ⟨x, h1, rfl⟩ | ⟨d, hp1, h1, h2⟩
  · exact q0 σ H env hp F m r n _ _ h1 _ q
  refine q0 σ H env hp F m r n _ _ h1 _ fun v F1 m1 H1 n1 r1 d1 => ?_
  try simp only at h2
  split at h2
  · rename_i k
    split at h2
    · rename_i hk
      cases d1 with
      | obj hi =>
        rename_i a
        obtain ⟨vs, w1, w2⟩ := r1.obj k a _ hi (List.getElem?_eq_getElem hk)
        refine ⟨.inl ⟨rfl, _, SqL.of w1⟩, ?_⟩
        rcases bnd_val h2 with ⟨x, h3, rfl⟩ | ⟨ds, hp2, h3, h4⟩
        · exact q2 σ H1 env hp1 F1 m1 r1 (n.mono n1) _ _ h3 _ (OutE.nx n1 q)
        · refine q2 σ H1 env hp1 F1 m1 r1 (n.mono n1) _ _ h3 _ fun ws F2 m2 H2 n2 r2 d2 => ?_
          obtain ⟨d, rfl, hq⟩ := hr F2 m2 H2 hp2 k a ws ds env r' hp' r2 (pre_get n2.pre hi) d2 h4
          exact hq Q fun v H' n3 r3 d3 => q v F2 m2 H' ((n1.trans n2).trans n3) r3 d3
    · cases h2
  · cases h2
theorem se_app (hF : Fam X K mg) (ho : SE X K mg W o fo) (ha : SA X K mg W [e] fa)
    (h : ∀ j to ta, PE (X j) o to → PA (X j) [e] ta → PE (X j) (.Call (.Attribute o "append" apos) [e] [] cpos) (tBM (X j).K "list" rAppend to ta)) :
    SE X K mg W (.Call (.Attribute o "append" apos) [e] [] cpos) (eObjArg fo fa gApp) :=
  se_objm hF ho ha h fun F m H hp k a vs ds env z hp' r hk hd e => by
    unfold gApp at e
    split at e
    · rename_i d xs hx
      split at e
      · rename_i hl
        cases e
        refine ⟨_, rfl, fun Q q => ?_⟩
        obtain ⟨ws, w1, w2⟩ := r.obj k a xs hk hx
        cases hd with
        | cons d1 d2 =>
          cases d2
          obtain ⟨r', n'⟩ := r.write hk (w2.append (.cons d1 .nil))
          exact ⟨a, ws, _, rfl, rfl, w1, by rw [w2.length, line16]; exact hl, q _ _ n' r' .non⟩
      · cases e
    · cases e
theorem se_ext (hF : Fam X K mg) (ho : SE X K mg W o fo) (ha : SA X K mg W [e] fa)
    (h : ∀ j to ta, PE (X j) o to → PA (X j) [e] ta → PE (X j) (.Call (.Attribute o "extend" apos) [e] [] cpos) (tBM (X j).K "list" (fun x xs H Q => rExtend x xs H Q ∨ rExtT (X j).K x xs H Q) to ta)) :
    SE X K mg W (.Call (.Attribute o "extend" apos) [e] [] cpos) (eObjArg fo fa gExt) :=
  se_objm (rr := fun x xs H Q => rExtend x xs H Q ∨ rExtT K x xs H Q) hF ho ha (fun j to ta a b => by have z := h j to ta a b; rw [hF.k j] at z ⊢; exact z) fun F m H hp k a vs ds env z hp' r hk hd e => by
    unfold gExt at e
    split at e
    · rename_i d xs hx
      split at e
      · rename_i ys hy
        split at e
        · rename_i hl
          cases e
          refine ⟨_, rfl, fun Q q => ?_⟩
          obtain ⟨ws, w1, w2⟩ := r.obj k a xs hk hx
          cases hd with
          | cons d1 d2 =>
            cases d2
            rename_i v0
            have list : asL hp d = some ys → rExtend (.ref a) [v0] H Q := fun hl2 => by
              obtain ⟨b, us, rfl, u1, u2⟩ := rd_of r d1 hl2
              obtain ⟨r', n'⟩ := r.write hk (w2.append u2)
              exact ⟨a, b, ws, us, rfl, rfl, w1, u1, by rw [w2.length, u2.length, line16]; exact hl, q _ _ n' r' .non⟩
            cases d with
            | tup zs =>
              simp [asX] at hy
              subst hy
              cases d1 with
              | tup a1 a2 =>
                obtain ⟨r', n'⟩ := r.write hk (w2.append a2)
                exact .inr ⟨a, _, ws, _, rfl, rfl, w1, SqT.mono r.sub a1, by rw [w2.length, a2.length, line16]; exact hl, q _ _ n' r' .non⟩
            | lst zs => exact .inl (list (by simpa [asL, asX] using hy))
            | obj zs => exact .inl (list (by simpa [asL, asX] using hy))
            | _ => simp [asX] at hy
        · cases e
      · cases e
    · cases e
end
end MP
end

section
set_option maxRecDepth 100000
set_option maxHeartbeats 1000000
namespace MP
open PySem PySem.Spec PyProof.Rows L2
variable [WW]

/-- the promise of a def that does what f does -/
def spM (K : PySem.W.Frag) (mg : Str → Option Value) (np : Nat) (f : FF) : Sp := fun vs H Q E => vs.length = np ∧ ∃ F m ds hp r hp', R K F m H hp ∧ Dns K F m vs ds ∧ f ds hp = some (r, hp') ∧
  match r with
  | .val d => ∀ v F' m' H', Nx F m H F' m' H' → R K F' m' H' hp' → Dn K F' m' v d → Q v H'
  | .exc e => ∀ F' m' H' c dd, Nx F m H F' m' H' → R K F' m' H' hp' → Xc K mg F' m' H' e c dd → E c dd H'
/-- the def of this name, of np parameters, does what f does -/
structure DefOk (P : Program) (w : World) (K : PySem.W.Frag) (mg : Str → Option Value) (base : Heap) (k : Nat) (nm : Str) (np : Nat) (f : FF) : Prop where
  ex : ∃ a fd ps, ps.length = np ∧ FnOk P w K mg base (L2.CX P w) k a fd ps (spM K mg np f) ∧ mg nm = some (.ref a) ∧ PySem.W.keepIn K (.ref a) = true ∧ Binds K fd ps []
  len : ∀ ds hp z, f ds hp = some z → ds.length = np
theorem DefOk.mono {P : Program} {w : World} {K : PySem.W.Frag} {mg : Str → Option Value} {base : Heap} {k k' np : Nat} {nm : Str} {f : FF} (h : DefOk P w K mg base k nm np f) (hk : k ≤ k') : DefOk P w K mg base k' nm np f := by
  obtain ⟨a, fd, ps, h0, h1, h2⟩ := h.ex
  exact ⟨⟨a, fd, ps, h0, h1.mono hk, h2⟩, h.len⟩
/-- where calls may be made -/
structure Cal {ι : Type} (X : ι → Cx) (P : Program) (w : World) (base : Heap) (k : Nat) (W : WX) : Prop where
  p : ∀ j, (X j).prog = P
  w : ∀ j, (X j).w = w
  b : ∀ j, (X j).base = base
  r : ∀ j, Room k (X j).A
  t : ∀ j, Takes (X j) W
theorem Cal.blk {ι : Type} {X : ι → Cx} {P : Program} {w : World} {base : Heap} {k : Nat} {W : WX} (h : Cal X P w base k W) (scope : Scope) : Cal (blkF X scope) P w base k WF :=
  ⟨fun q => h.p q.1, fun q => h.w q.1, fun q => h.b q.1, fun q => h.r q.1, fun _ => takes0⟩
def eFn (f : FF) (fa : FA) : FE := bnd fa fun ds _ hp => f ds hp

section
variable [FV]
variable {ι : Type} {X : ι → Cx} {K : PySem.W.Frag} {mg : Str → Option Value} {W : WX} {F F' : Hp} {m m' : List Addr} {H H' : Hp} {hp hp' : EH} {e : Expr} {es : List Expr} {fa : FA} {pos p : Pos} {P : Program} {w : World} {base : Heap} {k kk : Nat} {nm : Str} {f : FF}
theorem call_read {ta : TA} {σ : L2.St} {env : Ev} {np : Nat} (qa : ∀ r hp', fa env hp = some (r, hp') → ∀ Q, OutA K mg W F m σ H hp' Q r → ta σ H Q) (hlen : ∀ ds hp z, f ds hp = some z → ds.length = np)
    {r' : Res D} (e : eFn f fa env hp = some (r', hp')) {Q : VK} (q : OutE K mg W F m σ H hp' Q r') : tCallS (spM K mg np f) (WE W) ta σ H Q := by
  show ta σ H fun vs H1 => spM K mg np f vs H1 Q (WE W σ)
  rcases bnd_val e with ⟨x, h1, rfl⟩ | ⟨ds, hp1, h1, h2⟩
  · exact qa _ _ h1 _ q
  · refine qa _ _ h1 _ fun vs F1 m1 H1 n1 r1 d1 => ⟨by rw [d1.length]; exact hlen _ _ _ h2, F1, m1, ds, hp1, r', hp', r1, d1, h2, ?_⟩
    cases r' with
    | val d => exact fun v F' m' H' n2 r2 d2 => q v F' m' H' (n1.trans n2) r2 d2
    | exc x => exact fun F' m' H' c dd n2 r2 d2 => q F' m' H' c dd (n1.trans n2) r2 d2
theorem se_call {np : Nat} (hF : Fam X K mg) (hC : Cal X P w base kk W) (Dk : DefOk P w K mg base k nm np f) (hk : k ≤ kk) (hg : ∀ j, Gl (X j) nm) (ha : SA X K mg W (e :: es) fa)
    (hdb : (nm == ("__debug__" : Str)) = false := by decide) (he : ∀ j, starEach (e :: es) (X j).env = (false, eval e (X j).env) :: starEach es (X j).env := by intro _; rfl) (hpl : ∀ j, (backTo pos (starEach es (X j).env)).any (·.1) = false := by intro _; rfl) :
    SE X K mg W (.Call (.Name nm p) (e :: es) [] pos) (eFn f fa) := by
  obtain ⟨t, pt, q0⟩ := ha.ex
  obtain ⟨a, fd, ps, h0, h1, h2, h3, h4⟩ := Dk.ex
  refine ⟨⟨tCallS (spM K mg np f) (WE W) t, fun j => ?_, fun σ H env hp F m r n r' hp' e Q q => call_read (q0 σ H env hp F m r n) Dk.len e q⟩⟩
  refine pe_callS (k := k) (f := a) (fd := fd) (ps := ps) ?_ ((hC.r j).mono hk) (hg j) ?_ ?_ ?_ (fun σ => passAt (hC.t j) σ) (pt j) hdb (he j) (hpl j)
  · rw [hC.p j, hC.w j, hC.b j, hF.k j, hF.g j]; exact h1
  · rw [hF.g j]; exact h2
  · rw [hF.k j]; exact h3
  · rw [hF.k j]; exact h4
/-- a call without arguments -/
theorem pe_callS0 {Y : Cx} {CXx : CXT} {a : Addr} {fd : FuncData} {ps : List Str} {sp : Sp} {E : L2.St → XK} (G : FnOk Y.prog Y.w Y.K Y.mg Y.base CXx k a fd ps sp) (hr : Room k Y.A) (hg : Gl Y nm) (hm : Y.mg nm = some (.ref a)) (hk : PySem.W.keepIn Y.K (.ref a) = true) (hb : Binds Y.K fd ps [])
    (hx : ∀ σ, PassesAt CXx Y σ (E σ)) (hdb : (nm == ("__debug__" : Str)) = false) : PE Y (.Call (.Name nm p) [] [] pos) (tCallS sp E tNil) := by
  refine ⟨fun pins s σ H Q I h => ?_⟩
  refine wpAny_Call_Name_kw (ld_glob I hg hm ?_ hdb)
  exact PySem.W.callWith_K0 I.kIn hk (run_fnS (us := []) G hr hb (hx σ) I .nil h)
theorem se_call0 (hF : Fam X K mg) (hC : Cal X P w base kk W) (Dk : DefOk P w K mg base k nm 0 f) (hk : k ≤ kk) (hg : ∀ j, Gl (X j) nm) (hdb : (nm == ("__debug__" : Str)) = false := by decide) :
    SE X K mg W (.Call (.Name nm p) [] [] pos) (eFn f aNil) := by
  obtain ⟨a, fd, ps, h0, h1, h2, h3, h4⟩ := Dk.ex
  refine ⟨⟨tCallS (spM K mg 0 f) (WE W) tNil, fun j => ?_, fun σ H env hp F m r n r' hp' e Q q => call_read (ta := tNil) (fa := aNil) (fun r hp' e Q q => by cases e; exact q [] F m H Nx.refl (by assumption) .nil) Dk.len e q⟩⟩
  refine pe_callS0 (k := k) (a := a) (fd := fd) (ps := ps) ?_ ((hC.r j).mono hk) (hg j) ?_ ?_ ?_ (fun σ => passAt (hC.t j) σ) hdb
  · rw [hC.p j, hC.w j, hC.b j, hF.k j, hF.g j]; exact h1
  · rw [hF.g j]; exact h2
  · rw [hF.k j]; exact h3
  · rw [hF.k j]; exact h4

/-! ### a def by its body -/
mutual
/-- speaks of no list that may change but the first n -/
def oldD (n : Nat) : D → Bool
  | .tup xs => oldDs n xs
  | .lst xs => oldDs n xs
  | .scr xs => oldDs n xs
  | .obj i => decide (i < n)
  | .err _ _ xs => oldDs n xs
  | .xcp _ _ _ xs => oldDs n xs
  | .non => true
  | .bl _ => true
  | .int _ => true
  | .str _ => true
  | .set xs => oldDs n xs
  | .ist _ => true
  | .dic0 => true
def oldDs (n : Nat) : List D → Bool
  | [] => true
  | x :: xs => oldD n x && oldDs n xs
end
/-- the first n lists are as they were, or speak of no newer one -/
def keptTo (n : Nat) (h h' : EH) : Bool := (List.range n).all fun i => match h[i]?, h'[i]? with
  | some xs, some ys => D.beqs xs ys || oldDs n ys
  | _, _ => false
/-- the answer: a new list is handed over for good -/
def handed (n : Nat) (hp' : EH) : D → Option D
  | .obj i => if i < n then some (.obj i) else match hp'[i]? with
    | some xs => if oldDs n xs = true then some (.lst xs) else none
    | none => none
  | d => if oldD n d = true then some d else none
/-- a def that leaves no new list that may change -/
def runDef (N np : Nat) (body : FS) : FF := fun ds hp => if ds.length = np then match body (ds.map some ++ List.replicate (N - np) none) hp with
  | some (.nxt, _, hp') => if keptTo hp.length hp hp' = true then some (.val .non, hp'.take hp.length) else none
  | some (.ret d, _, hp') => if keptTo hp.length hp hp' = true then match handed hp.length hp' d with
    | some d' => some (.val d', hp'.take hp.length)
    | none => none
    else none
  | some (.exc e, _, hp') => some (.exc e, hp')
  | _ => none else none
/-- a def whose new lists go on -/
def runDefO (N np : Nat) (body : FS) : FF := fun ds hp => if ds.length = np then match body (ds.map some ++ List.replicate (N - np) none) hp with
  | some (.nxt, _, hp') => some (.val .non, hp')
  | some (.ret d, _, hp') => some (.val d, hp')
  | some (.exc e, _, hp') => some (.exc e, hp')
  | _ => none else none
mutual
theorem dn_old {n : Nat} (e : Same F F') (p : m' <+: m) (hn : n = m'.length) : ∀ {d : D} {v : V}, Dn K F m v d → oldD n d = true → Dn K F' m' v d
  | .non, _, h, _ => by cases h; exact .non
  | .bl b, _, h, _ => by cases h; exact .bl b
  | .int i, _, h, _ => by cases h; exact .int i
  | .str i, _, h, _ => by cases h; exact .str i
  | .tup ds, _, h, o => by
    cases h with
    | tup h1 h2 => exact .tup (SqT.mono e h1) (dns_old e p hn h2 (by simpa [oldD] using o))
  | .lst ds, _, h, o => by
    cases h with
    | lst h1 h2 => exact .lst (e _ _ h1) (dns_old e p hn h2 (by simpa [oldD] using o))
  | .scr ds, _, h, o => by
    cases h with
    | scr h1 h2 => exact .scr (SqL.mono e h1) (dns_old e p hn h2 (by simpa [oldD] using o))
  | .obj i, _, h, o => by
    cases h with
    | obj h1 =>
      have hi : i < m'.length := by
        have q : i < n := by simpa [oldD] using o
        omega
      obtain ⟨t, rfl⟩ := p
      rw [List.getElem?_append_left hi] at h1
      exact .obj h1
  | .err c ns ds, _, h, o => by
    cases h with
    | err h1 h2 h3 h4 h5 => exact .err (e _ _ h1) (e _ _ h2) h3 h4 (dns_old e p hn h5 (by simpa [oldD] using o))
    | er0 h1 h2 => exact .er0 (e _ _ h1) h2
  | .xcp t c ns ds, _, h, o => by
    cases h with
    | xcp h2 h3 h4 h5 => exact .xcp (e _ _ h2) h3 h4 (dns_old e p hn h5 (by simpa [oldD] using o))
    | xc0 h1 => exact .xc0 h1
  | .set ds, _, h, o => by
    cases h with
    | set h1 h2 h3 h4 => exact .set (e _ _ h1) h2 h3 (dns_old e p hn h4 (by simpa [oldD] using o))
  | .ist is, _, h, _ => by
    cases h with
    | ist h1 h2 => exact .ist (e _ _ h1) h2
  | .dic0, _, h, _ => by
    cases h with
    | dic0 h1 => exact .dic0 (e _ _ h1)
theorem dns_old {n : Nat} (e : Same F F') (p : m' <+: m) (hn : n = m'.length) : ∀ {ds : List D} {vs : List V}, Dns K F m vs ds → oldDs n ds = true → Dns K F' m' vs ds
  | [], _, h, _ => by cases h; exact .nil
  | d :: ds, _, h, o => by
    cases h with
    | cons h1 h2 =>
      have o' : oldD n d = true ∧ oldDs n ds = true := by simpa [oldDs] using o
      exact .cons (dn_old e p hn h1 o'.1) (dns_old e p hn h2 o'.2)
end
mutual
theorem old_of : ∀ {d : D} {v : V}, Dn K F m v d → oldD m.length d = true
  | .non, _, _ => by simp [oldD]
  | .bl b, _, _ => by simp [oldD]
  | .int i, _, _ => by simp [oldD]
  | .str i, _, _ => by simp [oldD]
  | .tup ds, _, h => by
    cases h with
    | tup h1 h2 => simp only [oldD]; exact olds_of h2
  | .lst ds, _, h => by
    cases h with
    | lst h1 h2 => simp only [oldD]; exact olds_of h2
  | .scr ds, _, h => by
    cases h with
    | scr h1 h2 => simp only [oldD]; exact olds_of h2
  | .obj i, _, h => by
    cases h with
    | obj h1 => simp only [oldD]; exact decide_eq_true (List.getElem?_eq_some_iff.mp h1).1
  | .err c ns ds, _, h => by
    cases h with
    | err h1 h2 h3 h4 h5 => simp only [oldD]; exact olds_of h5
    | er0 h1 h2 => simp [oldD, oldDs]
  | .xcp t c ns ds, _, h => by
    cases h with
    | xcp h2 h3 h4 h5 => simp only [oldD]; exact olds_of h5
    | xc0 h1 => simp [oldD, oldDs]
  | .set ds, _, h => by
    cases h with
    | set h1 h2 h3 h4 => simp only [oldD]; exact olds_of h4
  | .ist is, _, _ => by simp [oldD]
  | .dic0, _, _ => by simp [oldD]
theorem olds_of : ∀ {ds : List D} {vs : List V}, Dns K F m vs ds → oldDs m.length ds = true
  | [], _, _ => by simp [oldDs]
  | d :: ds, _, h => by
    cases h with
    | cons h1 h2 => simp only [oldDs, Bool.and_eq_true]; exact ⟨old_of h1, olds_of h2⟩
end
open Classical in
/-- the new lists are handed over: what may change is what it was -/
theorem hand_over {F1 : Hp} {m1 : List Addr} {H1 : Hp} {hp1 : EH} (r : R K F m H hp) (n1 : Nx F m H F1 m1 H1) (r1 : R K F1 m1 H1 hp1) (ok : keptTo hp.length hp hp1 = true) :
    ∃ F2, Same F1 F2 ∧ Nx F m H F2 m H1 ∧ R K F2 m H1 (hp1.take hp.length) ∧ ∀ v d d', Dn K F1 m1 v d → handed hp.length hp1 d = some d' → Dn K F2 m v d' := by
  let F2 : Hp := fun a => if a ∈ m1 ∧ a ∉ m then H1 a else F1 a
  have hnew : ∀ a, a ∈ m1 → a ∉ m → F2 a = H1 a := fun a h1 h2 => if_pos ⟨h1, h2⟩
  have hold : ∀ a, ¬ (a ∈ m1 ∧ a ∉ m) → F2 a = F1 a := fun a h => if_neg h
  have s12 : Same F1 F2 := fun a o e => by
    have hm : a ∉ m1 := fun z => by rw [r1.fre a z] at e; cases e
    rw [hold a fun z => hm z.1]; exact e
  have ln : hp.length = m.length := r.len.symm
  have ll : m.length ≤ m1.length := by
    obtain ⟨t, rfl⟩ := n1.pre
    simp
  have mem : ∀ a, a ∈ m → a ∈ m1 := fun a h => pre_mem n1.pre h
  have at_ : ∀ (i : Nat) (ys : List D), i < m.length → hp1[i]? = some ys → oldDs m.length ys = true := fun i ys hi hy => by
    have q := List.all_eq_true.mp ok i (List.mem_range.mpr (by omega))
    have h0 : i < hp.length := by omega
    have ex : hp[i]? = some hp[i] := List.getElem?_eq_getElem h0
    rw [ex, hy] at q
    simp only [Bool.or_eq_true] at q
    rcases q with q | q
    · have e := D.beqs_eq q
      rw [e] at ex
      obtain ⟨vs, _, w⟩ := r.obj i _ ys (List.getElem?_eq_getElem hi) ex
      exact olds_of w
    · rw [← ln]; exact q
  have R2 : R K F2 m H1 (hp1.take hp.length) := by
    refine ⟨fun a o e => ?_, ?_, r.nod, fun a ha => ?_, fun i a ds h1 h2 => ?_, r1.tab, fun a ps e => ?_⟩
    · by_cases c : a ∈ m1 ∧ a ∉ m
      · rw [hnew a c.1 c.2] at e; exact e
      · rw [hold a c] at e; exact r1.sub a o e
    · rw [List.length_take, ← r1.len]; omega
    · rw [hold a fun z => z.2 ha]; exact r1.fre a (mem a ha)
    · have hi : i < m.length := (List.getElem?_eq_some_iff.mp h1).1
      rw [List.getElem?_take_of_lt (by omega)] at h2
      obtain ⟨vs, w1, w2⟩ := r1.obj i a ds (pre_get n1.pre h1) h2
      exact ⟨vs, w1, dns_old s12 n1.pre rfl w2 (at_ i ds hi h2)⟩
    · by_cases c : a ∈ m1 ∧ a ∉ m
      · rw [hnew a c.1 c.2] at e
        obtain ⟨vs, z⟩ := r1.there c.1
        rw [z] at e; cases e
      · rw [hold a c] at e; exact r1.ntb a ps e
  refine ⟨F2, s12, ⟨n1.fz.trans s12, List.prefix_refl _, n1.kp, fun _ h => .inl h, fun a o e => ?_, n1.tr⟩, R2, fun v d d' hd hh => ?_⟩
  · by_cases c : a ∈ m1 ∧ a ∉ m
    · rcases n1.nw a c.1 with z | z
      · exact absurd z c.2
      · exact .inr (.inl z)
    · rw [hold a c] at e; exact n1.nf a o e
  · have plain : handed hp.length hp1 d = (if oldD hp.length d = true then some d else none) → Dn K F2 m v d' := fun q => by
      rw [q] at hh
      split at hh
      · rename_i o
        cases hh
        exact dn_old s12 n1.pre ln hd o
      · cases hh
    cases d with
    | obj i =>
      cases hd with
      | obj h1 =>
        rename_i a
        simp only [handed] at hh
        split at hh
        · rename_i hi
          cases hh
          have hi' : i < m.length := by omega
          obtain ⟨t, ht⟩ := n1.pre
          rw [← ht, List.getElem?_append_left hi'] at h1
          exact .obj h1
        · rename_i hi
          split at hh
          · rename_i xs hx
            split at hh
            · rename_i o
              cases hh
              obtain ⟨vs, w1, w2⟩ := r1.obj i a xs h1 hx
              have am : a ∉ m := fun z => by
                obtain ⟨j, hj, e⟩ := List.mem_iff_getElem.mp z
                have h2 : m1[j]? = some a := pre_get n1.pre (by rw [List.getElem?_eq_getElem hj, e])
                obtain ⟨l1, e1⟩ := List.getElem?_eq_some_iff.mp h1
                obtain ⟨l2, e2⟩ := List.getElem?_eq_some_iff.mp h2
                have : i = j := (List.getElem_inj r1.nod).mp (e1.trans e2.symm)
                omega
              exact .lst (by rw [hnew a (List.mem_of_getElem? h1) am]; exact w1) (dns_old s12 n1.pre ln w2 o)
            · cases hh
          · cases hh
    | tup xs => exact plain rfl
    | lst xs => exact plain rfl
    | scr xs => exact plain rfl
    | non => exact plain rfl
    | bl b => exact plain rfl
    | int i => exact plain rfl
    | str x => exact plain rfl
    | err c ns xs => exact plain rfl
    | xcp t c ns xs => exact plain rfl
    | set xs => exact plain rfl
    | ist xs => exact plain rfl
    | dic0 => exact plain rfl
end

/-- no function got -/
instance FV0 : FV := ⟨0, [], fun _ _ => True, fun _ _ _ _ _ _ _ => True.intro⟩
section
variable {P : Program} {w : World} {K : PySem.W.Frag} {mg : Str → Option Value} {base : Heap}
/-- the context of a def's body -/
abbrev cxD (P : Program) (w : World) (K : PySem.W.Frag) (mg : Str → Option Value) (base : Heap) (N : List Str) (qual : Str) (sc : Scope) (a : Addr) (cdv : Value) (A : Around) (outer : List Env) (s : Shared) (H : Hp) (E : XK) : Unit → Cx := fun _ => cxOf (L2.CX P w) P w K mg base N qual sc a cdv A outer s H E
abbrev wOf (E : XK) : WX := fun c d _ H => E c d H
theorem cxD_fam {N : List Str} {qual : Str} {sc : Scope} {a : Addr} {cdv : Value} {A : Around} {outer : List Env} {s : Shared} {H : Hp} {E : XK} (hN : N.Nodup) : Fam (cxD P w K mg base N qual sc a cdv A outer s H E) K mg := ⟨fun _ => rfl, fun _ => rfl, fun _ => rfl, fun _ => hN⟩
theorem cxD_cal {N : List Str} {qual : Str} {sc : Scope} {a : Addr} {cdv : Value} {A : Around} {outer : List Env} {s : Shared} {H : Hp} {E : XK} {k : Nat} (hr : Room k (A.deeper (envOfC qual sc s.heap.objs.size a cdv))) : Cal (cxD P w K mg base N qual sc a cdv A outer s H E) P w base k (wOf E) :=
  ⟨fun _ => rfl, fun _ => rfl, fun _ => rfl, fun _ => hr, fun _ => takes_of rfl rfl rfl rfl⟩
/-- what an error meets that leaves the frame -/
abbrev Own {ι : Type} (X : ι → Cx) : Prop := ∀ j, PassesOwn (model (X j).prog (X j).w) (X j).A (X j).env (X j).xe
theorem cxD_own {N : List Str} {qual : Str} {sc : Scope} {a : Addr} {cdv : Value} {A : Around} {outer : List Env} {s : Shared} {H : Hp} {E : XK} (j : Unit) : PassesOwn (model (cxD P w K mg base N qual sc a cdv A outer s H E j).prog (cxD P w K mg base N qual sc a cdv A outer s H E j).w) (cxD P w K mg base N qual sc a cdv A outer s H E j).A (cxD P w K mg base N qual sc a cdv A outer s H E j).env (cxD P w K mg base N qual sc a cdv A outer s H E j).xe := passes_of rfl
theorem en_start {F : Hp} {m : List Addr} {vs : List V} {ds : List D} {n : Nat} (N : List Str) (h : Dns K F m vs ds) (hn : n = N.length) (hl : ds.length ≤ N.length) : En K F m (start N vs) (ds.map some ++ List.replicate (n - ds.length) none) := by
  subst hn
  refine ⟨by simp [L2.start, h.length], fun i d e => ?_, fun i hs _ => (by cases hs), True.intro⟩
  by_cases hi : i < ds.length
  · rw [List.getElem?_append_left (by simpa using hi), List.getElem?_map] at e
    cases q : ds[i]? with
    | none => rw [q] at e; cases e
    | some d' =>
      rw [q] at e
      cases e
      obtain ⟨v, q1, q2⟩ := h.get q
      refine ⟨v, ?_, q2⟩
      unfold L2.start
      rw [List.getElem?_append_left (by simpa [h.length] using hi), List.getElem?_map, q1]
      rfl
  · rw [List.getElem?_append_right (by simpa using Nat.le_of_not_lt hi), List.getElem?_replicate] at e
    split at e <;> cases e
theorem def_body {N ps : List Str} {qual : Str} {sc : Scope} {a : Addr} {cdv : Value} {A : Around} {outer : List Env} {s : Shared} {H : Hp} {E : XK} {body : List Stmt} {fb : FS} {vs : List V} {Q : VK} {g : FF}
    (hb : SB (cxD P w K mg base N qual sc a cdv A outer s H E) K mg (wOf E) body fb) (hpl : ps.length ≤ N.length) (hg : g = runDef N.length ps.length fb ∨ g = runDefO N.length ps.length fb) (hs : spM K mg ps.length g vs H Q E) :
    ∃ t, PSs (cxOf (L2.CX P w) P w K mg base N qual sc a cdv A outer s H E) body t ∧ t { nx := fun _ H' => Q .non H', rt := Q } (start N vs) H := by
  obtain ⟨t, p, q0⟩ := hb.ex
  refine ⟨t, p (), ?_⟩
  obtain ⟨hl, F, m, ds, hp, r, hp', r0, d0, e0, k0⟩ := hs
  have hdl : ds.length = ps.length := by rw [← d0.length]; exact hl
  have n0 := en_start (n := N.length) N d0 rfl (by omega)
  rw [hdl] at n0
  rcases hg with rfl | rfl
  · unfold runDef at e0
    rw [if_pos hdl] at e0
    cases hbd : fb (ds.map some ++ List.replicate (N.length - ps.length) none) hp with
    | none => rw [hbd] at e0; cases e0
    | some x =>
      obtain ⟨fl, env', hp1⟩ := x
      rw [hbd] at e0
      refine q0 _ H _ hp F m r0 n0 _ _ _ hbd _ ?_
      cases fl with
      | nxt =>
        simp only at e0
        split at e0
        · rename_i ok
          cases e0
          intro σ' F1 m1 H1 n1 r1 _
          obtain ⟨F2, _, n2, r2, _⟩ := hand_over r0 n1 r1 ok
          exact k0 _ F2 m H1 n2 r2 .non
        · cases e0
      | ret d =>
        simp only at e0
        split at e0
        · rename_i ok
          split at e0
          · rename_i d' hd'
            cases e0
            intro v F1 m1 H1 n1 r1 dv
            obtain ⟨F2, _, n2, r2, hh⟩ := hand_over r0 n1 r1 ok
            exact k0 _ F2 m H1 n2 r2 (hh v d d' dv hd')
          · cases e0
        · cases e0
      | exc x =>
        cases e0
        exact fun σ' F1 m1 H1 c dd n1 r1 _ x1 => k0 F1 m1 H1 c dd n1 r1 x1
      | brk => cases e0
      | cnt => cases e0
  · unfold runDefO at e0
    rw [if_pos hdl] at e0
    cases hbd : fb (ds.map some ++ List.replicate (N.length - ps.length) none) hp with
    | none => rw [hbd] at e0; cases e0
    | some x =>
      obtain ⟨fl, env', hp1⟩ := x
      rw [hbd] at e0
      refine q0 _ H _ hp F m r0 n0 _ _ _ hbd _ ?_
      cases fl with
      | nxt => cases e0; exact fun σ' F1 m1 H1 n1 r1 _ => k0 _ F1 m1 H1 n1 r1 .non
      | ret d => cases e0; exact fun v F1 m1 H1 n1 r1 dv => k0 _ F1 m1 H1 n1 r1 dv
      | exc x => cases e0; exact fun σ' F1 m1 H1 c dd n1 r1 _ x1 => k0 F1 m1 H1 c dd n1 r1 x1
      | brk => cases e0
      | cnt => cases e0
/-- THE RULE of a def -/
theorem def_ok {x qual : Str} {st : Stmt} {a : Addr} {fd : FuncData} {N ps : List Str} {k : Nat} {fb : FS} {g : FF} {nm : Str} (T : Fun K x qual st a fd) (S : FnScope N ps (defScope st)) (hg : g = runDef N.length ps.length fb ∨ g = runDefO N.length ps.length fb) (hm : mg nm = some (.ref a)) (hbi : Binds K fd ps [])
    (hb : ∀ (cdv : Value) (A : Around) (outer : List Env) (s : Shared) (H : Hp) (E : XK), Fam (cxD P w K mg base N qual (defScope st) a cdv A outer s H E) K mg → Cal (cxD P w K mg base N qual (defScope st) a cdv A outer s H E) P w base k (wOf E) → Own (cxD P w K mg base N qual (defScope st) a cdv A outer s H E) →
      SB (cxD P w K mg base N qual (defScope st) a cdv A outer s H E) K mg (wOf E) (defBody st) fb) :
    DefOk P w K mg base (k + 1) nm ps.length g := by
  have hpl : ps.length ≤ N.length := by
    have z := congrArg List.length S.pre
    rw [List.length_take] at z
    omega
  refine ⟨⟨a, fd, ps, rfl, T.okX S (fun vs H Q E h => h.1) (fun cdv A outer s H vs Q E hr hs => def_body (hb cdv A outer s H E (cxD_fam S.nd) (cxD_cal hr) cxD_own) hpl hg hs), hm, T.kp, hbi⟩, fun ds hp z e => ?_⟩
  rcases hg with rfl | rfl
  · unfold runDef at e
    split at e
    · assumption
    · cases e
  · unfold runDefO at e
    split at e
    · assumption
    · cases e
end
end MP
end

section
set_option maxRecDepth 100000
set_option maxHeartbeats 1000000
namespace MP
open PySem PySem.Spec PyProof.Rows L2
variable [WW] [FV]

/-! ### the operators by their signs -/
def gAdd : D → D → EH → Option D := fun x y hp => match x, y with
  | .int i, .int j => some (.int (i + j))
  | .tup xs, .tup ys => if xs.length + ys.length ≤ 16777216 then some (.tup (xs ++ ys)) else none
  | x, y => gCatL x y hp
def gSub : D → D → EH → Option D := iOp (fun _ _ => true) (· - ·)
def small64 (i : Int) : Bool := decide (-(2 ^ 64) < i ∧ i < 2 ^ 64)
def gMul : D → D → EH → Option D := fun x y hp => match x, y with
  | .int i, .int j => if (small64 i || small64 j) = true then some (.int (i * j)) else none
  | .tup xs, .int k => if 2 ≤ k ∧ k ≤ 1000 ∧ xs.length ≤ 1000 ∧ 0 < xs.length then some (.tup (List.replicate k.toNat xs).flatten) else if k = 1 then some (.tup xs) else if k = 0 ∧ 0 < xs.length then some (.tup []) else none
  | x, y => gRepL x y hp
def gDiv : D → D → EH → Option D := iOp (fun _ j => decide (0 < j ∧ j < 1073741824)) (· / ·)
def gMod : D → D → EH → Option D := iOp (fun _ j => decide (0 < j)) (· % ·)
def gPow : D → D → EH → Option D := iOp (fun i j => decide (0 ≤ j ∧ j ≤ 1000000 ∧ i.natAbs < 2 ^ 64)) (fun i j => i ^ j.toNat)
section
variable {ι : Type} {X : ι → Cx} {K : PySem.W.Frag} {mg : Str → Option Value} {W : WX} {a b e : Expr} {es : List Expr} {fa fb : FE} {ga : FA} {pos p : Pos} {P : Program} {w : World} {base : Heap} {kk : Nat}
theorem ops_add : OpS K (fun x y H Q => rI0 (fun i j => .int (i + j)) x y H Q ∨ (rCatA K x y H Q ∨ rCat x y H Q)) gAdd := by
  intro F m H hp x y d e z r1 d1 d2 hz Q q
  unfold gAdd at hz
  split at hz
  · exact .inl (ops_I0 F m H hp x y _ _ z r1 d1 d2 (by simp only [iOp, if_true]; exact hz) Q q)
  · exact .inr (.inl (ops_catT F m H hp x y _ _ z r1 d1 d2 hz Q q))
  · exact .inr (.inr (ops_catL F m H hp x y _ _ z r1 d1 d2 hz Q q))
theorem ops_mul : OpS K (fun x y H Q => rI CMul (fun i j => .int (i * j)) x y H Q ∨ (rRepT K x y H Q ∨ (MX.rRep01 K x y H Q ∨ rRep x y H Q))) gMul := by
  intro F m H hp x y d e z r1 d1 d2 hz Q q
  unfold gMul at hz
  split at hz
  · split at hz
    · rename_i i j hc
      cases hz
      cases d1; cases d2
      refine .inl ⟨i, j, rfl, rfl, ?_, q _ F H Nx.refl r1 (.int _)⟩
      simp only [small64, Bool.or_eq_true, decide_eq_true_eq] at hc
      exact hc
    · cases hz
  · split at hz
    · rename_i xs k hc
      obtain ⟨c1, c2, c3, c4⟩ := hc
      cases hz
      cases d2
      cases d1 with
      | tup a1 a2 =>
        rename_i a vs
        refine .inr (.inl ⟨a, k, vs, rfl, rfl, SqT.mono r1.sub a1, fun e => ?_, c1, c2, by rw [a2.length]; exact c3, fun p hp' => ?_⟩)
        · subst e
          have := a2.length
          simp at this
          omega
        · obtain ⟨F', n', r', d'⟩ := new_tup (σ := []) r1 (a2.rep k.toNat) hp'
          exact q _ F' _ n' r' d'
    · rename_i xs k _
      cases d2
      cases d1 with
      | tup a1 a2 =>
        rename_i a vs
        split at hz
        · rename_i hk
          cases hz
          exact .inr (.inr (.inl ⟨a, k, vs, rfl, rfl, SqT.mono r1.sub a1, .inl ⟨hk, q _ F H Nx.refl r1 (.tup a1 a2)⟩⟩))
        · split at hz
          · rename_i hk
            cases hz
            refine .inr (.inr (.inl ⟨a, k, vs, rfl, rfl, SqT.mono r1.sub a1, .inr ⟨hk.1, fun e => ?_, fun p hp' => ?_⟩⟩))
            · subst e
              have := a2.length
              simp at this
              omega
            · obtain ⟨F', n', r', d'⟩ := new_tup (σ := []) r1 (Dns.nil (K := K) (F := F) (m := m)) hp'
              exact q _ F' _ n' r' d'
          · cases hz
  · exact .inr (.inr (.inr (ops_repL F m H hp x y _ _ z r1 d1 d2 hz Q q)))
theorem se_add (hF : Fam X K mg) (ha : SE X K mg W a fa) (hb : SE X K mg W b fb) : SE X K mg W (.BinOp a .Add b pos) (eBin gAdd fa fb) :=
  se_bin (fun j => by rw [← hF.k j]; exact op_add.or (op_catA.or op_cat)) ops_add ha hb
theorem se_sub (ha : SE X K mg W a fa) (hb : SE X K mg W b fb) : SE X K mg W (.BinOp a .Sub b pos) (eBin gSub fa fb) := se_bin (fun _ => op_sub) ops_I0 ha hb
theorem se_mul (hF : Fam X K mg) (ha : SE X K mg W a fa) (hb : SE X K mg W b fb) : SE X K mg W (.BinOp a .Mult b pos) (eBin gMul fa fb) :=
  se_bin (fun j => by rw [← hF.k j]; exact op_mul.or (op_repT.or (MX.op_rep01.or op_rep))) ops_mul ha hb
theorem se_fdiv (ha : SE X K mg W a fa) (hb : SE X K mg W b fb) : SE X K mg W (.BinOp a .FloorDiv b pos) (eBin gDiv fa fb) := se_bin (fun _ => op_fdiv) (ops_I fun i j h => show 0 < j ∧ j < 1073741824 from of_decide_eq_true h) ha hb
theorem se_mod (ha : SE X K mg W a fa) (hb : SE X K mg W b fb) : SE X K mg W (.BinOp a .Mod b pos) (eBin gMod fa fb) := se_bin (fun _ => op_mod) (ops_I fun i j h => of_decide_eq_true h) ha hb
theorem se_pow (ha : SE X K mg W a fa) (hb : SE X K mg W b fb) : SE X K mg W (.BinOp a .Pow b pos) (eBin gPow fa fb) := se_bin (fun _ => op_pow) (ops_I fun i j h => show 0 ≤ j ∧ j ≤ 1000000 ∧ i.natAbs < 2 ^ 64 from of_decide_eq_true h) ha hb
def gLt : D → D → EH → Option D := iCmp fun i j => decide (i < j)
def gLe : D → D → EH → Option D := iCmp fun i j => decide (i ≤ j)
def gGt : D → D → EH → Option D := iCmp fun i j => decide (j < i)
def gGe : D → D → EH → Option D := iCmp fun i j => decide (j ≤ i)
theorem se_lt (ha : SE X K mg W a fa) (hb : SE X K mg W b fb) : SE X K mg W (.Compare a [.Lt] [b] pos) (eBin gLt fa fb) := se_cmp (fun _ => op_lt) ops_B0 ha hb (nomark _)
theorem se_le (ha : SE X K mg W a fa) (hb : SE X K mg W b fb) : SE X K mg W (.Compare a [.LtE] [b] pos) (eBin gLe fa fb) := se_cmp (fun _ => op_le) ops_B0 ha hb (nomark _)
theorem se_gt (ha : SE X K mg W a fa) (hb : SE X K mg W b fb) : SE X K mg W (.Compare a [.Gt] [b] pos) (eBin gGt fa fb) := se_cmp (fun _ => op_gt) ops_B0 ha hb (nomark _)
theorem se_ge (ha : SE X K mg W a fa) (hb : SE X K mg W b fb) : SE X K mg W (.Compare a [.GtE] [b] pos) (eBin gGe fa fb) := se_cmp (fun _ => op_ge) ops_B0 ha hb (nomark _)
theorem st_lt (ha : SE X K mg W a fa) (hb : SE X K mg W b fb) : ST X K mg W (.Compare a [.Lt] [b] pos) (tB (eBin gLt fa fb)) := st_cmp (fun _ => op_lt) ops_B0 ha hb (nomark _)
theorem st_le (ha : SE X K mg W a fa) (hb : SE X K mg W b fb) : ST X K mg W (.Compare a [.LtE] [b] pos) (tB (eBin gLe fa fb)) := st_cmp (fun _ => op_le) ops_B0 ha hb (nomark _)
theorem st_gt (ha : SE X K mg W a fa) (hb : SE X K mg W b fb) : ST X K mg W (.Compare a [.Gt] [b] pos) (tB (eBin gGt fa fb)) := st_cmp (fun _ => op_gt) ops_B0 ha hb (nomark _)
theorem st_ge (ha : SE X K mg W a fa) (hb : SE X K mg W b fb) : ST X K mg W (.Compare a [.GtE] [b] pos) (tB (eBin gGe fa fb)) := st_cmp (fun _ => op_ge) ops_B0 ha hb (nomark _)
theorem se_eq (hF : Fam X K mg) (hC : Cal X P w base kk W) (ha : SE X K mg W a fa) (hb : SE X K mg W b fb) : SE X K mg W (.Compare a [.Eq] [b] pos) (eBin gEq fa fb) :=
  se_cmp (fun j => by rw [← hF.k j]; exact op_eqD (hC.r j).units) ops_eq ha hb (nomark _)
theorem se_ne (hF : Fam X K mg) (hC : Cal X P w base kk W) (ha : SE X K mg W a fa) (hb : SE X K mg W b fb) : SE X K mg W (.Compare a [.NotEq] [b] pos) (eBin gNe fa fb) :=
  se_cmp (fun j => by rw [← hF.k j]; exact op_neD (hC.r j).units) ops_ne ha hb (nomark _)
theorem st_eq (hF : Fam X K mg) (hC : Cal X P w base kk W) (ha : SE X K mg W a fa) (hb : SE X K mg W b fb) : ST X K mg W (.Compare a [.Eq] [b] pos) (tB (eBin gEq fa fb)) :=
  st_cmp (fun j => by rw [← hF.k j]; exact op_eqD (hC.r j).units) ops_eq ha hb (nomark _)
theorem st_ne (hF : Fam X K mg) (hC : Cal X P w base kk W) (ha : SE X K mg W a fa) (hb : SE X K mg W b fb) : ST X K mg W (.Compare a [.NotEq] [b] pos) (tB (eBin gNe fa fb)) :=
  st_cmp (fun j => by rw [← hF.k j]; exact op_neD (hC.r j).units) ops_ne ha hb (nomark _)
theorem se_item (hF : Fam X K mg) (ha : SE X K mg W a fa) (hb : SE X K mg W b fb) (hx : PlainIx b) : SE X K mg W (.Subscript a b pos) (eBin gIx fa fb) :=
  se_ix (fun j => by rw [← hF.k j]; exact ix_seq) ops_ix ha hb hx
/-! ### x in xs -/
def dIn (hp : EH) (x y : D) : Option Bool := match toPh hp x, toPh hp y with
  | some p, some (.list ds) => if SeqAt.shaped p = true ∧ SeqAt.shaped (.list ds) = true then some (ds.any fun z => PyData.eqv z p) else none
  | some p, some (.tuple ds) => if SeqAt.shaped p = true ∧ SeqAt.shaped (.tuple ds) = true then some (ds.any fun z => PyData.eqv z p) else none
  | _, _ => none
/-! ### built-ins by their names -/
theorem se_len (hF : Fam X K mg) (hm : mg "len" = none) (hg : ∀ j, Gl (X j) "len") (ha : SA X K mg W [e] ga) (he : ∀ j, starEach [e] (X j).env = (false, eval e (X j).env) :: starEach [] (X j).env := by intro _; rfl) (hpl : ∀ j, (backTo pos (starEach [] (X j).env)).any (·.1) = false := by intro _; rfl) :
    SE X K mg W (.Call (.Name "len" p) [e] [] pos) (eCall gLen ga) := se_callB (fun j => by rw [← hF.k j]; exact call_len_seq) calls_len hg hm hF PySem.boot_len ha (by decide) (by decide) he hpl
theorem se_list (hF : Fam X K mg) (hm : mg "list" = none) (hg : ∀ j, Gl (X j) "list") (ha : SA X K mg W [e] ga) (he : ∀ j, starEach [e] (X j).env = (false, eval e (X j).env) :: starEach [] (X j).env := by intro _; rfl) (hpl : ∀ j, (backTo pos (starEach [] (X j).env)).any (·.1) = false := by intro _; rfl) :
    SE X K mg W (.Call (.Name "list" p) [e] [] pos) (eCall gList ga) := se_callTy (fun j => by rw [← hF.k j]; exact call_list_of) calls_list hg hm hF (by decide +kernel) ha (by decide) (by decide) he hpl
theorem se_tuple (hF : Fam X K mg) (hm : mg "tuple" = none) (hg : ∀ j, Gl (X j) "tuple") (ha : SA X K mg W [e] ga) (he : ∀ j, starEach [e] (X j).env = (false, eval e (X j).env) :: starEach [] (X j).env := by intro _; rfl) (hpl : ∀ j, (backTo pos (starEach [] (X j).env)).any (·.1) = false := by intro _; rfl) :
    SE X K mg W (.Call (.Name "tuple" p) [e] [] pos) (eCall gTuple ga) := se_callTy (fun j => by rw [← hF.k j]; exact call_tuple_of) calls_tuple hg hm hF (by decide +kernel) ha (by decide) (by decide) he hpl
theorem se_int1 (hF : Fam X K mg) (hm : mg "int" = none) (hg : ∀ j, Gl (X j) "int") (ha : SA X K mg W [e] ga) (he : ∀ j, starEach [e] (X j).env = (false, eval e (X j).env) :: starEach [] (X j).env := by intro _; rfl) (hpl : ∀ j, (backTo pos (starEach [] (X j).env)).any (·.1) = false := by intro _; rfl) :
    SE X K mg W (.Call (.Name "int" p) [e] [] pos) (eCall gInt ga) := se_callTy (fun j => call_int1) calls_int hg hm hF (by decide +kernel) ha (by decide) (by decide) he hpl
theorem se_min2 (hF : Fam X K mg) (hm : mg "min" = none) (hg : ∀ j, Gl (X j) "min") (ha : SA X K mg W [e, b] ga) (he : ∀ j, starEach [e, b] (X j).env = (false, eval e (X j).env) :: starEach [b] (X j).env := by intro _; rfl) (hpl : ∀ j, (backTo pos (starEach [b] (X j).env)).any (·.1) = false := by intro _; rfl) :
    SE X K mg W (.Call (.Name "min" p) [e, b] [] pos) (eCall gMin2 ga) := se_callB (fun j => call_min2 (hF.calm j)) calls_min2 hg hm hF (by decide +kernel) ha (by decide) (by decide) he hpl
theorem se_max2 (hF : Fam X K mg) (hm : mg "max" = none) (hg : ∀ j, Gl (X j) "max") (ha : SA X K mg W [e, b] ga) (he : ∀ j, starEach [e, b] (X j).env = (false, eval e (X j).env) :: starEach [b] (X j).env := by intro _; rfl) (hpl : ∀ j, (backTo pos (starEach [b] (X j).env)).any (·.1) = false := by intro _; rfl) :
    SE X K mg W (.Call (.Name "max" p) [e, b] [] pos) (eCall gMax2 ga) := se_callB (fun j => call_max2 (hF.calm j)) calls_max2 hg hm hF (by decide +kernel) ha (by decide) (by decide) he hpl
end
end MP
end

section
set_option maxRecDepth 100000
set_option maxHeartbeats 1000000
namespace MP
open PySem PySem.Spec PyProof.Rows L2
variable [WW]

/-! ### the law's own run: its surroundings are known -/
abbrev noE : XK := fun _ _ _ => False
section
variable {P : Program} {w : World} {K : PySem.W.Frag} {mg : Str → Option Value} {base : Heap}
/-- one def, run in the caller's surroundings -/
theorem run_law {x qual : Str} {st : Stmt} {fa a : Addr} {fd : FuncData} {N : List Str} {y : Str} {fb : FS} {s : Shared} {H : Hp} {ds : List Int} {hpE : EH} (T : Fun K x qual st fa fd) (S : FnScope N [y] (defScope st)) (hbi : ∀ (s : Shared) (u : Value), BindsTo s fd ⟨[u], []⟩ [(y, u)])
    (e0 : Env0 P w K mg base callerA [] s H) (hT : NdefX.TabsN WW.T H) (hS : SqL K H a (ds.map V.int))
    (hb : ∀ (cdv : Value), Fam (cxD P w K mg base N qual (defScope st) fa cdv callerA [] s H noE) K mg → Own (cxD P w K mg base N qual (defScope st) fa cdv callerA [] s H noE) →
      SB (cxD P w K mg base N qual (defScope st) fa cdv callerA [] s H noE) K mg (wOf noE) (defBody st) fb)
    (hm : runDefO N.length 1 fb [.scr (ds.map .int)] [] = some (.val (.bl true), hpE)) :
    codeAny (model P w) callerA (.call (.ref fa) ⟨[.ref a], []⟩) (CR (L2.CX P w) [] P w H s (fun v _ => v = .bl true) noE) s := by
  obtain ⟨oc, od, kV, doc, pm, an, cdv, ct, osl, rfl, lk, hcd⟩ := T.ex
  have KX : K.In s.heap := e0.mod.kin.keeps fun b o e => (e0.bs b o e).1
  have lim : s.heap.NoLimit := e0.mod.nolimit.keeps fun b o e => (e0.bs b o e).1
  have hdep : callerA.depth < recursionLimit := by decide
  have kinds : ∀ z ∈ [(y, Value.ref a)], (defScope st).names.lookup z.1 = some .local ∨ ((defScope st).names.lookup z.1 = some .cell ∧ ((cellsFrom (s.heap.objs.size + 1) (defScope st).names []).lookup z.1).isSome = true) := fun z hz => by
    have e : z = (y, Value.ref a) := by simpa using hz
    subst e
    rcases S.par y (by simp) with q | q
    · exact .inl q
    · exact .inr ⟨q, PySem.W.cellsFrom_some _ _ _ (.inl q)⟩
  refine codeAny_call_function hdep (KX _ _ lk) rfl S.co S.gen rfl (PySem.W.codeRec_of KX hcd) (hbi s (.ref a) _ _ _ _ ?_)
  refine wpAny_newFunctionEnv_cells S.kind kinds fun env he s1 x1 => ?_
  subst he
  refine ⟨lim.keeps x1.toInCall.keep, codeAny_func ?_⟩
  have hcal : callerA.handled = none := rfl
  have I : L2.Inv (cxOf (L2.CX P w) P w K mg base N qual (defScope st) fa cdv callerA [] s H noE) [] (L2.start N [.ref a]) H s1 := inv_start (us := [.ref a]) (ps := [y]) S hcal e0 rfl (.cons rfl .nil) x1
  obtain ⟨t, p, q0⟩ := (hb cdv (cxD_fam S.nd) cxD_own).ex
  have hpl : 1 ≤ N.length := by
    have z := congrArg List.length S.pre
    rw [List.length_take] at z
    simp at z
    omega
  -- the plain world at the entry: the script alone
  let F0 : Hp := fun b => match H b with
    | some (.tbl _) => none
    | o => o
  have hS0 : SqL K F0 a (ds.map V.int) := by
    rcases hS with (z | ⟨o, z⟩) | z
    · exact .inl (.inl (by show (match H a with | some (.tbl _) => none | o => o) = _; rw [z]))
    · exact .inl (.inr ⟨o, by show (match H a with | some (.tbl _) => none | o => o) = _; rw [z]⟩)
    · exact .inr z
  have d0 : Dns K F0 [] [.ref a] [.scr (ds.map .int)] := .cons (.scr hS0 (by
    have : ∀ l : List Int, Dns K F0 [] (l.map V.int) (l.map D.int) := fun l => by
      induction l with
      | nil => exact .nil
      | cons i l ih => exact .cons (.int i) ih
    exact this ds)) .nil
  have r0 : R K F0 [] H [] := ⟨fun b o e => by
    have e' : (match H b with | some (.tbl _) => none | o => o) = some o := e
    split at e'
    · cases e'
    · exact e', rfl, List.nodup_nil, fun _ h => (by simp at h), (fun i a ds h _ => by simp at h), hT, fun b ps e => by
    have e' : (match H b with | some (.tbl _) => none | o => o) = some (.tbl ps) := e
    split at e'
    · cases e'
    · rename_i hn
      exact hn ps e'⟩
  have n0 := en_start (n := N.length) N d0 rfl (by simpa using hpl)
  unfold runDefO at hm
  rw [if_pos (show [D.scr (ds.map .int)].length = 1 from rfl)] at hm
  refine wpAny_mono ((p ()).run [] s1 (L2.start N [.ref a]) H { nx := fun _ _ => False, rt := fun v _ => v = .bl true } I ?_) (fun fl s' hs => ?_) fun e s' hs => hs
  · cases hbd : fb ([D.scr (ds.map .int)].map some ++ List.replicate (N.length - 1) none) [] with
    | none => rw [hbd] at hm; cases hm
    | some z =>
      obtain ⟨fl, env', hp1⟩ := z
      rw [hbd] at hm
      refine q0 _ H _ [] F0 [] r0 n0 _ _ _ hbd _ ?_
      cases fl with
      | nxt => cases hm
      | brk => cases hm
      | cnt => cases hm
      | exc e => cases hm
      | ret d =>
        cases hm
        intro v F1 m1 H1 n1 r1 dv
        cases dv
        rfl
  · cases fl with
    | ret u =>
      obtain ⟨v, σ', H', J, rv, q⟩ := hs
      exact ⟨v, H', J.os, J.bare, J.base, J.hok, rv, q⟩
    | next =>
      obtain ⟨_, _, _, q⟩ := hs
      exact q.elim
    | brk =>
      obtain ⟨_, _, _, q⟩ := hs
      exact q.elim
    | cont =>
      obtain ⟨_, _, _, q⟩ := hs
      exact q.elim
/-- what is known of the tables of code objects at the heap h -/
structure Tbs (K : PySem.W.Frag) (mg : Str → Option Value) (h : Heap) (cs : List (Addr × Addr)) : Prop where
  tb : ∀ p ∈ cs, h.get? p.2 = some { cls := .none, data := .fields #[] }
  nK : ∀ p ∈ cs, K.lookup p.2 = none
  hd : ∀ p ∈ cs, PySem.W.CodeHd h p.1 p.2
  bm : ∃ (bm : Addr) (ob : Obj), mg "__builtins__" = some (.ref bm) ∧ bm ≠ builtinsNs ∧ h.get? bm = some ob ∧ ob.cls = .type "module" ∧ ob.dict = some builtinsNs ∧ ob.data = .plain
/-- the heap at the law's beginning: the script, if it is not of the module's own, and the tables -/
def H0of (K : PySem.W.Frag) (a : Addr) (u : HO) (ts : List Addr) : Hp := fun b => if b = a ∧ K.lookup a = none then some u else if b ∈ ts then some (.tbl #[]) else none
/-- only the script and the tables are known ahead of the law -/
theorem law_at {x qual : Str} {st : Stmt} {fa a : Addr} {fd : FuncData} {N : List Str} {y : Str} {fb : FS} {s : Shared} {mb : Str → Option Value} {vs : List Value} {ns : List Int} {hpE : EH} {cs : List (Addr × Addr)}
    (KX : K.In s.heap) (hns : s.heap.Ns mainGlobals mg) (hbl : s.heap.Ns builtinsNs mb) (hbb : ∀ x : Str, x ≠ "__name__" → mb x = bootBuiltins x) (hlim : s.heap.NoLimit) (hg : s.gens = #[]) (C : Tbs K mg s.heap cs) (hWT : ∀ q ∈ WW.T, q.1 ∈ cs.map (·.2))
    (ha : s.heap.get? a = some { cls := .type "list", data := .seq vs.toArray }) (hi : IntsAre vs ns) (hl : ns.length ≤ sizeLine)
    (T : Fun K x qual st fa fd) (S : FnScope N [y] (defScope st)) (hbi : ∀ (s : Shared) (u : Value), BindsTo s fd ⟨[u], []⟩ [(y, u)])
    (hb : ∀ (base : Heap) (H : Hp) (cdv : Value), K.In base → base.Ns mainGlobals mg → (∀ p ∈ cs, LamX.TabB base mg p.1 p.2) → Fam (cxD P w K mg base N qual (defScope st) fa cdv callerA [] s H noE) K mg → Own (cxD P w K mg base N qual (defScope st) fa cdv callerA [] s H noE) →
      SB (cxD P w K mg base N qual (defScope st) fa cdv callerA [] s H noE) K mg (wOf noE) (defBody st) fb)
    (hm : runDefO N.length 1 fb [.scr (ns.map .int)] [] = some (.val (.bl true), hpE)) :
    codeAny (model P w) callerA (.call (.ref fa) ⟨[.ref a], []⟩) (fun r s' => r = .ok (.ret (.bool true)) ∧ OldK s.heap s'.heap ∧ s'.os = s.os ∧ AllBare s'.gens) s := by
  have rv := vals_of_ints hi
  let scr : HO := .frz { cls := .type "list", data := .seq vs.toArray } (.lst (ns.map V.int))
  let H := H0of K a scr (cs.map (·.2))
  have isT : ∀ b ∈ cs.map (·.2), s.heap.get? b = some { cls := .none, data := .fields #[] } := fun b hb => by
    obtain ⟨p, hp, rfl⟩ := List.mem_map.mp hb
    exact C.tb p hp
  have aT : a ∉ cs.map (·.2) := fun z => by
    have q := isT a z
    rw [ha] at q
    cases q
  -- what may stand in H
  have hA : ∀ b u, H b = some u → (b = a ∧ K.lookup a = none ∧ u = scr) ∨ (b ∈ cs.map (·.2) ∧ u = .tbl #[]) := fun b u e => by
    have e' : (if b = a ∧ K.lookup a = none then some scr else if b ∈ cs.map (·.2) then some (.tbl #[]) else none) = some u := e
    by_cases c : b = a ∧ K.lookup a = none
    · rw [if_pos c] at e'; cases e'; exact .inl ⟨c.1, c.2, rfl⟩
    · rw [if_neg c] at e'
      by_cases d : b ∈ cs.map (·.2)
      · rw [if_pos d] at e'; cases e'; exact .inr ⟨d, rfl⟩
      · rw [if_neg d] at e'; cases e'
  have hT : ∀ b ∈ cs.map (·.2), H b = some (.tbl #[]) := fun b hb => by
    show (if b = a ∧ K.lookup a = none then some scr else if b ∈ cs.map (·.2) then some (.tbl #[]) else none) = _
    rw [if_neg (show ¬ (b = a ∧ K.lookup a = none) from fun z => aT (z.1 ▸ hb)), if_pos hb]
  -- an object of another form isn't in H
  have out : ∀ {b : Addr} {o : Obj}, s.heap.get? b = some o → (∀ vs n, o.data ≠ .seq vs n) → o.data ≠ .fields #[] → H b = none := fun {b o} e h1 h2 => by
    cases q : H b with
    | none => rfl
    | some u =>
      rcases hA b u q with ⟨rfl, _, _⟩ | ⟨m, _⟩
      · rw [ha] at e; cases e; exact absurd rfl (h1 _ _)
      · rw [isT b m] at e; cases e; exact absurd rfl h2
  have dct : ∀ {b : Addr} {o : Obj} {es : Array DictEntry} {ep : Nat}, s.heap.get? b = some o → o.data = .dict es ep → H b = none := fun e d => out e (fun vs n z => by rw [d] at z; cases z) fun z => by rw [d] at z; cases z
  have ns_ : ∀ {b : Addr} {m : Str → Option Value}, s.heap.Ns b m → (hidT s.heap H).Ns b m := fun {b m} ⟨o, es, ep, e, d, r⟩ => ⟨o, es, ep, hidT_get e (dct e d), d, r⟩
  have kb : K.In (hidT s.heap H) := fun b o e => hidT_get (KX b o e) (by
    cases q : H b with
    | none => rfl
    | some u =>
      rcases hA b u q with ⟨rfl, z, _⟩ | ⟨m, _⟩
      · rw [z] at e; cases e
      · obtain ⟨p, hp, rfl⟩ := List.mem_map.mp m
        rw [C.nK p hp] at e; cases e)
  have hok : HOk P w H s.heap := fun b u e => by
    rcases hA b u e with ⟨rfl, _, rfl⟩ | ⟨m, rfl⟩
    · exact ⟨ha, by rw [List.length_map]; exact hl, vs, _, rv, ha⟩
    · exact isT b m
  have e0 : Env0 P w K mg (hidT s.heap H) callerA [] s H := ⟨rfl, ⟨kb, ns_ hns, ⟨mb, ns_ hbl, hbb⟩, let ⟨mc, h1, h2⟩ := hlim; ⟨mc, ns_ h1, h2⟩⟩, fun b o e => of_hidT e, Nat.le_of_eq (hidT_size _ _), trivial, fun b z => by simp [frs] at z, hok, .of_eq hg⟩
  have gl : ∀ b ∈ cs.map (·.2), mainGlobals ≠ b := fun b hb z => by
    obtain ⟨o, es, ep, e, hd, _⟩ := hns
    rw [z, isT b hb] at e
    cases e
    cases hd
  have TB : ∀ p ∈ cs, LamX.TabB (hidT s.heap H) mg p.1 p.2 := fun p hp => by
    have hm2 : p.2 ∈ cs.map (·.2) := List.mem_map.mpr ⟨p, hp, rfl⟩
    refine ⟨?_, ?_, gl _ hm2⟩
    · obtain ⟨o, us, file, tf, flags, tg, inF, text, tt, e1, r1, r2, r3, r⟩ := C.hd p hp
      refine ⟨o, us, file, tf, flags, tg, inF, text, tt, hidT_get e1 (out e1 (fun vs n z => by rw [r2] at z; cases z) fun z => ?_), r1, r2, r3, r⟩
      rw [r2] at z
      cases z
      simp at r3
    · obtain ⟨bm, ob, b1, b2, b3, b4, b5, b6⟩ := C.bm
      have nG : bm ≠ mainGlobals := fun q => by
        obtain ⟨o, es, ep, e, hd, _⟩ := hns
        rw [q, e] at b3
        cases b3
        rw [hd] at b6
        cases b6
      have nP : bm ≠ p.2 := fun q => by
        rw [q, C.tb p hp] at b3
        cases b3
        cases b6
      exact ⟨bm, ob, b1, b2, nG, nP, hidT_get b3 (out b3 (fun vs n z => by rw [b6] at z; cases z) fun z => by rw [b6] at z; cases z), b4, b5, b6⟩
  have tabs : NdefX.TabsN WW.T H := fun q hq => NdefX.TabN.nil (hT _ (hWT q hq))
  have hS : SqL K H a (ns.map V.int) := by
    cases hk : K.lookup a with
    | none => exact .inl (.inr ⟨{ cls := .type "list", data := .seq vs.toArray }, if_pos ⟨rfl, hk⟩⟩)
    | some o =>
      have e := KX a o hk
      rw [ha] at e
      cases e
      exact .inr ⟨_, vs.toArray, _, hk, rfl, rfl, rfl, by rw [List.size_toArray, hi.length]; exact hl, by simpa using rv⟩
  refine codeAny_mono (run_law T S hbi e0 tabs hS (hb _ H · kb (ns_ hns) TB) hm) fun r s' hq => ?_
  cases r with
  | error e =>
    obtain ⟨_, _, _, _, _, _, _, _, _, _, _, _, z⟩ := hq
    exact z.elim
  | ok fl =>
    cases fl with
    | next => exact False.elim hq
    | brk => exact False.elim hq
    | cont => exact False.elim hq
    | ret u =>
      obtain ⟨v, H', os, bare, un, hok', r', q⟩ := hq
      have q' : v = .bl true := q
      subst q'
      obtain rfl : u = Value.bool true := r'
      have key : ∀ b o, b ∉ cs.map (·.2) → s.heap.get? b = some o → s'.heap.get? b = some o := fun b o nb e => by
        cases q : H b with
        | none => exact un.keep b o e q (by simp [frs]) (by simp)
        | some u =>
          rcases hA b u q with ⟨rfl, _, rfl⟩ | ⟨m, _⟩
          · rw [ha] at e
            cases e
            exact (hok' _ _ (un.frzs _ _ _ q)).1
          · exact absurd m nb
      have grown : ∀ b ∈ cs.map (·.2), ∃ more : Array Value, s'.heap.get? b = some { cls := .none, data := .fields more } := fun b hb => by
        obtain ⟨more, z⟩ := un.tbls b #[] (hT b hb)
        exact ⟨_, hok' b _ z⟩
      refine ⟨rfl, ⟨fun b o e => ?_, fun b o e => ?_⟩, os, bare⟩
      · by_cases m : b ∈ cs.map (·.2)
        · obtain ⟨more, hmo⟩ := grown b m
          obtain ⟨p, hp, rfl⟩ := List.mem_map.mp m
          rw [isT _ m] at e
          cases e
          exact .inr (.inl ⟨((C.hd p hp).tab (C.tb p hp)).isCodeTable, rfl, #[], more, rfl, by rw [Array.empty_append]; exact hmo⟩)
        · exact .inl (key b o m e)
      · by_cases m : b ∈ cs.map (·.2)
        · obtain ⟨more, hmo⟩ := grown b m
          exact ⟨_, hmo⟩
        · exact ⟨o, key b o m e⟩
end
omit [WW] in
/-- the goal that k_head leaves (case hc); ts: the defs that make functions, with their code objects and tables -/
theorem walkM {l : PySem.W.OpenLaw} {n : Nat} {q : Program} {loose : List Str} {XP : (Str → Option Value) → Heap → Prop} {YP : World → Heap → Prop} {d : DefRec} {K : Params → PySem.W.Frag} {y : Str} {st : Stmt} {N : List Str} {fb : FS} {x qual : Str} {ts : List (Str × Addr × Addr)} {nt : List NdefX.NTab}
    (hn : l.most = some n) (hn2 : n ≤ sizeLine) (hdf : d.params.defaults = []) (hY : ∀ (w : World) (h : Heap), YP w h → (K w.params).In h) (S : FnScope N [y] (defScope st))
    (hts : ∀ (w : World) (h : Heap), (K w.params).In h → ∀ t ∈ ts, (∃ d, (recsOf q).find? (fun e => e.name == t.1) = some d) ∧ PySem.W.tabIn (K w.params) t.1 = some t.2 ∧ (K w.params).lookup t.2.2 = none) (hnt : ∀ p ∈ nt, p.1 ∈ ts.map (·.2.2))
    (G : ∀ (w : World) (mg : Str → Option Value) (fa : Addr) (h : Heap), (K w.params).In h → h.Ns mainGlobals mg → mg d.name = some (.ref fa) → ∃ fd : FuncData, Fun (K w.params) x qual st fa fd ∧ (∀ (s : Shared) (u : Value), BindsTo s fd ⟨[u], []⟩ [(y, u)]) ∧
      ∀ (base : Heap) (s : Shared) (H : Hp) (cdv : Value), (K w.params).In base → base.Ns mainGlobals mg → (∀ t ∈ ts, LamX.TabB base mg t.2.1 t.2.2) → Fam (cxD l.prog w (K w.params) mg base N qual (defScope st) fa cdv callerA [] s H noE) (K w.params) mg → Own (cxD l.prog w (K w.params) mg base N qual (defScope st) fa cdv callerA [] s H noE) →
        @SB ⟨w, nt⟩ FV0 _ (cxD l.prog w (K w.params) mg base N qual (defScope st) fa cdv callerA [] s H noE) (K w.params) mg (wOf noE) (defBody st) fb)
    (hm : ∀ ns : List Int, ns.length ≤ n → ∃ hpE, runDefO N.length 1 fb [.scr (ns.map .int)] [] = some (.val (.bl true), hpE)) :
    PySem.W.WalkO q loose XP YP l.row.toRowW d [] (fun f vs => PySem.call f vs) := by
  refine Att.attach_call hn hdf fun w s₀ s₁ mg mb fa o pm cd doc a vs ns Gd Y ho hd hcd hmg hobj hints hlen hg => ?_
  have KX := hY w _ Y
  obtain ⟨fd, T, hbi, hb⟩ := G w mg fa _ KX Gd.T.g hmg
  obtain ⟨hpE, e⟩ := hm ns hlen
  have tt := fun t (ht : t ∈ ts) => (hts w _ KX t ht)
  have one : ∀ p ∈ ts.map (·.2), PySem.W.CodeHd s₁.heap p.1 p.2 ∧ s₁.heap.get? p.2 = some { cls := .none, data := .fields #[] } := fun p hp => by
    obtain ⟨t, ht, rfl⟩ := List.mem_map.mp hp
    obtain ⟨⟨d', hd'⟩, h2, h3⟩ := tt t ht
    exact PySem.W.tab_of Gd.T KX hd' h2
  refine @law_at ⟨w, nt⟩ _ _ _ _ _ _ _ _ _ _ _ _ _ _ _ _ _ _ (ts.map (·.2)) KX Gd.T.g Gd.T.b Gd.T.builtins Gd.T.nolimit hg ⟨fun p hp => (one p hp).2, fun p hp => ?_, fun p hp => (one p hp).1, Gd.T.bmain⟩ (fun p hp => ?_) hobj hints (Nat.le_trans hlen hn2) T S hbi (fun base H cdv h1 h2 h3 => hb base s₁ H cdv h1 h2 fun t ht => h3 t.2 (List.mem_map.mpr ⟨t, ht, rfl⟩)) e
  · obtain ⟨t, ht, rfl⟩ := List.mem_map.mp hp
    exact (tt t ht).2.2
  · have z : p.1 ∈ ts.map (·.2.2) := hnt p hp
    rw [List.map_map]
    exact z

/-! ### repr -/
section
variable [FV]
variable {ι : Type} {X : ι → Cx} {K : PySem.W.Frag} {mg : Str → Option Value} {W : WX} {F F' : Hp} {m m' : List Addr} {H H' : Hp} {hp hp' : EH} {e : Expr} {ga : FA} {pos p : Pos} {P : Program} {w : World} {base : Heap} {kk : Nat}
def rReprD (K : PySem.W.Frag) : List V → Hp → VK → Prop := fun xs H Q => ∃ x d, xs = [x] ∧ Dp K H x d ∧ d.showable = true ∧ d.hasDict = false ∧ d.depth ≤ 64 ∧ d.shown.length ≤ sizeLine ∧ Q (.str d.shown) H
theorem call_reprD {Y : Cx} (hg : Y.A.guards = some []) (hu : Y.A.units + 128 < cLine) : CallR Y (.builtin "repr") (rReprD Y.K) := by
  intro pins s σ H xs us Q I r h
  obtain ⟨x, d, rfl, hd, h1, h2, h3, h4, q⟩ := h
  obtain ⟨u, rfl, ru⟩ := vals1 r
  obtain ⟨as, rd⟩ := Dp.reads I d x u hd ru
  cases hd with
  | non => cases ru; exact PySem.P.repr_of_none ⟨.str _, H, I.tok _, ⟨_, rfl⟩, by simpa [PyData.shown] using q⟩
  | bl b => cases ru; exact PySem.P.repr_of_bool ⟨.str _, H, I.tok _, ⟨_, rfl⟩, by simpa [PyData.shown] using q⟩
  | int i =>
    obtain ⟨t, rfl⟩ := ru
    exact PySem.P.repr_of_int (by simpa [PyData.showable] using h1) ⟨.str _, H, I.tok _, ⟨_, rfl⟩, by simpa [PyData.shown] using q⟩
  | str z =>
    obtain ⟨t, rfl⟩ := ru
    exact PySem.P.repr_of_str ⟨.str _, H, I.tok _, ⟨_, rfl⟩, by simpa [PyData.shown] using q⟩ (by simpa [PyData.shown] using h4)
  | lst a1 a2 =>
    cases ru
    exact repr_of_reads' rd h1 (PyData.noDict_hsm h2) hg (by omega) (fun _ _ z => z) (fun h' u tk hk => ⟨.str _, H, I.kept hk, ⟨_, rfl⟩, q⟩) h4
  | tup a1 a2 =>
    cases ru
    exact repr_of_reads' rd h1 (PyData.noDict_hsm h2) hg (by omega) (fun _ _ z => z) (fun h' u tk hk => ⟨.str _, H, I.kept hk, ⟨_, rfl⟩, q⟩) h4
def gRepr : List D → EH → Option D := fun ds hp => match ds with
  | [d] => match toPh hp d with
    | some p => if p.showable = true ∧ p.hasDict = false ∧ p.depth ≤ 64 ∧ p.shown.length ≤ 16777216 then some (.str p.shown) else none
    | none => none
  | _ => none
theorem calls_repr : CallS K (rReprD K) gRepr := by
  intro F m H hp vs ds z r1 d1 hz Q q
  unfold gRepr at hz
  split at hz
  · split at hz
    · rename_i p hp1
      split at hz
      · rename_i h
        obtain ⟨h1, h2, h3, h4⟩ := h
        cases hz
        cases d1 with
        | cons c1 c2 =>
          cases c2
          exact ⟨_, p, rfl, dph_of r1 c1 hp1, h1, h2, h3, by rw [line16]; exact h4, q _ F H Nx.refl r1 (.str _)⟩
      · cases hz
    · cases hz
  · cases hz
theorem se_repr (hF : Fam X K mg) (hgd : ∀ j, (X j).A.guards = some []) (hu : ∀ j, (X j).A.units + 128 < cLine) (hm : mg "repr" = none) (hg : ∀ j, Gl (X j) "repr") (ha : SA X K mg W [e] ga) (he : ∀ j, starEach [e] (X j).env = (false, eval e (X j).env) :: starEach [] (X j).env := by intro _; rfl) (hpl : ∀ j, (backTo pos (starEach [] (X j).env)).any (·.1) = false := by intro _; rfl) :
    SE X K mg W (.Call (.Name "repr" p) [e] [] pos) (eCall gRepr ga) := se_callB (fun j => by rw [← hF.k j]; exact call_reprD (hgd j) (hu j)) calls_repr hg hm hF (by decide +kernel) ha (by decide) (by decide) he hpl
end
end MP
end

section
set_option maxRecDepth 100000
set_option maxHeartbeats 1000000
namespace MP
open PySem PySem.Spec PyProof.Rows L2
variable [WW] [FV]

section
variable {ι : Type} {X : ι → Cx} {K : PySem.W.Frag} {mg : Str → Option Value} {W : WX} {F F' : Hp} {m m' : List Addr} {H H' : Hp} {hp hp' : EH} {a b c e : Expr} {fa fb fc fe : FE} {ga : FA} {pos p p2 : Pos} {P : Program} {w : World} {base : Heap} {kk : Nat} {tg : Expr}
/-! ### a <= b <= c of ints -/
def eChain (g g' : D → D → EH → Option D) (fa fb fc : FE) : FE := bnd fa fun x => bnd fb fun y env hp => match g x y hp with
  | some (.bl true) => match fc env hp with
    | some (.val z, hp2) => match g' y z hp2 with
      | some d => some (.val d, hp2)
      | none => none
    | some (.exc x, hp2) => some (.exc x, hp2)
    | none => none
  | some (.bl false) => some (.val (.bl false), hp)
  | _ => none
theorem chain_read {ta tb tc : TE} {r r' : R2} {g g' : D → D → EH → Option D} (hs : OpS K r g) (hs' : OpS K r' g') {σ : L2.St} {env : Ev} (n : En K F m σ env)
    (qa : ∀ r hp', fa env hp = some (r, hp') → ∀ Q, OutE K mg W F m σ H hp' Q r → ta σ H Q)
    (qb : ∀ σ H env hp F m, R K F m H hp → En K F m σ env → ∀ r hp', fb env hp = some (r, hp') → ∀ Q, OutE K mg W F m σ H hp' Q r → tb σ H Q)
    (qc : ∀ σ H env hp F m, R K F m H hp → En K F m σ env → ∀ r hp', fc env hp = some (r, hp') → ∀ Q, OutE K mg W F m σ H hp' Q r → tc σ H Q)
    {rr : Res D} (e : eChain g g' fa fb fc env hp = some (rr, hp')) {Q : VK} (q : OutE K mg W F m σ H hp' Q rr) : tChain r r' ta tb tc σ H Q := by
  show ta σ H fun x H1 => tb σ H1 fun y H2 => r x y H2 fun z H3 => ∃ k, z = .bl k ∧ (if k = true then tc σ H3 fun w' H4 => r' y w' H4 Q else Q (.bl false) H3)
  rcases bnd_val e with ⟨x, h1, rfl⟩ | ⟨d, hp1, h1, h2⟩
  · exact qa _ _ h1 _ q
  refine qa _ _ h1 _ fun v F1 m1 H1 n1 r1 d1 => ?_
  rcases bnd_val h2 with ⟨x, h3, rfl⟩ | ⟨d2, hp2, h3, h4⟩
  · exact qb σ H1 env hp1 F1 m1 r1 (n.mono n1) _ _ h3 _ (OutE.nx n1 q)
  refine qb σ H1 env hp1 F1 m1 r1 (n.mono n1) _ _ h3 _ fun v2 F2 m2 H2 n2 r2 e2 => ?_
  have n12 := n1.trans n2
  try simp only at h4
  split at h4
  · rename_i hg
    refine hs F2 m2 H2 hp2 v v2 d d2 _ r2 (d1.mono n2.fz n2.pre) e2 hg _ fun z F3 H3 n3 r3 d3 => ?_
    cases d3
    refine ⟨true, rfl, ?_⟩
    rw [if_pos rfl]
    have n13 := n12.trans n3
    split at h4
    · rename_i z hp3 hz
      split at h4
      · rename_i dz hg'
        cases h4
        exact qc σ H3 env hp2 F3 m2 r3 (n.mono n13) _ _ hz _ fun u F4 m4 H4 n4 r4 d4 => hs' F4 m4 H4 hp' v2 u d2 z dz r4 ((e2.mono n3.fz n3.pre).mono n4.fz n4.pre) d4 hg' _ fun y F5 H5 n5 r5 d5 => q y F5 m4 H5 ((n13.trans n4).trans n5) r5 d5
      · cases h4
    · rename_i x hp3 hz
      cases h4
      exact qc σ H3 env hp2 F3 m2 r3 (n.mono n13) _ _ hz _ (OutE.nx n13 q)
    · cases h4
  · rename_i hg
    cases h4
    refine hs F2 m2 H2 _ v v2 d d2 _ r2 (d1.mono n2.fz n2.pre) e2 hg _ fun z F3 H3 n3 r3 d3 => ?_
    cases d3
    refine ⟨false, rfl, ?_⟩
    rw [if_neg Bool.false_ne_true]
    exact q _ F3 m2 H3 (n12.trans n3) r3 (.bl false)
  · cases h4
theorem se_chain {op op' : CmpOp} {r r' : R2} {g g' : D → D → EH → Option D} (ho : ∀ j, OpR (X j) (compareOp op) r) (ho' : ∀ j, OpR (X j) (compareOp op') r') (hs : OpS K r g) (hs' : OpS K r' g') (ha : SE X K mg W a fa) (hb : SE X K mg W b fb) (hc : SE X K mg W c fc)
    (hm : lastMarks [op, op'] [b, c] = false) : SE X K mg W (.Compare a [op, op'] [b, c] pos) (eChain g g' fa fb fc) := by
  obtain ⟨ta, pa, qa⟩ := ha.ex
  obtain ⟨tb, pb, qb⟩ := hb.ex
  obtain ⟨tc, pc, qc⟩ := hc.ex
  exact ⟨⟨_, fun j => pe_chain (ho j) (ho' j) (pa j) (pb j) (pc j) hm, fun σ H env hp F m r1 n r' hp' e Q q => chain_read hs hs' n (qa σ H env hp F m r1 n) qb qc e q⟩⟩
theorem st_chain {op op' : CmpOp} {r r' : R2} {g g' : D → D → EH → Option D} (ho : ∀ j, OpR (X j) (compareOp op) r) (ho' : ∀ j, OpR (X j) (compareOp op') r') (hs : OpS K r g) (hs' : OpS K r' g') (ha : SE X K mg W a fa) (hb : SE X K mg W b fb) (hc : SE X K mg W c fc)
    (hm : lastMarks [op, op'] [b, c] = false) : ST X K mg W (.Compare a [op, op'] [b, c] pos) (MP.tB (eChain g g' fa fb fc)) := by
  obtain ⟨ta, pa, qa⟩ := ha.ex
  obtain ⟨tb, pb, qb⟩ := hb.ex
  obtain ⟨tc, pc, qc⟩ := hc.ex
  exact ⟨⟨_, fun j => pt_chain (ho j) (ho' j) (pa j) (pb j) (pc j) hm, fun σ H env hp F m r1 n r' hp' e Q q => tB_run (fa := eChain g g' fa fb fc) (fun r hp' e Q q => chain_read hs hs' n (qa σ H env hp F m r1 n) qb qc e q) e q⟩⟩

/-! ### isinstance with a built-in class -/
def D.tyN : D → Option String
  | .non => some "NoneType"
  | .bl _ => some "bool"
  | .int _ => some "int"
  | .str _ => some "str"
  | .tup _ => some "tuple"
  | .lst _ => some "list"
  | .obj _ => some "list"
  | .scr _ => none
  | .err _ _ _ => none
  | .xcp _ _ _ _ => none
  | .set _ => none
  | .ist _ => none
  | .dic0 => some "dict"
def gIsi (T : String) : List D → EH → Option D := fun ds _ => match ds with
  | [d] => match d.tyN with
    | some t => match kitB t T with
      | some b => some (.bl b)
      | none => none
    | none => none
  | _ => none
theorem tyx_of {d : D} {v : V} {t : String} (r : R K F m H hp) (h : Dn K F m v d) (e : d.tyN = some t) : TyX K H v (.type t) := by
  cases h with
  | non => cases e; exact .base .non
  | bl b => cases e; exact .base (.bl b)
  | int i => cases e; exact .base (.int i)
  | str x => cases e; exact .base (.str x)
  | lst h1 h2 => cases e; exact .base (.lst (r.sub _ _ h1))
  | scr h1 h2 => cases e
  | err h1 h2 h3 h4 h5 => cases e
  | er0 h1 h2 => cases e
  | xcp h2 h3 h4 h5 => cases e
  | xc0 h1 => cases e
  | set _ _ _ _ => cases e
  | ist _ _ => cases e
  | dic0 h1 => cases e; exact .base (.dK (r.sub _ _ h1))
  | obj h1 =>
    cases e
    obtain ⟨vs, q⟩ := r.there (List.mem_of_getElem? h1)
    exact .base (.lst q)
  | tup h1 h2 =>
    cases e
    rcases SqT.mono r.sub h1 with (z | ⟨o, z⟩) | ⟨o, its, n, z1, z2, _⟩
    · exact .base (.tup z)
    · exact .fTuple z
    · exact .kTuple z1 z2
theorem se_isi {T : String} {x : Str} (hF : Fam X K mg) (hm : mg "isinstance" = none) (hm2 : mg x = none) (hv : bootBuiltins x = some (.type T)) (hg : ∀ j, Gl (X j) "isinstance") (hg2 : ∀ j, Gl (X j) x) (ha : SE X K mg W e fe) (hK : ClsV (.ty T) (.type T))
    (hn : x ≠ "__name__" := by decide) (hdb : (x == ("__debug__" : Str)) = false := by decide)
    (h1 : ∀ j, starEach [e, .Name x p2] (X j).env = (false, eval e (X j).env) :: starEach [.Name x p2] (X j).env := by intro _; rfl) (h2 : ∀ j, starEach [.Name x p2] (X j).env = (false, eval (.Name x p2) (X j).env) :: starEach [] (X j).env := by intro _; rfl)
    (h3 : ∀ j, (backTo pos (starEach [.Name x p2] (X j).env)).any (·.1) = false := by intro _; rfl) :
    SE X K mg W (.Call (.Name "isinstance" p) [e, .Name x p2] [] pos) (bnd fe fun d _ hp => match gIsi T [d] hp with
      | some z => some (.val z, hp)
      | none => none) := by
  obtain ⟨t, pt, q0⟩ := ha.ex
  refine ⟨⟨tCB (rIsi K) (tCons t (tCons (tC (.ty T)) tNil)), fun j => ?_, fun σ H env hp F m r n r' hp' e Q q => ?_⟩⟩
  · refine pe_callB (by rw [← hF.k j]; exact call_isi) (hg j) (by rw [hF.g j]; exact hm) (by decide +kernel) (pa_cons (pt j) (pa_cons (pe_bltn (hg2 j) (by rw [hF.g j]; exact hm2) hv rfl hn hdb) pa_nil (h2 j)) (h1 j)) (by decide) (by decide) (h1 j) (h3 j)
  · show t σ H fun x H1 => rIsi K [x, .ty T] H1 Q
    rcases bnd_val e with ⟨x, k1, rfl⟩ | ⟨d, hp1, k1, k2⟩
    · exact q0 σ H env hp F m r n _ _ k1 _ q
    · refine q0 σ H env hp F m r n _ _ k1 _ fun v F1 m1 H1 n1 r1 d1 => ?_
      simp only [gIsi] at k2
      cases ht : d.tyN with
      | none => simp only [ht] at k2; cases k2
      | some ty =>
        simp only [ht] at k2
        cases hk : kitB ty T with
        | none => simp only [hk] at k2; cases k2
        | some bb =>
          simp only [hk] at k2
          cases k2
          exact ⟨v, .ty T, .type ty, .type T, bb, rfl, hK, tyx_of r1 d1 ht, kit_ty hk, q _ F1 m1 H1 n1 r1 (.bl bb)⟩

/-! ### all, any of a list of bools -/
def asB : List D → Option (List Bool)
  | [] => some []
  | .bl b :: xs => match asB xs with
    | some bs => some (b :: bs)
    | none => none
  | _ :: _ => none
theorem asB_of : ∀ {xs : List D} {bs : List Bool} {vs : List V}, asB xs = some bs → Dns K F m vs xs → vs = bs.map V.bl
  | [], bs, vs, e, h => by
    cases h
    simp [asB] at e
    subst e
    rfl
  | x :: xs, bs, vs, e, h => by
    cases h with
    | cons h1 h2 =>
      cases x with
      | bl b =>
        simp only [asB] at e
        cases hx : asB xs with
        | none => rw [hx] at e; cases e
        | some cs =>
          rw [hx] at e
          cases e
          cases h1
          rw [asB_of hx h2]
          rfl
      | _ => simp [asB] at e
def gAll : List D → EH → Option D := fun ds hp => match ds with
  | [d] => match asL hp d with
    | some xs => match asB xs with
      | some bs => some (.bl (bs.all id))
      | none => none
    | none => none
  | _ => none
def gAny : List D → EH → Option D := fun ds hp => match ds with
  | [d] => match asL hp d with
    | some xs => match asB xs with
      | some bs => some (.bl (bs.any id))
      | none => none
    | none => none
  | _ => none
theorem calls_all : CallS K (rAll K) gAll := by
  intro F m H hp vs ds z r1 d1 hz Q q
  unfold gAll at hz
  split at hz
  · split at hz
    · rename_i xs hx
      split at hz
      · rename_i bs hb
        cases hz
        cases d1 with
        | cons c1 c2 =>
          cases c2
          obtain ⟨a, ws, rfl, q1, q2⟩ := rd_of r1 c1 hx
          have e := asB_of hb q2
          subst e
          exact ⟨a, bs, rfl, SqL.of q1, q _ F H Nx.refl r1 (.bl _)⟩
      · cases hz
    · cases hz
  · cases hz
theorem calls_any : CallS K (rAny K) gAny := by
  intro F m H hp vs ds z r1 d1 hz Q q
  unfold gAny at hz
  split at hz
  · split at hz
    · rename_i xs hx
      split at hz
      · rename_i bs hb
        cases hz
        cases d1 with
        | cons c1 c2 =>
          cases c2
          obtain ⟨a, ws, rfl, q1, q2⟩ := rd_of r1 c1 hx
          have e := asB_of hb q2
          subst e
          exact ⟨a, bs, rfl, SqL.of q1, q _ F H Nx.refl r1 (.bl _)⟩
      · cases hz
    · cases hz
  · cases hz
theorem se_all (hF : Fam X K mg) (hm : mg "all" = none) (hg : ∀ j, Gl (X j) "all") (ha : SA X K mg W [e] ga) (he : ∀ j, starEach [e] (X j).env = (false, eval e (X j).env) :: starEach [] (X j).env := by intro _; rfl) (hpl : ∀ j, (backTo pos (starEach [] (X j).env)).any (·.1) = false := by intro _; rfl) :
    SE X K mg W (.Call (.Name "all" p) [e] [] pos) (eCall gAll ga) := se_callB (fun j => by rw [← hF.k j]; exact cr_all (hF.calm j)) calls_all hg hm hF (by decide +kernel) ha (by decide) (by decide) he hpl
theorem se_any (hF : Fam X K mg) (hm : mg "any" = none) (hg : ∀ j, Gl (X j) "any") (ha : SA X K mg W [e] ga) (he : ∀ j, starEach [e] (X j).env = (false, eval e (X j).env) :: starEach [] (X j).env := by intro _; rfl) (hpl : ∀ j, (backTo pos (starEach [] (X j).env)).any (·.1) = false := by intro _; rfl) :
    SE X K mg W (.Call (.Name "any" p) [e] [] pos) (eCall gAny ga) := se_callB (fun j => by rw [← hF.k j]; exact cr_any (hF.calm j)) calls_any hg hm hF (by decide +kernel) ha (by decide) (by decide) he hpl

/-! ### enumerate of a list -/
def enumD : Nat → List D → List D
  | _, [] => []
  | i, x :: xs => .tup [.int i, x] :: enumD (i + 1) xs
theorem enumD_len : ∀ (xs : List D) (k : Nat), (enumD k xs).length = xs.length
  | [], _ => rfl
  | x :: xs, k => by simp [enumD, enumD_len xs]
theorem enumD_get : ∀ (xs : List D) (k i : Nat) (x : D), xs[i]? = some x → (enumD k xs)[i]? = some (.tup [.int ((k + i : Nat) : Int), x])
  | [], _, i, _, h => by simp at h
  | x :: xs, k, 0, _, h => by
    simp at h
    subst h
    rfl
  | x :: xs, k, i + 1, _, h => by
    have e := enumD_get xs (k + 1) i _ (by simpa using h)
    have e2 : k + 1 + i = k + (i + 1) := by omega
    rw [e2] at e
    exact e
def iEnum (g : FA) : FI := bnd g fun ds _ hp => match ds with
  | [.lst xs] => some (.val (enumD 0 xs, yes), hp)
  | [.obj i] => match hp[i]? with
    | some xs => some (.val (enumD 0 xs, sameObj i xs), hp)
    | none => none
  | _ => none
theorem it_enum {a : Addr} {xs : List D} {chk : EH → Bool} (h : ∀ F' m' H' hp', Same F F' → m <+: m' → R K F' m' H' hp' → chk hp' = true → ∃ vs, SqL K H' a vs ∧ Dns K F' m' vs xs) : ItOk K F m (Ite K a) (enumD 0 xs) chk where
  go := fun i F' m' H' hp' s p r c hi => by
    obtain ⟨vs, h1, h2⟩ := h F' m' H' hp' s p r c
    rw [enumD_len] at hi
    have hl : i < vs.length := by rw [h2.length]; exact hi
    exact ⟨vs, vs[i], h1, List.getElem?_eq_getElem hl⟩
  stop := fun F' m' H' hp' s p r c => by
    obtain ⟨vs, h1, h2⟩ := h F' m' H' hp' s p r c
    exact ⟨vs, h1, by rw [enumD_len, h2.length]; exact Nat.le_refl _⟩
  yld := fun i F' m' H' hp' v H'' s p r c hi y => by
    obtain ⟨vs, h1, h2⟩ := h F' m' H' hp' s p r c
    obtain ⟨T, x, e1, nT, e2, y2⟩ := y
    subst e1; subst e2
    obtain ⟨d, q1, q2⟩ := h2.getV (y2 vs h1)
    obtain ⟨F'', n', r', d''⟩ := new_tup (σ := []) (ds := [.int (i : Nat), d]) r (.cons (.int _) (.cons q2 .nil)) nT
    have e0 := enumD_get xs 0 i d q1
    rw [Nat.zero_add] at e0
    exact ⟨_, F'', e0, n', r', d''⟩
theorem si_enum {elts : List Expr} {k2 : Nat} {tpos : Pos} (hF : Fam X K mg) (hg : ∀ j, Gl (X j) "enumerate") (hm : mg "enumerate" = none) (ha : SA X K mg W [e] ga) (hs : ∀ j, starEach [e] (X j).env = [(false, eval e (X j).env)] := by intro _; rfl) :
    SI X K mg W (.Tuple elts k2 tpos) (.Call (.Name "enumerate" p) [e] [] pos) (MP.iEnum ga) := by
  obtain ⟨t, pt, q0⟩ := ha.ex
  refine ⟨⟨_, fun j => by have z := pi_enum (elts := elts) (kk := k2) (tpos := tpos) (p := p) (pos := pos) (hg j) (by rw [hF.g j]; exact hm) (pt j) (hs j); rw [hF.k j] at z; exact z, fun σ H env hp F m r n r' hp' e Q q => ?_⟩⟩
  rcases bnd_val e with ⟨x, h1, rfl⟩ | ⟨ds, hp1, h1, h2⟩
  · exact q0 σ H env hp F m r n _ _ h1 _ q
  · refine q0 σ H env hp F m r n _ _ h1 _ fun vs F1 m1 H1 n1 r1 d1 => ?_
    try simp only at h2
    split at h2
    · cases h2
      cases d1 with
      | cons c1 c2 =>
        cases c2
        cases c1 with
        | lst a1 a2 =>
          rename_i a vs
          exact ⟨_, _, rfl, SqL.of (r1.sub _ _ a1), q _ F1 m1 H1 n1 r1 (it_enum fun F' m' H' hp' s p r c => ⟨vs, SqL.of ((s.trans r.sub) _ _ a1), a2.mono s p⟩)⟩
    · split at h2
      · rename_i xs hx
        cases h2
        cases d1 with
        | cons c1 c2 =>
          cases c2
          cases c1 with
          | obj hi =>
            rename_i a
            obtain ⟨vs, w1, w2⟩ := r1.obj _ a xs hi hx
            refine ⟨a, vs, rfl, SqL.of w1, q _ F1 m1 H1 n1 r1 (it_enum fun F' m' H' hp' s p r c => ?_)⟩
            obtain ⟨ws, z1, z2⟩ := r.obj _ a xs (pre_get p hi) (sameObj_eq c)
            exact ⟨ws, SqL.of z1, z2⟩
      · cases h2
    · cases h2

/-! ### x in xs, x not in xs -/
def gIn : D → D → EH → Option D := fun x y hp => match toPh hp x, toPh hp y with
  | some p, some (.list ds) => if SeqAt.shaped p = true ∧ SeqAt.shaped (.list ds) = true then some (.bl (ds.any fun z => PyData.eqv z p)) else none
  | _, _ => none
def gNin : D → D → EH → Option D := fun x y hp => match toPh hp x, toPh hp y with
  | some p, some (.list ds) => if SeqAt.shaped p = true ∧ SeqAt.shaped (.list ds) = true then some (.bl (!ds.any fun z => PyData.eqv z p)) else none
  | _, _ => none
theorem ops_in : OpS K (rInD K) gIn := by
  intro F m H hp x y d e z r1 d1 d2 hz Q q
  unfold gIn at hz
  split at hz
  · rename_i p ds hp1 hq1
    split at hz
    · rename_i h
      cases hz
      exact ⟨p, ds, dph_of r1 d1 hp1, dph_of r1 d2 hq1, h.1, h.2, q _ F H Nx.refl r1 (.bl _)⟩
    · cases hz
  · cases hz
theorem ops_nin : OpS K (rNotInD K) gNin := by
  intro F m H hp x y d e z r1 d1 d2 hz Q q
  unfold gNin at hz
  split at hz
  · rename_i p ds hp1 hq1
    split at hz
    · rename_i h
      cases hz
      exact ⟨p, ds, dph_of r1 d1 hp1, dph_of r1 d2 hq1, h.1, h.2, q _ F H Nx.refl r1 (.bl _)⟩
    · cases hz
  · cases hz
end
end MP
end

section
set_option maxRecDepth 100000
set_option maxHeartbeats 1000000
/-! MP11: errors as values: C(..), C(f = ..), C(), e.f, isinstance(e, T). -/
namespace MP
open PySem PySem.Spec PyProof.Rows L2 MX
variable [WW] [FV]

section
variable {ι : Type} (X : ι → Cx) (K : PySem.W.Frag) (mg : Str → Option Value) (W : WX)
/-- the keywords of a call -/
structure SK (kws : List Keyword) (f : FA) : Prop where
  ex : ∃ t : TA, (∀ i, PK (X i) kws t) ∧ ∀ σ H env hp F m, R K F m H hp → En K F m σ env → ∀ r hp', f env hp = some (r, hp') → ∀ Q, OutA K mg W F m σ H hp' Q r → t σ H Q
end
/-- a class of errors: nm at C; the parameters stored as the fields fs; the keywords ks of a call, put in order by pm -/
structure ErrOk (P : Program) (w : World) (K : PySem.W.Frag) (mg : Str → Option Value) (base : Heap) (k : Nat) (nm : Str) (C : Addr) (fs : List Str) (ks : List Str) (pm : {α : Type} → List α → List α) : Prop where
  glob : mg nm = some (.ref C)
  ec : EC K C
  flds : ∀ f ∈ fs, PySem.W.findIn K (.ref C) f = some none
  few : fs.length ≤ 900
  ex : ∃ (fI : Addr) (fd : FuncData) (ps : List Str), PySem.W.findIn K (.ref C) "__init__" = some (some (.ref fI)) ∧ PySem.W.typeIn K (.ref fI) = some (.type "function") ∧ FnOk P w K mg base (L2.CX P w) k fI fd ps (spE (fs.length + 1) fs K) ∧
    KBn K fd ps (fs.length + 1) [] (fun us _ => us) (fun vs _ => vs) ∧ KBn K fd ps (0 + 1) ks (fun us ws => us ++ pm ws) (fun vs zs => vs ++ pm zs)
  perm : ∀ {α : Type} (l : List α), l.length = ks.length → (pm l).length = fs.length
  rel : ∀ {K F m} {vs : List V} {ds : List D}, Dns K F m vs ds → ds.length = ks.length → Dns K F m (pm vs) (pm ds)
def eMk (C : Addr) (fs : List Str) (fa : FA) : FE := bnd fa fun ds _ hp => if ds.length = fs.length then some (.val (.err C fs.reverse ds.reverse), hp) else none
def eMkK (C : Addr) (fs : List Str) (nk : Nat) (pm : {α : Type} → List α → List α) (fa : FA) : FE := bnd fa fun ds _ hp => if ds.length = nk then some (.val (.err C fs.reverse (pm ds).reverse), hp) else none
/-- e.f -/
def fldOf (f : Str) : List Str → List D → Option D
  | n :: ns, d :: ds => if f = n then some d else fldOf f ns ds
  | _, _ => none
def eFld (f : Str) (fe : FE) : FE := bnd fe fun d _ hp => match d with
  | .err _ ns ds => match fldOf f ns ds with
    | some z => some (.val z, hp)
    | none => none
  | _ => none
/-- isinstance(e, T): by a table of classes -/
def lookA (c : Nat) : List (Nat × Bool) → Option Bool
  | [] => none
  | (a, b) :: l => if a = c then some b else lookA c l
def eIsX (tb : List (Nat × Bool)) (fe : FE) : FE := bnd fe fun d _ hp => match d with
  | .err c _ _ => match lookA c tb with
    | some b => some (.val (.bl b), hp)
    | none => none
  | _ => none

section
variable {ι : Type} {X : ι → Cx} {K : PySem.W.Frag} {mg : Str → Option Value} {W : WX} {F F' : Hp} {m m' : List Addr} {H H' : Hp} {hp hp' : EH} {e : Expr} {es : List Expr} {fe : FE} {fa ga : FA} {pos p p2 kpos : Pos} {P : Program} {w : World} {base : Heap} {k kk : Nat} {nm : Str} {C : Addr} {fs ks : List Str} {pm : {α : Type} → List α → List α} {kws : List Keyword} {nk : Option Str}
theorem sk_nil : SK X K mg W [] aNil := ⟨⟨_, fun _ => pk_nil, fun σ H env hp F m r n r' hp' e Q q => by cases e; exact q _ F m H Nx.refl r .nil⟩⟩
theorem sk_cons (ha : SE X K mg W e fe) (hr : SK X K mg W kws ga) : SK X K mg W (⟨nk, e, kpos⟩ :: kws) (aCons fe ga) := by
  obtain ⟨ta, pa, qa⟩ := ha.ex
  obtain ⟨tr, pr, qr⟩ := hr.ex
  refine ⟨⟨_, fun j => pk_cons (pa j) (pr j), fun σ H env hp F m r n r' hp' e Q q => ?_⟩⟩
  show ta σ H fun x H1 => tr σ H1 fun xs H2 => Q (x :: xs) H2
  rcases bnd_val e with ⟨x, h1, rfl⟩ | ⟨d, hp1, h1, h2⟩
  · exact qa σ H env hp F m r n _ _ h1 _ q
  refine qa σ H env hp F m r n _ _ h1 _ fun v F1 m1 H1 n1 r1 d1 => ?_
  rcases bnd_val h2 with ⟨x, h3, rfl⟩ | ⟨ds, hp2, h3, h4⟩
  · exact qr σ H1 env hp1 F1 m1 r1 (n.mono n1) _ _ h3 _ (OutA.nx n1 q)
  cases h4
  exact qr σ H1 env hp1 F1 m1 r1 (n.mono n1) _ _ h3 _ fun vs F2 m2 H2 n2 r2 d2 => q _ F2 m2 H2 (n1.trans n2) r2 (.cons (d1.mono n2.fz n2.pre) d2)

theorem upd_over {a dx : Addr} {o u v : HO} (h : dx ≠ a) : upd (upd (upd H a o) dx u) a v = upd (upd H dx u) a v := by
  funext b
  by_cases h1 : b = a
  · subst h1; rw [upd_same, upd_same]
  · rw [upd_ne h1, upd_ne h1]
    by_cases h2 : b = dx
    · subst h2; rw [upd_same, upd_same]
    · rw [upd_ne h2, upd_ne h2, upd_ne h1]
/-- a new error stands -/
theorem new_err {a dx : Addr} {ws : List V} {ds : List D} (r : R K F m H hp) (T : EC K C) (hfs : ∀ f ∈ fs, PySem.W.findIn K (.ref C) f = some none) (h1 : H a = none) (h2 : H dx = none) (h3 : dx ≠ a) (hd : Dns K F m ws ds) (hl : ds.length = fs.length) :
    ∃ F', Nx F m H F' m (upd (upd (upd H a (exo a C none)) dx (exd dx (mkF fs ws))) a (exo a C (some dx))) ∧ R K F' m (upd (upd (upd H a (exo a C none)) dx (exd dx (mkF fs ws))) a (exo a C (some dx))) hp ∧ Dn K F' m (.ref a) (.err C fs.reverse ds.reverse) := by
  rw [upd_over h3]
  obtain ⟨r1, n1⟩ := r.fresh (o := exd dx (mkF fs ws)) h2
  have h4 : upd H dx (exd dx (mkF fs ws)) a = none := by rw [upd_ne (Ne.symm h3)]; exact h1
  obtain ⟨r2, n2⟩ := r1.fresh (o := exo a C (some dx)) h4
  have lw : ws.length = fs.length := by rw [hd.length]; exact hl
  refine ⟨_, n1.trans n2, r2, .err upd_same (by rw [upd_ne h3, upd_same]) ⟨T, fun g hg => hfs g (List.mem_reverse.mp hg)⟩ ?_ ?_⟩
  · unfold mkF
    rw [List.map_reverse, List.map_fst_zip (by omega)]
  · unfold mkF
    rw [List.map_reverse, List.map_snd_zip (by omega)]
    exact ((hd.mono n1.fz n1.pre).mono n2.fz n2.pre).reverse
theorem se_mk (hF : Fam X K mg) (hC : Cal X P w base kk W) (T : ErrOk P w K mg base k nm C fs ks pm) (hk : k + 1 ≤ kk) (hg : ∀ j, Gl (X j) nm) (ha : SA X K mg W (e :: es) fa) (hdb : (nm == ("__debug__" : Str)) = false := by decide)
    (he : ∀ j, starEach (e :: es) (X j).env = (false, eval e (X j).env) :: starEach es (X j).env := by intro _; rfl) (hpl : ∀ j, (backTo pos (starEach es (X j).env)).any (·.1) = false := by intro _; rfl) :
    SE X K mg W (.Call (.Name nm p) (e :: es) [] pos) (eMk C fs fa) := by
  obtain ⟨t, pt, q0⟩ := ha.ex
  obtain ⟨fI, fd, ps, h1, h2, h3, h4, h5⟩ := T.ex
  refine ⟨⟨tMkE C fs.length 0 fs (fun vs _ => vs) t tNil, fun j => ?_, fun σ H env hp F m r n r' hp' e Q q => ?_⟩⟩
  · refine pe_mkE (k := k) (fI := fI) (fd := fd) (ps := ps) (np := fs.length + 1) (g := fun us _ => us) (gV := fun vs _ => vs) ?_ ?_ ?_ ?_ ?_ ((hC.r j).mono hk) ?_ (fun a vs zs l1 _ => ⟨rfl, by rw [l1]⟩) (hg j) ?_ (pt j) hdb (he j) (hpl j)
    · rw [hF.k j]; exact T.ec
    · rw [hF.k j]; exact h1
    · rw [hF.k j]; exact h2
    · rw [hF.k j]; exact T.flds
    · rw [hC.p j, hC.w j, hC.b j, hF.k j, hF.g j]; exact h3
    · rw [hF.k j]; exact h4
    · rw [hF.g j]; exact T.glob
  · show t σ H fun vs H1 => vs.length = fs.length ∧ 0 = 0 ∧ fs.length ≤ 1000 ∧ _
    rcases bnd_val e with ⟨x, k1, rfl⟩ | ⟨ds, hp1, k1, k2⟩
    · exact q0 σ H env hp F m r n _ _ k1 _ q
    refine q0 σ H env hp F m r n _ _ k1 _ fun vs F1 m1 H1 n1 r1 d1 => ?_
    try simp only at k2
    split at k2
    · rename_i hl
      cases k2
      refine ⟨by rw [d1.length]; exact hl, rfl, by have := T.few; omega, fun a dx z1 z2 z3 => ?_⟩
      obtain ⟨F2, n2, r2, d2⟩ := new_err (fs := fs) r1 T.ec T.flds z1 z2 z3 d1 hl
      exact q _ F2 m1 _ (n1.trans n2) r2 d2
    · cases k2
theorem se_mkK (hF : Fam X K mg) (hC : Cal X P w base kk W) (T : ErrOk P w K mg base k nm C fs ks pm) (hk : k + 1 ≤ kk) (hg : ∀ j, Gl (X j) nm) (ha : SK X K mg W kws fa) (hdb : (nm == ("__debug__" : Str)) = false := by decide)
    (hall : ∀ j, (backToKw pos (keywordEach kws (X j).env)).all (·.1.isSome) = true := by intro _; rfl) (hks : ∀ j, (backToKw pos (keywordEach kws (X j).env)).filterMap (·.1) = ks := by intro _; rfl) (hpl : ∀ j, ((backTo pos (starEach [] (X j).env)).any (·.1) || (backToKw pos (keywordEach kws (X j).env)).any (·.1.isNone)) = false := by intro _; rfl) :
    SE X K mg W (.Call (.Name nm p) [] kws pos) (eMkK C fs ks.length pm fa) := by
  obtain ⟨t, pt, q0⟩ := ha.ex
  obtain ⟨fI, fd, ps, h1, h2, h3, h4, h5⟩ := T.ex
  refine ⟨⟨tMkE C 0 ks.length fs (fun vs zs => vs ++ pm zs) tNil t, fun j => ?_, fun σ H env hp F m r n r' hp' e Q q => ?_⟩⟩
  · refine pe_mkEK (k := k) (fI := fI) (fd := fd) (ps := ps) (np := fs.length + 1) (g := fun us ws => us ++ pm ws) (gV := fun vs zs => vs ++ pm zs) ?_ ?_ ?_ ?_ ?_ ((hC.r j).mono hk) ?_ (fun a vs zs l1 l2 => ⟨rfl, ?_⟩) (hg j) ?_ (pt j) (hall j) (hks j) hdb (hpl j)
    · rw [hF.k j]; exact T.ec
    · rw [hF.k j]; exact h1
    · rw [hF.k j]; exact h2
    · rw [hF.k j]; exact T.flds
    · rw [hC.p j, hC.w j, hC.b j, hF.k j, hF.g j]; exact h3
    · rw [hF.k j]; exact h5
    · rw [List.length_append, l1, T.perm zs l2]; omega
    · rw [hF.g j]; exact T.glob
  · show t σ H fun zs H1 => [].length = 0 ∧ zs.length = ks.length ∧ 0 ≤ 1000 ∧ _
    rcases bnd_val e with ⟨x, k1, rfl⟩ | ⟨ds, hp1, k1, k2⟩
    · exact q0 σ H env hp F m r n _ _ k1 _ q
    refine q0 σ H env hp F m r n _ _ k1 _ fun vs F1 m1 H1 n1 r1 d1 => ?_
    try simp only at k2
    split at k2
    · rename_i hl
      cases k2
      refine ⟨rfl, by rw [d1.length]; exact hl, Nat.zero_le _, fun a dx z1 z2 z3 => ?_⟩
      obtain ⟨F2, n2, r2, d2⟩ := new_err (fs := fs) r1 T.ec T.flds z1 z2 z3 (T.rel d1 hl) (T.perm ds hl)
      exact q _ F2 m1 _ (n1.trans n2) r2 d2
    · cases k2
theorem se_mk0 (hF : Fam X K mg) (T : E0 K C) (TX : ExcC K C) (hm : mg nm = some (.ref C)) (hg : ∀ j, Gl (X j) nm) (hdb : (nm == ("__debug__" : Str)) = false := by decide) : SE X K mg W (.Call (.Name nm p) [] [] pos) (ret (.err C [] [])) := by
  refine ⟨⟨tMk0 C, fun j => pe_mk0 (by rw [hF.k j]; exact T) (hg j) (by rw [hF.g j]; exact hm) hdb, fun σ H env hp F m r n r' hp' e Q q => ?_⟩⟩
  cases e
  intro a ha
  obtain ⟨r1, n1⟩ := r.fresh (o := exo a C none) ha
  exact q _ _ m _ n1 r1 (.er0 upd_same TX)
theorem fld_get {f : Str} : ∀ {gs : List (Str × V)} {ns : List Str} {ds : List D} {z : D}, gs.map (·.1) = ns → Dns K F m (gs.map (·.2)) ds → fldOf f ns ds = some z → ∃ v, gs.lookup f = some v ∧ Dn K F m v z := by
  intro gs
  induction gs with
  | nil =>
    intro ns ds z e h q
    subst e
    simp [fldOf] at q
  | cons g gs ih =>
    intro ns ds z e h q
    obtain ⟨g1, g2⟩ := g
    subst e
    cases h with
    | cons h1 h2 =>
      rw [lookup_put]
      simp only [List.map_cons, fldOf] at q
      by_cases hf : f = g1
      · rw [if_pos hf] at q ⊢
        cases q
        exact ⟨_, rfl, h1⟩
      · rw [if_neg hf] at q ⊢
        exact ih rfl h2 q
theorem fld_in {f : Str} : ∀ {ns : List Str} {ds : List D} {z : D}, fldOf f ns ds = some z → f ∈ ns := by
  intro ns
  induction ns with
  | nil => intro ds z q; simp [fldOf] at q
  | cons n ns ih =>
    intro ds z q
    cases ds with
    | nil => simp [fldOf] at q
    | cons d ds =>
      simp only [fldOf] at q
      by_cases hf : f = n
      · rw [hf]; exact List.mem_cons_self ..
      · rw [if_neg hf] at q
        exact List.mem_cons_of_mem _ (ih q)
theorem se_fld {f : Str} (hF : Fam X K mg) (he : SE X K mg W e fe)
    (hb : ∀ j, attributeBase e f (X j).env (eval e (X j).env) = eval e (X j).env := by intro _; rfl) : SE X K mg W (.Attribute e f pos) (eFld f fe) := by
  obtain ⟨t, pt, q0⟩ := he.ex
  refine ⟨⟨tFld f K t, fun j => by rw [← hF.k j]; exact pe_fld (pt j) (hb j), fun σ H env hp F m r n r' hp' e Q q => ?_⟩⟩
  show t σ H fun x H1 => _
  rcases bnd_val e with ⟨x, k1, rfl⟩ | ⟨d, hp1, k1, k2⟩
  · exact q0 σ H env hp F m r n _ _ k1 _ q
  refine q0 σ H env hp F m r n _ _ k1 _ fun v F1 m1 H1 n1 r1 d1 => ?_
  try simp only at k2
  split at k2
  · split at k2
    · rename_i z hz
      cases k2
      cases d1 with
      | err h1 h2 h3 h4 h5 =>
        obtain ⟨v, l, dv⟩ := fld_get h4 h5 hz
        exact ⟨_, _, _, _, v, rfl, r1.sub _ _ h1, r1.sub _ _ h2, h3.1, h3.2 f (fld_in hz), l, q _ F1 m1 H1 n1 r1 dv⟩
      | er0 h1 h2 => simp [fldOf] at hz
    · cases k2
  · cases k2
theorem lookA_mem {c : Nat} {b : Bool} : ∀ {l : List (Nat × Bool)}, lookA c l = some b → (c, b) ∈ l := by
  intro l
  induction l with
  | nil => intro h; cases h
  | cons x l ih =>
    intro h
    obtain ⟨a, b'⟩ := x
    unfold lookA at h
    split at h
    · rename_i e
      cases h
      subst e
      exact List.mem_cons_self ..
    · exact List.mem_cons_of_mem _ (ih h)
/-- what is common to the two ways that the class is named -/
theorem isX_read {t : TE} {tb : List (Nat × Bool)} {c : V} {cv : Value} {σ : L2.St} {env : Ev} (q0 : ∀ r hp', fe env hp = some (r, hp') → ∀ Q, OutE K mg W F m σ H hp' Q r → t σ H Q) (hcv : ∀ u, RelV c u → u = cv) (ht : ∀ x ∈ tb, PySem.W.kitOne K (.ref x.1) cv = some x.2)
    {r' : Res D} (e : eIsX tb fe env hp = some (r', hp')) {Q : VK} (q : OutE K mg W F m σ H hp' Q r') : t σ H fun x H1 => rIsX K [x, c] H1 Q := by
  rcases bnd_val e with ⟨x, k1, rfl⟩ | ⟨d, hp1, k1, k2⟩
  · exact q0 _ _ k1 _ q
  refine q0 _ _ k1 _ fun v F1 m1 H1 n1 r1 d1 => ?_
  try simp only at k2
  split at k2
  · split at k2
    · rename_i b hb
      cases k2
      have ht' := ht _ (lookA_mem hb)
      cases d1 with
      | err h1 h2 h3 h4 h5 => exact ⟨_, _, c, cv, b, rfl, .inr ⟨_, _, r1.sub _ _ h1, r1.sub _ _ h2⟩, h3.1.is, hcv, ht', q _ F1 m1 H1 n1 r1 (.bl b)⟩
      | er0 h1 h2 => exact ⟨_, _, c, cv, b, rfl, .inl (r1.sub _ _ h1), h2, hcv, ht', q _ F1 m1 H1 n1 r1 (.bl b)⟩
    · cases k2
  · cases k2
/-- T a built-in class -/
theorem se_isXT {T : String} {x : Str} {tb : List (Nat × Bool)} (hF : Fam X K mg) (hm : mg "isinstance" = none) (hm2 : mg x = none) (hv : bootBuiltins x = some (.type T)) (hg : ∀ j, Gl (X j) "isinstance") (hg2 : ∀ j, Gl (X j) x) (ha : SE X K mg W e fe) (ht : ∀ y ∈ tb, PySem.W.kitOne K (.ref y.1) (.type T) = some y.2)
    (hn : x ≠ "__name__" := by decide) (hdb : (x == ("__debug__" : Str)) = false := by decide)
    (h1 : ∀ j, starEach [e, .Name x p2] (X j).env = (false, eval e (X j).env) :: starEach [.Name x p2] (X j).env := by intro _; rfl) (h2 : ∀ j, starEach [.Name x p2] (X j).env = (false, eval (.Name x p2) (X j).env) :: starEach [] (X j).env := by intro _; rfl)
    (h3 : ∀ j, (backTo pos (starEach [.Name x p2] (X j).env)).any (·.1) = false := by intro _; rfl) :
    SE X K mg W (.Call (.Name "isinstance" p) [e, .Name x p2] [] pos) (eIsX tb fe) := by
  obtain ⟨t, pt, q0⟩ := ha.ex
  refine ⟨⟨tCB (rIsX K) (tCons t (tCons (tC (.ty T)) tNil)), fun j => ?_, fun σ H env hp F m r n r' hp' e Q q => ?_⟩⟩
  · exact pe_callB (by rw [← hF.k j]; exact call_isX) (hg j) (by rw [hF.g j]; exact hm) (by decide +kernel) (pa_cons (pt j) (pa_cons (pe_bltn (hg2 j) (by rw [hF.g j]; exact hm2) hv rfl hn hdb) pa_nil (h2 j)) (h1 j)) (by decide) (by decide) (h1 j) (h3 j)
  · exact isX_read (c := .ty T) (q0 σ H env hp F m r n) (fun u z => z) ht e q
/-- T an own class -/
theorem se_isXC {x : Str} {C' : Addr} {tb : List (Nat × Bool)} (hF : Fam X K mg) (hm : mg "isinstance" = none) (hm2 : mg x = some (.ref C')) (hg : ∀ j, Gl (X j) "isinstance") (hg2 : ∀ j, Gl (X j) x) (ha : SE X K mg W e fe) (ht : ∀ y ∈ tb, PySem.W.kitOne K (.ref y.1) (.ref C') = some y.2)
    (hdb : (x == ("__debug__" : Str)) = false := by decide)
    (h1 : ∀ j, starEach [e, .Name x p2] (X j).env = (false, eval e (X j).env) :: starEach [.Name x p2] (X j).env := by intro _; rfl) (h2 : ∀ j, starEach [.Name x p2] (X j).env = (false, eval (.Name x p2) (X j).env) :: starEach [] (X j).env := by intro _; rfl)
    (h3 : ∀ j, (backTo pos (starEach [.Name x p2] (X j).env)).any (·.1) = false := by intro _; rfl) :
    SE X K mg W (.Call (.Name "isinstance" p) [e, .Name x p2] [] pos) (eIsX tb fe) := by
  obtain ⟨t, pt, q0⟩ := ha.ex
  refine ⟨⟨tCB (rIsX K) (tCons t (tCons (tC (.ref C')) tNil)), fun j => ?_, fun σ H env hp F m r n r' hp' e Q q => ?_⟩⟩
  · exact pe_callB (by rw [← hF.k j]; exact call_isX) (hg j) (by rw [hF.g j]; exact hm) (by decide +kernel) (pa_cons (pt j) (pa_cons (pe_glob (hg2 j) (by rw [hF.g j]; exact hm2) rfl hdb) pa_nil (h2 j)) (h1 j)) (by decide) (by decide) (h1 j) (h3 j)
  · exact isX_read (c := .ref C') (q0 σ H env hp F m r n) (fun u z => z) ht e q
end
end MP
end

section
set_option maxRecDepth 100000
set_option maxHeartbeats 1000000
/-! MP12: what the written part says, by one look each; the law's own surroundings. -/
namespace MP
open PySem PySem.Spec PyProof.Rows L2 MX
variable [WW] [FV]

/-- the def nm, the i-th statement of the text -/
structure FnAt (K : PySem.W.Frag) (nm : Str) (st : Stmt) : Prop where
  ex : ∃ (f : Addr) (oc : Value) (od : Option Addr) (kV doc pm : Value) (an : Option Addr) (cdv ct : Value) (osl : Array (Option Value)), PySem.W.nsIn K mainGlobals nm = some (some (.ref f)) ∧
    K.lookup f = some ⟨oc, od, .func (PySem.W.fnOf nm nm (defArgs st) (defBody st) (defScope st) .none kV doc pm an cdv ct), osl⟩ ∧ PySem.W.codeIn K cdv nm = true ∧ PySem.W.keepIn K (.ref f) = true
omit [WW] in
theorem fnAt_mk {K : PySem.W.Frag} {nm : Str} {st : Stmt} {f : Addr} {oc : Value} {od an : Option Addr} {osl : Array (Option Value)} {kV doc pm cdv ct : Value} (a : PySem.W.nsIn K mainGlobals nm = some (some (.ref f)))
    (l : K.lookup f = some ⟨oc, od, .func (PySem.W.fnOf nm nm (defArgs st) (defBody st) (defScope st) .none kV doc pm an cdv ct), osl⟩) (c : PySem.W.codeIn K cdv nm = true) (k : PySem.W.keepIn K (.ref f) = true) : FnAt K nm st := ⟨⟨f, oc, od, kV, doc, pm, an, cdv, ct, osl, a, l, c, k⟩⟩
/-- the __init__ of the class at C -/
structure InitAt (K : PySem.W.Frag) (C : Addr) (qual : Str) (st : Stmt) : Prop where
  ex : ∃ (f : Addr) (oc : Value) (od : Option Addr) (kV doc pm : Value) (an : Option Addr) (cdv ct : Value) (osl : Array (Option Value)), PySem.W.findIn K (.ref C) "__init__" = some (some (.ref f)) ∧ PySem.W.typeIn K (.ref f) = some (.type "function") ∧
    K.lookup f = some ⟨oc, od, .func (PySem.W.fnOf "__init__" qual (defArgs st) (defBody st) (defScope st) .none kV doc pm an cdv ct), osl⟩ ∧ PySem.W.codeIn K cdv qual = true ∧ PySem.W.keepIn K (.ref f) = true
omit [WW] in
theorem initAt_mk {K : PySem.W.Frag} {C : Addr} {qual : Str} {st : Stmt} {f : Addr} {oc : Value} {od an : Option Addr} {osl : Array (Option Value)} {kV doc pm cdv ct : Value} (a : PySem.W.findIn K (.ref C) "__init__" = some (some (.ref f))) (t : PySem.W.typeIn K (.ref f) = some (.type "function"))
    (l : K.lookup f = some ⟨oc, od, .func (PySem.W.fnOf "__init__" qual (defArgs st) (defBody st) (defScope st) .none kV doc pm an cdv ct), osl⟩) (c : PySem.W.codeIn K cdv qual = true) (k : PySem.W.keepIn K (.ref f) = true) : InitAt K C qual st := ⟨⟨f, oc, od, kV, doc, pm, an, cdv, ct, osl, a, t, l, c, k⟩⟩
/-- isinstance may ask the instances of the class at C -/
def isB (K : PySem.W.Frag) (C : Addr) : Bool := decide (PySem.W.findIn K (.ref C) "__getattribute__" = some (some (.builtin "BaseException.__getattribute__"))) && (decide (PySem.W.findIn K (.ref C) "__getattr__" = some none) && (decide (PySem.W.subIn K (.ref C) (.type "BaseException") = some true) &&
  (PySem.W.hasDictIn K C && (decide (PySem.W.findIn K (.ref C) "__class__" = some (some (.builtin "object.__class__"))) && (decide (PySem.W.specialIn K (.builtin "object.__class__") "__get__" = some (some (.builtin "getset_descriptor.__get__"))) && (decide (PySem.W.takesIn K (.builtin "object.__class__") = some true) && decide (PySem.W.mroIn K C (.type "object") = some true)))))))
theorem isB_ok {K : PySem.W.Frag} {C : Addr} (h : isB K C = true) : ExcC K C := by
  unfold isB at h
  simp only [Bool.and_eq_true, decide_eq_true_eq] at h
  obtain ⟨h1, h2, h3, h4, h5, h6, h7, h8⟩ := h
  exact ⟨h1, h2, h3, h4, h5, h6, h7, h8⟩
/-- the built-in class that an own error stands over -/
inductive Bs where
  | value | runtime | lookup | overflow
def Bs.chain : Bs → List Value
  | .value => [.type "ValueError", .type "Exception", .type "BaseException", .type "object"]
  | .runtime => [.type "RuntimeError", .type "Exception", .type "BaseException", .type "object"]
  | .lookup => [.type "LookupError", .type "Exception", .type "BaseException", .type "object"]
  | .overflow => [.type "OverflowError", .type "ArithmeticError", .type "Exception", .type "BaseException", .type "object"]
def Bs.newId : Bs → String
  | .value => "ValueError.__new__"
  | .runtime => "RuntimeError.__new__"
  | .lookup => "LookupError.__new__"
  | .overflow => "OverflowError.__new__"
theorem Bs.facts : ∀ b : Bs, ∃ B initId, ExcBaseFacts B b.newId initId b.chain ∧ StoreFacts B b.chain "object.__setattr__" "object"
  | .value => ⟨_, _, F.excBase_ValueError, F.store_ValueError⟩
  | .runtime => ⟨_, _, F.excBase_RuntimeError, F.store_RuntimeError⟩
  | .lookup => ⟨_, _, F.excBase_LookupError, F.store_LookupError⟩
  | .overflow => ⟨_, _, F.excBase_OverflowError, F.store_OverflowError⟩
/-- an own error class with its own __init__ that stores the fields fs -/
def ecB (K : PySem.W.Frag) (C : Addr) (b : Bs) (fs : List Str) : Bool := PySem.W.excInitIn K C b.chain b.newId && (PySem.W.excOver K C b.chain && (decide (PySem.W.findIn K (.ref C) "__setattr__" = some (some (.builtin "object.__setattr__"))) && (PySem.W.keepIn K (.ref C) && (decide (PySem.W.typeIn K (.ref C) = some (.type "type")) && (isB K C && fs.all fun f => decide (PySem.W.findIn K (.ref C) f = some none))))))
theorem ecB_ok {K : PySem.W.Frag} {C : Addr} {b : Bs} {fs : List Str} (h : ecB K C b fs = true) : EC K C ∧ ∀ f ∈ fs, PySem.W.findIn K (.ref C) f = some none := by
  unfold ecB at h
  simp only [Bool.and_eq_true, decide_eq_true_eq, List.all_eq_true] at h
  obtain ⟨h1, h2, h3, h4, ht, h5, h6⟩ := h
  obtain ⟨B, i, f1, f2⟩ := b.facts
  exact ⟨⟨⟨B, _, i, _, f1, f2, h1, h2⟩, h3, h4, ht, isB_ok h5⟩, h6⟩
/-- .. without an own __init__ -/
def e0B (K : PySem.W.Frag) (C : Addr) (b : Bs) : Bool := PySem.W.excIn K C b.chain b.newId && (PySem.W.keepIn K (.ref C) && (decide (PySem.W.typeIn K (.ref C) = some (.type "type")) && isB K C))
theorem e0B_ok {K : PySem.W.Frag} {C : Addr} {b : Bs} (h : e0B K C b = true) : E0 K C ∧ ExcC K C := by
  unfold e0B at h
  simp only [Bool.and_eq_true, decide_eq_true_eq] at h
  obtain ⟨h1, h2, ht, h3⟩ := h
  obtain ⟨B, i, f1, f2⟩ := b.facts
  exact ⟨⟨⟨B, _, i, _, f1, h1⟩, h2, ht⟩, isB_ok h3⟩
/-- a table of isinstance's answers -/
def isTab (K : PySem.W.Frag) (cv : Value) (tb : List (Nat × Bool)) : Bool := tb.all fun x => decide (PySem.W.kitOne K (.ref x.1) cv = some x.2)
theorem isTab_ok {K : PySem.W.Frag} {cv : Value} {tb : List (Nat × Bool)} (h : isTab K cv tb = true) : ∀ x ∈ tb, PySem.W.kitOne K (.ref x.1) cv = some x.2 := by
  unfold isTab at h
  simp only [List.all_eq_true, decide_eq_true_eq] at h
  exact h
end MP
namespace MP
open PySem PySem.Spec PyProof.Rows L2 MX
variable [WW] [FV]
section
variable {P : Program} {w : World} {K : PySem.W.Frag} {mg : Str → Option Value} {base : Heap}
theorem kbn_of {fd : FuncData} {ps : List Str} {n : Nat} {ks : List Str} {g : List Value → List Value → List Value} {gV : List V → List V → List V} (h : ∀ us ws : List Value, us.length = n → ws.length = ks.length → bindArgs fd ⟨us, ks.zip ws⟩ = pure (ps.zip (g us ws)))
    (r : ∀ {vs : List V} {us : List Value} {zs : List V} {ws : List Value}, Vals vs us → Vals zs ws → Vals (gV vs zs) (g us ws)) : KBn K fd ps n ks g gV := ⟨fun s us ws _ l1 l2 => .of_eq (h us ws l1 l2), r⟩
/-- class nm: def __init__(self, y): self.f = y -/
theorem errOk_one {nm qual self y f : Str} {st : Stmt} {C : Addr} {b : Bs} {p1 p2 p3 p4 : Pos} (g : mg nm = some (.ref C)) (q : ecB K C b [f] = true) (I : InitAt K C qual st) (S : FnScope [self, y] [self, y] (defScope st)) (hb : defBody st = [.Assign [.Attribute (.Name self p1) f p2] (.Name y p3) p4])
    (v0 : Vis (defScope st) self) (v1 : Vis (defScope st) y)
    (bp : ∀ (kV doc pm : Value) (an : Option Addr) (cdv ct u v : Value), bindArgs (PySem.W.fnOf "__init__" qual (defArgs st) (defBody st) (defScope st) .none kV doc pm an cdv ct) ⟨[u, v], []⟩ = pure [(self, u), (y, v)])
    (bk : ∀ (kV doc pm : Value) (an : Option Addr) (cdv ct u v : Value), bindArgs (PySem.W.fnOf "__init__" qual (defArgs st) (defBody st) (defScope st) .none kV doc pm an cdv ct) ⟨[u], [(y, v)]⟩ = pure [(self, u), (y, v)])
    (d0 : (self == ("__debug__" : Str)) = false := by decide) (d1 : (y == ("__debug__" : Str)) = false := by decide) (c0 : (self == ("__classdict__" : Str)) = false := by decide) (c1 : (y == ("__classdict__" : Str)) = false := by decide) :
    ErrOk P w K mg base 1 nm C [f] [y] (fun l => l) := by
  obtain ⟨e1, e2⟩ := ecB_ok q
  obtain ⟨fI, oc, od, kV, doc, pm, an, cdv, ct, osl, h1, h2, h3, h4, h5⟩ := I.ex
  refine ⟨g, e1, e2, by simp, ⟨fI, _, [self, y], h1, h2, init_one (fun_mk h3 h4 h5) S hb v0 v1 d0 d1 c0 c1, kbn_of (fun us ws l1 l2 => ?_) (fun r _ => r), kbn_of (fun us ws l1 l2 => ?_) (fun r r' => r.append r')⟩, fun l h => h, fun h _ => h⟩
  · match us, ws, l1, l2 with
    | [u, v], [], _, _ => exact bp kV doc pm an cdv ct u v
  · match us, ws, l1, l2 with
    | [u], [v], _, _ => exact bk kV doc pm an cdv ct u v
/-- class nm: def __init__(self, y, z): self.f = y; self.g = z; its keywords the other way round -/
theorem errOk_two {nm qual self y z f f' : Str} {st : Stmt} {C : Addr} {b : Bs} {p1 p2 p3 p4 q1 q2 q3 q4 : Pos} (g : mg nm = some (.ref C)) (q : ecB K C b [f, f'] = true) (I : InitAt K C qual st) (S : FnScope [self, y, z] [self, y, z] (defScope st))
    (hb : defBody st = [.Assign [.Attribute (.Name self p1) f p2] (.Name y p3) p4, .Assign [.Attribute (.Name self q1) f' q2] (.Name z q3) q4]) (v0 : Vis (defScope st) self) (v1 : Vis (defScope st) y) (v2 : Vis (defScope st) z)
    (bp : ∀ (kV doc pm : Value) (an : Option Addr) (cdv ct u v v' : Value), bindArgs (PySem.W.fnOf "__init__" qual (defArgs st) (defBody st) (defScope st) .none kV doc pm an cdv ct) ⟨[u, v, v'], []⟩ = pure [(self, u), (y, v), (z, v')])
    (bk : ∀ (kV doc pm : Value) (an : Option Addr) (cdv ct u v v' : Value), bindArgs (PySem.W.fnOf "__init__" qual (defArgs st) (defBody st) (defScope st) .none kV doc pm an cdv ct) ⟨[u], [(z, v'), (y, v)]⟩ = pure [(self, u), (y, v), (z, v')])
    (d0 : (self == ("__debug__" : Str)) = false := by decide) (d1 : (y == ("__debug__" : Str)) = false := by decide) (d2 : (z == ("__debug__" : Str)) = false := by decide) (c0 : (self == ("__classdict__" : Str)) = false := by decide) (c1 : (y == ("__classdict__" : Str)) = false := by decide) (c2 : (z == ("__classdict__" : Str)) = false := by decide) :
    ErrOk P w K mg base 1 nm C [f, f'] [z, y] List.reverse := by
  obtain ⟨e1, e2⟩ := ecB_ok q
  obtain ⟨fI, oc, od, kV, doc, pm, an, cdv, ct, osl, h1, h2, h3, h4, h5⟩ := I.ex
  refine ⟨g, e1, e2, by simp, ⟨fI, _, [self, y, z], h1, h2, init_two (fun_mk h3 h4 h5) S hb v0 v1 v2 d0 d1 d2 c0 c1 c2, kbn_of (fun us ws l1 l2 => ?_) (fun r _ => r), kbn_of (g := fun us ws => us ++ ws.reverse) (gV := fun vs zs => vs ++ zs.reverse) (fun us ws l1 l2 => ?_) (fun r r' => r.append r'.reverse)⟩, fun l h => ?_, fun h _ => h.reverse⟩
  · match us, ws, l1, l2 with
    | [u, v, v'], [], _, _ => exact bp kV doc pm an cdv ct u v v'
  · match us, ws, l1, l2 with
    | [u], [v', v], _, _ => exact bk kV doc pm an cdv ct u v v'
  · rw [List.length_reverse]; exact h
theorem fnAt_ok {nm : Str} {st : Stmt} {hh : Heap} (h : FnAt K nm st) (X : K.In hh) (G : hh.Ns mainGlobals mg) : ∃ (a : Addr) (fd : FuncData), Fun K nm nm st a fd ∧ mg nm = some (.ref a) ∧
    ∀ ps : List Str, (∀ (kV doc pm : Value) (an : Option Addr) (cdv ct : Value) (us : List Value), us.length = ps.length → bindArgs (PySem.W.fnOf nm nm (defArgs st) (defBody st) (defScope st) .none kV doc pm an cdv ct) ⟨us, []⟩ = pure (ps.zip us)) → Binds K fd ps [] := by
  obtain ⟨f, oc, od, kV, doc, pm, an, cdv, ct, osl, h1, h2, h3, h4⟩ := h.ex
  exact ⟨f, _, fun_mk h2 h3 h4, PySem.W.mg_of X G h1, fun ps z => .all (z kV doc pm an cdv ct)⟩
theorem room_law {k : Nat} (h : k ≤ 60) (env : Env) : Room k (callerA.deeper env) := Room.mono (Room.deeper (k := 60) ⟨rfl, by decide, by decide⟩ env) h
theorem units_law (env : Env) : (callerA.deeper env).units + 128 < cLine := by
  have h := (room_law (k := 1) (by decide) env).un
  omega
end
end MP
end

section
set_option maxRecDepth 100000
set_option maxHeartbeats 1000000
/-! MP13: the plain functions by themselves. -/
namespace MP
open PySem PySem.Spec

theorem toPs_ints : ∀ xs : List Int, D.toPs (xs.map .int) = some (xs.map .int)
  | [] => by simp [D.toPs]
  | x :: xs => by simp [D.toPs, D.toP, toPs_ints xs]
theorem canLay_ints : ∀ xs : List Int, PyData.canLayAll0 (xs.map .int) = true
  | [] => by simp [PyData.canLayAll0]
  | x :: xs => by simp [PyData.canLayAll0, PyData.canLay0, canLay_ints xs]
theorem depth_ints : ∀ xs : List Int, PyData.depthAll (xs.map .int) = 0
  | [] => by simp [PyData.depthAll]
  | x :: xs => by simp [PyData.depthAll, PyData.depth, depth_ints xs]
theorem shaped_ints (xs : List Int) : SeqAt.shaped (.list (xs.map .int)) = true := by
  unfold SeqAt.shaped
  simp [PyData.canLay0, canLay_ints, PyData.depth, depth_ints]
theorem olds_ints (n : Nat) : ∀ xs : List Int, oldDs n (xs.map .int) = true
  | [] => by simp [oldDs]
  | x :: xs => by simp [oldDs, oldD, olds_ints n xs]
theorem keptTo_refl (h : EH) : keptTo h.length h h = true := by
  unfold keptTo
  rw [List.all_eq_true]
  intro i hi
  have hl : i < h.length := List.mem_range.mp hi
  rw [List.getElem?_eq_getElem hl]
  simp [D.beqs_refl]
theorem keptTo_set {h : EH} {p : Nat} {ys : List D} (o : oldDs h.length ys = true) : keptTo h.length h (h.set p ys) = true := by
  unfold keptTo
  rw [List.all_eq_true]
  intro i hi
  have hl : i < h.length := List.mem_range.mp hi
  rw [List.getElem?_eq_getElem hl, List.getElem?_set]
  by_cases e : p = i
  · subst e
    simp [hl, o]
  · simp [e, List.getElem?_eq_getElem hl, D.beqs_refl]
/-- a def that tells an old value and changes nothing, or one list -/
theorem runDef_ret {N np : Nat} {body : FS} {ds : List D} {hp hp' : EH} {d d' : D} {env : Ev} (hl : ds.length = np) (hb : body (ds.map some ++ List.replicate (N - np) none) hp = some (.ret d, env, hp')) (k : keptTo hp.length hp hp' = true) (hd : handed hp.length hp' d = some d') (ht : hp'.take hp.length = hp') :
    runDef N np body ds hp = some (.val d', hp') := by
  unfold runDef
  rw [if_pos hl, hb]
  simp only
  rw [if_pos k, hd, ht]
theorem handed_int (n : Nat) (h : EH) (i : Int) : handed n h (.int i) = some (.int i) := by simp [handed, oldD]
theorem handed_bl (n : Nat) (h : EH) (i : Bool) : handed n h (.bl i) = some (.bl i) := by simp [handed, oldD]
theorem handed_old {n : Nat} {h : EH} {d : D} (o : oldD n d = true) : handed n h d = some d := by
  cases d with
  | obj i =>
    have hi : i < n := by simpa [oldD] using o
    simp [handed, hi]
  | _ => simp [handed, o]
theorem olds_mem {n : Nat} : ∀ {ds : List D} {d : D}, oldDs n ds = true → d ∈ ds → oldD n d = true
  | x :: xs, d, o, h => by
    have o' : oldD n x = true ∧ oldDs n xs = true := by simpa [oldDs] using o
    rcases List.mem_cons.mp h with rfl | h
    · exact o'.1
    · exact olds_mem o'.2 h
theorem atI_mem {ds : List D} {i : Int} (h0 : 0 ≤ i) (h1 : i < ds.length) : ∃ d, d ∈ ds ∧ L2.atI ds i = some d := by
  unfold L2.atI L2.ixN
  rw [if_pos h0, if_pos h1]
  have hl : i.toNat < ds.length := by omega
  exact ⟨ds[i.toNat], List.getElem_mem hl, by simp [List.getElem?_eq_getElem hl]⟩
/-- no change -/
theorem runDef_same {N np : Nat} {body : FS} {ds : List D} {hp : EH} {d d' : D} {env : Ev} (hl : ds.length = np) (hb : body (ds.map some ++ List.replicate (N - np) none) hp = some (.ret d, env, hp)) (hd : handed hp.length hp d = some d') :
    runDef N np body ds hp = some (.val d', hp) := runDef_ret hl hb (keptTo_refl hp) hd (List.take_length ..)
theorem turns_nil {g : D → Ev → Option Ev} {body : FS} {env : Ev} {hp : EH} : fTurns g yes body [] env hp = some (.nxt, env, hp) := by
  unfold fTurns
  rfl
theorem turns_cons {g : D → Ev → Option Ev} {body : FS} {d : D} {ds : List D} {env env1 env2 : Ev} {hp hp2 : EH} (h1 : g d env = some env1) (h2 : body env1 hp = some (.nxt, env2, hp2)) : fTurns g yes body (d :: ds) env hp = fTurns g yes body ds env2 hp2 := by
  simp [fTurns, yes, h1, h2]
theorem atI_ints {xs : List Int} {i : Int} (h0 : 0 ≤ i) (h1 : i < xs.length) : ∃ c : Int, L2.atI (xs.map D.int) i = some (.int c) := by
  unfold L2.atI L2.ixN
  rw [if_pos h0, List.length_map, if_pos h1]
  refine ⟨xs[i.toNat]'(by omega), ?_⟩
  simp only [Option.bind_some]
  rw [List.getElem?_map, List.getElem?_eq_getElem (by omega)]
  rfl
theorem char_lt (c : Char) : c.toNat < 1114112 := by
  have h := c.valid
  have : c.val.toNat < 1114112 := by
    rcases h with h | ⟨_, h⟩
    · omega
    · exact h
  exact this
theorem strOk_of (s : String) : PyData.strOk (Str.ofString s) = true := by
  rw [Str.ofString_eq_toList]
  unfold PyData.strOk
  simp only [List.all_toArray, List.all_eq_true, List.mem_map, decide_eq_true_eq]
  rintro x ⟨c, _, rfl⟩
  exact char_lt c
theorem strOk_app {a b : Str} (ha : PyData.strOk a = true) (hb : PyData.strOk b = true) : PyData.strOk (a ++ b) = true := by
  unfold PyData.strOk at *
  rw [Str.cps_append, Array.all_append, ha, hb]
  rfl
theorem shown_int_len {c : Int} (h0 : 0 ≤ c) (h1 : c < 10000000000) : (PyData.shown (.int c)).length ≤ 10 := by
  obtain ⟨n, rfl⟩ := Int.eq_ofNat_of_zero_le h0
  have e : (PyData.shown (.int (n : Int))) = Str.ofString (toString ((n : Nat) : Int)) := by simp only [PyData.shown]
  rw [e]
  show (Str.ofString (toString ((n : Nat) : Int))).cps.size ≤ 10
  rw [← Array.length_toList, PySem.W.KIN.signs_num, List.length_map]
  exact toDigits_len_pow (by decide) (by decide) (by omega)
theorem shown_int_ok (c : Int) : PyData.strOk (PyData.shown (.int c)) = true := by
  have e : (PyData.shown (.int c)) = Str.ofString (toString c) := by simp only [PyData.shown]
  rw [e]
  exact strOk_of _
/-- what repr tells of p may be asked -/
def rg (p : PyData) : Bool := p.showable && (!p.hasDict && (decide (p.depth ≤ 64) && (decide (p.shown.length ≤ 16777216) && SeqAt.shaped (.str p.shown))))
theorem rg_pair {c : Int} {q : PyData} (h0 : 0 ≤ c) (h1 : c < 10000000000) (q1 : q.showable = true) (q2 : q.hasDict = false) (q3 : q.depth ≤ 63) (q4 : q.shown.length ≤ 1000) (q5 : PyData.strOk q.shown = true) : rg (.list [.int c, q]) = true := by
  have e : PyData.shown (.list [.int c, q]) = ("[" : Str) ++ (("" : String) : Str) ++ PyData.shown (.int c) ++ ((", " : String) : Str) ++ q.shown ++ ("]" : Str) := by
    simp only [PyData.shown, PyData.shownAll]
    rfl
  have lg : c.natAbs.log2 < 1920 := by
    by_cases z : c.natAbs = 0
    · rw [z]; decide
    · rw [Nat.log2_lt z]
      exact Nat.lt_of_lt_of_le (show c.natAbs < 2 ^ 64 by omega) (Nat.pow_le_pow_right (by decide) (by decide))
  have l1 := shown_int_len h0 h1
  have s1 : (("[" : Str)).length = 1 := by decide +kernel
  have s2 : ((("" : String) : Str)).length = 0 := by decide +kernel
  have s3 : (((", " : String) : Str)).length = 2 := by decide +kernel
  have s4 : (("]" : Str)).length = 1 := by decide +kernel
  have len : (PyData.shown (.list [.int c, q])).length ≤ 16777216 := by
    rw [e]
    simp only [Str.length_append]
    omega
  have ok : SeqAt.shaped (.str (PyData.shown (.list [.int c, q]))) = true := by
    unfold SeqAt.shaped
    rw [Bool.and_eq_true]
    refine ⟨?_, by simp [PyData.depth]⟩
    show PyData.strOk _ = true
    rw [e]
    exact strOk_app (strOk_app (strOk_app (strOk_app (strOk_app (strOk_of _) (strOk_of _)) (shown_int_ok c)) (strOk_of _)) q5) (strOk_of _)
  unfold rg
  simp [PyData.showable, PyData.showableAll, PyData.hasDict, PyData.hasDictAll, PyData.depth, PyData.depthAll, lg, q1, q2, len, ok]
  omega
theorem repr_ok {d : D} {p : PyData} (hp : EH) (h : toPh hp d = some p) (g : rg p = true) : ∃ S, gRepr [d] hp = some (.str S) ∧ gEq (.str S) (.str S) hp = some (.bl true) := by
  unfold rg at g
  simp only [Bool.and_eq_true, Bool.not_eq_true', decide_eq_true_eq] at g
  obtain ⟨g1, g2, g3, g4, g5⟩ := g
  refine ⟨p.shown, ?_, ?_⟩
  · simp [gRepr, h, g1, g2, g3, g4]
  · simp [gEq, dEq, toPh, D.toP, g5, PyData.eqv]
end MP
end

section
set_option maxRecDepth 100000
set_option maxHeartbeats 1000000
/-! MP14: raise C(..), raise C(); try .. except C as e. -/
namespace MP
open PySem PySem.Spec PyProof.Rows L2 MX
variable [WW] [FV]
def fRaise (C : Nat) (fs : List Str) (fa : FA) : FS := fE fa fun ds env hp => if ds.length = fs.length then some (.exc ⟨C, fs.reverse, ds.reverse⟩, env, hp) else none
def fRaise0 (C : Nat) : FS := fun env hp => some (.exc ⟨C, [], []⟩, env, hp)
/-- the error that a suite holds, by its tag (where it stands, its dict) -/
def tagD (t : Nat × Option Nat) (e : Exc) : D := .xcp t e.cls e.ns e.xs
def eXFld (t : Nat × Option Nat) (f : Str) (fe : FE) : FE := bnd fe fun d _ hp => match d with
  | .xcp u _ ns ds => if u = t then match fldOf f ns ds with
    | some z => some (.val z, hp)
    | none => none else none
  | _ => none
def eXIs (t : Nat × Option Nat) (C : Nat) (tb : List (Nat × Bool)) (fe : FE) : FE := bnd fe fun d _ hp => match d with
  | .xcp u c _ _ => if u = t ∧ c = C then match lookA c tb with
    | some b => some (.val (.bl b), hp)
    | none => none else none
  | _ => none
def wipeI (i : Nat) : Option (Fl × Ev × EH) → Option (Fl × Ev × EH)
  | some (.exc _, _, _) => none
  | some (fl, env, hp) => some (fl, env.set i none, hp)
  | none => none
/-- try: body / except c as n: suite (n's slot i) -/
def fTry (body : FS) (tb : List (Nat × Bool)) (i : Nat) (fs : Nat × Option Nat → FS) : FS := fun env hp => match body env hp with
  | some (.exc e, env1, hp1) => match lookA e.cls tb with
    | some true => wipeI i (fs (0, none) (env1.set i (some (tagD (0, none) e))) hp1)
    | some false => some (.exc e, env1, hp1)
    | none => none
  | r => r
/-- the contexts of a try's body -/
abbrev tryF {ι : Type} (X : ι → Cx) (W : WX) : {q : ι × List (Addr × Obj) × (Value → Shared → Prop) // Takes ((X q.1).tr q.2.1 q.2.2) W ∧ PassesOwn (model (X q.1).prog (X q.1).w) (X q.1).A (X q.1).env q.2.2} → Cx := fun q => (X q.1.1).tr q.1.2.1 q.1.2.2
/-- the contexts of a suite that holds an error of the class at C -/
abbrev suF {ι : Type} (X : ι → Cx) (t : Nat × Option Nat) (C : Nat) : {q : ι × Obj × List (Addr × Obj) // Zc (.ref C) t.2 q.2.1 ∧ ∃ vs, q.2.1.data = .fields vs} → Cx := fun q => (X q.1.1).suite t.1 ((t.1, q.1.2.1) :: q.1.2.2)

section
variable {ι : Type} {X : ι → Cx} {K : PySem.W.Frag} {mg : Str → Option Value} {W : WX} {F F' : Hp} {m m' : List Addr} {H H' : Hp} {hp hp' : EH} {e : Expr} {es : List Expr} {fe : FE} {fa ga : FA} {pos pos2 pos' p p2 np : Pos} {P : Program} {w : World} {base : Heap} {k kk : Nat} {nm : Str} {C : Addr} {fs ks : List Str} {pm : {α : Type} → List α → List α}
theorem Fam.try_ (hF : Fam X K mg) : Fam (tryF X W) K mg := ⟨fun q => hF.k q.1.1, fun q => hF.g q.1.1, fun q => hF.calm q.1.1, fun q => hF.nd q.1.1⟩
theorem Cal.try_ {W' : WX} (h : Cal X P w base kk W) : Cal (tryF X W') P w base kk W' := ⟨fun q => h.p q.1.1, fun q => h.w q.1.1, fun q => h.b q.1.1, fun q => h.r q.1.1, fun q => q.2.1⟩
theorem own_try {W' : WX} : Own (tryF X W') := fun q => q.2.2
theorem ss_raise (hF : Fam X K mg) (hC : Cal X P w base kk W) (T : ErrOk P w K mg base k nm C fs ks pm) (hk : k + 1 ≤ kk) (hg : ∀ j, Gl (X j) nm) (ha : SA X K mg W (e :: es) fa) (hdb : (nm == ("__debug__" : Str)) = false := by decide)
    (he : ∀ j, starEach (e :: es) (X j).env = (false, eval e (X j).env) :: starEach es (X j).env := by intro _; rfl) (hpl : ∀ j, (backTo pos (starEach es (X j).env)).any (·.1) = false := by intro _; rfl) :
    SS X K mg W (.Raise (some (.Call (.Name nm p) (e :: es) [] pos)) none pos2) (fRaise C fs fa) := by
  obtain ⟨t, pt, q0⟩ := ha.ex
  obtain ⟨fI, fd, ps, h1, h2, h3, h4, h5⟩ := T.ex
  refine ⟨⟨fun _ σ H => tMkR C fs.length fs t σ H (fun cls d H' => W cls d σ H'), fun j => ?_, fun σ H env hp F m r n fl env' hp' e Dd q => ?_⟩⟩
  · refine ps_raise (hF.calm j) (hC.t j) (pmk_mkE (k := k) (fI := fI) (fd := fd) (ps := ps) ?_ ?_ ?_ ?_ ?_ ((hC.r j).mono hk) ?_ (hg j) ?_ (pt j) hdb (he j) (hpl j))
    · rw [hF.k j]; exact T.ec
    · rw [hF.k j]; exact h1
    · rw [hF.k j]; exact h2
    · rw [hF.k j]; exact T.flds
    · rw [hC.p j, hC.w j, hC.b j, hF.k j, hF.g j]; exact h3
    · rw [hF.k j]; exact h4
    · rw [hF.g j]; exact T.glob
  · show t σ H fun vs H1 => vs.length = fs.length ∧ fs.length ≤ 1000 ∧ _
    rcases fE_val e with ⟨x, k1, rfl, rfl⟩ | ⟨ds, hp1, k1, k2⟩
    · exact q0 σ H env' hp F m r n _ _ k1 _ (OutS.excA n q)
    refine q0 σ H env hp F m r n _ _ k1 _ fun vs F1 m1 H1 n1 r1 d1 => ?_
    try simp only at k2
    split at k2
    · rename_i hl
      cases k2
      refine ⟨by rw [d1.length]; exact hl, by have := T.few; omega, fun d hd => ?_⟩
      obtain ⟨r2, n2⟩ := r1.fresh (o := .xd (mkF fs vs)) hd
      have lw : vs.length = fs.length := by rw [d1.length]; exact hl
      refine q σ _ m1 _ _ _ (n1.trans n2) r2 ((n.mono n1).mono n2) ⟨rfl, T.ec.is, fun g hg => T.flds g (List.mem_reverse.mp hg), .inl ⟨d, _, rfl, upd_same, ?_, ?_⟩⟩
      · unfold mkF
        rw [List.map_reverse, List.map_fst_zip (by omega)]
      · unfold mkF
        rw [List.map_reverse, List.map_snd_zip (by omega)]
        exact (d1.mono n2.fz n2.pre).reverse
    · cases k2
theorem ss_raise0 (hF : Fam X K mg) (hC : Cal X P w base kk W) (T : E0 K C) (TX : ExcC K C) (hm : mg nm = some (.ref C)) (hg : ∀ j, Gl (X j) nm) (hdb : (nm == ("__debug__" : Str)) = false := by decide) : SS X K mg W (.Raise (some (.Call (.Name nm p) [] [] pos)) none pos2) (fRaise0 C) := by
  refine ⟨⟨fun _ σ H => W (.ref C) none σ H, fun j => ps_raise (hF.calm j) (hC.t j) (pmk_mk0 (by rw [hF.k j]; exact T) (by rw [hF.k j]; exact TX.hs) (hg j) (by rw [hF.g j]; exact hm) hdb), fun σ H env hp F m r n fl env' hp' e Dd q => ?_⟩⟩
  cases e
  exact q σ F m H _ _ Nx.refl r n ⟨rfl, TX, fun g hg => by simp at hg, .inr ⟨rfl, rfl, rfl⟩⟩
theorem se_xfld {t : Nat × Option Nat} {f : Str} (hF : Fam X K mg) (he : SE (suF X t C) K mg WF e fe) (hb : ∀ j, attributeBase e f (suF X t C j).env (eval e (suF X t C j).env) = eval e (suF X t C j).env := by intro _; rfl)
    (hX : ExcC K C) (hno : PySem.W.findIn K (.ref C) f = some none) : SE (suF X t C) K mg WF (.Attribute e f pos) (eXFld t f fe) := by
  obtain ⟨tt, pt, q0⟩ := he.ex
  refine ⟨⟨tXf t.1 (.ref C) t.2 C f tt, fun q => ?_, fun σ H env hp F m r n r' hp' e Q q => ?_⟩⟩
  · have z := pt q
    obtain ⟨⟨j, oe, pn⟩, h1, h2⟩ := q
    exact pe_xf (X := X j) (a := t.1) (oe := oe) (cls := .ref C) (d := t.2) (pn := pn) (xfC_of (by rw [hF.k j]; exact hX)) (by rw [hF.k j]; exact hno) h1 h2 z (hb ⟨⟨j, oe, pn⟩, h1, h2⟩)
  · show tt σ H fun x H1 => _
    rcases bnd_val e with ⟨x, k1, rfl⟩ | ⟨d, hp1, k1, k2⟩
    · exact q0 σ H env hp F m r n _ _ k1 _ q
    refine q0 σ H env hp F m r n _ _ k1 _ fun v F1 m1 H1 n1 r1 d1 => ?_
    try simp only at k2
    split at k2
    · split at k2
      · rename_i hu
        split at k2
        · rename_i z hz
          cases k2
          cases d1 with
          | xcp h2 h3 h4 h5 =>
            obtain ⟨v, l, dv⟩ := fld_get h4 h5 hz
            subst hu
            exact ⟨rfl, rfl, _, _, v, rfl, r1.sub _ _ h2, l, q _ F1 m1 H1 n1 r1 dv⟩
          | xc0 h1 => simp [fldOf] at hz
        · cases k2
      · cases k2
    · cases k2
theorem xis_read {tt : TE} {t : Nat × Option Nat} {tb : List (Nat × Bool)} {c : V} {cv : Value} {σ : L2.St} {env : Ev} (q0 : ∀ r hp', fe env hp = some (r, hp') → ∀ Q, OutE K mg WF F m σ H hp' Q r → tt σ H Q) (hcv : ∀ u, RelV c u → u = cv) (ht : ∀ x ∈ tb, PySem.W.kitOne K (.ref x.1) cv = some x.2)
    {r' : Res D} (e : eXIs t C tb fe env hp = some (r', hp')) {Q : VK} (q : OutE K mg WF F m σ H hp' Q r') : tt σ H fun x H1 => rIsP K C t.1 t.2 [x, c] H1 Q := by
  rcases bnd_val e with ⟨x, k1, rfl⟩ | ⟨d, hp1, k1, k2⟩
  · exact q0 _ _ k1 _ q
  refine q0 _ _ k1 _ fun v F1 m1 H1 n1 r1 d1 => ?_
  try simp only at k2
  split at k2
  · split at k2
    · rename_i hu
      obtain ⟨hu1, hu2⟩ := hu
      split at k2
      · rename_i b hb
        cases k2
        have ht' := ht _ (lookA_mem hb)
        subst hu2
        cases d1 with
        | xcp h2 h3 h4 h5 =>
          subst hu1
          exact ⟨c, cv, b, rfl, .inr ⟨_, _, rfl, r1.sub _ _ h2⟩, hcv, ht', q _ F1 m1 H1 n1 r1 (.bl b)⟩
        | xc0 h1 =>
          subst hu1
          exact ⟨c, cv, b, rfl, .inl rfl, hcv, ht', q _ F1 m1 H1 n1 r1 (.bl b)⟩
      · cases k2
    · cases k2
  · cases k2
theorem se_xisT {t : Nat × Option Nat} {T : String} {x : Str} {tb : List (Nat × Bool)} (hF : Fam X K mg) (hX : ExcC K C) (hm : mg "isinstance" = none) (hm2 : mg x = none) (hv : bootBuiltins x = some (.type T)) (hg : ∀ j, Gl (suF X t C j) "isinstance") (hg2 : ∀ j, Gl (suF X t C j) x) (ha : SE (suF X t C) K mg WF e fe) (ht : ∀ y ∈ tb, PySem.W.kitOne K (.ref y.1) (.type T) = some y.2)
    (hn : x ≠ "__name__" := by decide) (hdb : (x == ("__debug__" : Str)) = false := by decide)
    (h1 : ∀ j, starEach [e, .Name x p2] (suF X t C j).env = (false, eval e (suF X t C j).env) :: starEach [.Name x p2] (suF X t C j).env := by intro _; rfl) (h2 : ∀ j, starEach [.Name x p2] (suF X t C j).env = (false, eval (.Name x p2) (suF X t C j).env) :: starEach [] (suF X t C j).env := by intro _; rfl)
    (h3 : ∀ j, (backTo pos (starEach [.Name x p2] (suF X t C j).env)).any (·.1) = false := by intro _; rfl) :
    SE (suF X t C) K mg WF (.Call (.Name "isinstance" p) [e, .Name x p2] [] pos) (eXIs t C tb fe) := by
  obtain ⟨tt, pt, q0⟩ := ha.ex
  refine ⟨⟨tCB (rIsP K C t.1 t.2) (tCons tt (tCons (tC (.ty T)) tNil)), fun q => ?_, fun σ H env hp F m r n r' hp' e Q q => ?_⟩⟩
  · have z := pt q
    have g1 := hg q
    have g2 := hg2 q
    have e1 := h1 q
    have e2 := h2 q
    have e3 := h3 q
    obtain ⟨⟨j, oe, pn⟩, z1, z2⟩ := q
    have cr := call_isP (X := X j) (a := t.1) (C := C) (d := t.2) (oe := oe) (pn := pn) (by rw [hF.k j]; exact hX) z1 z2
    rw [hF.k j] at cr
    exact pe_callB cr g1 (by show (X j).mg "isinstance" = none; rw [hF.g j]; exact hm) (by decide +kernel) (pa_cons z (pa_cons (pe_bltn g2 (by show (X j).mg x = none; rw [hF.g j]; exact hm2) hv rfl hn hdb) pa_nil e2) e1) (by decide) (by decide) e1 e3
  · exact xis_read (c := .ty T) (q0 σ H env hp F m r n) (fun u z => z) ht e q
theorem En.unset {σ : L2.St} {env : Ev} (i : Nat) (hfs : i ∉ FV.slots) (h : En K F m σ env) : En K F m (σ.set i none) (env.set i none) := ⟨by simpa using h.len, fun j d q => by
  by_cases hj : j = i
  · subst hj
    by_cases hl : j < env.length
    · rw [List.getElem?_set_self hl] at q; cases q
    · rw [List.getElem?_eq_none (by simpa using hl)] at q; cases q
  · rw [List.getElem?_set_ne (Ne.symm hj)] at q ⊢
    exact h.get j d q, fun j hs q => by
  have hj : j ≠ i := fun z => hfs (z ▸ hs)
  rw [List.getElem?_set_ne (Ne.symm hj)] at q ⊢
  exact h.fn j hs q, h.nd⟩
theorem tag_dn {c : Value} {dd : Option Addr} {a : Addr} {x : Exc} (h : Xc K mg F m H x c dd) : Dn K F m (.ref a) (tagD (a, dd) x) := by
  obtain ⟨h1, h2, h3, h4⟩ := h
  obtain ⟨xc, xn, xx⟩ := x
  rcases h4 with ⟨d, fs, rfl, e1, e2, e3⟩ | ⟨rfl, e1, e2⟩
  · exact .xcp e1 ⟨h2, h3⟩ e2 e3
  · cases e1; cases e2; exact .xc0 h2
/-- try: body / except x as n: suite -/
theorem ss_try {i : Nat} {n x : Str} {c : Value} {tb : List (Nat × Bool)} {body suite : List Stmt} {b0 : Stmt} {fb : FS} {fsu : Nat × Option Nat → FS} (hF : Fam X K mg) (hC : Cal X P w base kk W) (hs : ∀ j, (X j).stack = (X j).env :: (X j).outer) (hf : ∀ j, (X j).env.frame = some (X j).env.locals)
    (hi : ∀ j, (X j).N[i]? = some n) (hln : ∀ j, (X j).env.kindOf n = some .local) (hc : ∀ j, Names (X j) x c) (ht : ∀ y ∈ tb, PySem.W.exmOne K (.ref y.1) c = some y.2) (hone : ∀ z, lookA z tb = some true → z = C) (hfs : i ∉ FV.slots)
    (hb : ∀ W' : WX, SB (tryF X W') K mg W' body fb) (hsu : ∀ t : Nat × Option Nat, SB (suF X t C) K mg WF (b0 :: suite) (fsu t))
    (hpar : ∀ (t : Nat × Option Nat) (x : Exc) (env : Ev) (hp : EH), x.cls = C → wipeI i (fsu t (env.set i (some (tagD t x))) hp) = wipeI i (fsu (0, none) (env.set i (some (tagD (0, none) x))) hp)) :
    SS X K mg W (.Try body [.ExceptHandler (some (.Name x np)) (some n) (b0 :: suite) pos'] [] [] pos) (fTry fb tb i fsu) := by
  let tbd : WX → TS := fun W' => Classical.choose (hb W').ex
  let ts : Addr → Value → Option Addr → TS := fun a cls d => match cls with
    | .ref C' => if C' = C then Classical.choose (hsu (a, d)).ex else fun _ _ _ => False
    | _ => fun _ _ _ => False
  have hbs := fun W' => Classical.choose_spec (hb W').ex
  have hss := fun t => Classical.choose_spec (hsu t).ex
  refine ⟨⟨fun Dd σ H => tbd (wAs K c i ts W Dd) Dd σ H, fun j => ?_, fun σ H env hp F m r nn fl env' hp' e Dd q => ?_⟩⟩
  · have z := ps_try_as (X := X j) (x := x) (n := n) (c := c) (i := i) (body := body) (suite := suite) (b₀ := b0) (np := np) (pos := pos) (pos' := pos') (tb := tbd) (ts := ts) (Wout := W) (hs j) (hf j) (hF.nd j) (hi j) (hln j) (hc j) (hC.t j)
      (fun W' pn xe tk po => (hbs W').1 ⟨(j, pn, xe), tk, po⟩) (fun a oe cls d pn hz hfv => ?_)
    · rw [hF.k j] at z; exact z
    · cases cls with
      | ref C' =>
        by_cases hCC : C' = C
        · subst hCC
          have y := (hss (a, d)).1 ⟨(j, oe, pn), hz, hfv⟩
          simpa only [ts, if_true] using y
        · have e0 : ts a (.ref C') d = fun _ _ _ => False := by simp only [ts, if_neg hCC]
          rw [e0]
          exact ⟨fun _ _ _ _ _ _ h => h.elim⟩
      | _ => exact ⟨fun _ _ _ _ _ _ h => h.elim⟩
  · show tbd (wAs K c i ts W Dd) Dd σ H
    unfold fTry at e
    cases hbd : fb env hp with
    | none => rw [hbd] at e; cases e
    | some z =>
      obtain ⟨fl1, env1, hp1⟩ := z
      rw [hbd] at e
      refine (hbs (wAs K c i ts W Dd)).2 σ H env hp F m r nn _ _ _ hbd Dd ?_
      cases fl1 with
      | nxt => cases e; exact q
      | brk => cases e; exact q
      | cnt => cases e; exact q
      | ret d => cases e; exact q
      | exc x0 =>
        simp only at e
        intro σ1 F1 m1 H1 c1 dd n1 r1 e1 x1
        have hcx := x1.1
        subst hcx
        split at e
        · rename_i hla
          have hcl := hone _ hla
          refine ⟨true, ht _ (lookA_mem hla), fun _ a ha => ?_, fun z => nomatch z⟩
          have hdn : Dn K F1 m1 (.ref a) (tagD (a, dd) x0) := tag_dn x1
          rw [← hpar (a, dd) x0 env1 hp1 hcl] at e
          have hts : ts a (.ref x0.cls) dd = Classical.choose (hsu (a, dd)).ex := by simp only [ts, if_pos hcl]
          show ts a (.ref x0.cls) dd _ _ _
          rw [hts]
          cases hsx : fsu (a, dd) (env1.set i (some (tagD (a, dd) x0))) hp1 with
          | none => rw [hsx] at e; cases e
          | some y =>
            obtain ⟨fl2, env2, hp2⟩ := y
            rw [hsx] at e
            refine (hss (a, dd)).2 _ H1 _ hp1 F1 m1 r1 (e1.set hdn) _ _ _ hsx _ ?_
            cases fl2 with
            | exc y => cases e
            | nxt => cases e; exact fun σ2 F2 m2 H2 n2 r2 e2 => q _ F2 m2 H2 (n1.trans n2) r2 (e2.unset i hfs)
            | brk => cases e; exact fun σ2 F2 m2 H2 n2 r2 e2 => q _ F2 m2 H2 (n1.trans n2) r2 (e2.unset i hfs)
            | cnt => cases e; exact fun σ2 F2 m2 H2 n2 r2 e2 => q _ F2 m2 H2 (n1.trans n2) r2 (e2.unset i hfs)
            | ret d => cases e; exact fun v F2 m2 H2 n2 r2 d2 => q v F2 m2 H2 (n1.trans n2) r2 d2
        · rename_i hla
          cases e
          exact ⟨false, ht _ (lookA_mem hla), (fun z => absurd z Bool.false_ne_true), fun _ => q σ1 F1 m1 H1 _ dd n1 r1 e1 x1⟩
        · cases e
end
end MP
end

section
set_option maxRecDepth 100000
set_option maxHeartbeats 1000000
/-! MP15: in, not in (lists, tuples); enumerate (lists, tuples); isinstance of data or of an error. -/
namespace MP
open PySem PySem.Spec PyProof.Rows L2 MX
variable [WW] [FV]
def rInT (K : PySem.W.Frag) : R2 := fun x y H Q => ∃ d ds, Dp K H x d ∧ Dp K H y (.tuple ds) ∧ SeqAt.shaped d = true ∧ SeqAt.shaped (.tuple ds) = true ∧ Q (.bl (ds.any fun z => PyData.eqv z d)) H
def rNinT (K : PySem.W.Frag) : R2 := fun x y H Q => ∃ d ds, Dp K H x d ∧ Dp K H y (.tuple ds) ∧ SeqAt.shaped d = true ∧ SeqAt.shaped (.tuple ds) = true ∧ Q (.bl (!ds.any fun z => PyData.eqv z d)) H
theorem op_inT {X : Cx} (hu : X.A.units + 65 < cLine) : OpR X (compareOp .In) (rInT X.K) := by
  intro pins s σ H x y v u Q I rx ry h
  obtain ⟨d, ds, hd, he, sd, se, q⟩ := h
  obtain ⟨as, a1⟩ := Dp.reads I d x v hd rx
  obtain ⟨bs, a2⟩ := Dp.reads I (.tuple ds) y u he ry
  exact SeqAt.in_tuple_reads a2 a1 (SeqAt.canLay_of_shaped se) (SeqAt.canLay_of_shaped sd) (room_in_shaped sd hu) ⟨.bl _, H, I, rfl, q⟩
theorem op_ninT {X : Cx} (hu : X.A.units + 65 < cLine) : OpR X (compareOp .NotIn) (rNinT X.K) := by
  intro pins s σ H x y v u Q I rx ry h
  obtain ⟨d, ds, hd, he, sd, se, q⟩ := h
  obtain ⟨as, a1⟩ := Dp.reads I d x v hd rx
  obtain ⟨bs, a2⟩ := Dp.reads I (.tuple ds) y u he ry
  exact SeqAt.notIn_tuple_reads a2 a1 (SeqAt.canLay_of_shaped se) (SeqAt.canLay_of_shaped sd) (room_in_shaped sd hu) ⟨.bl _, H, I, rfl, q⟩
/-- x in y: y a list or a tuple -/
def gInA : D → D → EH → Option D := fun x y hp => (dIn hp x y).map .bl
def gNinA : D → D → EH → Option D := fun x y hp => (dIn hp x y).map fun b => .bl (!b)
section
variable {ι : Type} {X : ι → Cx} {K : PySem.W.Frag} {mg : Str → Option Value} {W : WX} {F F' : Hp} {m m' : List Addr} {H H' : Hp} {hp hp' : EH} {a b e : Expr} {fa fb fe : FE} {ga : FA} {pos p p2 : Pos} {P : Program} {w : World} {base : Heap} {kk : Nat}
theorem ops_inA : OpS K (fun x y H Q => rInD K x y H Q ∨ rInT K x y H Q) gInA := by
  intro F m H hp x y d e z r1 d1 d2 hz Q q
  unfold gInA at hz
  rw [Option.map_eq_some_iff] at hz
  obtain ⟨c, hc, rfl⟩ := hz
  unfold dIn at hc
  split at hc
  · rename_i p ds hp1 hq1
    split at hc
    · rename_i h
      cases hc
      exact .inl ⟨p, ds, dph_of r1 d1 hp1, dph_of r1 d2 hq1, h.1, h.2, q _ F H Nx.refl r1 (.bl _)⟩
    · cases hc
  · rename_i p ds hp1 hq1
    split at hc
    · rename_i h
      cases hc
      exact .inr ⟨p, ds, dph_of r1 d1 hp1, dph_of r1 d2 hq1, h.1, h.2, q _ F H Nx.refl r1 (.bl _)⟩
    · cases hc
  · cases hc
theorem ops_ninA : OpS K (fun x y H Q => rNotInD K x y H Q ∨ rNinT K x y H Q) gNinA := by
  intro F m H hp x y d e z r1 d1 d2 hz Q q
  unfold gNinA at hz
  rw [Option.map_eq_some_iff] at hz
  obtain ⟨c, hc, rfl⟩ := hz
  unfold dIn at hc
  split at hc
  · rename_i p ds hp1 hq1
    split at hc
    · rename_i h
      cases hc
      exact .inl ⟨p, ds, dph_of r1 d1 hp1, dph_of r1 d2 hq1, h.1, h.2, q _ F H Nx.refl r1 (.bl _)⟩
    · cases hc
  · rename_i p ds hp1 hq1
    split at hc
    · rename_i h
      cases hc
      exact .inr ⟨p, ds, dph_of r1 d1 hp1, dph_of r1 d2 hq1, h.1, h.2, q _ F H Nx.refl r1 (.bl _)⟩
    · cases hc
  · cases hc
theorem room65 {k : Nat} {A : Around} (r : Room k A) : A.units + 65 < cLine := by have := r.un; omega
theorem se_in (hF : Fam X K mg) (hC : Cal X P w base kk W) (ha : SE X K mg W a fa) (hb : SE X K mg W b fb) (hm : behindInMarks .In b = false := by rfl) : SE X K mg W (.Compare a [.In] [b] pos) (eBin gInA fa fb) :=
  se_cmp (fun j => by rw [← hF.k j]; exact (op_inD (room65 (hC.r j))).or (op_inT (room65 (hC.r j)))) ops_inA ha hb hm
theorem st_in (hF : Fam X K mg) (hC : Cal X P w base kk W) (ha : SE X K mg W a fa) (hb : SE X K mg W b fb) (hm : behindInMarks .In b = false := by rfl) : ST X K mg W (.Compare a [.In] [b] pos) (MP.tB (eBin gInA fa fb)) :=
  st_cmp (fun j => by rw [← hF.k j]; exact (op_inD (room65 (hC.r j))).or (op_inT (room65 (hC.r j)))) ops_inA ha hb hm
theorem se_nin (hF : Fam X K mg) (hC : Cal X P w base kk W) (ha : SE X K mg W a fa) (hb : SE X K mg W b fb) (hm : behindInMarks .NotIn b = false := by rfl) : SE X K mg W (.Compare a [.NotIn] [b] pos) (eBin gNinA fa fb) :=
  se_cmp (fun j => by rw [← hF.k j]; exact (op_notInD (room65 (hC.r j))).or (op_ninT (room65 (hC.r j)))) ops_ninA ha hb hm
theorem st_nin (hF : Fam X K mg) (hC : Cal X P w base kk W) (ha : SE X K mg W a fa) (hb : SE X K mg W b fb) (hm : behindInMarks .NotIn b = false := by rfl) : ST X K mg W (.Compare a [.NotIn] [b] pos) (MP.tB (eBin gNinA fa fb)) :=
  st_cmp (fun j => by rw [← hF.k j]; exact (op_notInD (room65 (hC.r j))).or (op_ninT (room65 (hC.r j)))) ops_ninA ha hb hm

/-! ### enumerate -/
def iEnumA (g : FA) : FI := bnd g fun ds _ hp => match ds with
  | [.lst xs] => some (.val (enumD 0 xs, yes), hp)
  | [.tup xs] => some (.val (enumD 0 xs, yes), hp)
  | [.obj i] => match hp[i]? with
    | some xs => some (.val (enumD 0 xs, sameObj i xs), hp)
    | none => none
  | _ => none
theorem it_enumT {a : Addr} {vs : List V} {xs : List D} (h1 : SqT K F a vs) (h2 : Dns K F m vs xs) : ItOk K F m (ItET K a) (enumD 0 xs) yes where
  go := fun i F' m' H' hp' s p r c hi => by
    rw [enumD_len] at hi
    have hl : i < vs.length := by rw [h2.length]; exact hi
    exact ⟨vs, vs[i], SqT.mono (s.trans r.sub) h1, List.getElem?_eq_getElem hl⟩
  stop := fun F' m' H' hp' s p r c => ⟨vs, SqT.mono (s.trans r.sub) h1, by rw [enumD_len, h2.length]; exact Nat.le_refl _⟩
  yld := fun i F' m' H' hp' v H'' s p r c hi y => by
    obtain ⟨T, x, e1, nT, e2, y2⟩ := y
    subst e1; subst e2
    obtain ⟨d, q1, q2⟩ := h2.getV (y2 vs (SqT.mono (s.trans r.sub) h1))
    obtain ⟨F'', n', r', d''⟩ := new_tup (σ := []) (ds := [.int (i : Nat), d]) r (.cons (.int _) (.cons (q2.mono s p) .nil)) nT
    have e0 := enumD_get xs 0 i d q1
    rw [Nat.zero_add] at e0
    exact ⟨_, F'', e0, n', r', d''⟩
theorem si_enumA {elts : List Expr} {k2 : Nat} {tpos : Pos} (hF : Fam X K mg) (hg : ∀ j, Gl (X j) "enumerate") (hm : mg "enumerate" = none) (ha : SA X K mg W [e] ga) (hs : ∀ j, starEach [e] (X j).env = [(false, eval e (X j).env)] := by intro _; rfl) :
    SI X K mg W (.Tuple elts k2 tpos) (.Call (.Name "enumerate" p) [e] [] pos) (iEnumA ga) := by
  obtain ⟨t, pt, q0⟩ := ha.ex
  refine ⟨⟨_, fun j => by
    have z := PI.or (pi_enum (elts := elts) (kk := k2) (tpos := tpos) (p := p) (pos := pos) (hg j) (by rw [hF.g j]; exact hm) (pt j) (hs j)) (pi_enumT (elts := elts) (kk := k2) (tpos := tpos) (p := p) (pos := pos) (hg j) (by rw [hF.g j]; exact hm) (pt j) (hs j))
    rw [hF.k j] at z
    exact z, fun σ H env hp F m r n r' hp' e Q q => ?_⟩⟩
  rcases bnd_val e with ⟨x, h1, rfl⟩ | ⟨ds, hp1, h1, h2⟩
  · exact .inl (q0 σ H env hp F m r n _ _ h1 _ q)
  try simp only at h2
  split at h2
  · cases h2
    refine .inl (q0 σ H env hp F m r n _ _ h1 _ fun vs F1 m1 H1 n1 r1 d1 => ?_)
    cases d1 with
    | cons c1 c2 =>
      cases c2
      cases c1 with
      | lst a1 a2 =>
        rename_i a vs
        exact ⟨_, _, rfl, SqL.of (r1.sub _ _ a1), q _ F1 m1 H1 n1 r1 (it_enum fun F' m' H' hp' s p r c => ⟨vs, SqL.of ((s.trans r.sub) _ _ a1), a2.mono s p⟩)⟩
  · cases h2
    refine .inr (q0 σ H env hp F m r n _ _ h1 _ fun vs F1 m1 H1 n1 r1 d1 => ?_)
    cases d1 with
    | cons c1 c2 =>
      cases c2
      cases c1 with
      | tup a1 a2 => exact ⟨_, _, rfl, SqT.mono r1.sub a1, q _ F1 m1 H1 n1 r1 (it_enumT a1 a2)⟩
  · split at h2
    · rename_i xs hx
      cases h2
      refine .inl (q0 σ H env hp F m r n _ _ h1 _ fun vs F1 m1 H1 n1 r1 d1 => ?_)
      cases d1 with
      | cons c1 c2 =>
        cases c2
        cases c1 with
        | obj hi =>
          rename_i a
          obtain ⟨vs, w1, w2⟩ := r1.obj _ a xs hi hx
          refine ⟨a, vs, rfl, SqL.of w1, q _ F1 m1 H1 n1 r1 (it_enum fun F' m' H' hp' s p r c => ?_)⟩
          obtain ⟨ws, z1, z2⟩ := r.obj _ a xs (pre_get p hi) (sameObj_eq c)
          exact ⟨ws, SqL.of z1, z2⟩
    · cases h2
  · cases h2
end
end MP
end

section
set_option maxRecDepth 100000
set_option maxHeartbeats 1000000
/-! MP16: words for the generator: isinstance of data; what an except clause meets. -/
namespace MP
open PySem PySem.Spec PyProof.Rows L2 MX
variable [WW] [FV]
def eIsi (T : String) (fe : FE) : FE := bnd fe fun d _ hp => match gIsi T [d] hp with
  | some z => some (.val z, hp)
  | none => none
def exTab (K : PySem.W.Frag) (cv : Value) (tb : List (Nat × Bool)) : Bool := tb.all fun x => decide (PySem.W.exmOne K (.ref x.1) cv = some x.2)
theorem exTab_ok {K : PySem.W.Frag} {cv : Value} {tb : List (Nat × Bool)} (h : exTab K cv tb = true) : ∀ x ∈ tb, PySem.W.exmOne K (.ref x.1) cv = some x.2 := by
  unfold exTab at h
  simp only [List.all_eq_true, decide_eq_true_eq] at h
  exact h
theorem lookA_one {C : Nat} {tb : List (Nat × Bool)} (h : (tb.all fun x => !x.2 || x.1 == C) = true) : ∀ z, lookA z tb = some true → z = C := by
  intro z hz
  have q := List.all_eq_true.mp h _ (lookA_mem hz)
  simpa using q
section
variable {ι : Type} {X : ι → Cx} {K : PySem.W.Frag} {mg : Str → Option Value} {W : WX} {e : Expr} {fe : FE} {pos p p2 : Pos}
theorem se_isi2 {T : String} {x : Str} (hF : Fam X K mg) (hm : mg "isinstance" = none) (hm2 : mg x = none) (hv : bootBuiltins x = some (.type T)) (hg : ∀ j, Gl (X j) "isinstance") (hg2 : ∀ j, Gl (X j) x) (ha : SE X K mg W e fe) (hK : ClsV (.ty T) (.type T))
    (hn : x ≠ "__name__" := by decide) (hdb : (x == ("__debug__" : Str)) = false := by decide)
    (h1 : ∀ j, starEach [e, .Name x p2] (X j).env = (false, eval e (X j).env) :: starEach [.Name x p2] (X j).env := by intro _; rfl) (h2 : ∀ j, starEach [.Name x p2] (X j).env = (false, eval (.Name x p2) (X j).env) :: starEach [] (X j).env := by intro _; rfl)
    (h3 : ∀ j, (backTo pos (starEach [.Name x p2] (X j).env)).any (·.1) = false := by intro _; rfl) :
    SE X K mg W (.Call (.Name "isinstance" p) [e, .Name x p2] [] pos) (eIsi T fe) := se_isi hF hm hm2 hv hg hg2 ha hK hn hdb h1 h2 h3
/-- a number that the module names -/
theorem se_globI {x : Str} {i : Int} (hF : Fam X K mg) (g : ∃ t, mg x = some (.int i t)) (hg : ∀ j, Gl (X j) x) (hdb : (x == ("__debug__" : Str)) = false := by decide) : SE X K mg W (.Name x pos) (ret (.int i)) := by
  obtain ⟨t, g⟩ := g
  exact se_glob (v := .int i) hg (fun j => by rw [hF.g j]; exact g) ⟨t, rfl⟩ (.int i) hdb
end
section
variable {P : Program} {w : World} {K : PySem.W.Frag} {mg : Str → Option Value} {base : Heap}
/-- a def of which nothing is told -/
theorem def_none {x qual : Str} {st : Stmt} {a : Addr} {fd : FuncData} {N ps : List Str} {k : Nat} {nm : Str} (T : Fun K x qual st a fd) (S : FnScope N ps (defScope st)) (hm : mg nm = some (.ref a)) (hbi : Binds K fd ps []) : DefOk P w K mg base (k + 1) nm ps.length (fun _ _ => none) :=
  ⟨⟨a, fd, ps, rfl, T.okX S (fun vs H Q E h => h.1) (fun cdv A outer s H vs Q E hr h => by
    obtain ⟨_, F, m, ds, hp, r, hp', _, _, e, _⟩ := h
    cases e), hm, T.kp, hbi⟩, fun ds hp z e => by cases e⟩
/-- a def that calls itself: by the depth that it may go -/
theorem def_rec {x qual : Str} {st : Stmt} {a : Addr} {fd : FuncData} {N ps : List Str} {k : Nat} {g : Nat → FF} {nm : Str} (T : Fun K x qual st a fd) (S : FnScope N ps (defScope st)) (hm : mg nm = some (.ref a)) (hbi : Binds K fd ps []) (h0 : g 0 = fun _ _ => none)
    (step : ∀ n, DefOk P w K mg base (k + 1 + n) nm ps.length (g n) → DefOk P w K mg base (k + 1 + (n + 1)) nm ps.length (g (n + 1))) : ∀ n, DefOk P w K mg base (k + 1 + n) nm ps.length (g n)
  | 0 => by rw [h0]; exact def_none T S hm hbi
  | n + 1 => step n (def_rec T S hm hbi h0 step n)
end
end MP
end

section
set_option maxRecDepth 100000
set_option maxHeartbeats 1000000
/-! MP17: x[::-1]. -/
namespace MP
open PySem PySem.Spec PyProof.Rows L2 MX
variable [WW] [FV]
def gRev (d : D) (hp : EH) : Option D := match d with
  | .tup xs => some (.tup xs.reverse)
  | d => match asQ hp d with
    | some xs => some (.lst xs.reverse)
    | none => none
def eRev (fe : FE) : FE := bnd fe fun d _ hp => match gRev d hp with
  | some z => some (.val z, hp)
  | none => none
section
variable {ι : Type} {X : ι → Cx} {K : PySem.W.Frag} {mg : Str → Option Value} {W : WX} {F F' : Hp} {m m' : List Addr} {H H' : Hp} {hp hp' : EH} {e : Expr} {fe : FE} {pos p1 p2 p3 : Pos} {k : Nat}
theorem pe_or {Y : Cx} {t t' : TE} (h : PE Y e t) (h' : PE Y e t') : PE Y e (fun σ H Q => t σ H Q ∨ t' σ H Q) := ⟨fun pins s σ H Q I q => q.elim (h.run pins s σ H Q I) (h'.run pins s σ H Q I)⟩
theorem sqL_of {d : D} {v : V} {xs : List D} (r : R K F m H hp) (h : Dn K F m v d) (no : ∀ ys, d ≠ .tup ys) (e : asQ hp d = some xs) : ∃ a vs, v = .ref a ∧ SqL K H a vs ∧ Dns K F m vs xs := by
  cases d with
  | obj i =>
    obtain ⟨a, vs, q1, q2, q3⟩ := rd_of r h (by simpa [asL, asQ] using e)
    exact ⟨a, vs, q1, SqL.of q2, q3⟩
  | lst ys =>
    obtain ⟨a, vs, q1, q2, q3⟩ := rd_of r h (by simpa [asL, asQ] using e)
    exact ⟨a, vs, q1, SqL.of q2, q3⟩
  | scr ys =>
    cases h with
    | scr h1 h2 =>
      simp [asQ] at e
      subst e
      exact ⟨_, _, rfl, SqL.mono r.sub h1, h2⟩
  | tup ys => exact absurd rfl (no ys)
  | _ => simp [asQ] at e
theorem se_rev (hF : Fam X K mg) (he : SE X K mg W e fe) : SE X K mg W (.Subscript e (.Slice none none (some (.UnaryOp .USub (.Constant (.int 1) k p1) p2)) p3) pos) (eRev fe) := by
  obtain ⟨t, pt, q0⟩ := he.ex
  refine ⟨⟨_, fun j => by have z := pe_or (pe_revL (k := k) (p1 := p1) (p2 := p2) (p3 := p3) (pos := pos) (pt j)) (pe_revT (k := k) (p1 := p1) (p2 := p2) (p3 := p3) (pos := pos) (pt j)); rw [hF.k j] at z; exact z, fun σ H env hp F m r n r' hp' e Q q => ?_⟩⟩
  rcases bnd_val e with ⟨x, h1, rfl⟩ | ⟨d, hp1, h1, h2⟩
  · exact .inl (q0 σ H env hp F m r n _ _ h1 _ q)
  cases d with
  | tup xs =>
    simp only [gRev] at h2
    cases h2
    refine .inr (q0 σ H env hp F m r n _ _ h1 _ fun v F1 m1 H1 n1 r1 d1 => ?_)
    cases d1 with
    | tup a1 a2 =>
      refine ⟨_, _, rfl, SqT.mono r1.sub a1, fun p hp => ?_⟩
      obtain ⟨F', n', r', d'⟩ := new_tup (σ := []) r1 a2.reverse hp
      exact q _ F' m1 _ (n1.trans n') r' d'
  | _ =>
    refine .inl (q0 σ H env hp F m r n _ _ h1 _ fun v F1 m1 H1 n1 r1 d1 => ?_)
    simp only [gRev] at h2
    split at h2
    · rename_i z hz
      cases h2
      split at hz
      · rename_i xs hx
        cases hz
        obtain ⟨a, vs, rfl, b1, b2⟩ := sqL_of r1 d1 (fun _ => by intro w; cases w) hx
        refine ⟨a, vs, rfl, b1, fun p hp => ?_⟩
        obtain ⟨F', n', r', d'⟩ := new_lst (σ := []) r1 b2.reverse hp
        exact q _ F' m1 _ (n1.trans n') r' d'
      · cases hz
    · cases h2
end
end MP
end

section
set_option maxRecDepth 100000
set_option maxHeartbeats 1000000
/-! MP18: <, <=, >, >= of data that are alike (ints, texts, tuples and lists of these). -/
namespace MP
open PySem PySem.Spec PyProof.Rows L2 MX
variable [WW] [FV]
/-- may be ordered -/
def ordOk (p q : PyData) : Bool := PySem.W.alike p q && (decide (p.depth ≤ 64) && match p with | .none => false | _ => true)
def rCmpD (op : CmpOp) (f : PyData → PyData → Bool) (K : PySem.W.Frag) : R2 := fun x y H Q => ∃ p q, Dp K H x p ∧ Dp K H y q ∧ ordOk p q = true ∧ Q (.bl (f p q)) H
theorem ordOk_ok {p q : PyData} (h : ordOk p q = true) : PySem.W.alike p q = true ∧ p.depth ≤ 64 ∧ p ≠ .none := by
  unfold ordOk at h
  simp only [Bool.and_eq_true, decide_eq_true_eq] at h
  obtain ⟨h1, h2, h3⟩ := h
  refine ⟨h1, h2, fun e => ?_⟩
  subst e
  cases h3
section
variable {X : Cx}
theorem op_cmpD {op : CmpOp} {f : PyData → PyData → Bool} (hu : X.A.units + 65 < cLine) (h : ∀ (da db : PyData) (A : Around) (s : Shared) (a b : Value) (as bs : List Addr), Reads s.heap a da as → Reads s.heap b db bs → PySem.W.alike da db = true → da ≠ .none → A.units + min da.depth db.depth < cLine →
    ∀ (prog : Program) (w : World) (E : Value → Shared → Prop) (Q : Value → Shared → Prop), Q (.bool (f da db)) s → wpAny (model prog w) A (compareOp op a b) Q E s) : OpR X (compareOp op) (rCmpD op f X.K) := by
  intro pins s σ H x y v u Q I rx ry hh
  obtain ⟨p, q, h1, h2, h3, k⟩ := hh
  obtain ⟨g1, g2, g3⟩ := ordOk_ok h3
  obtain ⟨as, r1⟩ := Dp.reads I p x v h1 rx
  obtain ⟨bs, r2⟩ := Dp.reads I q y u h2 ry
  refine h p q X.A s v u as bs r1 r2 g1 g3 ?_ _ _ _ _ ⟨.bl _, H, I, rfl, k⟩
  have : min p.depth q.depth ≤ p.depth := Nat.min_le_left _ _
  omega
end
def gCmpD (f : PyData → PyData → Bool) : D → D → EH → Option D := fun x y hp => match toPh hp x, toPh hp y with
  | some p, some q => if ordOk p q = true then some (.bl (f p q)) else none
  | _, _ => none
theorem ops_cmpD {K : PySem.W.Frag} {op : CmpOp} {f : PyData → PyData → Bool} : OpS K (rCmpD op f K) (gCmpD f) := by
  intro F m H hp x y d e z r1 d1 d2 hz Q q
  unfold gCmpD at hz
  split at hz
  · rename_i p p' hp1 hq1
    split at hz
    · rename_i h
      cases hz
      exact ⟨p, p', dph_of r1 d1 hp1, dph_of r1 d2 hq1, h, q _ F H Nx.refl r1 (.bl _)⟩
    · cases hz
  · cases hz
/-- ints at once, else data -/
def gLtA : D → D → EH → Option D := fun x y hp => match gLt x y hp with | some z => some z | none => gCmpD (fun p q => PySem.W.dataLt p q) x y hp
def gLeA : D → D → EH → Option D := fun x y hp => match gLe x y hp with | some z => some z | none => gCmpD (fun p q => !PySem.W.dataLt q p) x y hp
def gGtA : D → D → EH → Option D := fun x y hp => match gGt x y hp with | some z => some z | none => gCmpD (fun p q => PySem.W.dataLt q p) x y hp
def gGeA : D → D → EH → Option D := fun x y hp => match gGe x y hp with | some z => some z | none => gCmpD (fun p q => !PySem.W.dataLt p q) x y hp
section
variable {ι : Type} {X : ι → Cx} {K : PySem.W.Frag} {mg : Str → Option Value} {W : WX} {a b : Expr} {fa fb : FE} {pos : Pos} {P : Program} {w : World} {base : Heap} {kk : Nat}
theorem se_ltA (hF : Fam X K mg) (hC : Cal X P w base kk W) (ha : SE X K mg W a fa) (hb : SE X K mg W b fb) : SE X K mg W (.Compare a [.Lt] [b] pos) (eBin gLtA fa fb) :=
  se_cmp (fun j => op_lt.or (by rw [← hF.k j]; exact op_cmpD (room65 (hC.r j)) (fun da db A s a b as bs r1 r2 g1 g2 g3 prog w E Q q => PySem.W.rcLt_alike da db A s a b as bs r1 r2 g1 g2 g3 prog w E Q q))) (ops_B0.or ops_cmpD) ha hb (nomark _)
theorem st_ltA (hF : Fam X K mg) (hC : Cal X P w base kk W) (ha : SE X K mg W a fa) (hb : SE X K mg W b fb) : ST X K mg W (.Compare a [.Lt] [b] pos) (MP.tB (eBin gLtA fa fb)) :=
  st_cmp (fun j => op_lt.or (by rw [← hF.k j]; exact op_cmpD (room65 (hC.r j)) (fun da db A s a b as bs r1 r2 g1 g2 g3 prog w E Q q => PySem.W.rcLt_alike da db A s a b as bs r1 r2 g1 g2 g3 prog w E Q q))) (ops_B0.or ops_cmpD) ha hb (nomark _)
theorem se_leA (hF : Fam X K mg) (hC : Cal X P w base kk W) (ha : SE X K mg W a fa) (hb : SE X K mg W b fb) : SE X K mg W (.Compare a [.LtE] [b] pos) (eBin gLeA fa fb) :=
  se_cmp (fun j => op_le.or (by rw [← hF.k j]; exact op_cmpD (room65 (hC.r j)) (fun da db A s a b as bs r1 r2 g1 g2 g3 prog w E Q q => PySem.W.rcLe_alike da db A s a b as bs r1 r2 g1 g2 g3 prog w E Q q))) (ops_B0.or ops_cmpD) ha hb (nomark _)
theorem st_leA (hF : Fam X K mg) (hC : Cal X P w base kk W) (ha : SE X K mg W a fa) (hb : SE X K mg W b fb) : ST X K mg W (.Compare a [.LtE] [b] pos) (MP.tB (eBin gLeA fa fb)) :=
  st_cmp (fun j => op_le.or (by rw [← hF.k j]; exact op_cmpD (room65 (hC.r j)) (fun da db A s a b as bs r1 r2 g1 g2 g3 prog w E Q q => PySem.W.rcLe_alike da db A s a b as bs r1 r2 g1 g2 g3 prog w E Q q))) (ops_B0.or ops_cmpD) ha hb (nomark _)
theorem se_gtA (hF : Fam X K mg) (hC : Cal X P w base kk W) (ha : SE X K mg W a fa) (hb : SE X K mg W b fb) : SE X K mg W (.Compare a [.Gt] [b] pos) (eBin gGtA fa fb) :=
  se_cmp (fun j => op_gt.or (by rw [← hF.k j]; exact op_cmpD (room65 (hC.r j)) (fun da db A s a b as bs r1 r2 g1 g2 g3 prog w E Q q => PySem.W.rcGt_alike da db A s a b as bs r1 r2 g1 g2 g3 prog w E Q q))) (ops_B0.or ops_cmpD) ha hb (nomark _)
theorem st_gtA (hF : Fam X K mg) (hC : Cal X P w base kk W) (ha : SE X K mg W a fa) (hb : SE X K mg W b fb) : ST X K mg W (.Compare a [.Gt] [b] pos) (MP.tB (eBin gGtA fa fb)) :=
  st_cmp (fun j => op_gt.or (by rw [← hF.k j]; exact op_cmpD (room65 (hC.r j)) (fun da db A s a b as bs r1 r2 g1 g2 g3 prog w E Q q => PySem.W.rcGt_alike da db A s a b as bs r1 r2 g1 g2 g3 prog w E Q q))) (ops_B0.or ops_cmpD) ha hb (nomark _)
theorem se_geA (hF : Fam X K mg) (hC : Cal X P w base kk W) (ha : SE X K mg W a fa) (hb : SE X K mg W b fb) : SE X K mg W (.Compare a [.GtE] [b] pos) (eBin gGeA fa fb) :=
  se_cmp (fun j => op_ge.or (by rw [← hF.k j]; exact op_cmpD (room65 (hC.r j)) (fun da db A s a b as bs r1 r2 g1 g2 g3 prog w E Q q => PySem.W.rcGe_alike da db A s a b as bs r1 r2 g1 g2 g3 prog w E Q q))) (ops_B0.or ops_cmpD) ha hb (nomark _)
theorem st_geA (hF : Fam X K mg) (hC : Cal X P w base kk W) (ha : SE X K mg W a fa) (hb : SE X K mg W b fb) : ST X K mg W (.Compare a [.GtE] [b] pos) (MP.tB (eBin gGeA fa fb)) :=
  st_cmp (fun j => op_ge.or (by rw [← hF.k j]; exact op_cmpD (room65 (hC.r j)) (fun da db A s a b as bs r1 r2 g1 g2 g3 prog w E Q q => PySem.W.rcGe_alike da db A s a b as bs r1 r2 g1 g2 g3 prog w E Q q))) (ops_B0.or ops_cmpD) ha hb (nomark _)
end
end MP
end

section
set_option maxRecDepth 100000
set_option maxHeartbeats 1000000
/-! MP19: a tuple of numbers that the module names. -/
namespace MP
open PySem PySem.Spec PyProof.Rows L2 MX
variable [WW] [FV]
/-- these values are these ints -/
def intsB : List Value → List Int → Bool
  | [], [] => true
  | .int i _ :: vs, j :: js => decide (i = j) && intsB vs js
  | _, _ => false
theorem intsB_ok : ∀ {vs : List Value} {js : List Int}, intsB vs js = true → Vals (js.map V.int) vs
  | [], [], _ => .nil
  | [], _ :: _, h => by simp [intsB] at h
  | v :: vs, [], h => by cases v <;> simp [intsB] at h
  | v :: vs, j :: js, h => by
    cases v with
    | int i t =>
      have h' : i = j ∧ intsB vs js = true := by simpa [intsB] using h
      obtain ⟨rfl, h2⟩ := h'
      exact .cons ⟨t, rfl⟩ (intsB_ok h2)
    | _ => simp [intsB] at h
/-- the written tuple at a holds these numbers -/
def tupB (K : PySem.W.Frag) (a : Addr) (js : List Int) : Bool := match K.lookup a with
  | some ⟨.type "tuple", _, .seq its _, _⟩ => decide (its.size ≤ 1000) && intsB its.toList js
  | _ => false
theorem tupB_ok {K : PySem.W.Frag} {a : Addr} {js : List Int} (h : tupB K a js = true) : SqT K (fun _ => none) a (js.map V.int) := by
  unfold tupB at h
  split at h
  · rename_i d its n sl hl
    rw [Bool.and_eq_true, decide_eq_true_eq] at h
    exact .inr ⟨_, its, n, hl, rfl, rfl, by rw [sizeLine_eq]; omega, intsB_ok h.2⟩
  · cases h
theorem dns_ints {K : PySem.W.Frag} {F : Hp} {m : List Addr} : ∀ l : List Int, Dns K F m (l.map V.int) (l.map D.int)
  | [] => .nil
  | i :: l => .cons (.int i) (dns_ints l)
section
variable {ι : Type} {X : ι → Cx} {K : PySem.W.Frag} {mg : Str → Option Value} {W : WX} {pos : Pos}
theorem se_globT {x : Str} {js : List Int} (hF : Fam X K mg) (g : ∃ a, mg x = some (.ref a) ∧ tupB K a js = true) (hg : ∀ j, Gl (X j) x) (hdb : (x == ("__debug__" : Str)) = false := by decide) : SE X K mg W (.Name x pos) (ret (.tup (js.map .int))) := by
  obtain ⟨a, g, h⟩ := g
  exact se_glob (v := .ref a) hg (fun j => by rw [hF.g j]; exact g) rfl (.tup (tupB_ok h) (dns_ints js)) hdb
end
end MP
end

section
set_option maxRecDepth 100000
set_option maxHeartbeats 2000000
/-! MP20: list comprehensions of two fors. -/
namespace MP
open PySem PySem.Spec PyProof.Rows L2 MX
variable [WW] [FV]
section
variable {K : PySem.W.Frag} {F F' F1 F2 Fs : Hp} {m m' m1 m2 ms : List Addr} {H H' H1 H2 : Hp} {hp hp' hp1 hp2 : EH} {σ : L2.St} {env : Ev} {Dl : Addr} {ws : List V}
theorem En.mono2 (s : Same F F') (p : m <+: m') (e : En K F m σ env) : En K F' m' σ env := ⟨e.len, fun i d h => by
  obtain ⟨v, q1, q2⟩ := e.get i d h
  exact ⟨v, q1, q2.mono s p⟩, e.fn, FV.mono _ _ _ _ s p e.nd⟩
/-- in a comprehension: the list at Dl that grows is not known to the plain world; H: before it came; Fs, ms: when the source came -/
structure LcS (K : PySem.W.Frag) (F : Hp) (m : List Addr) (H : Hp) (Fs : Hp) (ms : List Addr) (Dl : Addr) (F1 : Hp) (m1 : List Addr) (H1 : Hp) (hp1 : EH) (ws : List V) : Prop where
  r : R K F1 m1 H1 hp1
  n : Nx F m H F1 m1 H1
  d : H1 Dl = some (.lst ws)
  nm : Dl ∉ m1
  nf : F1 Dl = none
  sf : Same Fs F1
  sp : ms <+: m1
theorem LcS.mv (s : LcS K F m H Fs ms Dl F1 m1 H1 hp1 ws) (n2 : Nx F1 m1 H1 F2 m2 H2) (r2 : R K F2 m2 H2 hp2) : LcS K F m H Fs ms Dl F2 m2 H2 hp2 ws where
  r := r2
  n := s.n.trans n2
  d := n2.kp _ _ s.d s.nm (by intro _ z; cases z)
  nm := fun hm => by
    rcases n2.nw Dl hm with z | z
    · exact s.nm z
    · rw [s.d] at z; cases z
  nf := by
    cases z : F2 Dl with
    | none => rfl
    | some o =>
      rcases n2.nf Dl o z with z' | z' | ⟨q', z'⟩
      · rw [s.nf] at z'; cases z'
      · rw [s.d] at z'; cases z'
      · have y := r2.sub _ _ z
        rw [n2.kp _ _ s.d s.nm (by intro _ z; cases z), z'] at y
        unfold LamX.CodeO at y
        cases y
  sf := s.sf.trans n2.fz
  sp := s.sp.trans n2.pre
theorem LcS.app (s : LcS K F m H Fs ms Dl F1 m1 H1 hp1 ws) (hH : H Dl = none) (v : V) : LcS K F m H Fs ms Dl F1 m1 (upd H1 Dl (.lst (ws ++ [v]))) hp1 (ws ++ [v]) where
  r := ⟨fun b o q => by rw [upd_ne (fun z => by rw [z, s.nf] at q; cases q)]; exact s.r.sub _ _ q, s.r.len, s.r.nod, s.r.fre, fun j b es q1 q2 => by
    obtain ⟨us, q3, q4⟩ := s.r.obj j b es q1 q2
    exact ⟨us, by rw [upd_ne (fun z => s.nm (by rw [← z]; exact List.mem_of_getElem? q1))]; exact q3, q4⟩, tabs_write s.r.tab s.d, s.r.ntb⟩
  n := ⟨s.n.fz, s.n.pre, fun b o q qn qt => by rw [upd_ne (fun z => by rw [z, hH] at q; cases q)]; exact s.n.kp _ _ q qn qt, s.n.nw, s.n.nf, fun b o q => by
    rw [upd_ne (fun z => by rw [z, hH] at q; cases q)]; exact s.n.tr _ _ q⟩
  d := upd_same
  nm := s.nm
  nf := s.nf
  sf := s.sf
  sp := s.sp
theorem wipe_wipe (σ : L2.St) (vs : List Nat) : wipe (wipe σ vs) vs = wipe σ vs := by
  apply List.ext_getElem?
  intro i
  rw [wipe_get, wipe_get]
  by_cases h : i ∈ vs
  · simp only [h, if_true]
    cases σ[i]? <;> rfl
  · simp only [h, if_false]
end
section
variable {ι : Type} {X : ι → Cx} {K : PySem.W.Frag} {mg : Str → Option Value} {W : WX} {F F' F1 Fs : Hp} {m m' m1 ms : List Addr} {H H' H1 : Hp} {hp hp' hp1 : EH}
/-- the turns of one for, from any state of the list that grows -/
theorem lc_turnsG {J : It} {tgt : TG} {tt : TT} {te : TE} {g : D → Ev → Option Ev} {t : FT} {f : FE} {vs js : List Nat} {ds : List D} {chk : EH → Bool} {σ : L2.St} {env : Ev} {Dl : Addr} {ys zs0 : List D} {ws0 : List V}
    (hjs : ∀ j, j ∈ js → j ∈ vs) (hfs : ∀ i ∈ vs, i ∉ FV.slots)
    (qg : ∀ v d σ H env (hp : EH) F m, R K F m H hp → En K F m σ env → Dn K F m v d → ∀ env', g d env = some env' → ∀ Q : L2.St → Hp → Prop, (∀ σ', En K F m σ' env' → (∀ vs : List Nat, (∀ j, j ∈ js → j ∈ vs) → wipe σ' vs = wipe σ vs) → Q σ' H) → tgt v σ H Q)
    (qt : ∀ σ H env hp F m, R K F m H hp → En K F m σ env → ∀ r hp', t env hp = some (r, hp') → ∀ Q, OutT K mg WF F m σ H hp' Q r → tt σ H Q)
    (qe : ∀ σ H env hp F m, R K F m H hp → En K F m σ env → ∀ r hp', f env hp = some (r, hp') → ∀ Q, OutE K mg WF F m σ H hp' Q r → te σ H Q)
    (ok : ItOk K Fs ms J ds chk) (n : En K Fs ms σ env) (hH : H Dl = none) (s0 : LcS K F m H Fs ms Dl F1 m1 H1 hp1 ws0) (d0 : Dns K F1 m1 ws0 zs0)
    (e : lcRun g chk t f (wipeE env vs) ds hp1 = some (ys, hp')) (hl : (zs0 ++ ys).length ≤ 16777216) {Q : Hp → Prop}
    (q : ∀ ws F' m' H', LcS K F m H Fs ms Dl F' m' H' hp' ws → Dns K F' m' ws (zs0 ++ ys) → Q H') :
    ∃ Wx : Nat → Nat → Hp → Prop, (∃ k, Wx 0 k H1) ∧ ∀ i k H, Wx i k H → (J.stop i H ∧ Q H) ∨ (J.go i H ∧ ∃ Nxt : Hp → Prop, (∀ H', Nxt H' → ∃ k', k' < k ∧ Wx (i + 1) k' H') ∧
      ∀ x H', J.yld i H x H' → tgt x (wipe σ vs) H' fun σ2 H2 => wipe σ2 vs = wipe σ vs ∧ tt σ2 H2 fun b H3 => if b = true then te σ2 H3 fun y H4 => ∃ acc, H4 Dl = some (.lst acc) ∧ acc.length < sizeLine ∧ Nxt (upd H4 Dl (.lst (acc ++ [y]))) else Nxt H3) := by
  refine ⟨fun i k H1 => k = ds.length - i ∧ i ≤ ds.length ∧ ∃ F1 m1 hp1 ws zs rest, LcS K F m H Fs ms Dl F1 m1 H1 hp1 ws ∧ Dns K F1 m1 ws zs ∧ lcRun g chk t f (wipeE env vs) (ds.drop i) hp1 = some (rest, hp') ∧ zs ++ rest = zs0 ++ ys,
    ⟨ds.length, by simp, Nat.zero_le _, F1, m1, hp1, ws0, zs0, ys, s0, d0, e, rfl⟩, ?_⟩
  rintro i k G1 ⟨rfl, hi, A1, a1, hq1, ws, zs, rest, hS, dz, er, ez⟩
  by_cases hlt : i < ds.length
  · right
    rw [List.drop_eq_getElem_cons hlt] at er
    have ck : chk hq1 = true := by
      unfold lcRun at er
      by_cases c : chk hq1 = true
      · exact c
      · rw [if_neg c] at er; cases er
    refine ⟨ok.go i A1 a1 G1 hq1 hS.sf hS.sp hS.r ck hlt, ?_⟩
    unfold lcRun at er
    rw [if_pos ck] at er
    refine ⟨fun G2 => ∃ F2 m2 hp2 ws2 zs2 rest2, LcS K F m H Fs ms Dl F2 m2 G2 hp2 ws2 ∧ Dns K F2 m2 ws2 zs2 ∧ lcRun g chk t f (wipeE env vs) (ds.drop (i + 1)) hp2 = some (rest2, hp') ∧ zs2 ++ rest2 = zs0 ++ ys,
      fun G2 h2 => ⟨ds.length - (i + 1), by omega, rfl, hlt, h2⟩, fun x G2 y => ?_⟩
    obtain ⟨d, F2, hd, n2, r2, dd⟩ := ok.yld i A1 a1 G1 hq1 x G2 hS.sf hS.sp hS.r ck hlt y
    have hd' : ds[i] = d := by
      rw [List.getElem?_eq_getElem hlt] at hd
      exact Option.some.inj hd
    rw [hd'] at er
    have S2 := hS.mv n2 r2
    split at er
    · cases er
    · rename_i env1 hg
      refine qg x d (wipe σ vs) G2 (wipeE env vs) hq1 F2 a1 r2 (En.mono2 S2.sf S2.sp (n.wipe vs hfs)) dd env1 hg _ fun σ2 e2 w2 => ?_
      refine ⟨(w2 vs hjs).trans (wipe_wipe σ vs), ?_⟩
      cases ht : t env1 hq1 with
      | none => rw [ht] at er; cases er
      | some p =>
        obtain ⟨rb, hp2⟩ := p
        rw [ht] at er
        cases rb with
        | exc x => cases er
        | val b =>
          refine qt σ2 G2 env1 hq1 F2 a1 r2 e2 _ _ ht _ fun F3 m3 H3 n3 r3 => ?_
          have S3 := S2.mv n3 r3
          cases b with
          | false =>
            simp only [Bool.false_eq_true, if_false]
            exact ⟨F3, m3, hp2, ws, zs, rest, S3, (dz.mono n2.fz n2.pre).mono n3.fz n3.pre, er, ez⟩
          | true =>
            simp only [if_true]
            simp only at er
            cases hf : f env1 hp2 with
            | none => rw [hf] at er; cases er
            | some p =>
              obtain ⟨ry, hp3⟩ := p
              rw [hf] at er
              cases ry with
              | exc x => cases er
              | val y =>
                simp only at er
                refine qe σ2 H3 env1 hp2 F3 m3 r3 (e2.mono n3) _ _ hf _ fun yv F4 m4 H4 n4 r4 dy => ?_
                have S4 := S3.mv n4 r4
                cases hr : lcRun g chk t f (wipeE env vs) (ds.drop (i + 1)) hp3 with
                | none => rw [hr] at er; cases er
                | some p =>
                  obtain ⟨rest2, hp4⟩ := p
                  rw [hr] at er
                  cases er
                  have dz4 := (((dz.mono n2.fz n2.pre).mono n3.fz n3.pre).mono n4.fz n4.pre)
                  have hlen : ws.length < sizeLine := by
                    have h1 := congrArg List.length ez
                    simp at h1
                    simp at hl
                    rw [dz.length, line16]
                    omega
                  exact ⟨ws, S4.d, hlen, F4, m4, hp3, ws ++ [yv], zs ++ [y], rest2, S4.app hH yv, dz4.append (.cons dy .nil), hr, by rw [← ez]; simp⟩
  · left
    have ei : i = ds.length := by omega
    subst ei
    rw [List.drop_length] at er
    unfold lcRun at er
    by_cases ck : chk hq1 = true
    · rw [if_pos ck] at er
      cases er
      rw [List.append_nil] at ez
      rw [ez] at dz
      exact ⟨ok.stop A1 a1 G1 _ hS.sf hS.sp hS.r ck, q ws A1 a1 G1 hS dz⟩
    · rw [if_neg ck] at er; cases er
/-- the outer for's turns -/
def lcRun2 (g : D → Ev → Option Ev) (chk : EH → Bool) (t : FT) (src1 : FI) (g1 : D → Ev → Option Ev) (vs1 : List Nat) (t1 : FT) (f : FE) (env : Ev) : List D → EH → Option (List D × EH)
  | [], hp => if chk hp = true then some ([], hp) else none
  | d :: ds, hp => if chk hp = true then match g d env with
    | none => none
    | some env1 => match t env1 hp with
      | some (.val true, hp1) => match src1 env1 hp1 with
        | some (.val p, hp2) => match lcRun g1 p.2 t1 f (wipeE env1 vs1) p.1 hp2 with
          | some (ys, hp3) => match lcRun2 g chk t src1 g1 vs1 t1 f env ds hp3 with
            | some (zs, hp4) => some (ys ++ zs, hp4)
            | none => none
          | none => none
        | _ => none
      | some (.val false, hp1) => lcRun2 g chk t src1 g1 vs1 t1 f env ds hp1
      | _ => none
    else none
def eLc2 (src : FI) (vs : List Nat) (g : D → Ev → Option Ev) (t : FT) (src1 : FI) (vs1 : List Nat) (g1 : D → Ev → Option Ev) (t1 : FT) (f : FE) : FE := bnd src fun p env hp => match lcRun2 g p.2 t src1 g1 vs1 t1 f (wipeE env vs) p.1 hp with
  | some (ys, hp') => if ys.length ≤ 16777216 then some (.val (.lst ys), hp') else none
  | none => none
theorem lc2_read {wi wi1 : TI} {tgt tgt1 : TG} {tt tt1 : TT} {te : TE} {vs vs1 js js1 : List Nat} {src src1 : FI} {g g1 : D → Ev → Option Ev} {ft ft1 : FT} {f : FE} (hjs : ∀ j, j ∈ js → j ∈ vs) (hjs1 : ∀ j, j ∈ js1 → j ∈ vs1) (hfs : ∀ i ∈ vs, i ∉ FV.slots) (hfs1 : ∀ i ∈ vs1, i ∉ FV.slots)
    (qi : ∀ σ H env hp F m, R K F m H hp → En K F m σ env → ∀ r hp', src env hp = some (r, hp') → ∀ Q, OutI K mg W F m σ H hp' Q r → wi σ H Q)
    (qg : ∀ v d σ H env (hp : EH) F m, R K F m H hp → En K F m σ env → Dn K F m v d → ∀ env', g d env = some env' → ∀ Q : L2.St → Hp → Prop, (∀ σ', En K F m σ' env' → (∀ vs : List Nat, (∀ j, j ∈ js → j ∈ vs) → wipe σ' vs = wipe σ vs) → Q σ' H) → tgt v σ H Q)
    (qt : ∀ σ H env hp F m, R K F m H hp → En K F m σ env → ∀ r hp', ft env hp = some (r, hp') → ∀ Q, OutT K mg WF F m σ H hp' Q r → tt σ H Q)
    (qi1 : ∀ σ H env hp F m, R K F m H hp → En K F m σ env → ∀ r hp', src1 env hp = some (r, hp') → ∀ Q, OutI K mg WF F m σ H hp' Q r → wi1 σ H Q)
    (qg1 : ∀ v d σ H env (hp : EH) F m, R K F m H hp → En K F m σ env → Dn K F m v d → ∀ env', g1 d env = some env' → ∀ Q : L2.St → Hp → Prop, (∀ σ', En K F m σ' env' → (∀ vs : List Nat, (∀ j, j ∈ js1 → j ∈ vs) → wipe σ' vs = wipe σ vs) → Q σ' H) → tgt1 v σ H Q)
    (qt1 : ∀ σ H env hp F m, R K F m H hp → En K F m σ env → ∀ r hp', ft1 env hp = some (r, hp') → ∀ Q, OutT K mg WF F m σ H hp' Q r → tt1 σ H Q)
    (qe : ∀ σ H env hp F m, R K F m H hp → En K F m σ env → ∀ r hp', f env hp = some (r, hp') → ∀ Q, OutE K mg WF F m σ H hp' Q r → te σ H Q)
    {σ : L2.St} {env : Ev} (r : R K F m H hp) (n : En K F m σ env) {r' : Res D} (e : eLc2 src vs g ft src1 vs1 g1 ft1 f env hp = some (r', hp')) {Q : VK} (q : OutE K mg W F m σ H hp' Q r') : tLc2 wi tgt tt wi1 tgt1 tt1 te vs vs1 σ H Q := by
  show wi σ H fun J H1 => _
  rcases bnd_val e with ⟨x, h1, rfl⟩ | ⟨p, hp1, h1, h2⟩
  · exact qi σ H env hp F m r n _ _ h1 _ q
  refine qi σ H env hp F m r n _ _ h1 _ fun J Fs ms Hs ns rs ok Dl nD => ?_
  cases hr : lcRun2 g p.2 ft src1 g1 vs1 ft1 f (wipeE env vs) p.1 hp1 with
  | none => rw [hr] at h2; cases h2
  | some w =>
    obtain ⟨ys, hpe⟩ := w
    rw [hr] at h2
    simp only at h2
    split at h2
    · rename_i hl
      cases h2
      obtain ⟨r0, n0⟩ := rs.loose (o := .lst []) nD
      have nm : Dl ∉ ms := fun hm => by
        obtain ⟨_, z⟩ := rs.there hm
        rw [nD] at z; cases z
      have S0 : LcS K Fs ms Hs Fs ms Dl Fs ms (upd Hs Dl (.lst [])) hp1 [] := ⟨r0, n0, upd_same, nm, rs.sub.free nD, Same.refl _, List.prefix_refl _⟩
      have nn := n.mono ns
      refine ⟨fun i k G1 => k = p.1.length - i ∧ i ≤ p.1.length ∧ ∃ F1 m1 hq ws zs rest, LcS K Fs ms Hs Fs ms Dl F1 m1 G1 hq ws ∧ Dns K F1 m1 ws zs ∧ lcRun2 g p.2 ft src1 g1 vs1 ft1 f (wipeE env vs) (p.1.drop i) hq = some (rest, hp') ∧ zs ++ rest = ys,
        ⟨p.1.length, by simp, Nat.zero_le _, Fs, ms, hp1, [], [], ys, S0, .nil, hr, rfl⟩, ?_⟩
      rintro i k G1 ⟨rfl, hi, A1, a1, hq1, ws, zs, rest, hS, dz, er, ez⟩
      by_cases hlt : i < p.1.length
      · right
        rw [List.drop_eq_getElem_cons hlt] at er
        have ck : p.2 hq1 = true := by
          unfold lcRun2 at er
          by_cases c : p.2 hq1 = true
          · exact c
          · rw [if_neg c] at er; cases er
        refine ⟨ok.go i A1 a1 G1 hq1 hS.sf hS.sp hS.r ck hlt, ?_⟩
        unfold lcRun2 at er
        rw [if_pos ck] at er
        refine ⟨fun G2 => ∃ F2 m2 hp2 ws2 zs2 rest2, LcS K Fs ms Hs Fs ms Dl F2 m2 G2 hp2 ws2 ∧ Dns K F2 m2 ws2 zs2 ∧ lcRun2 g p.2 ft src1 g1 vs1 ft1 f (wipeE env vs) (p.1.drop (i + 1)) hp2 = some (rest2, hp') ∧ zs2 ++ rest2 = ys,
          fun G2 h2 => ⟨p.1.length - (i + 1), by omega, rfl, hlt, h2⟩, fun x G2 y => ?_⟩
        obtain ⟨d, F2, hd, n2, r2, dd⟩ := ok.yld i A1 a1 G1 hq1 x G2 hS.sf hS.sp hS.r ck hlt y
        have hd' : p.1[i] = d := by
          rw [List.getElem?_eq_getElem hlt] at hd
          exact Option.some.inj hd
        rw [hd'] at er
        have S2 := hS.mv n2 r2
        split at er
        · cases er
        · rename_i env1 hg
          refine qg x d (wipe σ vs) G2 (wipeE env vs) hq1 F2 a1 r2 (En.mono2 S2.sf S2.sp (nn.wipe vs hfs)) dd env1 hg _ fun σ2 e2 w2 => ?_
          refine ⟨(w2 vs hjs).trans (wipe_wipe σ vs), ?_⟩
          cases ht : ft env1 hq1 with
          | none => rw [ht] at er; cases er
          | some p2 =>
            obtain ⟨rb, hp2⟩ := p2
            rw [ht] at er
            cases rb with
            | exc x => cases er
            | val b =>
              refine qt σ2 G2 env1 hq1 F2 a1 r2 e2 _ _ ht _ fun F3 m3 H3 n3 r3 => ?_
              have S3 := S2.mv n3 r3
              have dz3 := (dz.mono n2.fz n2.pre).mono n3.fz n3.pre
              cases b with
              | false =>
                simp only [Bool.false_eq_true, if_false]
                exact ⟨F3, m3, hp2, ws, zs, rest, S3, dz3, er, ez⟩
              | true =>
                simp only [if_true]
                simp only at er
                cases hs1 : src1 env1 hp2 with
                | none => rw [hs1] at er; cases er
                | some p3 =>
                  obtain ⟨rp, hp3⟩ := p3
                  rw [hs1] at er
                  cases rp with
                  | exc x => cases er
                  | val pp =>
                    simp only at er
                    refine qi1 σ2 H3 env1 hp2 F3 m3 r3 (e2.mono n3) _ _ hs1 _ fun J1 F4 m4 H4 n4 r4 ok1 => ?_
                    have S4 := S3.mv n4 r4
                    have dz4 := dz3.mono n4.fz n4.pre
                    cases hl1 : lcRun g1 pp.2 ft1 f (wipeE env1 vs1) pp.1 hp3 with
                    | none => rw [hl1] at er; cases er
                    | some p4 =>
                      obtain ⟨ys1, hp4⟩ := p4
                      rw [hl1] at er
                      simp only at er
                      cases hr2 : lcRun2 g p.2 ft src1 g1 vs1 ft1 f (wipeE env vs) (p.1.drop (i + 1)) hp4 with
                      | none => rw [hr2] at er; cases er
                      | some p5 =>
                        obtain ⟨zs5, hp5⟩ := p5
                        rw [hr2] at er
                        cases er
                        have S4' : LcS K Fs ms Hs F4 m4 Dl F4 m4 H4 hp3 ws := ⟨S4.r, S4.n, S4.d, S4.nm, S4.nf, Same.refl _, List.prefix_refl _⟩
                        refine lc_turnsG (F := Fs) (m := ms) (H := Hs) (js := js1) hjs1 hfs1 qg1 qt1 qe ok1 ((e2.mono n3).mono n4) nD S4' dz4 hl1 ?_ fun ws5 F5 m5 H5 s5 d5 => ?_
                        · have z := congrArg List.length ez
                          simp at z ⊢
                          omega
                        · exact ⟨F5, m5, hp4, ws5, zs ++ ys1, zs5, ⟨s5.r, s5.n, s5.d, s5.nm, s5.nf, S4.sf.trans s5.sf, S4.sp.trans s5.sp⟩, d5, hr2, by rw [← ez]; simp⟩
      · left
        have ei : i = p.1.length := by omega
        subst ei
        rw [List.drop_length] at er
        unfold lcRun2 at er
        by_cases ck : p.2 hq1 = true
        · rw [if_pos ck] at er
          cases er
          rw [List.append_nil] at ez
          rw [ez] at dz
          refine ⟨ok.stop A1 a1 G1 _ hS.sf hS.sp hS.r ck, ?_⟩
          obtain ⟨r3, n3, s3⟩ := hS.r.freeze hS.n hS.d hS.nm hS.nf (.inl nD)
          exact q _ _ a1 G1 (ns.trans n3) r3 (.lst upd_same (dz.mono s3 (List.prefix_refl _)))
        · rw [if_neg ck] at er; cases er
    · cases h2
theorem se_lc2 {elt tg iter tg1 iter1 : Expr} {ifs ifs1 : List Expr} {scope : Scope} {own : List (Str × Nat)} {vs1 js js1 : List Nat} {pos : Pos} {src src1 : FI} {g g1 : D → Ev → Option Ev} {ft ft1 : FT} {f : FE}
    (hF : Fam X K mg) (hi : SI X K mg W tg iter src) (ok : ∀ j, BlkOk (X j).N (X j).env.scope scope own) (hjs : ∀ j, j ∈ js → j ∈ own.map (·.2)) (hjs1 : ∀ j, j ∈ js1 → j ∈ vs1) (hv : ∀ i ∈ vs1, i ∈ own.map (·.2))
    (hg : SG (blkF X scope) K tg js g) (ht : STs (blkF X scope) K mg WF ifs ft) (hi1 : SI (blkF X scope) K mg WF tg1 iter1 src1) (hg1 : SG (blkF X scope) K tg1 js1 g1) (ht1 : STs (blkF X scope) K mg WF ifs1 ft1) (he : SE (blkF X scope) K mg WF elt f)
    (hs : ∀ j x, foldedSetIterable iter (X j).env x = pure x := by intro _ _; rfl) (hs1 : ∀ env x, foldedSetIterable iter1 env x = pure x := by intro _ _; rfl) (hfs : ∀ i ∈ own.map (·.2), i ∉ FV.slots := by first | decide | simp +zetaDelta [FV.slots]) :
    SE X K mg W (.ListComp elt [⟨tg, iter, ifs, 0⟩, ⟨tg1, iter1, ifs1, 0⟩] scope pos) (eLc2 src (own.map (·.2)) g ft src1 vs1 g1 ft1 f) := by
  obtain ⟨wi, pi, qi⟩ := hi.ex
  obtain ⟨tgt, pg, qg⟩ := hg.ex
  obtain ⟨tt, pt, qt⟩ := ht.ex
  obtain ⟨wi1, pi1, qi1⟩ := hi1.ex
  obtain ⟨tgt1, pg1, qg1⟩ := hg1.ex
  obtain ⟨tt1, pt1, qt1⟩ := ht1.ex
  obtain ⟨te, pe, qe⟩ := he.ex
  exact ⟨⟨_, fun j => pe_lc2 (hF.calm j) (hF.nd j) (pi j) (ok j) hv (fun s H C cl fp => pg (j, s, H, C, cl, fp)) (fun s H C cl fp => pt (j, s, H, C, cl, fp)) (fun s H C cl fp => pi1 (j, s, H, C, cl, fp)) (fun s H C cl fp => pg1 (j, s, H, C, cl, fp)) (fun s H C cl fp => pt1 (j, s, H, C, cl, fp))
    (fun s H C cl fp => pe (j, s, H, C, cl, fp)) (hs j) hs1, fun σ H env hp F m r n r' hp' e Q q => lc2_read hjs hjs1 hfs (fun i hi => hfs i (hv i hi)) qi qg qt qi1 qg1 qt1 qe r n e q⟩⟩
end
end MP
end

section
set_option maxRecDepth 100000
set_option maxHeartbeats 2000000
/-! MP21: (a, *b): a display with a star. -/
namespace MP
open PySem PySem.Spec PyProof.Rows L2 MX
variable [WW] [FV]
section
variable {X : Cx} {e : Expr} {es : List Expr} {te : TE} {t : TA} {p : Pos}
def tStar (K : PySem.W.Frag) (te : TE) (tr : TA) : TA := fun σ H Q => te σ H fun x H1 => ∃ a ys, x = .ref a ∧ (SqL K H1 a ys ∨ SqT K H1 a ys) ∧ tr σ H1 fun xs H2 => Q (ys ++ xs) H2
theorem pa_star (ha : PE X e te) (hr : PA X es t) (hs : starEach (.Starred e p :: es) X.env = (true, eval e X.env) :: starEach es X.env := by rfl) : PA X (.Starred e p :: es) (tStar X.K te t) := by
  refine ⟨fun pos pins s σ H Q I h => ?_⟩
  refine PySem.W.items_star (thn (ha.run pins s σ H _ I h) fun u s1 ⟨x, H1, I1, r1, a, ys, ex, hq, q1⟩ => ?_) hs
  subst ex
  cases r1
  have fin : ∀ (its : List Value), Vals ys its → ∀ (h' : Heap), (∀ b o', s1.heap.get? b = some o' → h'.get? b = some o') →
      wpAny (model X.prog X.w) X.A (spliced (backTo pos (starEach es X.env))) (fun vs s3 => AP X pins σ Q (its ++ vs) s3) X.xe { s1 with heap := h' } := fun its r' h' kp => by
    have I2 : Inv X pins σ H1 { s1 with heap := h' } := I1.kept (t' := s1.toks) kp
    exact thn (hr.run pos pins _ σ H1 _ I2 q1) fun us s2 ⟨xs, H2, I3, r2, q2⟩ => ⟨ys ++ xs, H2, I3, r'.append r2, q2⟩
  unfold PySem.W.StarOf notIterableAtAll
  rcases hq with hq | hq
  · obtain ⟨its, r', pl, hz⟩ := I1.list hq
    have hlen := r'.length
    obtain ⟨o, ho, hc, n, hd⟩ := pl.isList
    refine wpAny_bind (wpAny_specialOf ⟨o, ho, hc⟩ PySem.F.slot_list_iter.lookup (wpAny_pure ⟨rfl, ?_⟩))
    exact wpAny_collect_seq a (.inl rfl) ho hc hd (fun h' kp => by simpa using fin its r' h' kp) (by simp only [List.size_toArray] <;> omega)
  · obtain ⟨its, r', pl, hz⟩ := I1.tuple hq
    have hlen := r'.length
    obtain ⟨o, ho, hc, n, hd⟩ := pl
    refine wpAny_bind (wpAny_specialOf ⟨o, ho, hc⟩ PySem.F.slot_tuple_iter.lookup (wpAny_pure ⟨rfl, ?_⟩))
    exact wpAny_collect_seq a (.inr rfl) ho hc hd (fun h' kp => by simpa using fin its r' h' kp) (by simp only [List.size_toArray] <;> omega)
end
def aStar (f : FE) (g : FA) : FA := bnd f fun d env hp => match asQ hp d with
  | some xs => bnd g (fun ds => ret (xs ++ ds)) env hp
  | none => none
section
variable {ι : Type} {X : ι → Cx} {K : PySem.W.Frag} {mg : Str → Option Value} {W : WX} {e : Expr} {es : List Expr} {fa : FE} {ga : FA} {p : Pos}
theorem sa_star (hF : Fam X K mg) (ha : SE X K mg W e fa) (hr : SA X K mg W es ga) (hs : ∀ j, starEach (.Starred e p :: es) (X j).env = (true, eval e (X j).env) :: starEach es (X j).env := by intro _; rfl) : SA X K mg W (.Starred e p :: es) (aStar fa ga) := by
  obtain ⟨ta, pa, qa⟩ := ha.ex
  obtain ⟨tr, pr, qr⟩ := hr.ex
  refine ⟨⟨tStar K ta tr, fun j => by rw [← hF.k j]; exact pa_star (pa j) (pr j) (hs j), fun σ H env hp F m r n r' hp' e Q q => ?_⟩⟩
  rcases bnd_val e with ⟨x, h1, rfl⟩ | ⟨d, hp1, h1, h2⟩
  · exact qa σ H env hp F m r n _ _ h1 _ q
  · refine qa σ H env hp F m r n _ _ h1 _ fun v F1 m1 H1 n1 r1 d1 => ?_
    split at h2
    · rename_i xs hx
      obtain ⟨a, ws, ev, q1, q2⟩ := sq_of r1 d1 hx
      refine ⟨a, ws, ev, q1, ?_⟩
      rcases bnd_val h2 with ⟨x, h3, rfl⟩ | ⟨ds, hp2, h3, h4⟩
      · exact qr σ H1 env hp1 F1 m1 r1 (n.mono n1) _ _ h3 _ (OutA.nx n1 q)
      · cases h4
        exact qr σ H1 env hp1 F1 m1 r1 (n.mono n1) _ _ h3 _ fun vs F2 m2 H2 n2 r2 d2 => q _ F2 m2 H2 (n1.trans n2) r2 (Dns.append (q2.mono n2.fz n2.pre) d2)
    · cases h2
end
end MP
end

section
set_option maxRecDepth 100000
set_option maxHeartbeats 2000000
/-! MP22: set(xs), x in s, sorted(xs): by values. -/
namespace MP
open PySem PySem.Spec PyProof.Rows L2 MX PySem.W
variable [WW] [FV]
section
variable {K : PySem.W.Frag} {F : Hp} {m : List Addr} {H : Hp} {hp : EH}
/-! ### keys -/
mutual
theorem key_toP : ∀ {d : D} {k : NestedKey}, d.key = some k → d.toP = some k.data
  | .non, k, e => by simp [D.key] at e; subst e; simp [D.toP, NestedKey.data]
  | .int i, k, e => by simp [D.key] at e; subst e; simp [D.toP, NestedKey.data]
  | .tup xs, k, e => by
    simp only [D.key] at e
    split at e
    · rename_i ks h
      cases e
      simp only [D.toP, keys_toPs h, NestedKey.data]
    · cases e
  | .bl _, k, e => by simp [D.key] at e
  | .str _, k, e => by simp [D.key] at e
  | .lst _, k, e => by simp [D.key] at e
  | .scr _, k, e => by simp [D.key] at e
  | .obj _, k, e => by simp [D.key] at e
  | .err _ _ _, k, e => by simp [D.key] at e
  | .xcp _ _ _ _, k, e => by simp [D.key] at e
  | .set _, k, e => by simp [D.key] at e
  | .ist _, k, e => by simp [D.key] at e
  | .dic0, k, e => by simp [D.key] at e
theorem keys_toPs : ∀ {ds : List D} {ks : List NestedKey}, D.keys ds = some ks → D.toPs ds = some (NestedKey.datas ks)
  | [], ks, e => by simp [D.keys] at e; subst e; simp [D.toPs, NestedKey.datas]
  | d :: ds, ks, e => by
    simp only [D.keys] at e
    split at e
    · rename_i k ks' h1 h2
      cases e
      simp only [D.toPs, key_toP h1, keys_toPs h2, NestedKey.datas]
    · cases e
end
theorem keys_len : ∀ {ds : List D} {ks : List NestedKey}, D.keys ds = some ks → ks.length = ds.length
  | [], ks, e => by simp [D.keys] at e; subst e; rfl
  | d :: ds, ks, e => by
    simp only [D.keys] at e
    split at e
    · rename_i k ks' h1 h2
      cases e
      simp [keys_len h2]
    · cases e
theorem keys_zip : ∀ {ds : List D} {ks : List NestedKey}, D.keys ds = some ks → ∀ p ∈ ds.zip ks, p.1.key = some p.2
  | [], ks, e, p, hp => by simp at hp
  | d :: ds, ks, e, p, hp => by
    simp only [D.keys] at e
    split at e
    · rename_i k ks' h1 h2
      cases e
      rcases List.mem_cons.mp hp with rfl | hp
      · exact h1
      · exact keys_zip h2 p hp
    · cases e
theorem keys_of_all : ∀ {l : List (D × NestedKey)}, (∀ p ∈ l, p.1.key = some p.2) → D.keys (l.map (·.1)) = some (l.map (·.2))
  | [], _ => by simp [D.keys]
  | p :: l, h => by
    simp only [List.map_cons, D.keys, h p List.mem_cons_self, keys_of_all (l := l) fun q hq => h q (List.mem_cons_of_mem _ hq)]
/-- may stand in a set, beside others: a tuple -/
def setK (d : D) (k : NestedKey) : Bool := (match d with | .tup _ => true | _ => false) && (decide (k.depth ≤ 8) && intK k)
/-- the ints of a list -/
def asI : List D → Option (List Int)
  | [] => some []
  | .int i :: xs => match asI xs with
    | some is => some (i :: is)
    | none => none
  | _ :: _ => none
theorem asI_eq : ∀ {xs : List D} {is : List Int}, asI xs = some is → xs = is.map D.int
  | [], is, e => by simp [asI] at e; subst e; rfl
  | x :: xs, is, e => by
    cases x with
    | int i =>
      simp only [asI] at e
      split at e
      · rename_i js h
        cases e
        rw [asI_eq h]
        rfl
      · cases e
    | _ => simp [asI] at e
/-- each int once, where it comes first -/
def dedI (is : List Int) : List Int := is.foldl (fun acc i => if i ∈ acc then acc else acc ++ [i]) []
theorem dedI_go : ∀ (is acc : List Int), acc.Nodup → (is.foldl (fun acc i => if i ∈ acc then acc else acc ++ [i]) acc).Nodup ∧ ∀ j, j ∈ is.foldl (fun acc i => if i ∈ acc then acc else acc ++ [i]) acc ↔ j ∈ acc ∨ j ∈ is
  | [], acc, h => ⟨h, fun j => by simp⟩
  | i :: is, acc, h => by
    rw [List.foldl_cons]
    by_cases c : i ∈ acc
    · rw [if_pos c]
      obtain ⟨a, b⟩ := dedI_go is acc h
      refine ⟨a, fun j => (b j).trans ?_⟩
      rw [List.mem_cons]
      constructor
      · rintro (z | z)
        · exact .inl z
        · exact .inr (.inr z)
      · rintro (z | rfl | z)
        · exact .inl z
        · exact .inl c
        · exact .inr z
    · rw [if_neg c]
      obtain ⟨a, b⟩ := dedI_go is (acc ++ [i]) (by
        rw [List.nodup_append]
        refine ⟨h, by simp, fun x hx y hy => ?_⟩
        rw [List.mem_singleton] at hy
        subst hy
        exact fun z => c (z ▸ hx))
      refine ⟨a, fun j => (b j).trans ?_⟩
      rw [List.mem_append, List.mem_singleton, List.mem_cons, or_assoc]
theorem dedI_nodup (is : List Int) : (dedI is).Nodup := (dedI_go is [] List.nodup_nil).1
theorem mem_dedI {is : List Int} {j : Int} : j ∈ dedI is ↔ j ∈ is := by
  rw [dedI, (dedI_go is [] List.nodup_nil).2]
  simp
/-- set(xs) -/
def gSet : List D → EH → Option D := fun ds hp => match ds with
  | [d] => match asQ hp d with
    | some xs => match asI xs with
      | some (i :: is) => if is.length ≤ 4000 then some (.ist (dedI (i :: is))) else none
      | _ => match D.keys xs with
        | some ks => if xs.length < 9000 ∧ ((xs.zip ks).all fun p => setK p.1 p.2) = true then some (.set ((firstK (xs.zip ks)).map (·.1))) else none
        | none => none
    | none => none
  | _ => none
/-- addresses, values, keys side by side -/
theorem set_side : ∀ {ws : List V} {xs : List D} {ks : List NestedKey}, Dns K F m ws xs → D.keys xs = some ks → ((xs.zip ks).all fun p => setK p.1 p.2) = true →
    ∃ T : List ((Addr × D) × NestedKey), ws = T.map (fun t => V.ref t.1.1) ∧ xs = T.map (·.1.2) ∧ ks = T.map (·.2) ∧ ∀ t ∈ T, Dn K F m (.ref t.1.1) t.1.2 ∧ t.1.2.key = some t.2 ∧ setK t.1.2 t.2 = true
  | _, [], ks, h, e, _ => by
    cases h
    simp [D.keys] at e
    subst e
    exact ⟨[], rfl, rfl, rfl, fun t ht => by cases ht⟩
  | _, x :: xs, ks, h, e, a => by
    cases h with
    | cons h1 h2 =>
      simp only [D.keys] at e
      split at e
      · rename_i k ks' e1 e2
        cases e
        simp only [List.zip_cons_cons, List.all_cons, Bool.and_eq_true] at a
        obtain ⟨T, t1, t2, t3, t4⟩ := set_side h2 e2 a.2
        have isT : ∃ ys, x = .tup ys := by
          have z := a.1
          unfold setK at z
          cases x with
          | tup ys => exact ⟨ys, rfl⟩
          | _ => simp at z
        obtain ⟨ys, rfl⟩ := isT
        cases h1 with
        | tup h1 h3 =>
          rename_i ad us
          refine ⟨((ad, .tup ys), k) :: T, by simp [t1], by simp [t2], by simp [t3], fun t ht => ?_⟩
          rcases List.mem_cons.mp ht with rfl | ht
          · exact ⟨.tup h1 h3, e1, a.1⟩
          · exact t4 t ht
      · cases e
theorem setO_tbl {w : World} {a : Addr} {L : List (Addr × NestedKey)} : ∀ ps, MX.SetO w a L ≠ .tbl ps := fun ps z => by unfold MX.SetO at z; cases z
theorem setI_tbl {w : World} {a : Addr} {S : Int → Bool} {n : Nat} : ∀ ps, L2.SetO w a S n ≠ .tbl ps := fun ps z => by unfold L2.SetO at z; cases z
theorem dns_intsV : ∀ {is : List Int} {vs : List V}, Dns K F m vs (is.map D.int) → vs = is.map V.int
  | [], _, h => by cases h; rfl
  | i :: is, _, h => by
    cases h with
    | cons h1 h2 => cases h1; rw [dns_intsV h2]; rfl
theorem key_at {d : D} {a : Addr} {k : NestedKey} (s : Same F H) (h : Dn K F m (.ref a) d) (e : d.key = some k) (o : setK d k = true) : KeyAt K H (a, k) := by
  unfold setK at o
  simp only [Bool.and_eq_true, decide_eq_true_eq] at o
  exact ⟨dp_of s h (key_toP e), o.2.1, o.2.2⟩
theorem calls_set : CallS K (fun xs H Q => rSetK K WW.w xs H Q ∨ rSetI K WW.w xs H Q) gSet := by
  intro F m H hp vs ds z r1 d1 hz Q q
  unfold gSet at hz
  split at hz
  · rename_i d
    cases d1 with
    | cons c1 c2 =>
      cases c2
      split at hz
      · rename_i xs hx
        obtain ⟨a, ws, rfl, q1, q2⟩ := sq_of r1 c1 hx
        split at hz
        · rename_i i is hi
          split at hz
          · rename_i hl
            cases hz
            have ex := asI_eq hi
            subst ex
            have ew := dns_intsV q2
            subst ew
            refine .inr ⟨a, i :: is, dedI (i :: is), rfl, q1, by unfold scanBound; simp; omega, dedI_nodup _, fun j => mem_dedI, fun l hl2 => ?_⟩
            obtain ⟨r', n'⟩ := r1.fresh (o := L2.SetO WW.w l (fun j => decide (j ∈ dedI (i :: is))) (dedI (i :: is)).length) hl2 setI_tbl
            exact q _ _ _ n' r' (.ist upd_same (dedI_nodup _))
          · cases hz
        · split at hz
          · rename_i ks hks
            split at hz
            · rename_i hl
              cases hz
              obtain ⟨T, t1, t2, t3, t4⟩ := set_side q2 hks hl.2
              refine .inl ⟨a, T.map fun t => (t.1.1, t.2), rfl, ?_, fun p hp => ?_, by have := hl.1; rw [t2] at this; simpa using this, fun l hl2 => ?_⟩
              · rw [List.map_map]
                have e : (T.map ((fun p : Addr × NestedKey => V.ref p.1) ∘ fun t => (t.1.1, t.2))) = ws := t1.symm
                rw [e]
                exact q1
              · obtain ⟨t, ht, rfl⟩ := List.mem_map.mp hp
                obtain ⟨u1, u2, u3⟩ := t4 t ht
                exact key_at r1.sub u1 u2 u3
              · rw [firstK_map (fun q : Addr × D => q.1) T]
                have e2 : xs.zip ks = T.map fun q => ((fun q : Addr × D => q.2) q.1, q.2) := by
                  rw [t2, t3]
                  clear t1 t2 t3 t4
                  induction T with
                  | nil => rfl
                  | cons t T ih => simp [ih]
                rw [e2, firstK_map, List.map_map] at q
                obtain ⟨r', n'⟩ := r1.fresh (o := MX.SetO WW.w l ((firstK T).map fun q => (q.1.1, q.2))) hl2 setO_tbl
                have sub : ∀ t ∈ firstK T, t ∈ T := fun t ht => firstK_sub ht
                refine q _ _ _ n' r' (.set (L := (firstK T).map fun q => (q.1.1, q.2)) upd_same ?_ (fun p hp => ?_) ?_)
                · have z := keys_of_all (l := (firstK T).map fun q => (q.1.2, q.2)) fun p hp => by
                    obtain ⟨t, ht, rfl⟩ := List.mem_map.mp hp
                    exact (t4 t (sub t ht)).2.1
                  rw [List.map_map, List.map_map] at z
                  rw [List.map_map]
                  exact z
                · obtain ⟨t, ht, rfl⟩ := List.mem_map.mp hp
                  have z := (t4 t (sub t ht)).2.2
                  unfold setK at z
                  simp only [Bool.and_eq_true, decide_eq_true_eq] at z
                  exact z.2
                · have fz := n'.fz
                  have pr := n'.pre
                  have main : ∀ T' : List ((Addr × D) × NestedKey), (∀ t ∈ T', t ∈ T) → Dns K (upd F l (MX.SetO WW.w l ((firstK T).map fun q => (q.1.1, q.2)))) m ((T'.map fun q => (q.1.1, q.2)).map fun p => V.ref p.1) (T'.map fun q => q.1.2) := fun T' sb => by
                    induction T' with
                    | nil => exact .nil
                    | cons t T' ih => exact .cons ((t4 t (sb t List.mem_cons_self)).1.mono fz pr) (ih fun u hu => sb u (List.mem_cons_of_mem _ hu))
                  exact main _ sub
            · cases hz
          · cases hz
      · cases hz
  · cases hz

/-! ### in, not in -/
def gInS (f : Bool → Bool) : D → D → EH → Option D := fun x y _ => match y with
  | .set ds => match D.keys ds, x.key with
    | some ks, some k => if setK x k = true then some (.bl (f (decide (k ∈ ks)))) else none
    | _, _ => none
  | .ist is => match x with
    | .int i => some (.bl (f (decide (i ∈ is))))
    | _ => none
  | _ => none
theorem set_keyAts {L : List (Addr × NestedKey)} {ds : List D} (s : Same F H) (h : Dns K F m (L.map fun p => V.ref p.1) ds) (e : D.keys ds = some (L.map (·.2))) (o : ∀ p ∈ L, p.2.depth ≤ 8 ∧ MX.intK p.2 = true) : ∀ p ∈ L, KeyAt K H p := by
  induction L generalizing ds with
  | nil => intro p hp; cases hp
  | cons p L ih =>
    cases ds with
    | nil => simp [D.keys] at e
    | cons d ds =>
      cases h with
      | cons h1 h2 =>
        simp only [D.keys, List.map_cons] at e
        split at e
        · rename_i k ks e1 e2
          simp only [Option.some.injEq, List.cons.injEq] at e
          obtain ⟨rfl, rfl⟩ := e
          intro q hq
          rcases List.mem_cons.mp hq with rfl | hq
          · exact ⟨dp_of s h1 (key_toP e1), (o _ List.mem_cons_self).1, (o _ List.mem_cons_self).2⟩
          · exact ih h2 e2 (fun r hr => o r (List.mem_cons_of_mem _ hr)) q hq
        · cases e
theorem ops_inS (f : Bool → Bool) {r1 r2 : R2} (h1 : ∀ x y H Q, rInK K WW.w f x y H Q → r1 x y H Q) (h2 : ∀ (k : Int) (a : Addr) (S : Int → Bool) (n : Nat) (H : Hp) (Q : VK), H a = some (L2.SetO WW.w a S n) → Q (.bl (f (S k))) H → r2 (.int k) (.ref a) H Q) : OpS K (fun x y H Q => r1 x y H Q ∨ r2 x y H Q) (gInS f) := by
  intro F m H hp x y d e z r d1 d2 hz Q q
  unfold gInS at hz
  split at hz
  · rename_i ds
    cases d2 with
    | set g1 g2 g3 g4 =>
      rename_i a L
      split at hz
      · rename_i ks k e1 e2
        split at hz
        · rename_i o
          cases hz
          rw [g2] at e1
          cases e1
          have isT : ∃ ys, d = .tup ys := by
            have z := o
            unfold setK at z
            cases d with
            | tup ys => exact ⟨ys, rfl⟩
            | _ => simp at z
          obtain ⟨ys, rfl⟩ := isT
          cases d1 with
          | tup u1 u2 =>
            rename_i b us
            exact .inl (h1 _ _ _ _ ⟨b, k, a, L, rfl, rfl, key_at r.sub (.tup u1 u2) e2 o, r.sub _ _ g1, set_keyAts r.sub g4 g2 g3, q _ F H Nx.refl r (.bl _)⟩)
        · cases hz
      · cases hz
  · rename_i is
    cases d2 with
    | ist g1 g2 =>
      split at hz
      · cases hz
        cases d1
        exact .inr (h2 _ _ _ _ _ _ (r.sub _ _ g1) (q _ F H Nx.refl r (.bl _)))
      · cases hz
  · cases hz

/-! ### sorted -/
def sortD (ds : List D) (ps : List PyData) : List D := ((ds.zip ps).mergeSort fun x y => leD x.2 y.2).map (·.1)
def gSorted : List D → EH → Option D := fun ds hp => match ds with
  | [.set xs] => match D.keys xs, D.toPs xs with
    | some _, some ps => if xs.length < 4000 ∧ sortOk ps = true then some (.lst (sortD xs ps)) else none
    | _, _ => none
  | [.ist is] => if is.length < 64 then some (.lst ((is.mergeSort fun i j => decide (i ≤ j)).map .int)) else none
  | [d] => match asQ hp d with
    | some xs => match D.toPs xs with
      | some ps => if sortOk ps = true then some (.lst (sortD xs ps)) else none
      | none => none
    | none => none
  | _ => none
theorem toPs_len : ∀ {ds : List D} {ps : List PyData}, D.toPs ds = some ps → ps.length = ds.length
  | [], ps, e => by simp [D.toPs] at e; subst e; rfl
  | d :: ds, ps, e => by
    simp only [D.toPs] at e
    split at e
    · rename_i p ps' h1 h2
      cases e
      simp [toPs_len h2]
    · cases e
/-- sorted side by side -/
theorem dns_sort {vs : List V} {ds : List D} {ps : List PyData} (h : Dns K F m vs ds) (hl : ps.length = ds.length) : Dns K F m (((vs.zip ps).mergeSort fun x y => leD x.2 y.2).map (·.1)) (sortD ds ps) := by
  have side : ∃ T : List ((V × D) × PyData), vs.zip ps = T.map (fun t => (t.1.1, t.2)) ∧ ds.zip ps = T.map (fun t => (t.1.2, t.2)) ∧ ∀ t ∈ T, Dn K F m t.1.1 t.1.2 := by
    induction ds generalizing vs ps with
    | nil => cases h; exact ⟨[], rfl, rfl, fun t ht => by cases ht⟩
    | cons d ds ih =>
      cases h with
      | cons h1 h2 =>
        rename_i v vs
        cases ps with
        | nil => simp at hl
        | cons p ps =>
          obtain ⟨T, a, b, c⟩ := ih h2 (by simpa using hl)
          refine ⟨((v, d), p) :: T, by simp [a], by simp [b], fun t ht => ?_⟩
          rcases List.mem_cons.mp ht with rfl | ht
          · exact h1
          · exact c t ht
  obtain ⟨T, a, b, c⟩ := side
  unfold sortD
  rw [a, b, ← sort_maps (r := fun x y => leD x.2 y.2) (s := fun x y => leD x.2 y.2) (fun t : (V × D) × PyData => (t.1.1, t.2)) (fun _ _ _ _ => rfl), ← sort_maps (r := fun x y => leD x.2 y.2) (s := fun x y => leD x.2 y.2) (fun t : (V × D) × PyData => (t.1.2, t.2)) (fun _ _ _ _ => rfl), List.map_map, List.map_map]
  have sub : ∀ t ∈ T.mergeSort fun x y => leD x.2 y.2, t ∈ T := fun t ht => (List.mergeSort_perm T _).mem_iff.mp ht
  revert sub
  generalize T.mergeSort (fun x y => leD x.2 y.2) = T'
  intro sub
  induction T' with
  | nil => exact .nil
  | cons t T' ih => exact .cons (c t (sub t List.mem_cons_self)) (ih fun u hu => sub u (List.mem_cons_of_mem _ hu))
theorem dns_dps {vs : List V} {ds : List D} {ps : List PyData} (s : Same F H) (h : Dns K F m vs ds) (e : D.toPs ds = some ps) : DpAll K H vs ps := dps_of s h e
theorem keys_datas (ks : List NestedKey) : NestedKey.datas ks = ks.map NestedKey.data := by
  induction ks with
  | nil => rfl
  | cons k ks ih => simp [NestedKey.datas, ih]
theorem calls_sorted : CallS K (fun xs H Q => (rSortK K WW.w xs H Q ∨ rSortedSet WW.w xs H Q) ∨ rSortD K xs H Q) gSorted := by
  intro F m H hp vs ds z r1 d1 hz Q q
  unfold gSorted at hz
  split at hz
  · rename_i xs
    cases d1 with
    | cons c1 c2 =>
      cases c2
      cases c1 with
      | set g1 g2 g3 g4 =>
        rename_i a L
        split at hz
        · rename_i ps e1 e2
          split at hz
          · rename_i o
            cases hz
            have ep : ps = L.map (·.2.data) := by
              have z := keys_toPs g2
              rw [e2, keys_datas, List.map_map] at z
              exact Option.some.inj z
            have ll : L.length = xs.length := by have := keys_len g2; simpa using this
            refine .inl (.inl ⟨a, L, rfl, r1.sub _ _ g1, set_keyAts r1.sub g4 g2 g3, by omega, by rw [← ep]; exact o.2, fun p hp => ?_⟩)
            have ds := dns_sort g4 (toPs_len e2)
            have em : (((L.map fun p => V.ref p.1).zip ps).mergeSort fun x y => leD x.2 y.2).map (·.1) = (L.mergeSort fun x y => leD x.2.data y.2.data).map fun p => V.ref p.1 := by
              have ez : (L.map fun p => V.ref p.1).zip ps = L.map fun p => (V.ref p.1, p.2.data) := by
                rw [ep]
                clear ep
                induction L with
                | nil => rfl
                | cons p L ih => simp [List.zip_map']
              rw [ez, ← sort_maps (r := fun x y => leD x.2.data y.2.data) (s := fun x y => leD x.2 y.2) (fun p : Addr × NestedKey => (V.ref p.1, p.2.data)) (fun _ _ _ _ => rfl), List.map_map]
              rfl
            rw [em] at ds
            obtain ⟨F', n', r', d'⟩ := new_lst (σ := []) r1 ds hp
            exact q _ F' _ n' r' d'
          · cases hz
        · cases hz
  · rename_i is
    cases d1 with
    | cons c1 c2 =>
      cases c2
      cases c1 with
      | ist g1 g2 =>
        split at hz
        · rename_i hl
          cases hz
          refine .inl (.inr ⟨_, _, _, rfl, r1.sub _ _ g1, hl, fun ns p h1 h2 h3 hp => ?_⟩)
          have en : ns = is.mergeSort fun i j => decide (i ≤ j) := by
            have pm : ns.Perm (is.mergeSort fun i j => decide (i ≤ j)) := by
              have nd : ns.Nodup := List.Pairwise.imp (fun h => Int.ne_of_lt h) h1
              have p2 := List.mergeSort_perm is fun i j => decide (i ≤ j)
              refine ((List.perm_ext_iff_of_nodup nd g2).mpr fun j => ?_).trans p2.symm
              rw [h2]; simp
            refine List.Perm.eq_of_pairwise (le := fun i j => i ≤ j) (fun a b _ _ x y => Int.le_antisymm x y) (h1.imp fun h => Int.le_of_lt h) ?_ pm
            have s := List.pairwise_mergeSort (le := fun i j : Int => decide (i ≤ j)) (fun a b c x y => by simp at x y ⊢; omega) (fun a b => by simp; omega) is
            exact s.imp fun h => by simpa using h
          subst en
          obtain ⟨F', n', r', d'⟩ := new_lst (σ := []) r1 (dns_ints (K := K) (F := F) (m := m) (is.mergeSort fun i j => decide (i ≤ j))) hp
          exact q _ F' _ n' r' d'
        · cases hz
  · rename_i d _ _
    cases d1 with
    | cons c1 c2 =>
      cases c2
      split at hz
      · rename_i xs hx
        split at hz
        · rename_i ps e2
          split at hz
          · rename_i o
            cases hz
            obtain ⟨a, ws, rfl, q1, q2⟩ := sq_of r1 c1 hx
            refine .inr ⟨a, ws, ps, rfl, q1, dps_of r1.sub q2 e2, o, fun p hp => ?_⟩
            obtain ⟨F', n', r', d'⟩ := new_lst (σ := []) r1 (dns_sort q2 (toPs_len e2)) hp
            exact q _ F' _ n' r' d'
          · cases hz
        · cases hz
      · cases hz
  · cases hz
end
end MP
end

section
set_option maxRecDepth 100000
set_option maxHeartbeats 2000000
/-! MP23: set(xs), x in y, x not in y (lists, tuples, sets), sorted(xs) in expressions. -/
namespace MP
open PySem PySem.Spec PyProof.Rows L2 MX PySem.W
variable [WW] [FV]
section
variable {ι : Type} {X : ι → Cx} {K : PySem.W.Frag} {mg : Str → Option Value} {W : WX} {F F' : Hp} {m m' : List Addr} {H H' : Hp} {hp hp' : EH} {a b e : Expr} {fa fb fe : FE} {ga : FA} {pos p p2 : Pos} {P : Program} {base : Heap} {kk : Nat}
def isSet : D → Bool
  | .set _ => true
  | .ist _ => true
  | _ => false
def gInX : D → D → EH → Option D := fun x y hp => if isSet y = true then gInS id x y hp else gInA x y hp
def gNinX : D → D → EH → Option D := fun x y hp => if isSet y = true then gInS not x y hp else gNinA x y hp
theorem ops_inX : OpS K (fun x y H Q => (rInD K x y H Q ∨ rInT K x y H Q) ∨ (rInK K WW.w id x y H Q ∨ rSIn WW.w x y H Q)) gInX := by
  intro F m H hp x y d e z r1 d1 d2 hz Q q
  unfold gInX at hz
  split at hz
  · exact .inr (ops_inS (K := K) id (r1 := rInK K WW.w id) (r2 := rSIn WW.w) (fun _ _ _ _ h => h) (fun k a S n H Q h1 h2 => ⟨k, a, S, n, rfl, rfl, h1, h2⟩) F m H hp x y d e z r1 d1 d2 hz Q q)
  · exact .inl (ops_inA F m H hp x y d e z r1 d1 d2 hz Q q)
theorem ops_ninX : OpS K (fun x y H Q => (rNotInD K x y H Q ∨ rNinT K x y H Q) ∨ (rInK K WW.w not x y H Q ∨ rSNotIn WW.w x y H Q)) gNinX := by
  intro F m H hp x y d e z r1 d1 d2 hz Q q
  unfold gNinX at hz
  split at hz
  · exact .inr (ops_inS (K := K) not (r1 := rInK K WW.w not) (r2 := rSNotIn WW.w) (fun _ _ _ _ h => h) (fun k a S n H Q h1 h2 => ⟨k, a, S, n, rfl, rfl, h1, h2⟩) F m H hp x y d e z r1 d1 d2 hz Q q)
  · exact .inl (ops_ninA F m H hp x y d e z r1 d1 d2 hz Q q)
theorem room16 {k : Nat} {A : Around} (r : Room k A) : A.units + 16 < cLine := by have := r.un; omega
theorem room80 {k : Nat} {A : Around} (r : Room k A) : A.units + 80 < cLine := by have := r.un; omega
theorem or_inX (hF : Fam X K mg) (hC : Cal X P WW.w base kk W) (j : ι) : OpR (X j) (compareOp .In) (fun x y H Q => (rInD K x y H Q ∨ rInT K x y H Q) ∨ (rInK K WW.w id x y H Q ∨ rSIn WW.w x y H Q)) := by
  rw [← hF.k j, ← hC.w j]
  exact ((op_inD (room65 (hC.r j))).or (op_inT (room65 (hC.r j)))).or ((or_inK (room16 (hC.r j))).or (or_sin))
theorem or_ninX (hF : Fam X K mg) (hC : Cal X P WW.w base kk W) (j : ι) : OpR (X j) (compareOp .NotIn) (fun x y H Q => (rNotInD K x y H Q ∨ rNinT K x y H Q) ∨ (rInK K WW.w not x y H Q ∨ rSNotIn WW.w x y H Q)) := by
  rw [← hF.k j, ← hC.w j]
  exact ((op_notInD (room65 (hC.r j))).or (op_ninT (room65 (hC.r j)))).or ((or_ninK (room16 (hC.r j))).or (or_snotin))
theorem se_inX (hF : Fam X K mg) (hC : Cal X P WW.w base kk W) (ha : SE X K mg W a fa) (hb : SE X K mg W b fb) (hm : behindInMarks .In b = false := by rfl) : SE X K mg W (.Compare a [.In] [b] pos) (eBin gInX fa fb) :=
  se_cmp (or_inX hF hC) ops_inX ha hb hm
theorem st_inX (hF : Fam X K mg) (hC : Cal X P WW.w base kk W) (ha : SE X K mg W a fa) (hb : SE X K mg W b fb) (hm : behindInMarks .In b = false := by rfl) : ST X K mg W (.Compare a [.In] [b] pos) (MP.tB (eBin gInX fa fb)) :=
  st_cmp (or_inX hF hC) ops_inX ha hb hm
theorem se_ninX (hF : Fam X K mg) (hC : Cal X P WW.w base kk W) (ha : SE X K mg W a fa) (hb : SE X K mg W b fb) (hm : behindInMarks .NotIn b = false := by rfl) : SE X K mg W (.Compare a [.NotIn] [b] pos) (eBin gNinX fa fb) :=
  se_cmp (or_ninX hF hC) ops_ninX ha hb hm
theorem st_ninX (hF : Fam X K mg) (hC : Cal X P WW.w base kk W) (ha : SE X K mg W a fa) (hb : SE X K mg W b fb) (hm : behindInMarks .NotIn b = false := by rfl) : ST X K mg W (.Compare a [.NotIn] [b] pos) (MP.tB (eBin gNinX fa fb)) :=
  st_cmp (or_ninX hF hC) ops_ninX ha hb hm
theorem se_setOf (hF : Fam X K mg) (hC : Cal X P WW.w base kk W) (hm : mg "set" = none) (hg : ∀ j, Gl (X j) "set") (ha : SA X K mg W [e] ga) (he : ∀ j, starEach [e] (X j).env = (false, eval e (X j).env) :: starEach [] (X j).env := by intro _; rfl) (hpl : ∀ j, (backTo pos (starEach [] (X j).env)).any (·.1) = false := by intro _; rfl) :
    SE X K mg W (.Call (.Name "set" p) [e] [] pos) (eCall gSet ga) := se_callTy (r := fun xs H Q => rSetK K WW.w xs H Q ∨ rSetI K WW.w xs H Q) (fun j => by rw [← hF.k j, ← hC.w j]; exact (cr_setK (hF.calm j) (room16 (hC.r j))).or (cr_setI (hF.calm j) (room16 (hC.r j)))) calls_set hg hm hF (by decide +kernel) ha (by decide) (by decide) he hpl
theorem se_sorted (hF : Fam X K mg) (hC : Cal X P WW.w base kk W) (hm : mg "sorted" = none) (hg : ∀ j, Gl (X j) "sorted") (ha : SA X K mg W [e] ga) (he : ∀ j, starEach [e] (X j).env = (false, eval e (X j).env) :: starEach [] (X j).env := by intro _; rfl) (hpl : ∀ j, (backTo pos (starEach [] (X j).env)).any (·.1) = false := by intro _; rfl) :
    SE X K mg W (.Call (.Name "sorted" p) [e] [] pos) (eCall gSorted ga) := se_callB (r := fun xs H Q => (rSortK K WW.w xs H Q ∨ rSortedSet WW.w xs H Q) ∨ rSortD K xs H Q) (fun j => by rw [← hF.k j, ← hC.w j]; exact ((cr_sortK (hF.calm j) (room80 (hC.r j))).or (cr_sortedSet (hF.calm j))).or (cr_sortD (room80 (hC.r j)))) calls_sorted hg hm hF (by decide +kernel) ha (by decide) (by decide) he hpl
end
end MP
end

section
set_option maxRecDepth 100000
set_option maxHeartbeats 2000000
/-! MP24: a def that has got a function, as its last argument, and calls it. -/
namespace MP
open PySem PySem.Spec PyProof.Rows L2 MX PySem.W
variable [WW]
abbrev Mn (need : Hp → List Addr → Prop) : Prop := ∀ F F' m m', Same F F' → m <+: m' → need F m → need F' m'
/-- the promise of a def that does what f does, where need is known -/
def spMN (K : PySem.W.Frag) (mg : Str → Option Value) (np : Nat) (f : FF) (need : Hp → List Addr → Prop) : Sp := fun vs H Q E => vs.length = np ∧ ∃ F m ds hp r hp', R K F m H hp ∧ Dns K F m vs ds ∧ need F m ∧ f ds hp = some (r, hp') ∧
  match r with
  | .val d => ∀ v F' m' H', Nx F m H F' m' H' → R K F' m' H' hp' → Dn K F' m' v d → Q v H'
  | .exc e => ∀ F' m' H' c dd, Nx F m H F' m' H' → R K F' m' H' hp' → Xc K mg F' m' H' e c dd → E c dd H'
theorem spMN.plain {K : PySem.W.Frag} {mg : Str → Option Value} {np : Nat} {f : FF} {need : Hp → List Addr → Prop} {vs : List V} {H : Hp} {Q : VK} {E : XK} (h : spMN K mg np f need vs H Q E) : spM K mg np f vs H Q E := by
  obtain ⟨h0, F, m, ds, hp, r, hp', h1, h2, _, h3, h4⟩ := h
  exact ⟨h0, F, m, ds, hp, r, hp', h1, h2, h3, h4⟩
/-- somewhere the plain world knows what need asks -/
def OkF (K : PySem.W.Frag) (need : Hp → List Addr → Prop) (H : Hp) : Prop := ∃ F m hp, R K F m H hp ∧ need F m
/-- the function at fv does what φ does, from the moment (s0, H0) on -/
structure CallAt (P : Program) (w : World) (K : PySem.W.Frag) (mg : Str → Option Value) (base : Heap) (k : Nat) (fv : Addr) (need : Hp → List Addr → Prop) (np : Nat) (φ : FF) (fs : List Addr) (s0 : Shared) (H0 : Hp) : Prop where
  run : ∀ (A : Around) (outer : List Env) (s : Shared) (H : Hp) (us : List Value) (vs : List V) (Q : VK) (E : XK), Room k A → Env0 P w K mg base A outer s H → Un fs [] H0 H s0.heap s.heap → Vals vs us → spMN K mg np φ need vs H Q E →
    codeAny (model P w) A (.call (.ref fv) ⟨us, []⟩) (CR (L2.CX P w) outer P w H s Q E) s
  fn : ∀ (s : Shared) (H : Hp), HOk P w H s.heap → OkF K need H → PySem.W.FnAt fv s.heap ∨ PySem.W.keepIn K (.ref fv) = true
  len : ∀ ds hp z, φ ds hp = some z → ds.length = np
/-- the same, seen from a family of contexts of the def that has got it -/
structure Got [V : FV] {ι : Type} (X : ι → Cx) (K : PySem.W.Frag) (mg : Str → Option Value) (k np : Nat) (φ : FF) : Prop where
  run : ∀ (j : ι) (s : Shared) (H : Hp) (us : List Value) (vs : List L2.V) (Q : VK) (E : XK), Room k (X j).A → Env0 (X j).prog (X j).w (X j).K (X j).mg (X j).base (X j).A (X j).stack s H → Un (X j).fs (X j).ex (X j).H_0 H (X j).s_0.heap s.heap → Vals vs us → spMN K mg np φ V.need vs H Q E →
    codeAny (model (X j).prog (X j).w) (X j).A (.call (.ref V.fv) ⟨us, []⟩) (CR (L2.CX (X j).prog (X j).w) (X j).stack (X j).prog (X j).w H s Q E) s
  fn : ∀ (j : ι) (s : Shared) (H : Hp), HOk (X j).prog (X j).w H s.heap → OkF K V.need H → PySem.W.FnAt V.fv s.heap ∨ PySem.W.keepIn K (.ref V.fv) = true
  len : ∀ ds hp z, φ ds hp = some z → ds.length = np
theorem Got.try_ [FV] {ι : Type} {X : ι → Cx} {K : PySem.W.Frag} {mg : Str → Option Value} {k np : Nat} {φ : FF} {W : WX} (h : Got X K mg k np φ) : Got (tryF X W) K mg k np φ :=
  ⟨fun q => h.run q.1.1, fun q => h.fn q.1.1, h.len⟩
/-- a call of the i-th name, which holds the function got -/
def eFv (i : Nat) (φ : FF) (fa : FA) : FE := fun env hp => match env[i]? with
  | some none => eFn φ fa env hp
  | _ => none
section
variable [V : FV] {ι : Type} {X : ι → Cx} {K : PySem.W.Frag} {mg : Str → Option Value} {W : WX} {F F' : Hp} {m m' : List Addr} {H H' : Hp} {hp hp' : EH} {e : Expr} {es : List Expr} {fa : FA} {pos p : Pos} {P : Program} {w : World} {base : Heap} {k kk np i : Nat} {x : Str} {φ : FF}
def tCallV (K : PySem.W.Frag) (mg : Str → Option Value) (need : Hp → List Addr → Prop) (fv : Addr) (i np : Nat) (φ : FF) (E : L2.St → XK) (t : TA) : TE := fun σ H Q => σ[i]? = some (some (.ref fv)) ∧ OkF K need H ∧ t σ H fun vs H1 => OkF K need H1 ∧ spMN K mg np φ need vs H1 Q (E σ)
theorem fv_read {ta : TA} {σ : L2.St} {env : Ev} (hi : i ∈ FV.slots) (r : R K F m H hp) (n : En K F m σ env) (qa : ∀ r hp', fa env hp = some (r, hp') → ∀ Q, OutA K mg W F m σ H hp' Q r → ta σ H Q) (hlen : ∀ ds hp z, φ ds hp = some z → ds.length = np)
    {r' : Res D} (e : eFv i φ fa env hp = some (r', hp')) {Q : VK} (q : OutE K mg W F m σ H hp' Q r') : tCallV K mg V.need V.fv i np φ (WE W) ta σ H Q := by
  unfold eFv at e
  split at e
  · rename_i hs
    refine ⟨n.fn i hi hs, ⟨F, m, hp, r, n.nd⟩, ?_⟩
    rcases bnd_val e with ⟨x, h1, rfl⟩ | ⟨ds, hp1, h1, h2⟩
    · exact qa _ _ h1 _ q
    · refine qa _ _ h1 _ fun vs F1 m1 H1 n1 r1 d1 => ?_
      have nd1 := V.mono _ _ _ _ n1.fz n1.pre n.nd
      refine ⟨⟨F1, m1, hp1, r1, nd1⟩, by rw [d1.length]; exact hlen _ _ _ h2, F1, m1, ds, hp1, r', hp', r1, d1, nd1, h2, ?_⟩
      cases r' with
      | val d => exact fun v F' m' H' n2 r2 d2 => q v F' m' H' (n1.trans n2) r2 d2
      | exc x => exact fun F' m' H' c dd n2 r2 d2 => q F' m' H' c dd (n1.trans n2) r2 d2
  · cases e
theorem pe_fv {Y : Cx} {t : TA} (hK : Y.K = K) (hrun : ∀ (s : Shared) (H : Hp) (us : List Value) (vs : List L2.V) (Q : VK) (E : XK), Env0 Y.prog Y.w Y.K Y.mg Y.base Y.A Y.stack s H → Un Y.fs Y.ex Y.H_0 H Y.s_0.heap s.heap → Vals vs us → spMN K mg np φ V.need vs H Q E →
    codeAny (model Y.prog Y.w) Y.A (.call (.ref V.fv) ⟨us, []⟩) (CR (L2.CX Y.prog Y.w) Y.stack Y.prog Y.w H s Q E) s)
    (hfn : ∀ (s : Shared) (H : Hp), HOk Y.prog Y.w H s.heap → OkF K V.need H → PySem.W.FnAt V.fv s.heap ∨ PySem.W.keepIn K (.ref V.fv) = true)
    (tk : Takes Y W) (hN : Y.N[i]? = some x) (hv : Vis Y.env.scope x) (ha : PA Y (e :: es) t) (hdb : (x == ("__debug__" : Str)) = false) (hcd : (x == ("__classdict__" : Str)) = false)
    (he : starEach (e :: es) Y.env = (false, eval e Y.env) :: starEach es Y.env) (hpl : (backTo pos (starEach es Y.env)).any (·.1) = false) :
    PE Y (.Call (.Name x p) (e :: es) [] pos) (tCallV K mg V.need V.fv i np φ (WE W) t) := by
  refine ⟨fun pins s σ H Q I h => ?_⟩
  obtain ⟨hs, ok, ht⟩ := h
  refine wpAny_Call_Name_kw (thn ((pe_var (pos := p) hN hv hdb hcd).run pins s σ H (fun v H1 => v = .ref V.fv ∧ H1 = H) I ⟨.ref V.fv, hs, rfl, rfl⟩) fun u s1 ⟨v, H1, I1, r1, q1⟩ => ?_)
  obtain ⟨rfl, rfl⟩ := q1
  cases r1
  have go : ∀ (us : List Value) (s2 : Shared), (∃ (vs : List L2.V) (H2 : Hp), Inv Y pins σ H2 s2 ∧ Vals vs us ∧ (OkF K V.need H2 ∧ spMN K mg np φ V.need vs H2 Q (WE W σ))) → wpAny (model Y.prog Y.w) Y.A (call (.ref V.fv) us) (EP Y pins σ Q) Y.xe s2 := fun us s2 ⟨vs, H2, I2, r, _, q⟩ => by
    refine wpAny_call (codeAny_mono (hrun s2 H2 us vs Q (WE W σ) I2.env0 I2.base r q) fun r s' hq => ?_)
    cases r with
    | error e => exact passAt tk σ pins H2 s2 e s' I2 hq
    | ok fl =>
      cases fl with
      | ret u => exact I2.after hq
      | next => exact False.elim hq
      | brk => exact False.elim hq
      | cont => exact False.elim hq
  rcases hfn s1 H1 I1.hok ok with z | z
  · refine PySem.W.callWith_F (first := []) z (thn (ha.run pos pins s1 σ H1 _ I1 ht) fun us s2 ⟨vs, H2, I2, r, q⟩ => ?_) he hpl
    rcases hfn s2 H2 I2.hok q.1 with z2 | z2
    · exact ⟨z2, go us s2 ⟨vs, H2, I2, r, q⟩⟩
    · have : PySem.W.FnAt V.fv s2.heap := by
        obtain ⟨oc, od, fd, sl, ho⟩ := z
        unfold PySem.W.keepIn at z2
        dsimp only at z2
        split at z2
        · rename_i hl
          rw [← hK] at hl
          exact ⟨_, _, _, _, I2.kIn _ _ hl⟩
        · rename_i hl
          rw [← hK] at hl
          have y := I1.kIn _ _ hl
          rw [ho] at y
          cases y
        · cases z2
      exact ⟨this, go us s2 ⟨vs, H2, I2, r, q⟩⟩
  · refine PySem.W.callWith_K (first := []) (K := Y.K) (h₀ := Y.base) I1.ok.mod.kin (by rw [hK]; exact z) (thn (ha.run pos pins s1 σ H1 _ I1 ht) fun us s2 ⟨vs, H2, I2, r, q⟩ => ⟨I2.kIn, go us s2 ⟨vs, H2, I2, r, q⟩⟩) he hpl
/-- x(..), x the function got -/
theorem se_callF (hF : Fam X K mg) (hC : Cal X P w base kk W) (hG : Got X K mg k np φ) (hk : k ≤ kk) (hN : ∀ j, (X j).N[i]? = some x := by intro _; rfl) (hv : ∀ j, Vis (X j).env.scope x := by first | exact fun _ => .inl rfl | exact fun _ => .inr (.inl rfl) | exact fun _ => .inr (.inr rfl)) (ha : SA X K mg W (e :: es) fa) (hi : i ∈ FV.slots := by first | decide | simp +zetaDelta [FV.slots])
    (hdb : (x == ("__debug__" : Str)) = false := by decide) (hcd : (x == ("__classdict__" : Str)) = false := by decide)
    (he : ∀ j, starEach (e :: es) (X j).env = (false, eval e (X j).env) :: starEach es (X j).env := by intro _; rfl) (hpl : ∀ j, (backTo pos (starEach es (X j).env)).any (·.1) = false := by intro _; rfl) :
    SE X K mg W (.Call (.Name x p) (e :: es) [] pos) (eFv i φ fa) := by
  obtain ⟨t, pt, q0⟩ := ha.ex
  exact ⟨⟨tCallV K mg V.need V.fv i np φ (WE W) t, fun j => pe_fv (hF.k j) (fun s H us vs Q E => hG.run j s H us vs Q E ((hC.r j).mono hk)) (hG.fn j) (hC.t j) (hN j) (hv j) (pt j) hdb hcd (he j) (hpl j), fun σ H env hp F m r n r' hp' e Q q => fv_read hi r n (q0 σ H env hp F m r n) hG.len e q⟩⟩
end
end MP
end

section
set_option maxRecDepth 100000
set_option maxHeartbeats 2000000
/-! MP25: the rule of a def that gets a function as its last argument. -/
namespace MP
open PySem PySem.Spec PyProof.Rows L2 MX PySem.W
variable [WW]
section
variable {P : Program} {w : World} {K : PySem.W.Frag} {mg : Str → Option Value} {base : Heap} {F : Hp} {m : List Addr} {H : Hp} {hp : EH}
theorem en_startF {vs : List V} {ds : List D} {n np : Nat} (N : List Str) (fv : Addr) (need : Hp → List Addr → Prop) (mono : Mn need) (h : Dns K F m vs ds) (hn : n = N.length) (hl : ds.length < N.length) (hnp : np = ds.length) (nd : need F m) :
    @En _ ⟨fv, [np], need, mono⟩ K F m (L2.start N (vs ++ [.ref fv])) (ds.map some ++ List.replicate (n - np) none) := by
  subst hn
  subst hnp
  have hlv := h.length
  refine @En.mk _ ⟨fv, [ds.length], need, mono⟩ _ _ _ _ _ (by simp [L2.start, h.length]; omega) (fun i d e => ?_) (fun i hs _ => ?_) nd
  · by_cases hi : i < ds.length
    · rw [List.getElem?_append_left (by simpa using hi), List.getElem?_map] at e
      cases q : ds[i]? with
      | none => rw [q] at e; cases e
      | some d' =>
        rw [q] at e
        cases e
        obtain ⟨v, q1, q2⟩ := h.get q
        refine ⟨v, ?_, q2⟩
        unfold L2.start
        rw [List.getElem?_append_left (by simp [hlv]; omega), List.getElem?_map, List.getElem?_append_left (by omega), q1]
        rfl
    · rw [List.getElem?_append_right (by simpa using Nat.le_of_not_lt hi), List.getElem?_replicate] at e
      split at e <;> cases e
  · have e : i = ds.length := by simpa using hs
    subst e
    unfold L2.start
    rw [List.getElem?_append_left (by simp [hlv]), List.getElem?_map, List.getElem?_append_right (by omega), hlv]
    simp
/-- the def of this name, of np parameters and a function, does what g of the function does -/
structure DefOkF (P : Program) (w : World) (K : PySem.W.Frag) (mg : Str → Option Value) (base : Heap) (k kf : Nat) (nm : Str) (np npf : Nat) (g : FF → FF) : Prop where
  ex : ∃ a, mg nm = some (.ref a) ∧ PySem.W.keepIn K (.ref a) = true ∧ ∀ (A : Around) (outer : List Env) (s : Shared) (H : Hp) (us : List Value) (vs : List V) (fv : Addr) (need : Hp → List Addr → Prop) (mono : Mn need) (φ : FF) (Q : VK) (E : XK), Room k A → Env0 P w K mg base A outer s H →
    CallAt P w K mg base kf fv need npf φ (frs outer) s H → Vals vs us → spMN K mg np (g φ) need vs H Q E → codeAny (model P w) A (.call (.ref a) ⟨us ++ [.ref fv], []⟩) (CR (L2.CX P w) outer P w H s Q E) s
  len : ∀ φ ds hp z, g φ ds hp = some z → ds.length = np
/-- THE RULE -/
theorem def_okF {x qual : Str} {st : Stmt} {a : Addr} {fd : FuncData} {N ps : List Str} {k kf np npf : Nat} {fb : FF → FS} {g : FF → FF} {nm : Str} (T : Fun K x qual st a fd) (S : FnScope N ps (defScope st)) (hps : ps.length = np + 1) (hg : ∀ φ, g φ = runDef N.length np (fb φ)) (hm : mg nm = some (.ref a)) (hbi : Binds K fd ps [])
    (hb : ∀ (fv : Addr) (need : Hp → List Addr → Prop) (mono : Mn need) (φ : FF) (cdv : Value) (A : Around) (outer : List Env) (s : Shared) (H : Hp) (E : XK), Fam (cxD P w K mg base N qual (defScope st) a cdv A outer s H E) K mg → Cal (cxD P w K mg base N qual (defScope st) a cdv A outer s H E) P w base k (wOf E) → Own (cxD P w K mg base N qual (defScope st) a cdv A outer s H E) →
      @Got _ ⟨fv, [np], need, mono⟩ _ (cxD P w K mg base N qual (defScope st) a cdv A outer s H E) K mg kf npf φ → @SB _ ⟨fv, [np], need, mono⟩ _ (cxD P w K mg base N qual (defScope st) a cdv A outer s H E) K mg (wOf E) (defBody st) (fb φ)) :
    DefOkF P w K mg base (k + 1) kf nm np npf g := by
  have hpl : ps.length ≤ N.length := by
    have z := congrArg List.length S.pre
    rw [List.length_take] at z
    omega
  obtain ⟨oc, od, kV, doc, pm, an, cdv, ct, osl, rfl, lk, hcd⟩ := T.ex
  refine ⟨⟨a, hm, T.kp, fun A outer s H us vs fv need mono φ Q E hr e0 C r hsp => ?_⟩, fun φ ds hp z e => ?_⟩
  · have KX : K.In s.heap := e0.mod.kin.keeps fun b o e => (e0.bs b o e).1
    obtain ⟨hl, F, m, ds, hp, r', hp', r0, d0, nd, e1, k0⟩ := hsp
    have r2 : Vals (vs ++ [V.ref fv]) (us ++ [Value.ref fv]) := r.append (.cons rfl .nil)
    have hl2 : (us ++ [Value.ref fv]).length = ps.length := by rw [← r2.length, List.length_append, hl, hps]; rfl
    have bt := hbi s (us ++ [.ref fv]) KX (by rw [List.append_nil]; exact hl2)
    rw [List.append_nil] at bt
    refine LamX.run_ofS (N := N) (ps := ps) (vs := vs ++ [.ref fv]) lk hcd S hr e0 bt r2 (by rw [List.length_append, hl, hps]; rfl) fun hr' => ?_
    have gt : @Got _ ⟨fv, [np], need, mono⟩ _ (cxD P w K mg base N qual (defScope st) a cdv A outer s H E) K mg kf npf φ :=
      @Got.mk _ ⟨fv, [np], need, mono⟩ _ _ _ _ _ _ _ (fun j s1 H1 us vs Q E h1 h2 h3 h4 h5 => C.run _ _ s1 H1 us vs Q E h1 h2 h3 h4 h5) (fun j s1 H1 h1 h2 => C.fn s1 H1 h1 h2) C.len
    have sb := hb fv need mono φ cdv A outer s H E (cxD_fam S.nd) (cxD_cal hr') cxD_own gt
    obtain ⟨t, p, q0⟩ := @SB.ex _ ⟨fv, [np], need, mono⟩ _ _ _ _ _ _ _ sb
    refine ⟨t, p (), ?_⟩
    have hdl : ds.length = np := by rw [← d0.length]; exact hl
    have n0 := en_startF (n := N.length) (np := np) N fv need mono d0 rfl (by omega) hdl.symm nd
    rw [hg φ] at e1
    unfold runDef at e1
    rw [if_pos hdl] at e1
    cases hbd : fb φ (ds.map some ++ List.replicate (N.length - np) none) hp with
    | none => rw [hbd] at e1; cases e1
    | some x =>
      obtain ⟨fl, env', hp1⟩ := x
      rw [hbd] at e1
      refine q0 _ H _ hp F m r0 n0 _ _ _ hbd _ ?_
      cases fl with
      | nxt =>
        simp only at e1
        split at e1
        · rename_i ok
          cases e1
          intro σ' F1 m1 H1 n1 r1 _
          obtain ⟨F2, _, n2, r2, _⟩ := hand_over r0 n1 r1 ok
          exact k0 _ F2 m H1 n2 r2 .non
        · cases e1
      | ret d =>
        simp only at e1
        split at e1
        · rename_i ok
          split at e1
          · rename_i d' hd'
            cases e1
            intro v F1 m1 H1 n1 r1 dv
            obtain ⟨F2, _, n2, r2, hh⟩ := hand_over r0 n1 r1 ok
            exact k0 _ F2 m H1 n2 r2 (hh v d d' dv hd')
          · cases e1
        · cases e1
      | exc x =>
        cases e1
        exact fun σ' F1 m1 H1 c dd n1 r1 _ x1 => k0 F1 m1 H1 c dd n1 r1 x1
      | brk => cases e1
      | cnt => cases e1
  · rw [hg φ] at e
    unfold runDef at e
    split at e
    · assumption
    · cases e
end
end MP
end

section
set_option maxRecDepth 100000
set_option maxHeartbeats 2000000
/-! MP26: a lambda as an argument; a def of the module as an argument. -/
namespace MP
open PySem PySem.Spec PyProof.Rows L2 MX PySem.W
variable [WW]
/-- the object at f is this lambda -/
def LamO (f : Addr) (q : Str) (params : Arguments) (body : Expr) (sc : Scope) (cl : List (Str × Addr)) (c : Addr) : HO := .ext fun h => ∃ pm ctv : Value, h.get? f = some (PySem.W.kla_obj "<lambda>" q params body sc cl pm c ctv)
/-- the reading of a lambda -/
def tLamT (q : Str) (params : Arguments) (body : Expr) (sc : Scope) (cl : List (Str × Addr)) : TE := fun _ H Q => NdefX.TabsN WW.T H ∧ ∀ (f c' : Addr) (H1 : Hp), LamX.ExtN H H1 → (∀ b, H1 b = Option.none → H b = Option.none) → NdefX.TabsN WW.T H1 → H f = none → H1 f = some (LamO f q params body sc cl c') → H1 c' = some (LamX.CodeO c' q) → Q (.ref f) H1
section
variable {X : Cx} {pins : List (Addr × Obj)} {σ : L2.St} {H : Hp} {s : Shared} {q : Str} {params : Arguments} {body : Expr} {sc : Scope} {cl : List (Str × Addr)}
theorem inv_lam {c : Addr} {t' : Nat} {pm ctv : Value} (I : Inv X pins σ H s) :
    Inv X pins σ (upd H s.heap.objs.size (LamO s.heap.objs.size q params body sc cl c)) { s with heap := s.heap.push (PySem.W.kla_obj "<lambda>" q params body sc cl pm c ctv), toks := t' } := by
  have e : (s.heap.push (PySem.W.kla_obj "<lambda>" q params body sc cl pm c ctv)).get? s.heap.objs.size = some (PySem.W.kla_obj "<lambda>" q params body sc cl pm c ctv) := Heap.get?_push_size _ rfl
  exact I.laid (a := s.heap.objs.size) (fun b u e => Heap.get?_push_of_some _ e) (Nat.le_refl _) ⟨⟨pm, ctv, e⟩, ⟨_, e⟩, fun h1 h2 ⟨p, t, z⟩ st => ⟨p, t, st _ z⟩⟩
theorem pe_lam {nm : Nat → Nat → Str} {c Pt : Addr} {pos : Pos} (TB : LamX.TabB X.base X.mg c Pt) (hcode : X.env.code = .ref c) (hm : (Pt, nm) ∈ WW.T) (hq : X.env.qual ++ "<lambda>" = q) (hn : nm pos.line pos.col = q) (hu : ∀ p ∈ WW.T, p.1 = Pt → p.2 = nm) (hdef : defaultsOf params X.env = ([], []))
    (hfree : ∀ y ∈ sc.names, y.2 = .free → ∃ c, X.env.cells.lookup y.1 = some c) (hcl : cloFrom X.env.cells sc.names [] = cl) : PE X (.Lambda params body sc pos) (tLamT q params body sc cl) := by
  refine ⟨fun pins s σ H Q I h => ?_⟩
  obtain ⟨hT, h⟩ := h
  obtain ⟨ps, hP, ht, ha⟩ := (show NdefX.TabN H Pt nm from hT _ hm)
  refine PySem.W.kla_eval hdef ?_
  have bP : s.heap.BuiltinsAt X.mg Pt := TB.bm.keeps I.bk
  have hP' : s.heap.get? Pt = some { cls := .none, data := .fields ps } := I.hok Pt _ hP
  cases hc : codeAmong pos ps.toList with
  | none =>
    refine PySem.W.kla_makeFunction (mg := X.mg) (c := c) (P := Pt) (ps := ps) (closure_ok hfree) I.ok.glob (I.mod.glob.keeps I.bk) hcode (TB.code.keeps I.bk) hP' ht hc TB.gP bP fun c' ctv h' tk hx hge hlt hrec htb => ?_
    rw [hq, hcl] at *
    obtain ⟨c2, oc, vs, t, e2, hoc, hd, hv⟩ := hrec
    cases e2
    have nC : H c' = none := I.hok.fresh hge
    have I1 := LamX.inv_table (t' := tk) (more := #[rawInt pos.line, rawInt pos.col, .ref c']) (h' := h') I hP (fun b o hb e => hx b o hb e) htb hge ⟨oc, vs, t, hoc, hd, hv⟩
    have hE : LamX.ExtN H (upd (upd H Pt (.tbl (ps ++ #[rawInt pos.line, rawInt pos.col, .ref c']))) c' (LamX.CodeO c' q)) := fun b o e n => by
      rw [upd_ne (ne_of_none e nC), upd_ne (fun z => n ps (Option.some.inj (e.symm.trans (by rw [z]; exact hP))))]
      exact e
    have eL : (ps ++ #[rawInt pos.line, rawInt pos.col, .ref c']).toList = ps.toList ++ [rawInt pos.line, rawInt pos.col, .ref c'] := by simp
    have T1 : NdefX.TabsN WW.T (upd (upd H Pt (.tbl (ps ++ #[rawInt pos.line, rawInt pos.col, .ref c']))) c' (LamX.CodeO c' q)) := fun p hp => by
      by_cases hb : p.1 = Pt
      · rw [hu p hp hb, hb]
        refine ⟨_, by rw [upd_ne (ne_of_none hP nC), upd_same], by rw [eL]; exact PySem.TriplesOk_snoc _ _ _ _ ht, fun p' cv hcv => ?_⟩
        rw [eL] at hcv
        rcases NdefX.among_app2 _ ht hcv with z | ⟨z, z1, z2⟩
        · obtain ⟨c0, e1, e2⟩ := ha p' cv z
          exact ⟨c0, e1, hE _ _ e2 LamX.codeO_ne⟩
        · refine ⟨c', z, ?_⟩
          rw [← z1, ← z2, hn]
          exact upd_same
      · obtain ⟨ps', a1, a2, a3⟩ := hT p hp
        refine ⟨ps', by rw [upd_ne (ne_of_none a1 nC), upd_ne hb]; exact a1, a2, fun p' cv hcv => ?_⟩
        obtain ⟨c0, e1, e2⟩ := a3 p' cv hcv
        exact ⟨c0, e1, hE _ _ e2 LamX.codeO_ne⟩
    have nF := I1.hok.fresh (Nat.le_refl _)
    have I2 := inv_lam (q := q) (params := params) (body := body) (sc := sc) (cl := cl) (c := c') (t' := tk) (pm := (X.mg "__name__").getD .none) (ctv := ctv) I1
    refine ⟨.ref h'.objs.size, _, I2, rfl, h h'.objs.size c' _ (fun b o e n => ?_) (fun b e => NdefX.upd_none (NdefX.upd_none (NdefX.upd_none e))) (T1.ext fun b o e => ?_) (I.hok.fresh (Nat.le_trans hge (Nat.le_of_lt hlt))) upd_same ?_⟩
    · have e1 := hE b o e n
      exact (upd_ne (ne_of_none e1 nF)).trans e1
    · exact (upd_ne (ne_of_none e nF)).trans e
    · exact (upd_ne (Nat.ne_of_lt hlt)).trans upd_same
  | some cv =>
    obtain ⟨c', e, hco⟩ := ha pos cv hc
    subst e
    rw [hn] at hco
    refine PySem.W.kla_makeFunctionHit (mg := X.mg) (c := c) (P := Pt) (ps := ps) (closure_ok hfree) I.ok.glob (I.mod.glob.keeps I.bk) hcode (TB.code.keeps I.bk) hP' ht hc bP fun ctv h' tk hx hsz => ?_
    rw [hq, hcl] at *
    have I1 : Inv X pins σ H { s with heap := h', toks := tk } := I.kept hx
    have nF : H h'.objs.size = none := I1.hok.fresh (Nat.le_refl _)
    have I2 := inv_lam (q := q) (params := params) (body := body) (sc := sc) (cl := cl) (c := c') (t' := tk) (pm := (X.mg "__name__").getD .none) (ctv := ctv) I1
    refine ⟨.ref h'.objs.size, _, I2, rfl, h h'.objs.size c' _ (fun b o e n => ?_) (fun b e => NdefX.upd_none e) (hT.ext fun b o e => ?_) nF upd_same ?_⟩
    · exact (upd_ne (ne_of_none e nF)).trans e
    · exact (upd_ne (ne_of_none e nF)).trans e
    · exact (upd_ne (ne_of_none hco nF)).trans hco
end
section
variable {K : PySem.W.Frag} {mg : Str → Option Value} {F : Hp} {m : List Addr} {H H1 : Hp} {hp : EH} {q : Str} {params : Arguments} {body : Expr} {sc : Scope} {cl : List (Str × Addr)} {f c' : Addr}
theorem lam_plain (r : R K F m H hp) (hE : LamX.ExtN H H1) (hN : ∀ b, H1 b = Option.none → H b = Option.none) (hT : NdefX.TabsN WW.T H1) (hf : H f = none) (h1 : H1 f = some (LamO f q params body sc cl c')) (h2 : H1 c' = some (LamX.CodeO c' q)) :
    ∃ F1, R K F1 m H1 hp ∧ Nx F m H F1 m H1 ∧ F1 f = some (LamO f q params body sc cl c') ∧ F1 c' = some (LamX.CodeO c' q) := by
  have r1 : R K F m H1 hp := ⟨fun b o e => hE b o (r.sub b o e) (fun ps z => r.ntb b ps (by rw [e, z])), r.len, r.nod, r.fre, fun i a ds a1 a2 => by
    obtain ⟨vs, b1, b2⟩ := r.obj i a ds a1 a2
    exact ⟨vs, hE _ _ b1 (fun ps z => by cases z), b2⟩, hT, r.ntb⟩
  have n1 : Nx F m H F m H1 := ⟨Same.refl _, List.prefix_refl _, fun a o e _ t => hE a o e t, fun _ h => .inl h, fun _ _ h => .inl h, fun a o e => by
    cases z : H1 a with
    | none => rw [hN a z] at e; cases e
    | some o' => exact ⟨o', rfl⟩⟩
  have hm : f ∉ m := fun z => by
    obtain ⟨vs, y⟩ := r1.there z
    rw [h1] at y
    unfold LamO at y
    cases y
  obtain ⟨r2, n2, s2⟩ := r1.freeze n1 h1 hm (r.sub.free hf) (.inl hf) (by intro ps z; unfold LamO at z; cases z)
  obtain ⟨F3, g3, r3, n3⟩ := r2.code h2
  exact ⟨F3, r3, n2.trans n3, n3.fz _ _ upd_same, g3⟩
/-- what the captured names hold -/
structure CapR (K : PySem.W.Frag) (F : Hp) (m : List Addr) (ws : List (Option V)) (cs : List (Option D)) : Prop where
  len : ws.length = cs.length
  get : ∀ (i : Nat) (d : D), cs[i]? = some (some d) → ∃ v, ws[i]? = some (some v) ∧ Dn K F m v d
def capE (env : Ev) (js : List Nat) : List (Option D) := js.map fun j => (env[j]?).getD none
theorem capR_of [FV] {σ : L2.St} {env : Ev} (n : En K F m σ env) (js : List Nat) : CapR K F m (js.map (NdefX.slotAt σ)) (capE env js) := by
  refine ⟨by simp [capE], fun i d e => ?_⟩
  unfold capE at e
  rw [List.getElem?_map] at e
  cases hj : js[i]? with
  | none => rw [hj] at e; cases e
  | some j =>
    rw [hj] at e
    have e2 : (env[j]?).getD none = some d := Option.some.inj e
    have e3 : env[j]? = some (some d) := by
      cases z : env[j]? with
      | none => rw [z] at e2; cases e2
      | some o => rw [z] at e2; rw [show o = some d from e2]
    obtain ⟨v, a, b⟩ := n.get j d e3
    exact ⟨v, by rw [List.getElem?_map, hj, Option.map_some, NdefX.slotAt_of a], b⟩
/-- what a lambda does -/
def runLam (nN np : Nat) (cs : List (Option D)) (fb : FE) : FF := fun ds hp => if ds.length = np then fb (ds.map some ++ (cs ++ List.replicate (nN - np - cs.length) none)) hp else none
theorem en_startL {vs : List V} {ws : List (Option V)} {ds : List D} {cs : List (Option D)} {np : Nat} (N : List Str) (h : Dns K F m vs ds) (c : CapR K F m ws cs) (hl : ds.length = np) : @En _ FV0 K F m (NdefX.startF N vs ws) (ds.map some ++ (cs ++ List.replicate (N.length - np - cs.length) none)) := by
  subst hl
  have hlv := h.length
  have hlw := c.len
  refine @En.mk _ FV0 _ _ _ _ _ (by simp [NdefX.startF, hlv, hlw]) (fun i d e => ?_) (fun i hs _ => by cases hs) True.intro
  unfold NdefX.startF
  by_cases hi : i < ds.length
  · rw [List.getElem?_append_left (by simpa using hi), List.getElem?_map] at e
    cases q : ds[i]? with
    | none => rw [q] at e; cases e
    | some d' =>
      rw [q] at e
      cases e
      obtain ⟨v, q1, q2⟩ := h.get q
      exact ⟨v, by rw [List.getElem?_append_left (by simp [hlv]; omega), List.getElem?_map, q1]; rfl, q2⟩
  · rw [List.getElem?_append_right (by simpa using Nat.le_of_not_lt hi), List.length_map] at e
    rw [List.getElem?_append_right (by simp [hlv]; omega), List.length_map, hlv]
    by_cases h2 : i - ds.length < cs.length
    · rw [List.getElem?_append_left h2] at e
      rw [List.getElem?_append_left (by omega)]
      exact c.get _ d e
    · rw [List.getElem?_append_right (by omega), List.getElem?_replicate] at e
      split at e <;> cases e
end
/-- the context of a lambda's body -/
abbrev cxL (P : Program) (w : World) (K : PySem.W.Frag) (mg : Str → Option Value) (base : Heap) (N : List Str) (q : Str) (params : Arguments) (sc : Scope) (cl : List (Str × Addr)) (c' f : Addr) (A : Around) (outer : List Env) (s : Shared) (H : Hp) (E : XK) : Unit → Cx :=
  fun _ => NdefX.ncx (L2.CX P w) P w K mg base N ⟨"<lambda>", q, params, [], sc, cl, c'⟩ f A outer s H E
section
variable {P : Program} {w : World} {K : PySem.W.Frag} {mg : Str → Option Value} {base : Heap} {N ps fr : List Str} {q : Str} {params : Arguments} {sc : Scope} {cl : List (Str × Addr)} {c' f : Addr} {A : Around} {outer : List Env} {s : Shared} {H : Hp} {E : XK} {k : Nat} {body : Expr} {fb : FE}
theorem cxL_fam (hN : N.Nodup) : Fam (cxL P w K mg base N q params sc cl c' f A outer s H E) K mg := ⟨fun _ => rfl, fun _ => rfl, fun _ => rfl, fun _ => hN⟩
theorem cxL_cal (hr : Room k (A.deeper (NdefX.envF ⟨"<lambda>", q, params, [], sc, cl, c'⟩ f s.heap.objs.size))) : Cal (cxL P w K mg base N q params sc cl c' f A outer s H E) P w base k (wOf E) :=
  ⟨fun _ => rfl, fun _ => rfl, fun _ => rfl, fun _ => hr, fun _ => takes_of rfl rfl rfl rfl⟩
/-- a lambda made at (s2, H2) by a def in the context X does what runLam says, from then on -/
theorem lam_at {X : Cx} {pins : List (Addr × Obj)} {σ : L2.St} {H2 : Hp} {s2 : Shared} {js : List Nat} {cs : List (Option D)} (I : Inv X pins σ H2 s2) (S : NdefX.NScope N ps fr sc) (hps : ps.length = np)
    (hb : ∀ (pm ctv : Value) (us : List Value), us.length = ps.length → bindArgs (PySem.W.kla_fn "<lambda>" q params body sc cl pm (.ref c') ctv) ⟨us, []⟩ = pure (ps.zip us))
    (cp : NdefX.Caps X cl fr js)
    (hbody : ∀ (A : Around) (outer : List Env) (s : Shared) (H : Hp) (E : XK), Fam (cxL P w K mg base N q params sc cl c' f A outer s H E) K mg → Cal (cxL P w K mg base N q params sc cl c' f A outer s H E) P w base k (wOf E) → @SE _ FV0 _ (cxL P w K mg base N q params sc cl c' f A outer s H E) K mg (wOf E) body fb)
    (hlen : ∀ ds hp z, runLam N.length np cs fb ds hp = some z → ds.length = np := by intro ds hp z e; unfold runLam at e; split at e; assumption; cases e) :
    CallAt P w K mg base (k + 1) f (fun F m => F f = some (LamO f q params body sc cl c') ∧ F c' = some (LamX.CodeO c' q) ∧ CapR K F m (js.map (NdefX.slotAt σ)) cs) np (runLam N.length np cs fb) (frs X.stack) s2 H2 := by
  have at_ : ∀ (s : Shared) (H : Hp) (F : Hp) (m : List Addr) (hp : EH), HOk P w H s.heap → R K F m H hp → F f = some (LamO f q params body sc cl c') → ∃ pm ctv : Value, s.heap.get? f = some (PySem.W.kla_obj "<lambda>" q params body sc cl pm c' ctv) := fun s H F m hp hok r hf => by
    obtain ⟨z, _, _⟩ := hok f _ (r.sub _ _ hf)
    exact z
  refine ⟨fun A outer s H us vs Q E hr e0 un r hsp => ?_, fun s H hok ⟨F, m, hp, r, nd⟩ => ?_, hlen⟩
  · obtain ⟨hl, F, m, ds, hp, r', hp', r0, d0, ⟨nd1, nd2, nd3⟩, e1, k0⟩ := hsp
    obtain ⟨pm, ctv, ho⟩ := at_ s H F m hp e0.hok r0 nd1
    have lim : s.heap.NoLimit := e0.mod.nolimit.keeps fun b o e => (e0.bs b o e).1
    refine PySem.W.kla_callFunE hr.depth ho rfl S.co S.gen rfl (NdefX.codeO_at e0.hok (r0.sub _ _ nd2)) ?_
    have hlu : us.length = ps.length := by rw [← r.length, hl, hps]
    rw [hb pm ctv us hlu]
    refine wpAny_pure (wpAny_newFunctionEnv S.nocell (fun ⟨n, _⟩ hy => S.par n (List.of_mem_zip hy).1) (fun h₁ hns hsb => ⟨lim.fresh _ hsb, ?_⟩) S.kind)
    show codeAny _ _ (.expr body (NdefX.envF ⟨"<lambda>", q, params, [], sc, cl, c'⟩ f s.heap.objs.size)) _ _
    have kp : ∀ b o, s.heap.get? b = some o → h₁.get? b = some o := fun b o e => hsb.extBut b o (Nat.ne_of_lt (Heap.lt_size e)) (Heap.get?_push_of_some _ e)
    have C0 := NdefX.cells_of I cp
    have C : NdefX.CellsAt cl fr (js.map (NdefX.slotAt σ)) s.heap H := by
      have cell : ∀ y c, cl.lookup y = some c → ∀ v, s2.heap.IsCell c v → s.heap.IsCell c v := fun y c e v ⟨o, ho, hd⟩ => by
        obtain ⟨sl, z⟩ := un.any ho (C0.all y c e).1 (by simp)
        exact ⟨_, z, hd⟩
      refine ⟨C0.len, fun y c e => ?_, C0.inj, fun i y e => ?_⟩
      · obtain ⟨n, v, z⟩ := C0.all y c e
        refine ⟨?_, v, cell y c e v z⟩
        obtain ⟨o, ho, _⟩ := z
        exact un.free c o ho n (by simp)
      · obtain ⟨c, hc, hv⟩ := C0.has i y e
        refine ⟨c, hc, fun v ev => ?_⟩
        obtain ⟨u, ru, z⟩ := hv v ev
        exact ⟨u, ru, cell y c hc _ z⟩
    have J : Inv (cxL P w K mg base N q params sc cl c' f A outer s H E ()) [] (NdefX.startF N vs (js.map (NdefX.slotAt σ))) H { s with heap := h₁, toks := s.toks + (ps.zip us).length } :=
      NdefX.inv_startN (F := ⟨"<lambda>", q, params, [], sc, cl, c'⟩) S hr.hd e0 (by rw [hl, hps]) r C hns kp
    obtain ⟨t, p, q0⟩ := @SE.ex _ FV0 _ _ _ _ _ _ _ (hbody A outer s H E (cxL_fam S.nd) (cxL_cal (hr.deeper _)))
    have hdl : ds.length = np := by rw [← d0.length]; exact hl
    have n0 := en_startL (np := np) N d0 nd3 hdl
    unfold runLam at e1
    rw [if_pos hdl] at e1
    have ht : t (NdefX.startF N vs (js.map (NdefX.slotAt σ))) H Q := by
      refine q0 _ H _ hp F m r0 n0 _ _ e1 _ ?_
      cases r' with
      | val d => exact fun v F' m' H' n2 r2 d2 => k0 v F' m' H' n2 r2 d2
      | exc x => exact fun F' m' H' c dd n2 r2 d2 => k0 F' m' H' c dd n2 r2 d2
    refine PySem.W.kla_codeExpr (wpAny_mono ((p ()).run [] _ _ H Q J ht) (fun v s' hq => ?_) fun e s' hq => hq)
    obtain ⟨w', H', J', rv, q⟩ := hq
    exact ⟨w', H', J'.os, J'.bare, J'.base, J'.hok, rv, q⟩
  · obtain ⟨pm, ctv, ho⟩ := at_ s H F m hp hok r nd.1
    exact .inl ⟨_, _, _, _, ho⟩
end
end MP
end

section
set_option maxRecDepth 100000
set_option maxHeartbeats 2000000
/-! MP27: x(.., lambda ..: ..), x(.., g), and a call of what was got. -/
namespace MP
open PySem PySem.Spec PyProof.Rows L2 MX PySem.W
variable [WW]
theorem vals_snoc : ∀ {vs : List V} {v : V} {us : List Value}, Vals (vs ++ [v]) us → ∃ us' u, us = us' ++ [u] ∧ Vals vs us' ∧ RelV v u
  | [], v, us, h => by
    cases h with
    | cons r t => cases t; exact ⟨[], _, rfl, .nil, r⟩
  | x :: vs, v, us, h => by
    cases h with
    | cons r t =>
      obtain ⟨us', u, rfl, a, b⟩ := vals_snoc t
      exact ⟨_ :: us', u, rfl, .cons r a, b⟩
/-- the promise of the call: the last argument is a function that is called as φ -/
def CallAtS (Y : Cx) (K : PySem.W.Frag) (mg : Str → Option Value) (kf npf : Nat) (W : WX) (g : FF → FF) (np : Nat) (σ : L2.St) (xs : List V) (Q : VK) (pins : List (Addr × Obj)) (H : Hp) (s : Shared) : Prop :=
  ∃ (vs : List V) (f : Addr) (need : Hp → List Addr → Prop) (φ : FF), xs = vs ++ [.ref f] ∧ Mn need ∧ CallAt Y.prog Y.w K mg Y.base kf f need npf φ (frs Y.stack) s H ∧ spMN K mg np (g φ) need vs H Q (WE W σ)
section
variable {K : PySem.W.Frag} {mg : Str → Option Value} {W : WX} {P : Program} {w : World} {base : Heap} {k kk kf np npf : Nat} {nm : Str} {g : FF → FF} {e : Expr} {es : List Expr} {p pos : Pos}
/-- the call itself -/
theorem pe_callF {Y : Cx} {t : TA} {R : L2.St → List V → VK → Hp → Prop} (hP : Y.prog = P) (hw : Y.w = w) (hb : Y.base = base) (hK : Y.K = K) (hmg : Y.mg = mg) (hr : Room k Y.A) (tk : Takes Y W) (Dk : DefOkF P w K mg base k kf nm np npf g) (hg : Gl Y nm) (hdb : (nm == ("__debug__" : Str)) = false) (ha : PA Y (e :: es) t)
    (he : starEach (e :: es) Y.env = (false, eval e Y.env) :: starEach es Y.env) (hpl : (backTo pos (starEach es Y.env)).any (·.1) = false)
    (hR : ∀ (pins : List (Addr × Obj)) (σ : L2.St) (xs : List V) (Q : VK) (H : Hp) (s : Shared), Inv Y pins σ H s → R σ xs Q H → CallAtS Y K mg kf npf W g np σ xs Q pins H s) :
    PE Y (.Call (.Name nm p) (e :: es) [] pos) (fun σ H Q => t σ H fun xs H1 => R σ xs Q H1) := by
  obtain ⟨a, hm, hk, run⟩ := Dk.ex
  refine ⟨fun pins s σ H Q I h => ?_⟩
  refine wpAny_Call_Name_kw (ld_glob I hg (by rw [hmg]; exact hm) ?_ hdb)
  refine PySem.W.callWith_K (h₀ := Y.base) I.ok.mod.kin (by rw [hK]; exact hk) (thn (ha.run pos pins s σ H _ I h) fun us s1 ⟨xs, H1, I1, r, q⟩ => ⟨I1.kIn, ?_⟩) he hpl
  obtain ⟨vs, f, need, φ, rfl, mono, C, q⟩ := hR pins σ xs Q H1 s1 I1 q
  obtain ⟨us', u, rfl, r', ru⟩ := vals_snoc r
  obtain rfl : u = Value.ref f := ru
  refine wpAny_call (codeAny_mono (R := CR (L2.CX Y.prog Y.w) Y.stack Y.prog Y.w H1 s1 Q (WE W σ)) ?_ fun r s' hq => ?_)
  · have e0 := I1.env0
    have z := run Y.A Y.stack s1 H1 us' vs f need mono φ Q (WE W σ) hr (by rw [← hP, ← hw, ← hK, ← hmg, ← hb]; exact e0) (by rw [← hP, ← hw, ← hb]; exact C) r' q
    rw [← hP, ← hw] at z
    exact z
  · cases r with
    | error e => exact passAt tk σ pins H1 s1 e s' I1 hq
    | ok fl =>
      cases fl with
      | ret u => exact I1.after hq
      | next => exact False.elim hq
      | brk => exact False.elim hq
      | cont => exact False.elim hq
/-- what is asked of a lambda's making -/
structure LamIn {ι : Type} (X : ι → Cx) (mg : Str → Option Value) (msc : Scope) (params : Arguments) (sc : Scope) (lpos : Pos) (q : Str) (cl : List (Str × Addr)) : Prop where
  ex : ∃ (c Pt : Addr) (nm : Nat → Nat → Str), (∀ j, LamX.TabB (X j).base mg c Pt) ∧ (∀ j, (X j).env.code = .ref c) ∧ (Pt, nm) ∈ WW.T ∧ nm lpos.line lpos.col = q ∧ (∀ p ∈ WW.T, p.1 = Pt → p.2 = nm)
  hq : ∀ j, (X j).env.qual ++ "<lambda>" = q
  hd : ∀ j, defaultsOf params (X j).env = ([], [])
  scp : ∀ j, (X j).env.scope = msc
  clo : ∀ j, cloFrom (X j).env.cells sc.names [] = cl
section
variable {ι : Type} {X : ι → Cx} {F F' : Hp} {m m' : List Addr} {H H' : Hp} {hp hp' : EH} {params : Arguments} {body : Expr} {sc msc : Scope} {lpos : Pos} {q : Str} {cl : List (Str × Addr)} {N ps fr : List Str} {js : List Nat} {fb fe : FE} {kl : Nat}
/-- x(e, lambda ..: ..) -/
def eCallLam1 (g : FF → FF) (nN npf : Nat) (js : List Nat) (fb fe : FE) : FE := bnd fe fun d env hp => g (runLam nN npf (capE env js) fb) [d] hp
/-- x(lambda ..: ..) -/
def eCallLam0 (g : FF → FF) (nN npf : Nat) (js : List Nat) (fb : FE) : FE := fun env hp => g (runLam nN npf (capE env js) fb) [] hp
abbrev needL (q : Str) (params : Arguments) (body : Expr) (sc : Scope) (cl : List (Str × Addr)) (f c' : Addr) (K : PySem.W.Frag) (ws : List (Option V)) (cs : List (Option D)) : Hp → List Addr → Prop := fun F m => F f = some (LamO f q params body sc cl c') ∧ F c' = some (LamX.CodeO c' q) ∧ CapR K F m ws cs
theorem needL_mono {f c' : Addr} {ws : List (Option V)} {cs : List (Option D)} : Mn (needL q params body sc cl f c' K ws cs) := fun F F' m m' s pr ⟨a, b, c⟩ => ⟨s _ _ a, s _ _ b, c.len, fun i d e => by
  obtain ⟨v, x, y⟩ := c.get i d e
  exact ⟨v, x, y.mono s pr⟩⟩
def RLam (K : PySem.W.Frag) (mg : Str → Option Value) (W : WX) (g : FF → FF) (np npf nN : Nat) (js : List Nat) (fb : FE) (q : Str) (params : Arguments) (body : Expr) (sc : Scope) (cl : List (Str × Addr)) (σ : L2.St) (xs : List V) (Q : VK) (H : Hp) : Prop :=
  ∃ (vs : List V) (f c' : Addr) (cs : List (Option D)), xs = vs ++ [.ref f] ∧ spMN K mg np (g (runLam nN npf cs fb)) (needL q params body sc cl f c' K (js.map (NdefX.slotAt σ)) cs) vs H Q (WE W σ)
theorem lam_pe (hF : Fam X K mg) (L : LamIn X mg msc params sc lpos q cl) (hnd : NdefX.ndefB msc sc fr = true) (j : ι) : PE (X j) (.Lambda params body sc lpos) (tLamT q params body sc cl) := by
  obtain ⟨c, Pt, nm, h1, h2, h3, h4, h5⟩ := L.ex
  refine ⟨fun pins s σ H Q I h => ?_⟩
  have hf := NdefX.ndef_free hnd
  refine (pe_lam (c := c) (Pt := Pt) (nm := nm) (by rw [hF.g j]; exact h1 j) (h2 j) h3 (L.hq j) h4 h5 (L.hd j) (fun y hy e => ?_) (L.clo j)).run pins s σ H Q I h
  have z := hf y hy e
  rw [← L.scp j] at z
  rcases z with z | z
  · exact I.ok.has _ (.inl z)
  · exact I.ok.has _ (.inr z)
theorem lam_RS (hF : Fam X K mg) (hC : Cal X P w base kk W) (L : LamIn X mg msc params sc lpos q cl) (hnd : NdefX.ndefB msc sc fr = true) (S : NdefX.NScope N ps fr sc) (hps : ps.length = npf) (hjs : ∀ j, js.map (fun i => (X j).N[i]?) = fr.map some)
    (hb : ∀ (c' : Addr) (pm ctv : Value) (us : List Value), us.length = ps.length → bindArgs (PySem.W.kla_fn "<lambda>" q params body sc cl pm (.ref c') ctv) ⟨us, []⟩ = pure (ps.zip us))
    (hbody : ∀ (c' f : Addr) (A : Around) (outer : List Env) (s : Shared) (H : Hp) (E : XK), Fam (cxL P w K mg base N q params sc cl c' f A outer s H E) K mg → Cal (cxL P w K mg base N q params sc cl c' f A outer s H E) P w base kl (wOf E) → @SE _ FV0 _ (cxL P w K mg base N q params sc cl c' f A outer s H E) K mg (wOf E) body fb)
    (j : ι) : ∀ (pins : List (Addr × Obj)) (σ : L2.St) (xs : List V) (Q : VK) (H : Hp) (s : Shared), Inv (X j) pins σ H s → RLam K mg W g np npf N.length js fb q params body sc cl σ xs Q H → CallAtS (X j) K mg (kl + 1) npf W g np σ xs Q pins H s := by
  intro pins σ xs Q H s I ⟨vs, f, c', cs, e, sp⟩
  refine ⟨vs, f, _, _, e, needL_mono, ?_, sp⟩
  have cp : NdefX.Caps (X j) cl fr js := by
    rw [← L.clo j]
    exact NdefX.Caps.made I.ok (by rw [L.scp j]; exact NdefX.ndef_free hnd) (NdefX.ndef_fr hnd) (hjs j)
  have z := lam_at (P := P) (w := w) (mg := mg) (base := base) (K := K) (cs := cs) I S hps (fun pm ctv us => hb c' pm ctv us) cp (fun A outer s H E => hbody c' f A outer s H E)
  rw [hC.p j, hC.w j, hC.b j]
  exact z
theorem se_callLam1 [FV] (hF : Fam X K mg) (hC : Cal X P w base kk W) (Dk : DefOkF P w K mg base k (kl + 1) nm 1 npf g) (hk : k ≤ kk) (hg : ∀ j, Gl (X j) nm) (h : SE X K mg W e fe) (L : LamIn X mg msc params sc lpos q cl) (hnd : NdefX.ndefB msc sc fr = true) (S : NdefX.NScope N ps fr sc) (hps : ps.length = npf) (hjs : ∀ j, js.map (fun i => (X j).N[i]?) = fr.map some)
    (hb : ∀ (c' : Addr) (pm ctv : Value) (us : List Value), us.length = ps.length → bindArgs (PySem.W.kla_fn "<lambda>" q params body sc cl pm (.ref c') ctv) ⟨us, []⟩ = pure (ps.zip us))
    (hbody : ∀ (c' f : Addr) (A : Around) (outer : List Env) (s : Shared) (H : Hp) (E : XK), Fam (cxL P w K mg base N q params sc cl c' f A outer s H E) K mg → Cal (cxL P w K mg base N q params sc cl c' f A outer s H E) P w base kl (wOf E) → @SE _ FV0 _ (cxL P w K mg base N q params sc cl c' f A outer s H E) K mg (wOf E) body fb)
    (hdb : (nm == ("__debug__" : Str)) = false := by decide) (he : ∀ j, starEach [e, .Lambda params body sc lpos] (X j).env = (false, eval e (X j).env) :: starEach [.Lambda params body sc lpos] (X j).env := by intro _; rfl)
    (he2 : ∀ j, starEach [.Lambda params body sc lpos] (X j).env = (false, eval (.Lambda params body sc lpos) (X j).env) :: starEach [] (X j).env := by intro _; rfl) (hpl : ∀ j, (backTo pos (starEach [.Lambda params body sc lpos] (X j).env)).any (·.1) = false := by intro _; rfl) :
    SE X K mg W (.Call (.Name nm p) [e, .Lambda params body sc lpos] [] pos) (eCallLam1 g N.length npf js fb fe) := by
  obtain ⟨t, pt, q0⟩ := h.ex
  refine ⟨⟨_, fun j => pe_callF (R := RLam K mg W g 1 npf N.length js fb q params body sc cl) (hC.p j) (hC.w j) (hC.b j) (hF.k j) (hF.g j) ((hC.r j).mono hk) (hC.t j) Dk (hg j) hdb (pa_cons (pt j) (pa_cons (lam_pe hF L hnd j) pa_nil (he2 j)) (he j)) (he j) (hpl j) (lam_RS hF hC L hnd S hps hjs hb hbody j), fun σ H env hp F m r n r' hp' e Q q => ?_⟩⟩
  rcases bnd_val e with ⟨x, h1, rfl⟩ | ⟨d, hp1, h1, h2⟩
  · exact q0 σ H env hp F m r n _ _ h1 _ q
  · refine q0 σ H env hp F m r n _ _ h1 _ fun v F1 m1 H1 n1 r1 d1 => ⟨r1.tab, fun f c' H2 hE hN hT hf g1 g2 => ?_⟩
    obtain ⟨F3, r3, n3, a1, a2⟩ := lam_plain r1 hE hN hT hf g1 g2
    have n13 := n1.trans n3
    refine ⟨[v], f, c', capE env js, rfl, rfl, F3, m1, [d], hp1, r', hp', r3, .cons (d1.mono n3.fz n3.pre) .nil, ⟨a1, a2, capR_of (n.mono n13) js⟩, h2, ?_⟩
    cases r' with
    | val d => exact fun v F' m' H' n2 r2 d2 => q v F' m' H' (n13.trans n2) r2 d2
    | exc x => exact fun F' m' H' c dd n2 r2 d2 => q F' m' H' c dd (n13.trans n2) r2 d2
theorem se_callLam0 [FV] (hF : Fam X K mg) (hC : Cal X P w base kk W) (Dk : DefOkF P w K mg base k (kl + 1) nm 0 npf g) (hk : k ≤ kk) (hg : ∀ j, Gl (X j) nm) (L : LamIn X mg msc params sc lpos q cl) (hnd : NdefX.ndefB msc sc fr = true) (S : NdefX.NScope N ps fr sc) (hps : ps.length = npf) (hjs : ∀ j, js.map (fun i => (X j).N[i]?) = fr.map some)
    (hb : ∀ (c' : Addr) (pm ctv : Value) (us : List Value), us.length = ps.length → bindArgs (PySem.W.kla_fn "<lambda>" q params body sc cl pm (.ref c') ctv) ⟨us, []⟩ = pure (ps.zip us))
    (hbody : ∀ (c' f : Addr) (A : Around) (outer : List Env) (s : Shared) (H : Hp) (E : XK), Fam (cxL P w K mg base N q params sc cl c' f A outer s H E) K mg → Cal (cxL P w K mg base N q params sc cl c' f A outer s H E) P w base kl (wOf E) → @SE _ FV0 _ (cxL P w K mg base N q params sc cl c' f A outer s H E) K mg (wOf E) body fb)
    (hdb : (nm == ("__debug__" : Str)) = false := by decide)
    (he2 : ∀ j, starEach [.Lambda params body sc lpos] (X j).env = (false, eval (.Lambda params body sc lpos) (X j).env) :: starEach [] (X j).env := by intro _; rfl) (hpl : ∀ j, (backTo pos (starEach [] (X j).env)).any (·.1) = false := by intro _; rfl) :
    SE X K mg W (.Call (.Name nm p) [.Lambda params body sc lpos] [] pos) (eCallLam0 g N.length npf js fb) := by
  refine ⟨⟨_, fun j => pe_callF (R := RLam K mg W g 0 npf N.length js fb q params body sc cl) (hC.p j) (hC.w j) (hC.b j) (hF.k j) (hF.g j) ((hC.r j).mono hk) (hC.t j) Dk (hg j) hdb (pa_cons (lam_pe hF L hnd j) pa_nil (he2 j)) (he2 j) (hpl j) (lam_RS hF hC L hnd S hps hjs hb hbody j), fun σ H env hp F m r n r' hp' e Q q => ?_⟩⟩
  refine ⟨r.tab, fun f c' H2 hE hN hT hf g1 g2 => ?_⟩
  obtain ⟨F3, r3, n3, a1, a2⟩ := lam_plain r hE hN hT hf g1 g2
  refine ⟨[], f, c', capE env js, rfl, rfl, F3, m, [], hp, r', hp', r3, .nil, ⟨a1, a2, capR_of (n.mono n3) js⟩, e, ?_⟩
  cases r' with
  | val d => exact fun v F' m' H' n2 r2 d2 => q v F' m' H' (n3.trans n2) r2 d2
  | exc x => exact fun F' m' H' c dd n2 r2 d2 => q F' m' H' c dd (n3.trans n2) r2 d2
/-- x(e, g), g a def of the module -/
def eCallDef1 (g : FF → FF) (φ : FF) (fe : FE) : FE := bnd fe fun d _ hp => g φ [d] hp
def RDef (K : PySem.W.Frag) (mg : Str → Option Value) (W : WX) (g : FF → FF) (np : Nat) (φ : FF) (b : Addr) (σ : L2.St) (xs : List V) (Q : VK) (H : Hp) : Prop := ∃ vs : List V, xs = vs ++ [.ref b] ∧ spMN K mg np (g φ) (fun _ _ => True) vs H Q (WE W σ)
theorem se_callDef1 [FV] {x : Str} {p2 : Pos} {φ : FF} {kd : Nat} (hF : Fam X K mg) (hC : Cal X P w base kk W) (Dk : DefOkF P w K mg base k kf nm 1 npf g) (hk : k ≤ kk) (Dx : DefOk P w K mg base kd x npf φ) (hkd : kd ≤ kf) (hg : ∀ j, Gl (X j) nm) (hg2 : ∀ j, Gl (X j) x) (h : SE X K mg W e fe)
    (hdb : (nm == ("__debug__" : Str)) = false := by decide) (hdb2 : (x == ("__debug__" : Str)) = false := by decide) (he : ∀ j, starEach [e, .Name x p2] (X j).env = (false, eval e (X j).env) :: starEach [.Name x p2] (X j).env := by intro _; rfl)
    (he2 : ∀ j, starEach [.Name x p2] (X j).env = (false, eval (.Name x p2) (X j).env) :: starEach [] (X j).env := by intro _; rfl) (hpl : ∀ j, (backTo pos (starEach [.Name x p2] (X j).env)).any (·.1) = false := by intro _; rfl) :
    SE X K mg W (.Call (.Name nm p) [e, .Name x p2] [] pos) (eCallDef1 g φ fe) := by
  obtain ⟨t, pt, q0⟩ := h.ex
  obtain ⟨b, fd, ps, e1, e2, e3, e4, e5⟩ := Dx.ex
  refine ⟨⟨_, fun j => pe_callF (R := RDef K mg W g 1 φ b) (hC.p j) (hC.w j) (hC.b j) (hF.k j) (hF.g j) ((hC.r j).mono hk) (hC.t j) Dk (hg j) hdb (pa_cons (pt j) (pa_cons (pe_glob (v := .ref b) (hg2 j) (by rw [hF.g j]; exact e3) rfl hdb2) pa_nil (he2 j)) (he j)) (he j) (hpl j) (fun pins σ xs Q H s I ⟨vs, a1, a2⟩ => ?_), fun σ H env hp F m r n r' hp' e Q q => ?_⟩⟩
  · refine ⟨vs, b, _, φ, a1, fun _ _ _ _ _ _ _ => True.intro, ?_, a2⟩
    rw [hC.p j, hC.w j, hC.b j]
    refine ⟨fun A outer s H us vs Q E hr e0 un r sp => ?_, fun _ _ _ _ => .inr e4, Dx.len⟩
    have sp2 := sp.plain
    have KX : K.In s.heap := e0.mod.kin.keeps fun b o e => (e0.bs b o e).1
    have hl : us.length = ps.length := by rw [← r.length, e1]; exact sp2.1
    have bt := e5 s us KX (by rw [List.append_nil]; exact hl)
    rw [List.append_nil] at bt
    exact e2.run A outer s H ⟨us, []⟩ us vs Q E (hr.mono hkd) e0 bt r sp2
  · rcases bnd_val e with ⟨x, h1, rfl⟩ | ⟨d, hp1, h1, h2⟩
    · exact q0 σ H env hp F m r n _ _ h1 _ q
    · refine q0 σ H env hp F m r n _ _ h1 _ fun v F1 m1 H1 n1 r1 d1 => ?_
      refine ⟨[v], rfl, rfl, F1, m1, [d], hp1, r', hp', r1, .cons d1 .nil, True.intro, h2, ?_⟩
      cases r' with
      | val d => exact fun v F' m' H' n2 r2 d2 => q v F' m' H' (n1.trans n2) r2 d2
      | exc x => exact fun F' m' H' c dd n2 r2 d2 => q F' m' H' c dd (n1.trans n2) r2 d2
end
end
end MP
end

section
set_option maxRecDepth 100000
set_option maxHeartbeats 2000000
/-! MP28: a def whose code object is known (it makes lambdas); call() of what was got. -/
namespace MP
open PySem PySem.Spec PyProof.Rows L2 MX PySem.W
variable [WW]
section
variable [V : FV] {ι : Type} {X : ι → Cx} {K : PySem.W.Frag} {mg : Str → Option Value} {W : WX} {F F' : Hp} {m m' : List Addr} {H H' : Hp} {hp hp' : EH} {e : Expr} {es : List Expr} {fa : FA} {pos p : Pos} {P : Program} {w : World} {base : Heap} {k kk np i : Nat} {x : Str} {φ : FF}
theorem pe_fv0 {Y : Cx} (hK : Y.K = K) (hrun : ∀ (s : Shared) (H : Hp) (us : List Value) (vs : List L2.V) (Q : VK) (E : XK), Env0 Y.prog Y.w Y.K Y.mg Y.base Y.A Y.stack s H → Un Y.fs Y.ex Y.H_0 H Y.s_0.heap s.heap → Vals vs us → spMN K mg 0 φ V.need vs H Q E →
    codeAny (model Y.prog Y.w) Y.A (.call (.ref V.fv) ⟨us, []⟩) (CR (L2.CX Y.prog Y.w) Y.stack Y.prog Y.w H s Q E) s)
    (hfn : ∀ (s : Shared) (H : Hp), HOk Y.prog Y.w H s.heap → OkF K V.need H → PySem.W.FnAt V.fv s.heap ∨ PySem.W.keepIn K (.ref V.fv) = true)
    (tk : Takes Y W) (hN : Y.N[i]? = some x) (hv : Vis Y.env.scope x) (hdb : (x == ("__debug__" : Str)) = false) (hcd : (x == ("__classdict__" : Str)) = false) :
    PE Y (.Call (.Name x p) [] [] pos) (tCallV K mg V.need V.fv i 0 φ (WE W) tNil) := by
  refine ⟨fun pins s σ H Q I h => ?_⟩
  obtain ⟨hs, ok, ht⟩ := h
  refine wpAny_Call_Name_kw (thn ((pe_var (pos := p) hN hv hdb hcd).run pins s σ H (fun v H1 => v = .ref V.fv ∧ H1 = H) I ⟨.ref V.fv, hs, rfl, rfl⟩) fun u s1 ⟨v, H1, I1, r1, q1⟩ => ?_)
  obtain ⟨rfl, rfl⟩ := q1
  cases r1
  have go : wpAny (model Y.prog Y.w) Y.A (call (.ref V.fv) []) (EP Y pins σ Q) Y.xe s1 := by
    refine wpAny_call (codeAny_mono (hrun s1 H1 [] [] Q (WE W σ) I1.env0 I1.base .nil ht.2) fun r s' hq => ?_)
    cases r with
    | error e => exact passAt tk σ pins H1 s1 e s' I1 hq
    | ok fl =>
      cases fl with
      | ret u => exact I1.after hq
      | next => exact False.elim hq
      | brk => exact False.elim hq
      | cont => exact False.elim hq
  rcases hfn s1 H1 I1.hok ok with z | z
  · exact PySem.W.callWith_F0 (first := []) z go
  · exact PySem.W.callWith_K0 (first := []) I1.kIn (by rw [hK]; exact z) go
/-- x(), x the function got -/
theorem se_callF0 (hF : Fam X K mg) (hC : Cal X P w base kk W) (hG : Got X K mg k 0 φ) (hk : k ≤ kk) (hN : ∀ j, (X j).N[i]? = some x := by intro _; rfl) (hv : ∀ j, Vis (X j).env.scope x := by first | exact fun _ => .inl rfl | exact fun _ => .inr (.inl rfl) | exact fun _ => .inr (.inr rfl)) (hi : i ∈ FV.slots := by first | decide | simp +zetaDelta [FV.slots])
    (hdb : (x == ("__debug__" : Str)) = false := by decide) (hcd : (x == ("__classdict__" : Str)) = false := by decide) :
    SE X K mg W (.Call (.Name x p) [] [] pos) (eFv i φ aNil) := by
  exact ⟨⟨tCallV K mg V.need V.fv i 0 φ (WE W) tNil, fun j => pe_fv0 (hF.k j) (fun s H us vs Q E => hG.run j s H us vs Q E ((hC.r j).mono hk)) (hG.fn j) (hC.t j) (hN j) (hv j) hdb hcd, fun σ H env hp F m r n r' hp' e Q q => fv_read (ta := tNil) (fa := aNil) hi r n (fun r hp' e Q q => by cases e; exact q [] F m H Nx.refl (by assumption) .nil) hG.len e q⟩⟩
end
section
variable {P : Program} {w : World} {K : PySem.W.Frag} {mg : Str → Option Value} {base : Heap}
/-- the code object of the function at a -/
def CdAt (K : PySem.W.Frag) (a c : Addr) : Prop := ∀ (oc : Value) (od : Option Addr) (fd : FuncData) (osl : Array (Option Value)), K.lookup a = some ⟨oc, od, .func fd, osl⟩ → fd.code = .ref c
theorem cdAt_of {x : Str} {c Pt a : Addr} {h : Heap} (X : K.In h) (G : h.Ns mainGlobals mg) (ht : PySem.W.tabIn K x = some (c, Pt)) (hm : mg x = some (.ref a)) : CdAt K a c := fun oc od fd osl e => PySem.W.law_code X G ht hm (X _ _ e) rfl
/-- what a def that makes lambdas knows of its table -/
structure TabAt (base : Heap) (mg : Str → Option Value) (c Pt : Addr) (q : Str) : Prop where
  tb : LamX.TabB base mg c Pt
  ex : ∃ nm : Nat → Nat → Str, (Pt, nm) ∈ WW.T ∧ (∀ l o, nm l o = q) ∧ ∀ p ∈ WW.T, p.1 = Pt → p.2 = nm
theorem tabAt_of {c Pt : Addr} {q : Str} (tb : LamX.TabB base mg c Pt) (hm : (Pt, fun _ _ => q) ∈ WW.T) (nd : (WW.T.map (·.1)).Nodup) : TabAt base mg c Pt q := by
  refine ⟨tb, _, hm, fun _ _ => rfl, fun p hp e => ?_⟩
  obtain ⟨i, hi, ei⟩ := List.mem_iff_getElem.mp hp
  obtain ⟨j, hj, ej⟩ := List.mem_iff_getElem.mp hm
  have hij : i = j := by
    refine (List.getElem_inj (h₀ := by simpa using hi) (h₁ := by simpa using hj) nd).mp ?_
    rw [List.getElem_map, List.getElem_map, ei, ej]
    exact e
  subst hij
  rw [ei] at ej
  rw [ej]
theorem lamIn_of {N : List Str} {qual : Str} {sc sl : Scope} {a c Pt : Addr} {A : Around} {outer : List Env} {s : Shared} {H : Hp} {E : XK} {q : Str} {params : Arguments} {lpos : Pos} (T : TabAt base mg c Pt q)
    (hq : (envOfC qual sc s.heap.objs.size a (.ref c)).qual ++ "<lambda>" = q) (hd : defaultsOf params (envOfC qual sc s.heap.objs.size a (.ref c)) = ([], [])) :
    LamIn (cxD P w K mg base N qual sc a (.ref c) A outer s H E) mg sc params sl lpos q (cloFrom (envOfC qual sc s.heap.objs.size a (.ref c)).cells sl.names []) := by
  obtain ⟨nm, h1, h2, h3⟩ := T.ex
  exact ⟨⟨c, Pt, nm, fun _ => T.tb, fun _ => rfl, h1, h2 _ _, h3⟩, fun _ => hq, fun _ => hd, fun _ => rfl, fun _ => rfl⟩
/-- THE RULE of a def whose code object is known -/
theorem def_okC {x qual : Str} {st : Stmt} {a c : Addr} {fd : FuncData} {N ps : List Str} {k : Nat} {fb : FS} {g : FF} {nm : Str} (T : Fun K x qual st a fd) (S : FnScope N ps (defScope st)) (hcd : CdAt K a c) (hg : g = runDef N.length ps.length fb ∨ g = runDefO N.length ps.length fb) (hm : mg nm = some (.ref a)) (hbi : Binds K fd ps [])
    (hb : ∀ (A : Around) (outer : List Env) (s : Shared) (H : Hp) (E : XK), Fam (cxD P w K mg base N qual (defScope st) a (.ref c) A outer s H E) K mg → Cal (cxD P w K mg base N qual (defScope st) a (.ref c) A outer s H E) P w base k (wOf E) → Own (cxD P w K mg base N qual (defScope st) a (.ref c) A outer s H E) →
      @SB _ FV0 _ (cxD P w K mg base N qual (defScope st) a (.ref c) A outer s H E) K mg (wOf E) (defBody st) fb) :
    DefOk P w K mg base (k + 1) nm ps.length g := by
  have hpl : ps.length ≤ N.length := by
    have z := congrArg List.length S.pre
    rw [List.length_take] at z
    omega
  refine ⟨⟨a, fd, ps, rfl, ?_, hm, T.kp, hbi⟩, fun ds hp z e => ?_⟩
  · obtain ⟨oc, od, kV, doc, pm, an, cdv, ct, osl, rfl, lk, hci⟩ := T.ex
    obtain rfl : cdv = .ref c := hcd _ _ _ _ lk
    exact fn_of lk hci S (fun vs H Q E h => h.1) fun A outer s H vs Q E hr hs => def_body (hb A outer s H E (cxD_fam S.nd) (cxD_cal hr) cxD_own) hpl hg hs
  · rcases hg with rfl | rfl
    · unfold runDef at e
      split at e
      · assumption
      · cases e
    · unfold runDefO at e
      split at e
      · assumption
      · cases e
end
end MP
end

section
set_option maxRecDepth 100000
set_option maxHeartbeats 2000000
/-! MP29: {} as a value; repr of data with {} in it (and no list). -/
namespace MP
open PySem PySem.Spec PyProof.Rows L2 MX PySem.W
variable [WW]
section
variable {K : PySem.W.Frag}
mutual
inductive Dq (K : PySem.W.Frag) (H : Hp) : V → PyData → Prop
  | non : Dq K H .non .none
  | bl (b : Bool) : Dq K H (.bl b) (.bool b)
  | int (i : Int) : Dq K H (.int i) (.int i)
  | str (x : Str) : Dq K H (.str x) (.str x)
  | tup {a : Addr} {xs : List V} {ds : List PyData} : SqT K H a xs → DqAll K H xs ds → Dq K H (.ref a) (.tuple ds)
  | dic {a : Addr} : H a = some (.dK []) → Dq K H (.ref a) (.dict [])
inductive DqAll (K : PySem.W.Frag) (H : Hp) : List V → List PyData → Prop
  | nil : DqAll K H [] []
  | cons {v : V} {vs : List V} {d : PyData} {ds : List PyData} : Dq K H v d → DqAll K H vs ds → DqAll K H (v :: vs) (d :: ds)
end
section
variable {X : Cx} {pins : List (Addr × Obj)} {σ : L2.St} {H : Hp} {s : Shared}
theorem dic_reads (I : Inv X pins σ H s) {a : Addr} (h : H a = some (.dK [])) : ∃ as, Reads s.heap (.ref a) (.dict []) as ∧ sysModules ∉ as := by
  obtain ⟨_, hS, vs, r, o, es, ep, ho, hx, hd, _, hp, _⟩ : ([] : List (Key × V)).length ≤ sizeLine ∧ (a == sysModules) = false ∧ ∃ vs, KV [] vs ∧ s.heap.DictOf (mixKind X.prog X.w) a vs := I.hok a _ h
  have e0 : vs = [] := by
    have z : 0 = vs.length := Paired.length r
    exact List.eq_nil_of_length_eq_zero z.symm
  subst e0
  have e1 : es.toList = [] := by
    cases q : es.toList with
    | nil => rfl
    | cons x xs => rw [q] at hp; cases hp
  refine ⟨_, Reads.dict (as := []) (bs := []) ho hx.1 hd (by rw [e1]; exact ReadsAll.nil) (by rw [e1]; exact ReadsAll.nil), ?_⟩
  intro z
  have z' : sysModules = a := by simpa using z
  rw [← z'] at hS
  simp at hS
mutual
theorem Dq.reads (I : Inv X pins σ H s) : ∀ (d : PyData) (v : V) (u : Value), Dq X.K H v d → RelV v u → ∃ as, Reads s.heap u d as ∧ sysModules ∉ as
  | .none, _, _, h, r => by
    cases h; cases r
    exact ⟨_, Reads.none, by simp⟩
  | .bool b, _, _, h, r => by
    cases h; cases r
    exact ⟨_, Reads.bool b, by simp⟩
  | .int i, _, _, h, r => by
    cases h
    obtain ⟨t, rfl⟩ := r
    exact ⟨_, Reads.int i t, by simp⟩
  | .str x, _, _, h, r => by
    cases h
    obtain ⟨t, rfl⟩ := r
    exact ⟨_, Reads.str x t, by simp⟩
  | .list ds, _, _, h, r => by cases h
  | .tuple ds, _, _, h, r => by
    cases h with
    | tup hs ha =>
      cases r
      obtain ⟨its, rv, ⟨o, ho, hc, n, hd⟩, _⟩ := I.tuple hs
      obtain ⟨as, hr, hn⟩ := DqAll.reads I ds _ its ha rv
      exact ⟨_, Reads.tuple ho hc hd hr, hn⟩
  | .dict ds, _, _, h, r => by
    cases h with
    | dic h1 =>
      cases r
      exact dic_reads I h1
theorem DqAll.reads (I : Inv X pins σ H s) : ∀ (ds : List PyData) (vs : List V) (us : List Value), DqAll X.K H vs ds → Vals vs us → ∃ as, ReadsAll s.heap us ds as ∧ sysModules ∉ as
  | [], _, _, h, r => by
    cases h; cases r
    exact ⟨_, ReadsAll.nil, by simp⟩
  | d :: ds, _, _, h, r => by
    cases h with
    | cons h1 h2 =>
      cases r with
      | cons r1 r2 =>
        obtain ⟨as, q1, n1⟩ := Dq.reads I d _ _ h1 r1
        obtain ⟨bs, q2, n2⟩ := DqAll.reads I ds _ _ h2 r2
        exact ⟨_, ReadsAll.cons q1 q2, by simp [n1, n2]⟩
end
end
/-- as data, {} too, lists not -/
def D.toQ : D → Option PyData
  | .non => some .none
  | .bl b => some (.bool b)
  | .int i => some (.int i)
  | .str x => some (.str x)
  | .tup xs => match toQs xs with
    | some ps => some (.tuple ps)
    | none => none
  | .dic0 => some (.dict [])
  | _ => none
where toQs : List D → Option (List PyData)
  | [] => some []
  | x :: xs => match D.toQ x, toQs xs with
    | some p, some ps => some (p :: ps)
    | _, _ => none
section
variable {F : Hp} {m : List Addr} {H : Hp}
mutual
theorem dq_of (s : Same F H) : ∀ {d : D} {v : V} {p : PyData}, Dn K F m v d → d.toQ = some p → Dq K H v p
  | .non, _, _, h, e => by cases h; simp [D.toQ] at e; subst e; exact .non
  | .bl b, _, _, h, e => by cases h; simp [D.toQ] at e; subst e; exact .bl b
  | .int i, _, _, h, e => by cases h; simp [D.toQ] at e; subst e; exact .int i
  | .str x, _, _, h, e => by cases h; simp [D.toQ] at e; subst e; exact .str x
  | .tup ds, _, _, h, e => by
    cases h with
    | tup h1 h2 =>
      simp only [D.toQ] at e
      split at e
      · rename_i ps hps
        cases e
        exact .tup (SqT.mono s h1) (dqs_of s h2 hps)
      · cases e
  | .dic0, _, _, h, e => by
    cases h with
    | dic0 h1 => simp [D.toQ] at e; subst e; exact .dic (s _ _ h1)
  | .lst _, _, _, h, e => by simp [D.toQ] at e
  | .scr _, _, _, h, e => by simp [D.toQ] at e
  | .obj _, _, _, h, e => by simp [D.toQ] at e
  | .err _ _ _, _, _, h, e => by simp [D.toQ] at e
  | .xcp _ _ _ _, _, _, h, e => by simp [D.toQ] at e
  | .set _, _, _, h, e => by simp [D.toQ] at e
  | .ist _, _, _, h, e => by simp [D.toQ] at e
theorem dqs_of (s : Same F H) : ∀ {ds : List D} {vs : List V} {ps : List PyData}, Dns K F m vs ds → D.toQ.toQs ds = some ps → DqAll K H vs ps
  | [], _, _, h, e => by cases h; simp [D.toQ.toQs] at e; subst e; exact .nil
  | d :: ds, _, _, h, e => by
    cases h with
    | cons h1 h2 =>
      simp only [D.toQ.toQs] at e
      split at e
      · rename_i p ps a b
        cases e
        exact .cons (dq_of s h1 a) (dqs_of s h2 b)
      · cases e
end
end
def rReprQ (K : PySem.W.Frag) : List V → Hp → VK → Prop := fun xs H Q => ∃ x d, xs = [x] ∧ Dq K H x d ∧ d.showable = true ∧ d.depth ≤ 64 ∧ d.shown.length ≤ sizeLine ∧ Q (.str d.shown) H
theorem call_reprQ {Y : Cx} (hg : Y.A.guards = some []) (hu : Y.A.units + 128 < cLine) : CallR Y (.builtin "repr") (rReprQ Y.K) := by
  intro pins s σ H xs us Q I r h
  obtain ⟨x, d, rfl, hd, h1, h3, h4, q⟩ := h
  obtain ⟨u, rfl, ru⟩ := vals1 r
  obtain ⟨as, rd, hno⟩ := Dq.reads I d x u hd ru
  cases hd with
  | non => cases ru; exact PySem.P.repr_of_none ⟨.str _, H, I.tok _, ⟨_, rfl⟩, by simpa [PyData.shown] using q⟩
  | bl b => cases ru; exact PySem.P.repr_of_bool ⟨.str _, H, I.tok _, ⟨_, rfl⟩, by simpa [PyData.shown] using q⟩
  | int i =>
    obtain ⟨t, rfl⟩ := ru
    exact PySem.P.repr_of_int (by simpa [PyData.showable] using h1) ⟨.str _, H, I.tok _, ⟨_, rfl⟩, by simpa [PyData.shown] using q⟩
  | str z =>
    obtain ⟨t, rfl⟩ := ru
    exact PySem.P.repr_of_str ⟨.str _, H, I.tok _, ⟨_, rfl⟩, by simpa [PyData.shown] using q⟩ (by simpa [PyData.shown] using h4)
  | tup a1 a2 =>
    cases ru
    exact repr_of_reads' rd h1 (fun _ => hno) hg (by omega) (fun _ _ z => z) (fun h' u tk hk => ⟨.str _, H, I.kept hk, ⟨_, rfl⟩, q⟩) h4
  | dic a1 =>
    cases ru
    exact repr_of_reads' rd h1 (fun _ => hno) hg (by omega) (fun _ _ z => z) (fun h' u tk hk => ⟨.str _, H, I.kept hk, ⟨_, rfl⟩, q⟩) h4
def gReprX : List D → EH → Option D := fun ds hp => match gRepr ds hp with
  | some z => some z
  | none => match ds with
    | [d] => match d.toQ with
      | some p => if p.showable = true ∧ p.depth ≤ 64 ∧ p.shown.length ≤ 16777216 then some (.str p.shown) else none
      | none => none
    | _ => none
theorem calls_reprX : CallS K (fun xs H Q => rReprD K xs H Q ∨ rReprQ K xs H Q) gReprX := by
  intro F m H hp vs ds z r1 d1 hz Q q
  unfold gReprX at hz
  split at hz
  · rename_i y hy
    cases hz
    exact .inl (calls_repr F m H hp vs ds _ r1 d1 hy Q q)
  · split at hz
    · split at hz
      · rename_i p hp1
        split at hz
        · rename_i h
          obtain ⟨h1, h3, h4⟩ := h
          cases hz
          cases d1 with
          | cons c1 c2 =>
            cases c2
            exact .inr ⟨_, p, rfl, dq_of r1.sub c1 hp1, h1, h3, by rw [line16]; exact h4, q _ F H Nx.refl r1 (.str _)⟩
        · cases hz
      · cases hz
    · cases hz
end
section
variable [FV]
variable {ι : Type} {X : ι → Cx} {K : PySem.W.Frag} {mg : Str → Option Value} {W : WX} {e : Expr} {ga : FA} {pos p : Pos}
theorem se_reprX (hF : Fam X K mg) (hgd : ∀ j, (X j).A.guards = some []) (hu : ∀ j, (X j).A.units + 128 < cLine) (hm : mg "repr" = none) (hg : ∀ j, Gl (X j) "repr") (ha : SA X K mg W [e] ga) (he : ∀ j, starEach [e] (X j).env = (false, eval e (X j).env) :: starEach [] (X j).env := by intro _; rfl) (hpl : ∀ j, (backTo pos (starEach [] (X j).env)).any (·.1) = false := by intro _; rfl) :
    SE X K mg W (.Call (.Name "repr" p) [e] [] pos) (eCall gReprX ga) := se_callB (fun j => by rw [← hF.k j]; exact (call_reprD (hgd j) (hu j)).or (call_reprQ (hgd j) (hu j))) calls_reprX hg hm hF (by decide +kernel) ha (by decide) (by decide) he hpl
theorem se_dic0 : SE X K mg W (.Dict [] [] pos) (ret .dic0) := by
  refine ⟨⟨_, fun j => pe_dnewK, fun σ H env hp F m r n r' hp' e Q q => ?_⟩⟩
  cases e
  intro b hb
  obtain ⟨r1, n1⟩ := r.fresh (o := .dK []) hb
  exact q _ _ _ _ n1 r1 (.dic0 upd_same)
variable {F : Hp} {m : List Addr} {H : Hp} {hp : EH} {a : Expr} {fa : FE}
theorem st_isN {j pos'} (ha : SE X K mg W a fa) : ST X K mg W (.Compare a [.Is] [.Constant .none j pos'] pos) (MP.tB (eIsN fa)) := by
  obtain ⟨t, p, q0⟩ := ha.ex
  refine ⟨⟨_, fun j => pt_cmp (pc_isN (p j)), fun σ H env hp F m r n r' hp' e Q q => tB_run (t := tIsN t) (fa := eIsN fa) (fun r hp' e Q q => ?_) e q⟩⟩
  rcases bnd_val e with ⟨x, h1, rfl⟩ | ⟨d, hp1, h1, h2⟩
  · exact q0 σ H env hp F m (by assumption) n _ _ h1 _ q
  · cases h2
    refine q0 σ H env hp F m (by assumption) n _ _ h1 _ fun v F1 m1 H1 n1 r1 d1 => ?_
    rw [dn_non d1]
    exact q _ F1 m1 H1 n1 r1 (.bl _)
theorem st_notN {j pos'} (ha : SE X K mg W a fa) : ST X K mg W (.Compare a [.IsNot] [.Constant .none j pos'] pos) (MP.tB (eNotN fa)) := by
  obtain ⟨t, p, q0⟩ := ha.ex
  refine ⟨⟨_, fun j => pt_cmp (pc_notN (p j)), fun σ H env hp F m r n r' hp' e Q q => tB_run (t := tNotN t) (fa := eNotN fa) (fun r hp' e Q q => ?_) e q⟩⟩
  rcases bnd_val e with ⟨x, h1, rfl⟩ | ⟨d, hp1, h1, h2⟩
  · exact q0 σ H env hp F m (by assumption) n _ _ h1 _ q
  · cases h2
    refine q0 σ H env hp F m (by assumption) n _ _ h1 _ fun v F1 m1 H1 n1 r1 d1 => ?_
    rw [dn_non d1]
    exact q _ F1 m1 H1 n1 r1 (.bl _)
end
end MP
end

section
/-! MP30: {e for x in xs for y in ys if ..}: the plain function (its rule is still to be proved: see NOTES). -/
namespace MP
/-- the set of what the list of two fors would hold -/
def eSc2 (src : FI) (vs : List Nat) (g : D → Ev → Option Ev) (t : FT) (src1 : FI) (vs1 : List Nat) (g1 : D → Ev → Option Ev) (t1 : FT) (f : FE) : FE := bnd (eLc2 src vs g t src1 vs1 g1 t1 f) fun d _ hp => match gSet [d] hp with
  | some z => some (.val z, hp)
  | none => none
end MP
end

section
set_option maxRecDepth 100000
set_option maxHeartbeats 2000000
namespace Law
open PySem PySem.Spec PyProof.Rows L2 MP MX
def topS (i : Nat) : Stmt := PySem.Challenge.pw_leadalike_k01_facts_required.main.body.getD i (.Pass ⟨0, 0, 0, 0⟩)
section
variable [WW] {P : Program} {K : PySem.W.Frag} {mg : Str → Option Value} {base : Heap}
def b_is_in_range : FS :=
  (fRet (eAnd (eIsi "int" (eVar 0)) (eAnd (eNot (eIsi "bool" (eVar 0))) (eChain gLe gLe (eVar 1) (eVar 0) (eVar 2)))))
omit [WW] in
theorem sc_is_in_range : FnScope ["value", "least", "most"] ["value", "least", "most"] (defScope (topS 6)) := ⟨rfl, rfl, rfl, by decide +kernel, rfl, by decide +kernel, by decide +kernel⟩
def m_is_in_range : FF := runDef 3 3 b_is_in_range
theorem ok_is_in_range {a : Addr} {fd : FuncData} (T : Fun K "is_in_range" "is_in_range" (topS 6) a fd) (hm : mg "is_in_range" = some (.ref a)) (hbi : Binds K fd ["value", "least", "most"] []) (b_isinstance : mg "isinstance" = none) (b_int : mg "int" = none) (b_bool : mg "bool" = none) : DefOk P WW.w K mg base 1 "is_in_range" 3 m_is_in_range :=
  def_ok (k := 0) (N := ["value", "least", "most"]) (ps := ["value", "least", "most"]) T sc_is_in_range (.inl rfl) hm hbi fun cdv A outer s H E hF hC hO =>
  (show SB _ K mg _ (defBody (topS 6)) b_is_in_range from
  (sb_one (ss_ret (se_and (se_isi2 hF b_isinstance b_int (by kernel_rfl) (fun _ => rfl) (fun _ => rfl) (se_var (i := 0)) (.ty _)) (se_and (se_not (se_isi2 hF b_isinstance b_bool (by kernel_rfl) (fun _ => rfl) (fun _ => rfl) (se_var (i := 0)) (.ty _))) (se_one (se_chain (fun _ => op_le) (fun _ => op_le) ops_B0 ops_B0 (se_var (i := 1)) (se_var (i := 0)) (se_var (i := 2)) rfl)))))))
def b_is_tuple : FS :=
  (fRet (eAnd (eIsi "tuple" (eVar 0)) (eChain gLe gLe (eVar 1) (eCall gLen (aCons (eVar 0) aNil)) (eVar 2))))
omit [WW] in
theorem sc_is_tuple : FnScope ["value", "least", "most"] ["value", "least", "most"] (defScope (topS 7)) := ⟨rfl, rfl, rfl, by decide +kernel, rfl, by decide +kernel, by decide +kernel⟩
def m_is_tuple : FF := runDef 3 3 b_is_tuple
theorem ok_is_tuple {a : Addr} {fd : FuncData} (T : Fun K "is_tuple" "is_tuple" (topS 7) a fd) (hm : mg "is_tuple" = some (.ref a)) (hbi : Binds K fd ["value", "least", "most"] []) (b_isinstance : mg "isinstance" = none) (b_tuple : mg "tuple" = none) (b_len : mg "len" = none) : DefOk P WW.w K mg base 1 "is_tuple" 3 m_is_tuple :=
  def_ok (k := 0) (N := ["value", "least", "most"]) (ps := ["value", "least", "most"]) T sc_is_tuple (.inl rfl) hm hbi fun cdv A outer s H E hF hC hO =>
  (show SB _ K mg _ (defBody (topS 7)) b_is_tuple from
  (sb_one (ss_ret (se_and (se_isi2 hF b_isinstance b_tuple (by kernel_rfl) (fun _ => rfl) (fun _ => rfl) (se_var (i := 0)) (.ty _)) (se_one (se_chain (fun _ => op_le) (fun _ => op_le) ops_B0 ops_B0 (se_var (i := 1)) (se_len hF b_len (fun _ => rfl) (sa_cons (se_var (i := 0)) sa_nil)) (se_var (i := 2)) rfl))))))
def b_is_of_kind : FS :=
  (fSeq (fIf (MP.tNot (MP.tB (eFn m_is_tuple (aCons (eVar 1) (aCons (ret (.int 2)) (aCons (ret (.int 2)) aNil)))))) (fRet (ret (.bl false))) fNext) (fSeq (fAsg (eVar 1) (tgT 2 (tgCons (tgN 4) (tgCons (tgN 5) tgNil)))) (fSeq (fIf (MP.tNot (MP.tB (eFn m_is_in_range (aCons (eVar 4) (aCons (ret (.int 0)) (aCons (eBin gSub (eCall gLen (aCons (eVar 0) aNil)) (ret (.int 1))) aNil)))))) (fRet (ret (.bl false))) fNext) (fSeq (fAsg (eBin gIx (eVar 0) (eVar 4)) (tgN 6)) (fRet (eAnd (eFn m_is_tuple (aCons (eVar 5) (aCons (eVar 6) (aCons (eVar 6) aNil)))) (eCall gAll (aCons (eLc (iSeq (eVar 5)) [7] (tgN 7) tYesF (eFn m_is_in_range (aCons (eVar 7) (aCons (eVar 2) (aCons (eVar 3) aNil))))) aNil))))))))
omit [WW] in
theorem sc_is_of_kind : FnScope ["kinds", "value", "least", "most", "kind", "parts", "many", "part"] ["kinds", "value", "least", "most"] (defScope (topS 8)) := ⟨rfl, rfl, rfl, by decide +kernel, rfl, by decide +kernel, by decide +kernel⟩
def m_is_of_kind : FF := runDef 8 4 b_is_of_kind
theorem ok_is_of_kind {a : Addr} {fd : FuncData} (T : Fun K "is_of_kind" "is_of_kind" (topS 8) a fd) (hm : mg "is_of_kind" = some (.ref a)) (hbi : Binds K fd ["kinds", "value", "least", "most"] []) (d_is_tuple : DefOk P WW.w K mg base 1 "is_tuple" 3 m_is_tuple) (d_is_in_range : DefOk P WW.w K mg base 1 "is_in_range" 3 m_is_in_range) (b_len : mg "len" = none) (b_all : mg "all" = none) : DefOk P WW.w K mg base 2 "is_of_kind" 4 m_is_of_kind :=
  def_ok (k := 1) (N := ["kinds", "value", "least", "most", "kind", "parts", "many", "part"]) (ps := ["kinds", "value", "least", "most"]) T sc_is_of_kind (.inl rfl) hm hbi fun cdv A outer s H E hF hC hO =>
  (show SB _ K mg _ (defBody (topS 8)) b_is_of_kind from
  (sb_cons (ss_if (st_not (st_val (se_call hF hC d_is_tuple (by decide) (fun _ => rfl) (sa_cons (se_var (i := 1)) (sa_cons se_int (sa_cons se_int sa_nil)))))) (sb_one (ss_ret se_bl)) sb_nil)
  (sb_cons (ss_asg (se_var (i := 1)) (sg_tup (n := 2) (sgs_cons (sg_name (i := 4) hF) (sgs_cons (sg_name (i := 5) hF) sgs_nil)) (fun j t z => pg_tup (hF.calm j) z) hF))
  (sb_cons (ss_if (st_not (st_val (se_call hF hC d_is_in_range (by decide) (fun _ => rfl) (sa_cons (se_var (i := 4)) (sa_cons se_int (sa_cons (se_sub (se_len hF b_len (fun _ => rfl) (sa_cons (se_var (i := 0)) sa_nil)) se_int) sa_nil)))))) (sb_one (ss_ret se_bl)) sb_nil)
  (sb_cons (ss_set (i := 6) hF (se_item hF (se_var (i := 0)) (se_var (i := 4)) (fun _ _ => rfl)))
  (sb_one (ss_ret (se_and (se_call hF hC d_is_tuple (by decide) (fun _ => rfl) (sa_cons (se_var (i := 5)) (sa_cons (se_var (i := 6)) (sa_cons (se_var (i := 6)) sa_nil)))) (se_one (se_all hF b_all (fun _ => rfl) (sa_cons (se_lc (own := [("part", 7)]) hF (si_seq hF (se_var (i := 5))) (fun _ => blkOk_by rfl) (by decide) (sg_name (i := 7) (hF.blk _)) sts_nil (se_call (hF.blk _) (hC.blk _) d_is_in_range (by decide) (fun _ => rfl) (sa_cons (se_var (i := 7)) (sa_cons (se_var (i := 2)) (sa_cons (se_var (i := 3)) sa_nil))))) sa_nil)))))))))))
def b_first_wrong (φ : FF) : FS :=
  (fSeq (fFor (iEnumA (aCons (eVar 0) aNil)) (tgT 2 (tgCons (tgN 2) (tgCons (tgN 3) tgNil))) (fIf (MP.tOr (MP.tNot (MP.tB (eFv 1 φ (aCons (eVar 3) aNil)))) (MP.tAnd (MP.tB (eBin gGt (eVar 2) (ret (.int 0)))) (MP.tB (eBin gLeA (eVar 3) (eBin gIx (eVar 0) (eBin gSub (eVar 2) (ret (.int 1)))))))) (fRet (eVar 2)) fNext)) (fRet (ret .non)))
omit [WW] in
theorem sc_first_wrong : FnScope ["parts", "is_right", "index", "part"] ["parts", "is_right"] (defScope (topS 9)) := ⟨rfl, rfl, rfl, by decide +kernel, rfl, by decide +kernel, by decide +kernel⟩
def m_first_wrong : FF → FF := fun φ => runDef 4 1 (b_first_wrong φ)
theorem ok_first_wrong {a : Addr} {fd : FuncData} (T : Fun K "first_wrong" "first_wrong" (topS 9) a fd) (hm : mg "first_wrong" = some (.ref a)) (hbi : Binds K fd ["parts", "is_right"] []) (b_enumerate : mg "enumerate" = none) : ∀ kf, DefOkF P WW.w K mg base (kf + 1) kf "first_wrong" 1 1 m_first_wrong := fun kf =>
  def_okF (k := kf + 0) (N := ["parts", "is_right", "index", "part"]) (ps := ["parts", "is_right"]) (fb := b_first_wrong) T sc_first_wrong rfl (fun _ => rfl) hm hbi fun fv need mono φ cdv A outer s H E hF hC hO hG =>
  letI : FV := ⟨fv, [1], need, mono⟩
  (show SB _ K mg _ (defBody (topS 9)) (b_first_wrong φ) from
  (sb_cons (ss_for hF hO (si_enumA hF (fun _ => rfl) b_enumerate (sa_cons (se_var (i := 0)) sa_nil)) (sg_tup (n := 2) (sgs_cons (sg_name (i := 2) hF) (sgs_cons (sg_name (i := 3) hF) sgs_nil)) (fun j t z => pg_tup (hF.calm j) z) hF) (sb_one (ss_if (SW.st (sw_or (st_not (st_val (se_callF (i := 1) (ha := (sa_cons (se_var (i := 3)) sa_nil)) hF hC hG (by omega)))) (sw_or1 (SW.st (sw_and (st_gt (se_var (i := 2)) se_int) (sw_and1 (st_leA hF hC (se_var (i := 3)) (se_item hF (se_var (i := 0)) (se_sub (se_var (i := 2)) se_int) (fun _ _ => rfl))))))))) (sb_one (ss_ret (se_var (i := 2)))) sb_nil)))
  (sb_one (ss_ret se_non))))
def b_is_fact : FS :=
  (fRet (eFn m_is_of_kind (aCons (eVar 0) (aCons (eVar 1) (aCons (ret (.int 0)) (aCons (ret (.int 29)) aNil))))))
omit [WW] in
theorem sc_is_fact : FnScope ["kinds", "value"] ["kinds", "value"] (defScope (topS 10)) := ⟨rfl, rfl, rfl, by decide +kernel, rfl, by decide +kernel, by decide +kernel⟩
def m_is_fact : FF := runDef 2 2 b_is_fact
theorem ok_is_fact {a : Addr} {fd : FuncData} (T : Fun K "is_fact" "is_fact" (topS 10) a fd) (hm : mg "is_fact" = some (.ref a)) (hbi : Binds K fd ["kinds", "value"] []) (d_is_of_kind : DefOk P WW.w K mg base 2 "is_of_kind" 4 m_is_of_kind) (k_LEAST_THING : ∃ t, mg "LEAST_THING" = some (.int 0 t)) (k_MOST_THING : ∃ t, mg "MOST_THING" = some (.int 29 t)) : DefOk P WW.w K mg base 3 "is_fact" 2 m_is_fact :=
  def_ok (k := 2) (N := ["kinds", "value"]) (ps := ["kinds", "value"]) T sc_is_fact (.inl rfl) hm hbi fun cdv A outer s H E hF hC hO =>
  (show SB _ K mg _ (defBody (topS 10)) b_is_fact from
  (sb_one (ss_ret (se_call hF hC d_is_of_kind (by decide) (fun _ => rfl) (sa_cons (se_var (i := 0)) (sa_cons (se_var (i := 1)) (sa_cons (se_globI hF k_LEAST_THING (fun _ => rfl)) (sa_cons (se_globI hF k_MOST_THING (fun _ => rfl)) sa_nil))))))))
def b_require_facts : FS :=
  (fSeq (fIf (MP.tNot (MP.tB (eFn m_is_tuple (aCons (eVar 1) (aCons (ret (.int 0)) (aCons (ret (.int 5400)) aNil)))))) (fRaise 31 ["index"] (aCons (ret .non) aNil)) fNext) (fSeq (fAsg (eCallLam1 m_first_wrong 2 1 [0] (eFn m_is_fact (aCons (eVar 1) (aCons (eVar 0) aNil))) (eVar 1)) (tgN 2)) (fSeq (fIf (MP.tB (eNotN (eVar 2))) (fRaise 31 ["index"] (aCons (eVar 2) aNil)) fNext) (fRet (eVar 1)))))
omit [WW] in
theorem sc_require_facts : FnScope ["kinds", "value", "index"] ["kinds", "value"] (defScope (topS 11)) := ⟨rfl, rfl, rfl, by decide +kernel, rfl, by decide +kernel, by decide +kernel⟩
def m_require_facts : FF := runDef 3 2 b_require_facts
theorem ok_require_facts {a c Pt : Addr} {fd : FuncData} (T : Fun K "require_facts" "require_facts" (topS 11) a fd) (hcd : CdAt K a c) (tq : TabAt base mg c Pt ("require_facts" ++ ".<locals>." ++ "<lambda>")) (hm : mg "require_facts" = some (.ref a)) (hbi : Binds K fd ["kinds", "value"] []) (d_is_tuple : DefOk P WW.w K mg base 1 "is_tuple" 3 m_is_tuple) (d_is_fact : DefOk P WW.w K mg base 3 "is_fact" 2 m_is_fact) (d_first_wrong : ∀ kf, DefOkF P WW.w K mg base (kf + 1) kf "first_wrong" 1 1 m_first_wrong) (e_InvalidFacts : ErrOk P WW.w K mg base 1 "InvalidFacts" 31 ["index"] ["index"] (fun l => l)) (k_MOST_FACTS : ∃ t, mg "MOST_FACTS" = some (.int 5400 t)) : DefOk P WW.w K mg base 6 "require_facts" 2 m_require_facts :=
  def_okC (k := 5) (N := ["kinds", "value", "index"]) (ps := ["kinds", "value"]) T sc_require_facts hcd (.inl rfl) hm hbi fun A outer s H E hF hC hO =>
  (show SB _ K mg _ (defBody (topS 11)) b_require_facts from
  (sb_cons (ss_if (st_not (st_val (se_call hF hC d_is_tuple (by decide) (fun _ => rfl) (sa_cons (se_var (i := 1)) (sa_cons se_int (sa_cons (se_globI hF k_MOST_FACTS (fun _ => rfl)) sa_nil)))))) (sb_one (ss_raise hF hC e_InvalidFacts (by decide) (fun _ => rfl) (sa_cons se_non sa_nil))) sb_nil)
  (sb_cons (ss_set (i := 2) hF (se_callLam1 (kl := 3) (ps := ["part"]) (fr := ["kinds"]) (N := ["part", "kinds"]) (js := [0]) (fb := (eFn m_is_fact (aCons (eVar 1) (aCons (eVar 0) aNil)))) hF hC (d_first_wrong 4) (by decide) (fun _ => rfl) (se_var (i := 1)) (lamIn_of tq rfl rfl) (by decide +kernel) (NdefX.nscope_by (by decide +kernel)) rfl (fun _ => rfl) (fun _ _ _ us hl => match us, hl with | [_], _ => rfl) (fun c2 f2 A2 outer2 s2 H2 E2 hF2 hC2 => (se_call hF2 hC2 d_is_fact (by decide) (fun _ => rfl) (sa_cons (se_var (i := 1)) (sa_cons (se_var (i := 0)) sa_nil))))))
  (sb_cons (ss_if (st_notN (se_var (i := 2))) (sb_one (ss_raise hF hC e_InvalidFacts (by decide) (fun _ => rfl) (sa_cons (se_var (i := 2)) sa_nil))) sb_nil)
  (sb_one (ss_ret (se_var (i := 1))))))))
def b_first_missing : FS :=
  (fSeq (fAsg (eCall gSet (aCons (eVar 1) aNil)) (tgN 2)) (fSeq (fFor (iSeq (eVar 0)) (tgN 3) (fIf (MP.tB (eBin gNinX (eVar 3) (eVar 2))) (fRet (eVar 3)) fNext)) (fRet (ret .non))))
omit [WW] in
theorem sc_first_missing : FnScope ["facts", "others", "known", "fact"] ["facts", "others"] (defScope (topS 12)) := ⟨rfl, rfl, rfl, by decide +kernel, rfl, by decide +kernel, by decide +kernel⟩
def m_first_missing : FF := runDef 4 2 b_first_missing
theorem ok_first_missing {a : Addr} {fd : FuncData} (T : Fun K "first_missing" "first_missing" (topS 12) a fd) (hm : mg "first_missing" = some (.ref a)) (hbi : Binds K fd ["facts", "others"] []) (b_set : mg "set" = none) : DefOk P WW.w K mg base 1 "first_missing" 2 m_first_missing :=
  def_ok (k := 0) (N := ["facts", "others", "known", "fact"]) (ps := ["facts", "others"]) T sc_first_missing (.inl rfl) hm hbi fun cdv A outer s H E hF hC hO =>
  (show SB _ K mg _ (defBody (topS 12)) b_first_missing from
  (sb_cons (ss_set (i := 2) hF (se_setOf hF hC b_set (fun _ => rfl) (sa_cons (se_var (i := 1)) sa_nil)))
  (sb_cons (ss_for hF hO (si_seq hF (se_var (i := 0))) (sg_name (i := 3) hF) (sb_one (ss_if (st_ninX hF hC (se_var (i := 3)) (se_var (i := 2))) (sb_one (ss_ret (se_var (i := 3)))) sb_nil)))
  (sb_one (ss_ret se_non)))))
def b_are_among : FS :=
  (fRet (eIsN (eFn m_first_missing (aCons (eVar 0) (aCons (eVar 1) aNil)))))
omit [WW] in
theorem sc_are_among : FnScope ["facts", "others"] ["facts", "others"] (defScope (topS 13)) := ⟨rfl, rfl, rfl, by decide +kernel, rfl, by decide +kernel, by decide +kernel⟩
def m_are_among : FF := runDef 2 2 b_are_among
theorem ok_are_among {a : Addr} {fd : FuncData} (T : Fun K "are_among" "are_among" (topS 13) a fd) (hm : mg "are_among" = some (.ref a)) (hbi : Binds K fd ["facts", "others"] []) (d_first_missing : DefOk P WW.w K mg base 1 "first_missing" 2 m_first_missing) : DefOk P WW.w K mg base 2 "are_among" 2 m_are_among :=
  def_ok (k := 1) (N := ["facts", "others"]) (ps := ["facts", "others"]) T sc_are_among (.inl rfl) hm hbi fun cdv A outer s H E hF hC hO =>
  (show SB _ K mg _ (defBody (topS 13)) b_are_among from
  (sb_one (ss_ret (se_isN (se_call hF hC d_first_missing (by decide) (fun _ => rfl) (sa_cons (se_var (i := 0)) (sa_cons (se_var (i := 1)) sa_nil)))))))
def b__law_pen : FS :=
  (fRet (eObj (aCons (eCall gList (aCons (eCut (eVar 0) (ret none) (oSome (ret (.int 63)))) aNil)) (aCons (ret (.int 0)) (aCons (ret (.int 0)) aNil)))))
omit [WW] in
theorem sc__law_pen : FnScope ["script"] ["script"] (defScope (topS 15)) := ⟨rfl, rfl, rfl, by decide +kernel, rfl, by decide +kernel, by decide +kernel⟩
def m__law_pen : FF := runDefO 1 1 b__law_pen
theorem ok__law_pen {a : Addr} {fd : FuncData} (T : Fun K "_law_pen" "_law_pen" (topS 15) a fd) (hm : mg "_law_pen" = some (.ref a)) (hbi : Binds K fd ["script"] []) (b_list : mg "list" = none) : DefOk P WW.w K mg base 1 "_law_pen" 1 m__law_pen :=
  def_ok (k := 0) (N := ["script"]) (ps := ["script"]) T sc__law_pen (.inr rfl) hm hbi fun cdv A outer s H E hF hC hO =>
  (show SB _ K mg _ (defBody (topS 15)) b__law_pen from
  (sb_one (ss_ret (se_obj (sa_cons (se_list hF b_list (fun _ => rfl) (sa_cons (se_slice hF (se_var (i := 0)) so_none (so_some se_int)) sa_nil)) (sa_cons se_int (sa_cons se_int sa_nil)))))))
def b__law_fresh : FS :=
  (fSeq (fPar (aCons (eBin gIx (eVar 0) (ret (.int 1))) (aCons (eBin gIx (eVar 0) (ret (.int 0))) aNil)) 1 2) (fSeq (fSto (eBin gAdd (eVar 1) (ret (.int 1))) (eVar 0) (ret (.int 1))) (fSeq (fAsg (eIf (MP.tB (eBin gNe (eVar 2) (eLst aNil))) (eBin gIx (eVar 2) (eBin gMod (eCall gInt (aCons (eVar 1) aNil)) (eCall gLen (aCons (eVar 2) aNil)))) (ret (.int 0))) (tgN 3)) (fSeq (fIf (MP.tAnd (MP.tB (eBin gLt (eVar 1) (eCall gLen (aCons (eVar 2) aNil)))) (MP.tB (eBin gGe (eVar 3) (eBin gPow (ret (.int 10)) (ret (.int 18)))))) (fRet (eBin gSub (eVar 3) (eBin gPow (ret (.int 10)) (ret (.int 18))))) fNext) (fSeq (fAsg (ret (.int 2305843009213693951)) (tgN 4)) (fSeq (fAsg (eBin gMod (eCall gInt (aCons (eBin gAdd (eBin gAdd (eBin gMul (eVar 3) (ret (.int 48271))) (eBin gMul (ret (.int 60013)) (eVar 1))) (ret (.int 31))) aNil)) (eVar 4)) (tgN 5)) (fSeq (fAsg (eVar 5) (tgN 6)) (fSeq (fFor (iRange1 (aCons (ret (.int 6)) aNil)) (tgN 7) (fSeq (fAsg (eBin gMod (eCall gInt (aCons (eBin gAdd (eBin gAdd (eBin gMul (eVar 5) (eVar 5)) (eBin gMul (eBin gMul (ret (.int 70139)) (eBin gAdd (eVar 7) (ret (.int 5)))) (eBin gAdd (eVar 1) (ret (.int 1))))) (eVar 3)) aNil)) (eVar 4)) (tgN 5)) (fAsg (eBin gAdd (eBin gMul (eVar 6) (eVar 4)) (eVar 5)) (tgN 6)))) (fRet (eVar 6))))))))))
omit [WW] in
theorem sc__law_fresh : FnScope ["pen", "seat", "given", "cell", "prime", "state", "found", "lap"] ["pen"] (defScope (topS 16)) := ⟨rfl, rfl, rfl, by decide +kernel, rfl, by decide +kernel, by decide +kernel⟩
def m__law_fresh : FF := runDef 8 1 b__law_fresh
theorem ok__law_fresh {a : Addr} {fd : FuncData} (T : Fun K "_law_fresh" "_law_fresh" (topS 16) a fd) (hm : mg "_law_fresh" = some (.ref a)) (hbi : Binds K fd ["pen"] []) (b_int : mg "int" = none) (b_len : mg "len" = none) (b_range : mg "range" = none) : DefOk P WW.w K mg base 1 "_law_fresh" 1 m__law_fresh :=
  def_ok (k := 0) (N := ["pen", "seat", "given", "cell", "prime", "state", "found", "lap"]) (ps := ["pen"]) T sc__law_fresh (.inl rfl) hm hbi fun cdv A outer s H E hF hC hO =>
  (show SB _ K mg _ (defBody (topS 16)) b__law_fresh from
  (sb_cons (ss_par (i := 1) (j := 2) hF (sa_cons (se_item hF (se_var (i := 0)) se_int (fun _ _ => rfl)) (sa_cons (se_item hF (se_var (i := 0)) se_int (fun _ _ => rfl)) sa_nil)))
  (sb_cons (ss_sto hF (se_add hF (se_var (i := 1)) se_int) (se_var (i := 0)) se_int)
  (sb_cons (ss_set (i := 3) hF (se_if (st_ne hF hC (se_var (i := 2)) (se_lst sa_nil)) (se_item hF (se_var (i := 2)) (se_mod (se_int1 hF b_int (fun _ => rfl) (sa_cons (se_var (i := 1)) sa_nil)) (se_len hF b_len (fun _ => rfl) (sa_cons (se_var (i := 2)) sa_nil))) (fun _ _ => rfl)) se_int))
  (sb_cons (ss_if (SW.st (sw_and (st_lt (se_var (i := 1)) (se_len hF b_len (fun _ => rfl) (sa_cons (se_var (i := 2)) sa_nil))) (sw_and1 (st_ge (se_var (i := 3)) (se_pow se_int se_int))))) (sb_one (ss_ret (se_sub (se_var (i := 3)) (se_pow se_int se_int)))) sb_nil)
  (sb_cons (ss_set (i := 4) hF se_int)
  (sb_cons (ss_set (i := 5) hF (se_mod (se_int1 hF b_int (fun _ => rfl) (sa_cons (se_add hF (se_add hF (se_mul hF (se_var (i := 3)) se_int) (se_mul hF se_int (se_var (i := 1)))) se_int) sa_nil)) (se_var (i := 4))))
  (sb_cons (ss_set (i := 6) hF (se_var (i := 5)))
  (sb_cons (ss_for hF hO (si_range1 hF (fun _ => rfl) b_range (sa_cons se_int sa_nil)) (sg_name (i := 7) hF) (sb_cons (ss_set (i := 5) hF (se_mod (se_int1 hF b_int (fun _ => rfl) (sa_cons (se_add hF (se_add hF (se_mul hF (se_var (i := 5)) (se_var (i := 5))) (se_mul hF (se_mul hF se_int (se_add hF (se_var (i := 7)) se_int)) (se_add hF (se_var (i := 1)) se_int))) (se_var (i := 3))) sa_nil)) (se_var (i := 4))))
  (sb_one (ss_set (i := 6) hF (se_add hF (se_mul hF (se_var (i := 6)) (se_var (i := 4))) (se_var (i := 5)))))))
  (sb_one (ss_ret (se_var (i := 6)))))))))))))
def b__law_draw : FS :=
  (fSeq (fIf (MP.tB (eBin gLt (eBin gIx (eVar 0) (ret (.int 2))) (eVar 1))) (fSto (eFn m__law_fresh (aCons (eVar 0) aNil)) (eVar 0) (ret (.int 2))) fNext) (fSeq (fAsg (eBin gMod (eCall gInt (aCons (eBin gIx (eVar 0) (ret (.int 2))) aNil)) (eVar 1)) (tgN 2)) (fSeq (fSto (eBin gDiv (eCall gInt (aCons (eBin gIx (eVar 0) (ret (.int 2))) aNil)) (eVar 1)) (eVar 0) (ret (.int 2))) (fRet (eVar 2)))))
omit [WW] in
theorem sc__law_draw : FnScope ["pen", "bound", "digit"] ["pen", "bound"] (defScope (topS 17)) := ⟨rfl, rfl, rfl, by decide +kernel, rfl, by decide +kernel, by decide +kernel⟩
def m__law_draw : FF := runDef 3 2 b__law_draw
theorem ok__law_draw {a : Addr} {fd : FuncData} (T : Fun K "_law_draw" "_law_draw" (topS 17) a fd) (hm : mg "_law_draw" = some (.ref a)) (hbi : Binds K fd ["pen", "bound"] []) (d__law_fresh : DefOk P WW.w K mg base 1 "_law_fresh" 1 m__law_fresh) (b_int : mg "int" = none) : DefOk P WW.w K mg base 2 "_law_draw" 2 m__law_draw :=
  def_ok (k := 1) (N := ["pen", "bound", "digit"]) (ps := ["pen", "bound"]) T sc__law_draw (.inl rfl) hm hbi fun cdv A outer s H E hF hC hO =>
  (show SB _ K mg _ (defBody (topS 17)) b__law_draw from
  (sb_cons (ss_if (st_lt (se_item hF (se_var (i := 0)) se_int (fun _ _ => rfl)) (se_var (i := 1))) (sb_one (ss_sto hF (se_call hF hC d__law_fresh (by decide) (fun _ => rfl) (sa_cons (se_var (i := 0)) sa_nil)) (se_var (i := 0)) se_int)) sb_nil)
  (sb_cons (ss_set (i := 2) hF (se_mod (se_int1 hF b_int (fun _ => rfl) (sa_cons (se_item hF (se_var (i := 0)) se_int (fun _ _ => rfl)) sa_nil)) (se_var (i := 1))))
  (sb_cons (ss_sto hF (se_fdiv (se_int1 hF b_int (fun _ => rfl) (sa_cons (se_item hF (se_var (i := 0)) se_int (fun _ _ => rfl)) sa_nil)) (se_var (i := 1))) (se_var (i := 0)) se_int)
  (sb_one (ss_ret (se_var (i := 2))))))))
def b__law_one_of : FS :=
  (fRet (eBin gIx (eVar 1) (eFn m__law_draw (aCons (eVar 0) (aCons (eCall gLen (aCons (eVar 1) aNil)) aNil)))))
omit [WW] in
theorem sc__law_one_of : FnScope ["pen", "some"] ["pen", "some"] (defScope (topS 18)) := ⟨rfl, rfl, rfl, by decide +kernel, rfl, by decide +kernel, by decide +kernel⟩
def m__law_one_of : FF := runDef 2 2 b__law_one_of
theorem ok__law_one_of {a : Addr} {fd : FuncData} (T : Fun K "_law_one_of" "_law_one_of" (topS 18) a fd) (hm : mg "_law_one_of" = some (.ref a)) (hbi : Binds K fd ["pen", "some"] []) (d__law_draw : DefOk P WW.w K mg base 2 "_law_draw" 2 m__law_draw) (b_len : mg "len" = none) : DefOk P WW.w K mg base 3 "_law_one_of" 2 m__law_one_of :=
  def_ok (k := 2) (N := ["pen", "some"]) (ps := ["pen", "some"]) T sc__law_one_of (.inl rfl) hm hbi fun cdv A outer s H E hF hC hO =>
  (show SB _ K mg _ (defBody (topS 18)) b__law_one_of from
  (sb_one (ss_ret (se_item hF (se_var (i := 1)) (se_call hF hC d__law_draw (by decide) (fun _ => rfl) (sa_cons (se_var (i := 0)) (sa_cons (se_len hF b_len (fun _ => rfl) (sa_cons (se_var (i := 1)) sa_nil)) sa_nil))) (fun _ _ => rfl)))))
def b__law_whole : FS :=
  (fRet (eAnd (eIsi "int" (eVar 0)) (eAnd (eNot (eIsi "bool" (eVar 0))) (eChain gLe gLe (eVar 1) (eVar 0) (eVar 2)))))
omit [WW] in
theorem sc__law_whole : FnScope ["value", "low", "high"] ["value", "low", "high"] (defScope (topS 19)) := ⟨rfl, rfl, rfl, by decide +kernel, rfl, by decide +kernel, by decide +kernel⟩
def m__law_whole : FF := runDef 3 3 b__law_whole
theorem ok__law_whole {a : Addr} {fd : FuncData} (T : Fun K "_law_whole" "_law_whole" (topS 19) a fd) (hm : mg "_law_whole" = some (.ref a)) (hbi : Binds K fd ["value", "low", "high"] []) (b_isinstance : mg "isinstance" = none) (b_int : mg "int" = none) (b_bool : mg "bool" = none) : DefOk P WW.w K mg base 1 "_law_whole" 3 m__law_whole :=
  def_ok (k := 0) (N := ["value", "low", "high"]) (ps := ["value", "low", "high"]) T sc__law_whole (.inl rfl) hm hbi fun cdv A outer s H E hF hC hO =>
  (show SB _ K mg _ (defBody (topS 19)) b__law_whole from
  (sb_one (ss_ret (se_and (se_isi2 hF b_isinstance b_int (by kernel_rfl) (fun _ => rfl) (fun _ => rfl) (se_var (i := 0)) (.ty _)) (se_and (se_not (se_isi2 hF b_isinstance b_bool (by kernel_rfl) (fun _ => rfl) (fun _ => rfl) (se_var (i := 0)) (.ty _))) (se_one (se_chain (fun _ => op_le) (fun _ => op_le) ops_B0 ops_B0 (se_var (i := 1)) (se_var (i := 0)) (se_var (i := 2)) rfl)))))))
def b__law_odd : FS :=
  (fSeq (fAsg (eLst (aCons (ret .non) (aCons (ret (.bl true)) (aCons (ret (.bl false)) (aCons (eNeg (ret (.int 1))) (aCons (ret (.int 0)) (aCons (ret (.int 1)) (aCons (ret (.int 2)) (aCons (ret (.int 3)) (aCons (ret (.int 5)) (aCons (ret (.int 30)) (aCons (ret (.str "")) (aCons (ret (.str "0")) (aCons (ret (.str "leads")) (aCons (ret (.str "within")) (aCons (eTup aNil) (aCons (eLst aNil) (aCons (ret .dic0) (aCons (eTup (aCons (ret (.int 0)) aNil)) (aCons (eTup (aCons (ret (.int 0)) (aCons (ret (.int 1)) aNil))) (aCons (eTup (aCons (eTup aNil) aNil)) (aCons (eLst (aCons (ret (.int 0)) aNil)) aNil)))))))))))))))))))))) (tgN 1)) (fRet (eFn m__law_one_of (aCons (eVar 0) (aCons (eBin gAdd (eVar 1) (eLst (aCons (eBin gPow (ret (.int 10)) (ret (.int 41))) (aCons (eTup (aCons (ret (.int 0)) (aCons (eTup (aCons (ret (.int 1)) aNil)) aNil))) (aCons (eTup (aCons (ret (.int 0)) (aCons (eTup aNil) aNil))) (aCons (eTup (aCons (eTup (aCons (ret (.int 0)) (aCons (eTup (aCons (eNeg (ret (.int 1))) aNil)) aNil))) (aCons (eTup aNil) (aCons (eTup aNil) aNil)))) (aCons (eTup (aCons (eTup (aCons (ret (.int 1)) aNil)) (aCons (eTup aNil) aNil))) (aCons (eTup (aCons (ret (.int 1)) (aCons (eLst (aCons (ret (.int 3)) aNil)) aNil))) (aCons (eNeg (ret (.int 2))) aNil))))))))) aNil)))))
omit [WW] in
theorem sc__law_odd : FnScope ["pen", "some"] ["pen"] (defScope (topS 21)) := ⟨rfl, rfl, rfl, by decide +kernel, rfl, by decide +kernel, by decide +kernel⟩
def m__law_odd : FF := runDef 2 1 b__law_odd
theorem ok__law_odd {a : Addr} {fd : FuncData} (T : Fun K "_law_odd" "_law_odd" (topS 21) a fd) (hm : mg "_law_odd" = some (.ref a)) (hbi : Binds K fd ["pen"] []) (d__law_one_of : DefOk P WW.w K mg base 3 "_law_one_of" 2 m__law_one_of) : DefOk P WW.w K mg base 4 "_law_odd" 1 m__law_odd :=
  def_ok (k := 3) (N := ["pen", "some"]) (ps := ["pen"]) T sc__law_odd (.inl rfl) hm hbi fun cdv A outer s H E hF hC hO =>
  (show SB _ K mg _ (defBody (topS 21)) b__law_odd from
  (sb_cons (ss_set (i := 1) hF (se_lst (sa_cons se_non (sa_cons se_bl (sa_cons se_bl (sa_cons (se_neg se_int) (sa_cons se_int (sa_cons se_int (sa_cons se_int (sa_cons se_int (sa_cons se_int (sa_cons se_int (sa_cons se_str (sa_cons se_str (sa_cons se_str (sa_cons se_str (sa_cons (se_tup sa_nil) (sa_cons (se_lst sa_nil) (sa_cons se_dic0 (sa_cons (se_tup (sa_cons se_int sa_nil)) (sa_cons (se_tup (sa_cons se_int (sa_cons se_int sa_nil))) (sa_cons (se_tup (sa_cons (se_tup sa_nil) sa_nil)) (sa_cons (se_lst (sa_cons se_int sa_nil)) sa_nil)))))))))))))))))))))))
  (sb_one (ss_ret (se_call hF hC d__law_one_of (by decide) (fun _ => rfl) (sa_cons (se_var (i := 0)) (sa_cons (se_add hF (se_var (i := 1)) (se_lst (sa_cons (se_pow se_int se_int) (sa_cons (se_tup (sa_cons se_int (sa_cons (se_tup (sa_cons se_int sa_nil)) sa_nil))) (sa_cons (se_tup (sa_cons se_int (sa_cons (se_tup sa_nil) sa_nil))) (sa_cons (se_tup (sa_cons (se_tup (sa_cons se_int (sa_cons (se_tup (sa_cons (se_neg se_int) sa_nil)) sa_nil))) (sa_cons (se_tup sa_nil) (sa_cons (se_tup sa_nil) sa_nil)))) (sa_cons (se_tup (sa_cons (se_tup (sa_cons se_int sa_nil)) (sa_cons (se_tup sa_nil) sa_nil))) (sa_cons (se_tup (sa_cons se_int (sa_cons (se_lst (sa_cons se_int sa_nil)) sa_nil))) (sa_cons (se_neg se_int) sa_nil))))))))) sa_nil)))))))
def b__law_bent (m__law_bent : FF) : FS :=
  (fSeq (fIf (MP.tOr (MP.tNot (MP.tB (eIsi "tuple" (eVar 1)))) (MP.tOr (MP.tB (eBin gEq (eVar 1) (eTup aNil))) (MP.tOr (MP.tB (eBin gEq (eVar 2) (ret (.int 0)))) (MP.tB (eBin gEq (eFn m__law_draw (aCons (eVar 0) (aCons (ret (.int 6)) aNil))) (ret (.int 0))))))) (fSeq (fAsg (eFn m__law_draw (aCons (eVar 0) (aCons (ret (.int 8)) aNil))) (tgN 5)) (fSeq (fIf (MP.tAnd (MP.tB (eIsi "int" (eVar 1))) (MP.tAnd (MP.tNot (MP.tB (eIsi "bool" (eVar 1)))) (MP.tB (eBin gLt (eVar 5) (ret (.int 6)))))) (fRet (eBin gIx (eLst (aCons (eBin gAdd (eVar 1) (ret (.int 1))) (aCons (eBin gSub (eVar 1) (ret (.int 1))) (aCons (eBin gEq (eVar 1) (ret (.int 1))) (aCons (ret (.int 0)) (aCons (eNeg (eVar 1)) (aCons (eBin gAdd (eVar 1) (ret (.int 1))) aNil))))))) (eVar 5))) fNext) (fSeq (fIf (MP.tAnd (MP.tB (eIsi "tuple" (eVar 1))) (MP.tB (eBin gLt (eVar 5) (ret (.int 6))))) (fRet (eBin gIx (eLst (aCons (eCut (eVar 1) (oSome (ret (.int 1))) (ret none)) (aCons (eCut (eVar 1) (ret none) (oSome (eNeg (ret (.int 1))))) (aCons (eBin gAdd (eVar 1) (eCut (eVar 1) (ret none) (oSome (ret (.int 1))))) (aCons (eRev (eVar 1)) (aCons (eCall gList (aCons (eVar 1) aNil)) (aCons (eBin gAdd (eVar 1) (eTup (aCons (ret (.int 0)) aNil))) aNil))))))) (eVar 5))) fNext) (fRet (eFn m__law_odd (aCons (eVar 0) aNil)))))) fNext) (fSeq (fAsg (eFn m__law_draw (aCons (eVar 0) (aCons (eCall gLen (aCons (eVar 1) aNil)) aNil))) (tgN 3)) (fSeq (fAsg (eFn m__law_bent (aCons (eVar 0) (aCons (eBin gIx (eVar 1) (eVar 3)) (aCons (eBin gSub (eVar 2) (ret (.int 1))) aNil)))) (tgN 4)) (fRet (eBin gAdd (eBin gAdd (eCut (eVar 1) (ret none) (oSome (eVar 3))) (eTup (aCons (eVar 4) aNil))) (eCut (eVar 1) (oSome (eBin gAdd (eVar 3) (ret (.int 1)))) (ret none)))))))
omit [WW] in
theorem sc__law_bent : FnScope ["pen", "value", "depth", "at", "part", "option"] ["pen", "value", "depth"] (defScope (topS 20)) := ⟨rfl, rfl, rfl, by decide +kernel, rfl, by decide +kernel, by decide +kernel⟩
def m__law_bent : Nat → FF
  | 0 => fun _ _ => none
  | n + 1 => runDef 6 3 (b__law_bent (m__law_bent n))
theorem ok__law_bent {a : Addr} {fd : FuncData} (T : Fun K "_law_bent" "_law_bent" (topS 20) a fd) (hm : mg "_law_bent" = some (.ref a)) (hbi : Binds K fd ["pen", "value", "depth"] []) (d__law_draw : DefOk P WW.w K mg base 2 "_law_draw" 2 m__law_draw) (d__law_odd : DefOk P WW.w K mg base 4 "_law_odd" 1 m__law_odd) (b_isinstance : mg "isinstance" = none) (b_tuple : mg "tuple" = none) (b_int : mg "int" = none) (b_bool : mg "bool" = none) (b_list : mg "list" = none) (b_len : mg "len" = none) : ∀ n, DefOk P WW.w K mg base (5 + 1 + n) "_law_bent" 3 (m__law_bent n) :=
  def_rec (k := 5) (g := m__law_bent) T sc__law_bent hm hbi rfl fun n d__law_bent => def_ok (k := 5 + 1 + n) (N := ["pen", "value", "depth", "at", "part", "option"]) (ps := ["pen", "value", "depth"]) T sc__law_bent (.inl rfl) hm hbi fun cdv A outer s H E hF hC hO =>
  (show SB _ K mg _ (defBody (topS 20)) (b__law_bent (m__law_bent n)) from
  (sb_cons (ss_if (SW.st (sw_or (st_not (st_val (se_isi2 hF b_isinstance b_tuple (by kernel_rfl) (fun _ => rfl) (fun _ => rfl) (se_var (i := 1)) (.ty _)))) (sw_or (st_eq hF hC (se_var (i := 1)) (se_tup sa_nil)) (sw_or (st_eq hF hC (se_var (i := 2)) se_int) (sw_or1 (st_eq hF hC (se_call hF hC d__law_draw (by omega) (fun _ => rfl) (sa_cons (se_var (i := 0)) (sa_cons se_int sa_nil))) se_int)))))) (sb_cons (ss_set (i := 5) hF (se_call hF hC d__law_draw (by omega) (fun _ => rfl) (sa_cons (se_var (i := 0)) (sa_cons se_int sa_nil))))
  (sb_cons (ss_if (SW.st (sw_and (st_val (se_isi2 hF b_isinstance b_int (by kernel_rfl) (fun _ => rfl) (fun _ => rfl) (se_var (i := 1)) (.ty _))) (sw_and (st_not (st_val (se_isi2 hF b_isinstance b_bool (by kernel_rfl) (fun _ => rfl) (fun _ => rfl) (se_var (i := 1)) (.ty _)))) (sw_and1 (st_lt (se_var (i := 5)) se_int))))) (sb_one (ss_ret (se_item hF (se_lst (sa_cons (se_add hF (se_var (i := 1)) se_int) (sa_cons (se_sub (se_var (i := 1)) se_int) (sa_cons (se_eq hF hC (se_var (i := 1)) se_int) (sa_cons se_int (sa_cons (se_neg (se_var (i := 1))) (sa_cons (se_add hF (se_var (i := 1)) se_int) sa_nil))))))) (se_var (i := 5)) (fun _ _ => rfl)))) sb_nil)
  (sb_cons (ss_if (SW.st (sw_and (st_val (se_isi2 hF b_isinstance b_tuple (by kernel_rfl) (fun _ => rfl) (fun _ => rfl) (se_var (i := 1)) (.ty _))) (sw_and1 (st_lt (se_var (i := 5)) se_int)))) (sb_one (ss_ret (se_item hF (se_lst (sa_cons (se_slice hF (se_var (i := 1)) (so_some se_int) so_none) (sa_cons (se_slice hF (se_var (i := 1)) so_none (so_some (se_neg se_int))) (sa_cons (se_add hF (se_var (i := 1)) (se_slice hF (se_var (i := 1)) so_none (so_some se_int))) (sa_cons (se_rev hF (se_var (i := 1))) (sa_cons (se_list hF b_list (fun _ => rfl) (sa_cons (se_var (i := 1)) sa_nil)) (sa_cons (se_add hF (se_var (i := 1)) (se_tup (sa_cons se_int sa_nil))) sa_nil))))))) (se_var (i := 5)) (fun _ _ => rfl)))) sb_nil)
  (sb_one (ss_ret (se_call hF hC d__law_odd (by omega) (fun _ => rfl) (sa_cons (se_var (i := 0)) sa_nil))))))) sb_nil)
  (sb_cons (ss_set (i := 3) hF (se_call hF hC d__law_draw (by omega) (fun _ => rfl) (sa_cons (se_var (i := 0)) (sa_cons (se_len hF b_len (fun _ => rfl) (sa_cons (se_var (i := 1)) sa_nil)) sa_nil))))
  (sb_cons (ss_set (i := 4) hF (se_call hF hC d__law_bent (by omega) (fun _ => rfl) (sa_cons (se_var (i := 0)) (sa_cons (se_item hF (se_var (i := 1)) (se_var (i := 3)) (fun _ _ => rfl)) (sa_cons (se_sub (se_var (i := 2)) se_int) sa_nil)))))
  (sb_one (ss_ret (se_add hF (se_add hF (se_slice hF (se_var (i := 1)) so_none (so_some (se_var (i := 3)))) (se_tup (sa_cons (se_var (i := 4)) sa_nil))) (se_slice hF (se_var (i := 1)) (so_some (se_add hF (se_var (i := 3)) se_int)) so_none))))))))
def b__law_drawn_kinds : FS :=
  (fRet (eFn m__law_one_of (aCons (eVar 0) (aCons (eLst (aCons (eTup (aCons (ret (.int 1)) (aCons (ret (.int 1)) aNil))) (aCons (eTup (aCons (ret (.int 2)) aNil)) (aCons (eTup (aCons (ret (.int 1)) (aCons (ret (.int 2)) aNil))) (aCons (eTup (aCons (ret (.int 2)) (aCons (ret (.int 2)) aNil))) (aCons (eTup (aCons (ret (.int 2)) (aCons (ret (.int 1)) (aCons (ret (.int 0)) aNil)))) (aCons (eTup (aCons (ret (.int 1)) (aCons (ret (.int 1)) (aCons (ret (.int 1)) aNil)))) (aCons (eTup (aCons (ret (.int 1)) (aCons (ret (.int 0)) (aCons (ret (.int 1)) (aCons (ret (.int 2)) (aCons (ret (.int 1)) aNil)))))) (aCons (eTup (aCons (ret (.int 0)) (aCons (ret (.int 0)) (aCons (ret (.int 2)) (aCons (ret (.int 1)) (aCons (ret (.int 0)) (aCons (ret (.int 1)) aNil))))))) aNil))))))))) aNil))))
omit [WW] in
theorem sc__law_drawn_kinds : FnScope ["pen"] ["pen"] (defScope (topS 22)) := ⟨rfl, rfl, rfl, by decide +kernel, rfl, by decide +kernel, by decide +kernel⟩
def m__law_drawn_kinds : FF := runDef 1 1 b__law_drawn_kinds
theorem ok__law_drawn_kinds {a : Addr} {fd : FuncData} (T : Fun K "_law_drawn_kinds" "_law_drawn_kinds" (topS 22) a fd) (hm : mg "_law_drawn_kinds" = some (.ref a)) (hbi : Binds K fd ["pen"] []) (d__law_one_of : DefOk P WW.w K mg base 3 "_law_one_of" 2 m__law_one_of) : DefOk P WW.w K mg base 4 "_law_drawn_kinds" 1 m__law_drawn_kinds :=
  def_ok (k := 3) (N := ["pen"]) (ps := ["pen"]) T sc__law_drawn_kinds (.inl rfl) hm hbi fun cdv A outer s H E hF hC hO =>
  (show SB _ K mg _ (defBody (topS 22)) b__law_drawn_kinds from
  (sb_one (ss_ret (se_call hF hC d__law_one_of (by decide) (fun _ => rfl) (sa_cons (se_var (i := 0)) (sa_cons (se_lst (sa_cons (se_tup (sa_cons se_int (sa_cons se_int sa_nil))) (sa_cons (se_tup (sa_cons se_int sa_nil)) (sa_cons (se_tup (sa_cons se_int (sa_cons se_int sa_nil))) (sa_cons (se_tup (sa_cons se_int (sa_cons se_int sa_nil))) (sa_cons (se_tup (sa_cons se_int (sa_cons se_int (sa_cons se_int sa_nil)))) (sa_cons (se_tup (sa_cons se_int (sa_cons se_int (sa_cons se_int sa_nil)))) (sa_cons (se_tup (sa_cons se_int (sa_cons se_int (sa_cons se_int (sa_cons se_int (sa_cons se_int sa_nil)))))) (sa_cons (se_tup (sa_cons se_int (sa_cons se_int (sa_cons se_int (sa_cons se_int (sa_cons se_int (sa_cons se_int sa_nil))))))) sa_nil))))))))) sa_nil))))))
def b__law_drawn_fact : FS :=
  (fSeq (fAsg (eFn m__law_draw (aCons (eVar 0) (aCons (eCall gLen (aCons (eVar 1) aNil)) aNil))) (tgN 2)) (fRet (eTup (aCons (eVar 2) (aCons (eCall gTuple (aCons (eLc (iRange1 (aCons (eBin gIx (eVar 1) (eVar 2)) aNil)) [3] (tgN 3) tYesF (eFn m__law_one_of (aCons (eVar 0) (aCons (eLst (aCons (ret (.int 0)) (aCons (ret (.int 1)) (aCons (ret (.int 3)) (aCons (ret (.int 5)) (aCons (ret (.int 28)) aNil)))))) aNil)))) aNil)) aNil)))))
omit [WW] in
theorem sc__law_drawn_fact : FnScope ["pen", "kinds", "kind", "lap"] ["pen", "kinds"] (defScope (topS 23)) := ⟨rfl, rfl, rfl, by decide +kernel, rfl, by decide +kernel, by decide +kernel⟩
def m__law_drawn_fact : FF := runDef 4 2 b__law_drawn_fact
theorem ok__law_drawn_fact {a : Addr} {fd : FuncData} (T : Fun K "_law_drawn_fact" "_law_drawn_fact" (topS 23) a fd) (hm : mg "_law_drawn_fact" = some (.ref a)) (hbi : Binds K fd ["pen", "kinds"] []) (d__law_draw : DefOk P WW.w K mg base 2 "_law_draw" 2 m__law_draw) (d__law_one_of : DefOk P WW.w K mg base 3 "_law_one_of" 2 m__law_one_of) (b_len : mg "len" = none) (b_range : mg "range" = none) (b_tuple : mg "tuple" = none) : DefOk P WW.w K mg base 4 "_law_drawn_fact" 2 m__law_drawn_fact :=
  def_ok (k := 3) (N := ["pen", "kinds", "kind", "lap"]) (ps := ["pen", "kinds"]) T sc__law_drawn_fact (.inl rfl) hm hbi fun cdv A outer s H E hF hC hO =>
  (show SB _ K mg _ (defBody (topS 23)) b__law_drawn_fact from
  (sb_cons (ss_set (i := 2) hF (se_call hF hC d__law_draw (by decide) (fun _ => rfl) (sa_cons (se_var (i := 0)) (sa_cons (se_len hF b_len (fun _ => rfl) (sa_cons (se_var (i := 1)) sa_nil)) sa_nil))))
  (sb_one (ss_ret (se_tup (sa_cons (se_var (i := 2)) (sa_cons (se_tuple hF b_tuple (fun _ => rfl) (sa_cons (se_lc (own := [("lap", 3)]) hF (si_range1 hF (fun _ => rfl) b_range (sa_cons (se_item hF (se_var (i := 1)) (se_var (i := 2)) (fun _ _ => rfl)) sa_nil)) (fun _ => blkOk_by rfl) (by decide) (sg_name (i := 3) (hF.blk _)) sts_nil (se_call (hF.blk _) (hC.blk _) d__law_one_of (by decide) (fun _ => rfl) (sa_cons (se_var (i := 0)) (sa_cons (se_lst (sa_cons se_int (sa_cons se_int (sa_cons se_int (sa_cons se_int (sa_cons se_int sa_nil)))))) sa_nil)))) sa_nil)) sa_nil)))))))
def b__law_drawn_facts : FS :=
  (fRet (eCall gTuple (aCons (eCall gSorted (aCons (eCall gSet (aCons (eLc (iRange1 (aCons (eFn m__law_draw (aCons (eVar 0) (aCons (eBin gAdd (eVar 2) (ret (.int 1))) aNil))) aNil)) [3] (tgN 3) tYesF (eFn m__law_drawn_fact (aCons (eVar 0) (aCons (eVar 1) aNil)))) aNil)) aNil)) aNil)))
omit [WW] in
theorem sc__law_drawn_facts : FnScope ["pen", "kinds", "many", "lap"] ["pen", "kinds", "many"] (defScope (topS 24)) := ⟨rfl, rfl, rfl, by decide +kernel, rfl, by decide +kernel, by decide +kernel⟩
def m__law_drawn_facts : FF := runDef 4 3 b__law_drawn_facts
theorem ok__law_drawn_facts {a : Addr} {fd : FuncData} (T : Fun K "_law_drawn_facts" "_law_drawn_facts" (topS 24) a fd) (hm : mg "_law_drawn_facts" = some (.ref a)) (hbi : Binds K fd ["pen", "kinds", "many"] []) (d__law_draw : DefOk P WW.w K mg base 2 "_law_draw" 2 m__law_draw) (d__law_drawn_fact : DefOk P WW.w K mg base 4 "_law_drawn_fact" 2 m__law_drawn_fact) (b_range : mg "range" = none) (b_set : mg "set" = none) (b_sorted : mg "sorted" = none) (b_tuple : mg "tuple" = none) : DefOk P WW.w K mg base 5 "_law_drawn_facts" 3 m__law_drawn_facts :=
  def_ok (k := 4) (N := ["pen", "kinds", "many", "lap"]) (ps := ["pen", "kinds", "many"]) T sc__law_drawn_facts (.inl rfl) hm hbi fun cdv A outer s H E hF hC hO =>
  (show SB _ K mg _ (defBody (topS 24)) b__law_drawn_facts from
  (sb_one (ss_ret (se_tuple hF b_tuple (fun _ => rfl) (sa_cons (se_sorted hF hC b_sorted (fun _ => rfl) (sa_cons (se_setOf hF hC b_set (fun _ => rfl) (sa_cons (se_lc (own := [("lap", 3)]) hF (si_range1 hF (fun _ => rfl) b_range (sa_cons (se_call hF hC d__law_draw (by decide) (fun _ => rfl) (sa_cons (se_var (i := 0)) (sa_cons (se_add hF (se_var (i := 2)) se_int) sa_nil))) sa_nil)) (fun _ => blkOk_by rfl) (by decide) (sg_name (i := 3) (hF.blk _)) sts_nil (se_call (hF.blk _) (hC.blk _) d__law_drawn_fact (by decide) (fun _ => rfl) (sa_cons (se_var (i := 0)) (sa_cons (se_var (i := 1)) sa_nil)))) sa_nil)) sa_nil)) sa_nil)))))
def b__law_is_right : FS :=
  (fSeq (fIf (MP.tOr (MP.tNot (MP.tB (eIsi "tuple" (eVar 1)))) (MP.tOr (MP.tB (eBin gNe (eCall gLen (aCons (eVar 1) aNil)) (ret (.int 2)))) (MP.tNot (MP.tB (eFn m__law_whole (aCons (eBin gIx (eVar 1) (ret (.int 0))) (aCons (ret (.int 0)) (aCons (eBin gSub (eCall gLen (aCons (eVar 0) aNil)) (ret (.int 1))) aNil)))))))) (fRet (ret (.bl false))) fNext) (fSeq (fIf (MP.tOr (MP.tNot (MP.tB (eIsi "tuple" (eBin gIx (eVar 1) (ret (.int 1)))))) (MP.tB (eBin gNe (eCall gLen (aCons (eBin gIx (eVar 1) (ret (.int 1))) aNil)) (eBin gIx (eVar 0) (eBin gIx (eVar 1) (ret (.int 0))))))) (fRet (ret (.bl false))) fNext) (fRet (eBin gEq (eLc (iSeq (eBin gIx (eVar 1) (ret (.int 1)))) [2] (tgN 2) (MP.tNot (MP.tB (eFn m__law_whole (aCons (eVar 2) (aCons (ret (.int 0)) (aCons (ret (.int 29)) aNil)))))) (ret (.int 1))) (eLst aNil)))))
omit [WW] in
theorem sc__law_is_right : FnScope ["kinds", "value", "thing"] ["kinds", "value"] (defScope (topS 25)) := ⟨rfl, rfl, rfl, by decide +kernel, rfl, by decide +kernel, by decide +kernel⟩
def m__law_is_right : FF := runDef 3 2 b__law_is_right
theorem ok__law_is_right {a : Addr} {fd : FuncData} (T : Fun K "_law_is_right" "_law_is_right" (topS 25) a fd) (hm : mg "_law_is_right" = some (.ref a)) (hbi : Binds K fd ["kinds", "value"] []) (d__law_whole : DefOk P WW.w K mg base 1 "_law_whole" 3 m__law_whole) (b_isinstance : mg "isinstance" = none) (b_tuple : mg "tuple" = none) (b_len : mg "len" = none) : DefOk P WW.w K mg base 2 "_law_is_right" 2 m__law_is_right :=
  def_ok (k := 1) (N := ["kinds", "value", "thing"]) (ps := ["kinds", "value"]) T sc__law_is_right (.inl rfl) hm hbi fun cdv A outer s H E hF hC hO =>
  (show SB _ K mg _ (defBody (topS 25)) b__law_is_right from
  (sb_cons (ss_if (SW.st (sw_or (st_not (st_val (se_isi2 hF b_isinstance b_tuple (by kernel_rfl) (fun _ => rfl) (fun _ => rfl) (se_var (i := 1)) (.ty _)))) (sw_or (st_ne hF hC (se_len hF b_len (fun _ => rfl) (sa_cons (se_var (i := 1)) sa_nil)) se_int) (sw_or1 (st_not (st_val (se_call hF hC d__law_whole (by decide) (fun _ => rfl) (sa_cons (se_item hF (se_var (i := 1)) se_int (fun _ _ => rfl)) (sa_cons se_int (sa_cons (se_sub (se_len hF b_len (fun _ => rfl) (sa_cons (se_var (i := 0)) sa_nil)) se_int) sa_nil)))))))))) (sb_one (ss_ret se_bl)) sb_nil)
  (sb_cons (ss_if (SW.st (sw_or (st_not (st_val (se_isi2 hF b_isinstance b_tuple (by kernel_rfl) (fun _ => rfl) (fun _ => rfl) (se_item hF (se_var (i := 1)) se_int (fun _ _ => rfl)) (.ty _)))) (sw_or1 (st_ne hF hC (se_len hF b_len (fun _ => rfl) (sa_cons (se_item hF (se_var (i := 1)) se_int (fun _ _ => rfl)) sa_nil)) (se_item hF (se_var (i := 0)) (se_item hF (se_var (i := 1)) se_int (fun _ _ => rfl)) (fun _ _ => rfl)))))) (sb_one (ss_ret se_bl)) sb_nil)
  (sb_one (ss_ret (se_eq hF hC (se_lc (own := [("thing", 2)]) hF (si_seq hF (se_item hF (se_var (i := 1)) se_int (fun _ _ => rfl))) (fun _ => blkOk_by rfl) (by decide) (sg_name (i := 2) (hF.blk _)) (sts_one (st_not (st_val (se_call (hF.blk _) (hC.blk _) d__law_whole (by decide) (fun _ => rfl) (sa_cons (se_var (i := 2)) (sa_cons se_int (sa_cons se_int sa_nil))))))) se_int) (se_lst sa_nil)))))))
def b__law_due : FS :=
  (fSeq (fIf (MP.tOr (MP.tNot (MP.tB (eIsi "tuple" (eVar 1)))) (MP.tB (eBin gGt (eCall gLen (aCons (eVar 1) aNil)) (ret (.int 5400))))) (fRet (eTup (aCons (ret (.str "index")) (aCons (ret .non) aNil)))) fNext) (fSeq (fFor (iEnumA (aCons (eVar 1) aNil)) (tgT 2 (tgCons (tgN 2) (tgCons (tgN 3) tgNil))) (fIf (MP.tOr (MP.tNot (MP.tB (eFn m__law_is_right (aCons (eVar 0) (aCons (eVar 3) aNil))))) (MP.tAnd (MP.tB (eBin gGt (eVar 2) (ret (.int 0)))) (MP.tNot (MP.tB (eBin gLtA (eBin gIx (eVar 1) (eBin gSub (eVar 2) (ret (.int 1)))) (eVar 3)))))) (fRet (eTup (aCons (ret (.str "index")) (aCons (eVar 2) aNil)))) fNext)) (fRet (eTup (aCons (ret (.str "told")) (aCons (eVar 1) aNil))))))
omit [WW] in
theorem sc__law_due : FnScope ["kinds", "value", "at", "fact"] ["kinds", "value"] (defScope (topS 26)) := ⟨rfl, rfl, rfl, by decide +kernel, rfl, by decide +kernel, by decide +kernel⟩
def m__law_due : FF := runDef 4 2 b__law_due
theorem ok__law_due {a : Addr} {fd : FuncData} (T : Fun K "_law_due" "_law_due" (topS 26) a fd) (hm : mg "_law_due" = some (.ref a)) (hbi : Binds K fd ["kinds", "value"] []) (d__law_is_right : DefOk P WW.w K mg base 2 "_law_is_right" 2 m__law_is_right) (b_isinstance : mg "isinstance" = none) (b_tuple : mg "tuple" = none) (b_len : mg "len" = none) (b_enumerate : mg "enumerate" = none) : DefOk P WW.w K mg base 3 "_law_due" 2 m__law_due :=
  def_ok (k := 2) (N := ["kinds", "value", "at", "fact"]) (ps := ["kinds", "value"]) T sc__law_due (.inl rfl) hm hbi fun cdv A outer s H E hF hC hO =>
  (show SB _ K mg _ (defBody (topS 26)) b__law_due from
  (sb_cons (ss_if (SW.st (sw_or (st_not (st_val (se_isi2 hF b_isinstance b_tuple (by kernel_rfl) (fun _ => rfl) (fun _ => rfl) (se_var (i := 1)) (.ty _)))) (sw_or1 (st_gt (se_len hF b_len (fun _ => rfl) (sa_cons (se_var (i := 1)) sa_nil)) se_int)))) (sb_one (ss_ret (se_tup (sa_cons se_str (sa_cons se_non sa_nil))))) sb_nil)
  (sb_cons (ss_for hF hO (si_enumA hF (fun _ => rfl) b_enumerate (sa_cons (se_var (i := 1)) sa_nil)) (sg_tup (n := 2) (sgs_cons (sg_name (i := 2) hF) (sgs_cons (sg_name (i := 3) hF) sgs_nil)) (fun j t z => pg_tup (hF.calm j) z) hF) (sb_one (ss_if (SW.st (sw_or (st_not (st_val (se_call hF hC d__law_is_right (by decide) (fun _ => rfl) (sa_cons (se_var (i := 0)) (sa_cons (se_var (i := 3)) sa_nil))))) (sw_or1 (SW.st (sw_and (st_gt (se_var (i := 2)) se_int) (sw_and1 (st_not (st_ltA hF hC (se_item hF (se_var (i := 1)) (se_sub (se_var (i := 2)) se_int) (fun _ _ => rfl)) (se_var (i := 3)))))))))) (sb_one (ss_ret (se_tup (sa_cons se_str (sa_cons (se_var (i := 2)) sa_nil))))) sb_nil)))
  (sb_one (ss_ret (se_tup (sa_cons se_str (sa_cons (se_var (i := 1)) sa_nil))))))))
def tb_ValueError : List (Nat × Bool) := [(31, true)]
def xt_InvalidFacts : List (Nat × Bool) := [(31, true)]
def b__law_told : FS :=
  (fTry (fRet (eTup (aCons (ret (.str "told")) (aCons (eFn m_require_facts (aCons (eVar 0) (aCons (eVar 1) aNil))) aNil)))) xt_InvalidFacts 2 (fun t => (fRet (eIf (MP.tB (eXIs t 31 tb_ValueError (eVar 2))) (eTup (aCons (ret (.str "index")) (aCons (eXFld t "index" (eVar 2)) aNil))) (eTup (aCons (ret (.str "class")) (aCons (ret (.int 0)) aNil)))))))
omit [WW] in
theorem sc__law_told : FnScope ["kinds", "value", "e"] ["kinds", "value"] (defScope (topS 27)) := ⟨rfl, rfl, rfl, by decide +kernel, rfl, by decide +kernel, by decide +kernel⟩
def m__law_told : FF := runDef 3 2 b__law_told
theorem ok__law_told {a : Addr} {fd : FuncData} (T : Fun K "_law_told" "_law_told" (topS 27) a fd) (hm : mg "_law_told" = some (.ref a)) (hbi : Binds K fd ["kinds", "value"] []) (d_require_facts : DefOk P WW.w K mg base 6 "require_facts" 2 m_require_facts) (b_isinstance : mg "isinstance" = none) (b_ValueError : mg "ValueError" = none) (g_InvalidFacts : mg "InvalidFacts" = some (.ref 31)) (t_ValueError : isTab K (.type "ValueError") tb_ValueError = true) (x_InvalidFacts : exTab K (.ref 31) xt_InvalidFacts = true) (hx_InvalidFacts : ExcC K 31) (hn_InvalidFacts_index : PySem.W.findIn K (.ref 31) "index" = some none) : DefOk P WW.w K mg base 7 "_law_told" 2 m__law_told :=
  def_ok (k := 6) (N := ["kinds", "value", "e"]) (ps := ["kinds", "value"]) T sc__law_told (.inl rfl) hm hbi fun cdv A outer s H E hF hC hO =>
  (show SB _ K mg _ (defBody (topS 27)) b__law_told from
  (sb_one (ss_try (C := 31) (i := 2) (tb := xt_InvalidFacts) (fsu := fun t => (fRet (eIf (MP.tB (eXIs t 31 tb_ValueError (eVar 2))) (eTup (aCons (ret (.str "index")) (aCons (eXFld t "index" (eVar 2)) aNil))) (eTup (aCons (ret (.str "class")) (aCons (ret (.int 0)) aNil)))))) hF hC (fun _ => rfl) (fun _ => rfl) (fun _ => rfl) (fun _ => rfl) (fun _ => ⟨rfl, by decide, .inl g_InvalidFacts⟩) (exTab_ok x_InvalidFacts) (lookA_one (by decide +kernel)) (by first | decide | simp +zetaDelta [FV.slots]) (fun W2 => (sb_one (ss_ret (se_tup (sa_cons se_str (sa_cons (se_call hF.try_ hC.try_ d_require_facts (by decide) (fun _ => rfl) (sa_cons (se_var (i := 0)) (sa_cons (se_var (i := 1)) sa_nil))) sa_nil)))))) (fun t => (sb_one (ss_ret (se_if (st_val (se_xisT hF hx_InvalidFacts b_isinstance b_ValueError (by kernel_rfl) (fun _ => rfl) (fun _ => rfl) (se_var (i := 2)) (isTab_ok t_ValueError))) (se_tup (sa_cons se_str (sa_cons (se_xfld hF (se_var (i := 2)) (hb := fun _ => rfl) hx_InvalidFacts hn_InvalidFacts_index) sa_nil))) (se_tup (sa_cons se_str (sa_cons se_int sa_nil))))))) (by intro t x env hp hx; by_cases hl : 2 < env.length <;> simp [fRet, fE, eIf, eTup, eLst, aCons, aNil, bnd, eVar, MP.tB, MP.ret, eXFld, eXIs, tagD, wipeI, lookA, tb_ValueError, hx, hl] <;> (generalize fldOf _ x.ns x.xs = o1; cases o1 <;> simp [hl])))))
def b__law_all_facts : FS :=
  (fSeq (fAsg (eObj aNil) (tgN 1)) (fSeq (fFor (iRange1 (aCons (ret (.int 30)) aNil)) (tgN 2) (fDrop (eObjArg (eVar 1) (aCons (eLc (iRange1 (aCons (ret (.int 30)) aNil)) [3] (tgN 3) tYesF (eTup (aCons (eVar 0) (aCons (eTup (aCons (eVar 2) (aCons (eVar 3) aNil))) aNil)))) aNil) gExt))) (fRet (eVar 1))))
omit [WW] in
theorem sc__law_all_facts : FnScope ["kind", "found", "one", "other"] ["kind"] (defScope (topS 28)) := ⟨rfl, rfl, rfl, by decide +kernel, rfl, by decide +kernel, by decide +kernel⟩
def m__law_all_facts : FF := runDef 4 1 b__law_all_facts
theorem ok__law_all_facts {a : Addr} {fd : FuncData} (T : Fun K "_law_all_facts" "_law_all_facts" (topS 28) a fd) (hm : mg "_law_all_facts" = some (.ref a)) (hbi : Binds K fd ["kind"] []) (b_range : mg "range" = none) : DefOk P WW.w K mg base 1 "_law_all_facts" 1 m__law_all_facts :=
  def_ok (k := 0) (N := ["kind", "found", "one", "other"]) (ps := ["kind"]) T sc__law_all_facts (.inl rfl) hm hbi fun cdv A outer s H E hF hC hO =>
  (show SB _ K mg _ (defBody (topS 28)) b__law_all_facts from
  (sb_cons (ss_set (i := 1) hF (se_obj sa_nil))
  (sb_cons (ss_for hF hO (si_range1 hF (fun _ => rfl) b_range (sa_cons se_int sa_nil)) (sg_name (i := 2) hF) (sb_one (ss_expr (se_ext hF (se_var (i := 1)) (sa_cons (se_lc (own := [("other", 3)]) hF (si_range1 hF (fun _ => rfl) b_range (sa_cons se_int sa_nil)) (fun _ => blkOk_by rfl) (by decide) (sg_name (i := 3) (hF.blk _)) sts_nil (se_tup (sa_cons (se_var (i := 0)) (sa_cons (se_tup (sa_cons (se_var (i := 2)) (sa_cons (se_var (i := 3)) sa_nil))) sa_nil)))) sa_nil) (fun j to ta a b => pe_bm PySem.F.plainAttrs_list PySem.F.slot_list_extend PySem.F.type_list_extend (MtM.or mt_extend mt_extT) a b)))))
  (sb_one (ss_ret (se_var (i := 1)))))))
def b__law_many_right : FS :=
  (fSeq (fAsg (eObj aNil) (tgN 0)) (fSeq (fFor (iRange1 (aCons (ret (.int 6)) aNil)) (tgN 1) (fDrop (eObjArg (eVar 0) (aCons (eFn m__law_all_facts (aCons (eVar 1) aNil)) aNil) gExt))) (fSeq (fPar (aCons (eCall gTuple (aCons (eVar 0) aNil)) (aCons (eBin gMul (eTup (aCons (ret (.int 2)) aNil)) (ret (.int 6))) aNil)) 2 3) (fSeq (fIf (MP.tOr (MP.tB (eBin gNe (eFn m_require_facts (aCons (eVar 3) (aCons (eVar 2) aNil))) (eVar 2))) (MP.tB (eBin gNe (eFn m__law_told (aCons (eVar 3) (aCons (eBin gAdd (eVar 2) (eTup (aCons (eTup (aCons (ret (.int 0)) (aCons (eTup (aCons (ret (.int 0)) (aCons (ret (.int 0)) aNil))) aNil))) aNil))) aNil))) (eTup (aCons (ret (.str "index")) (aCons (ret .non) aNil)))))) (fRet (ret (.bl false))) fNext) (fSeq (fFor (iSeq (eTup (aCons (ret (.int 20)) (aCons (ret (.int 700)) (aCons (ret (.int 5399)) aNil))))) (tgN 4) (fSeq (fFor (iSeq (eTup (aCons (eTup (aCons (ret (.int 0)) (aCons (eTup (aCons (ret (.int 0)) (aCons (ret (.int 30)) aNil))) aNil))) (aCons (eBin gIx (eVar 2) (eBin gSub (eVar 4) (ret (.int 1)))) (aCons (ret .non) aNil))))) (tgN 5) (fIf (MP.tB (eBin gNe (eFn m__law_told (aCons (eVar 3) (aCons (eBin gAdd (eBin gAdd (eCut (eVar 2) (ret none) (oSome (eVar 4))) (eTup (aCons (eVar 5) aNil))) (eCut (eVar 2) (oSome (eBin gAdd (eVar 4) (ret (.int 1)))) (ret none))) aNil))) (eTup (aCons (ret (.str "index")) (aCons (eVar 4) aNil))))) (fRet (ret (.bl false))) fNext)) (fIf (MP.tB (eFn m_are_among (aCons (eVar 2) (aCons (eBin gAdd (eCut (eVar 2) (ret none) (oSome (eVar 4))) (eCut (eVar 2) (oSome (eBin gAdd (eVar 4) (ret (.int 1)))) (ret none))) aNil)))) (fRet (ret (.bl false))) fNext))) (fRet (eAnd (eFn m_are_among (aCons (eVar 2) (aCons (eVar 2) aNil))) (eAnd (eNot (eFn m_are_among (aCons (eVar 2) (aCons (eCut (eVar 2) (oSome (ret (.int 1))) (ret none)) aNil)))) (eFn m_are_among (aCons (eCut (eVar 2) (oSome (ret (.int 7))) (oSome (ret (.int 9)))) (aCons (eVar 2) aNil)))))))))))
omit [WW] in
theorem sc__law_many_right : FnScope ["some", "kind", "facts", "kinds", "at", "odd"] [] (defScope (topS 29)) := ⟨rfl, rfl, rfl, by decide +kernel, rfl, by decide +kernel, by decide +kernel⟩
def m__law_many_right : FF := runDef 6 0 b__law_many_right
theorem ok__law_many_right {a : Addr} {fd : FuncData} (T : Fun K "_law_many_right" "_law_many_right" (topS 29) a fd) (hm : mg "_law_many_right" = some (.ref a)) (hbi : Binds K fd [] []) (d__law_all_facts : DefOk P WW.w K mg base 1 "_law_all_facts" 1 m__law_all_facts) (d_require_facts : DefOk P WW.w K mg base 6 "require_facts" 2 m_require_facts) (d__law_told : DefOk P WW.w K mg base 7 "_law_told" 2 m__law_told) (d_are_among : DefOk P WW.w K mg base 2 "are_among" 2 m_are_among) (b_range : mg "range" = none) (b_tuple : mg "tuple" = none) : DefOk P WW.w K mg base 8 "_law_many_right" 0 m__law_many_right :=
  def_ok (k := 7) (N := ["some", "kind", "facts", "kinds", "at", "odd"]) (ps := []) T sc__law_many_right (.inl rfl) hm hbi fun cdv A outer s H E hF hC hO =>
  (show SB _ K mg _ (defBody (topS 29)) b__law_many_right from
  (sb_cons (ss_set (i := 0) hF (se_obj sa_nil))
  (sb_cons (ss_for hF hO (si_range1 hF (fun _ => rfl) b_range (sa_cons se_int sa_nil)) (sg_name (i := 1) hF) (sb_one (ss_expr (se_ext hF (se_var (i := 0)) (sa_cons (se_call hF hC d__law_all_facts (by decide) (fun _ => rfl) (sa_cons (se_var (i := 1)) sa_nil)) sa_nil) (fun j to ta a b => pe_bm PySem.F.plainAttrs_list PySem.F.slot_list_extend PySem.F.type_list_extend (MtM.or mt_extend mt_extT) a b)))))
  (sb_cons (ss_par (i := 2) (j := 3) hF (sa_cons (se_tuple hF b_tuple (fun _ => rfl) (sa_cons (se_var (i := 0)) sa_nil)) (sa_cons (se_mul hF (se_tup (sa_cons se_int sa_nil)) se_int) sa_nil)))
  (sb_cons (ss_if (SW.st (sw_or (st_ne hF hC (se_call hF hC d_require_facts (by decide) (fun _ => rfl) (sa_cons (se_var (i := 3)) (sa_cons (se_var (i := 2)) sa_nil))) (se_var (i := 2))) (sw_or1 (st_ne hF hC (se_call hF hC d__law_told (by decide) (fun _ => rfl) (sa_cons (se_var (i := 3)) (sa_cons (se_add hF (se_var (i := 2)) (se_tup (sa_cons (se_tup (sa_cons se_int (sa_cons (se_tup (sa_cons se_int (sa_cons se_int sa_nil))) sa_nil))) sa_nil))) sa_nil))) (se_tup (sa_cons se_str (sa_cons se_non sa_nil))))))) (sb_one (ss_ret se_bl)) sb_nil)
  (sb_cons (ss_for hF hO (si_seq hF (se_tup (sa_cons se_int (sa_cons se_int (sa_cons se_int sa_nil))))) (sg_name (i := 4) hF) (sb_cons (ss_for hF hO (si_seq hF (se_tup (sa_cons (se_tup (sa_cons se_int (sa_cons (se_tup (sa_cons se_int (sa_cons se_int sa_nil))) sa_nil))) (sa_cons (se_item hF (se_var (i := 2)) (se_sub (se_var (i := 4)) se_int) (fun _ _ => rfl)) (sa_cons se_non sa_nil))))) (sg_name (i := 5) hF) (sb_one (ss_if (st_ne hF hC (se_call hF hC d__law_told (by decide) (fun _ => rfl) (sa_cons (se_var (i := 3)) (sa_cons (se_add hF (se_add hF (se_slice hF (se_var (i := 2)) so_none (so_some (se_var (i := 4)))) (se_tup (sa_cons (se_var (i := 5)) sa_nil))) (se_slice hF (se_var (i := 2)) (so_some (se_add hF (se_var (i := 4)) se_int)) so_none)) sa_nil))) (se_tup (sa_cons se_str (sa_cons (se_var (i := 4)) sa_nil)))) (sb_one (ss_ret se_bl)) sb_nil)))
  (sb_one (ss_if (st_val (se_call hF hC d_are_among (by decide) (fun _ => rfl) (sa_cons (se_var (i := 2)) (sa_cons (se_add hF (se_slice hF (se_var (i := 2)) so_none (so_some (se_var (i := 4)))) (se_slice hF (se_var (i := 2)) (so_some (se_add hF (se_var (i := 4)) se_int)) so_none)) sa_nil)))) (sb_one (ss_ret se_bl)) sb_nil))))
  (sb_one (ss_ret (se_and (se_call hF hC d_are_among (by decide) (fun _ => rfl) (sa_cons (se_var (i := 2)) (sa_cons (se_var (i := 2)) sa_nil))) (se_and (se_not (se_call hF hC d_are_among (by decide) (fun _ => rfl) (sa_cons (se_var (i := 2)) (sa_cons (se_slice hF (se_var (i := 2)) (so_some se_int) so_none) sa_nil)))) (se_one (se_call hF hC d_are_among (by decide) (fun _ => rfl) (sa_cons (se_slice hF (se_var (i := 2)) (so_some se_int) (so_some se_int)) (sa_cons (se_var (i := 2)) sa_nil))))))))))))))
def b_law : FS :=
  (fSeq (fAsg (eFn m__law_pen (aCons (eVar 0) aNil)) (tgN 1)) (fSeq (fIf (MP.tAnd (MP.tB (eBin gEq (eFn m__law_draw (aCons (eVar 1) (aCons (ret (.int 6)) aNil))) (ret (.int 5)))) (MP.tNot (MP.tB (eFn m__law_many_right aNil)))) (fRet (ret (.bl false))) fNext) (fSeq (fFor (iRange1 (aCons (ret (.int 6)) aNil)) (tgN 2) (fSeq (fAsg (eFn m__law_drawn_kinds (aCons (eVar 1) aNil)) (tgN 3)) (fSeq (fAsg (eTup (aCons (eFn m__law_drawn_facts (aCons (eVar 1) (aCons (eVar 3) (aCons (ret (.int 6)) aNil)))) (aCons (eFn m__law_drawn_facts (aCons (eVar 1) (aCons (eVar 3) (aCons (ret (.int 6)) aNil)))) aNil))) (tgT 2 (tgCons (tgN 4) (tgCons (tgN 5) tgNil)))) (fSeq (fAsg (eLst (aCons (eVar 4) (aCons (eRev (eVar 4)) (aCons (eBin gAdd (eVar 4) (eCut (eVar 4) (oSome (eNeg (ret (.int 1)))) (ret none))) (aCons (eCall gList (aCons (eVar 4) aNil)) (aCons (eBin gAdd (eVar 4) (eVar 5)) (aCons (eFn m__law_odd (aCons (eVar 1) aNil)) aNil))))))) (tgN 6)) (fSeq (fAsg (eBin gAdd (eVar 6) (eLc (iSeq (eTup (aCons (ret (.int 1)) (aCons (ret (.int 2)) (aCons (ret (.int 3)) (aCons (ret (.int 3)) (aCons (ret (.int 3)) aNil))))))) [10] (tgN 10) tYesF (eFn (m__law_bent 10) (aCons (eVar 1) (aCons (eVar 4) (aCons (eVar 10) aNil)))))) (tgN 6)) (fSeq (fFor (iSeq (eBin gAdd (eVar 6) (eLst (aCons (eTup (aCons (eTup (aCons (ret (.int 0)) (aCons (eBin gMul (eTup (aCons (ret (.int 30)) aNil)) (eBin gIx (eVar 3) (ret (.int 0)))) aNil))) aNil)) (aCons (eTup (aCons (eTup (aCons (ret (.int 0)) (aCons (eBin gMul (eTup (aCons (ret (.int 29)) aNil)) (eBin gIx (eVar 3) (ret (.int 0)))) aNil))) aNil)) (aCons (eTup (aCons (eTup (aCons (eCall gLen (aCons (eVar 3) aNil)) (aCons (eTup aNil) aNil))) aNil)) aNil)))))) (tgN 7) (fSeq (fAsg (eCall gReprX (aCons (eVar 7) aNil)) (tgN 8)) (fSeq (fIf (MP.tOr (MP.tB (eBin gNe (eCall gReprX (aCons (eFn m__law_told (aCons (eVar 3) (aCons (eVar 7) aNil))) aNil)) (eCall gReprX (aCons (eFn m__law_due (aCons (eVar 3) (aCons (eVar 7) aNil))) aNil)))) (MP.tB (eBin gNe (eCall gReprX (aCons (eVar 7) aNil)) (eVar 8)))) (fRet (ret (.bl false))) fNext) (fFor (iSeq (eIf (MP.tB (eIsi "tuple" (eVar 7))) (eBin gAdd (eCut (eCall gList (aCons (eVar 7) aNil)) (ret none) (oSome (ret (.int 4)))) (eLst (aCons (eVar 7) aNil))) (eLst (aCons (eVar 7) aNil)))) (tgN 9) (fIf (MP.tB (eBin gNe (eCall gReprX (aCons (eFn m_is_fact (aCons (eVar 3) (aCons (eVar 9) aNil))) aNil)) (eCall gReprX (aCons (eFn m__law_is_right (aCons (eVar 3) (aCons (eVar 9) aNil))) aNil)))) (fRet (ret (.bl false))) fNext))))) (fIf (MP.tB (eBin gNe (eCall gReprX (aCons (eFn m_are_among (aCons (eVar 4) (aCons (eVar 5) aNil))) aNil)) (eCall gReprX (aCons (eBin gEq (eLc (iSeq (eVar 4)) [9] (tgN 9) (MP.tB (eBin gNinX (eVar 9) (eVar 5))) (ret (.int 1))) (eLst aNil)) aNil)))) (fRet (ret (.bl false))) fNext))))))) (fRet (ret (.bl true))))))
omit [WW] in
theorem sc_law : FnScope ["script", "pen", "lap", "kinds", "facts", "others", "some", "value", "kept", "fact", "depth"] ["script"] (defScope (topS 30)) := ⟨rfl, rfl, rfl, by decide +kernel, rfl, by decide +kernel, by decide +kernel⟩
theorem lb_law {fa : Addr} {s : Shared} {H : Hp} {cdv : Value} (d__law_pen : DefOk P WW.w K mg base 1 "_law_pen" 1 m__law_pen) (d__law_draw : DefOk P WW.w K mg base 2 "_law_draw" 2 m__law_draw) (d__law_many_right : DefOk P WW.w K mg base 8 "_law_many_right" 0 m__law_many_right) (d__law_drawn_kinds : DefOk P WW.w K mg base 4 "_law_drawn_kinds" 1 m__law_drawn_kinds) (d__law_drawn_facts : DefOk P WW.w K mg base 5 "_law_drawn_facts" 3 m__law_drawn_facts) (d__law_odd : DefOk P WW.w K mg base 4 "_law_odd" 1 m__law_odd) (d__law_bent : DefOk P WW.w K mg base 16 "_law_bent" 3 (m__law_bent 10)) (d__law_told : DefOk P WW.w K mg base 7 "_law_told" 2 m__law_told) (d__law_due : DefOk P WW.w K mg base 3 "_law_due" 2 m__law_due) (d_is_fact : DefOk P WW.w K mg base 3 "is_fact" 2 m_is_fact) (d__law_is_right : DefOk P WW.w K mg base 2 "_law_is_right" 2 m__law_is_right) (d_are_among : DefOk P WW.w K mg base 2 "are_among" 2 m_are_among) (b_range : mg "range" = none) (b_list : mg "list" = none) (b_len : mg "len" = none) (b_repr : mg "repr" = none) (b_isinstance : mg "isinstance" = none) (b_tuple : mg "tuple" = none) (hF : Fam (cxD P WW.w K mg base ["script", "pen", "lap", "kinds", "facts", "others", "some", "value", "kept", "fact", "depth"] "law" (defScope (topS 30)) fa cdv callerA [] s H noE) K mg) (hO : Own (cxD P WW.w K mg base ["script", "pen", "lap", "kinds", "facts", "others", "some", "value", "kept", "fact", "depth"] "law" (defScope (topS 30)) fa cdv callerA [] s H noE)) :
  SB (cxD P WW.w K mg base ["script", "pen", "lap", "kinds", "facts", "others", "some", "value", "kept", "fact", "depth"] "law" (defScope (topS 30)) fa cdv callerA [] s H noE) K mg (wOf noE) (defBody (topS 30)) b_law :=
  have hC : Cal (cxD P WW.w K mg base ["script", "pen", "lap", "kinds", "facts", "others", "some", "value", "kept", "fact", "depth"] "law" (defScope (topS 30)) fa cdv callerA [] s H noE) P WW.w base 60 (wOf noE) := cxD_cal (room_law (by decide) _)
  (show SB _ K mg _ (defBody (topS 30)) b_law from
  (sb_cons (ss_set (i := 1) hF (se_call hF hC d__law_pen (by decide) (fun _ => rfl) (sa_cons (se_var (i := 0)) sa_nil)))
  (sb_cons (ss_if (SW.st (sw_and (st_eq hF hC (se_call hF hC d__law_draw (by decide) (fun _ => rfl) (sa_cons (se_var (i := 1)) (sa_cons se_int sa_nil))) se_int) (sw_and1 (st_not (st_val (se_call0 hF hC d__law_many_right (by decide) (fun _ => rfl))))))) (sb_one (ss_ret se_bl)) sb_nil)
  (sb_cons (ss_for hF hO (si_range1 hF (fun _ => rfl) b_range (sa_cons se_int sa_nil)) (sg_name (i := 2) hF) (sb_cons (ss_set (i := 3) hF (se_call hF hC d__law_drawn_kinds (by decide) (fun _ => rfl) (sa_cons (se_var (i := 1)) sa_nil)))
  (sb_cons (ss_asg (se_tup (sa_cons (se_call hF hC d__law_drawn_facts (by decide) (fun _ => rfl) (sa_cons (se_var (i := 1)) (sa_cons (se_var (i := 3)) (sa_cons se_int sa_nil)))) (sa_cons (se_call hF hC d__law_drawn_facts (by decide) (fun _ => rfl) (sa_cons (se_var (i := 1)) (sa_cons (se_var (i := 3)) (sa_cons se_int sa_nil)))) sa_nil))) (sg_tup (n := 2) (sgs_cons (sg_name (i := 4) hF) (sgs_cons (sg_name (i := 5) hF) sgs_nil)) (fun j t z => pg_tup (hF.calm j) z) hF))
  (sb_cons (ss_set (i := 6) hF (se_lst (sa_cons (se_var (i := 4)) (sa_cons (se_rev hF (se_var (i := 4))) (sa_cons (se_add hF (se_var (i := 4)) (se_slice hF (se_var (i := 4)) (so_some (se_neg se_int)) so_none)) (sa_cons (se_list hF b_list (fun _ => rfl) (sa_cons (se_var (i := 4)) sa_nil)) (sa_cons (se_add hF (se_var (i := 4)) (se_var (i := 5))) (sa_cons (se_call hF hC d__law_odd (by decide) (fun _ => rfl) (sa_cons (se_var (i := 1)) sa_nil)) sa_nil))))))))
  (sb_cons (ss_set (i := 6) hF (se_add hF (se_var (i := 6)) (se_lc (own := [("depth", 10)]) hF (si_seq hF (se_tup (sa_cons se_int (sa_cons se_int (sa_cons se_int (sa_cons se_int (sa_cons se_int sa_nil))))))) (fun _ => blkOk_by rfl) (by decide) (sg_name (i := 10) (hF.blk _)) sts_nil (se_call (hF.blk _) (hC.blk _) d__law_bent (by decide) (fun _ => rfl) (sa_cons (se_var (i := 1)) (sa_cons (se_var (i := 4)) (sa_cons (se_var (i := 10)) sa_nil)))))))
  (sb_cons (ss_for hF hO (si_seq hF (se_add hF (se_var (i := 6)) (se_lst (sa_cons (se_tup (sa_cons (se_tup (sa_cons se_int (sa_cons (se_mul hF (se_tup (sa_cons se_int sa_nil)) (se_item hF (se_var (i := 3)) se_int (fun _ _ => rfl))) sa_nil))) sa_nil)) (sa_cons (se_tup (sa_cons (se_tup (sa_cons se_int (sa_cons (se_mul hF (se_tup (sa_cons se_int sa_nil)) (se_item hF (se_var (i := 3)) se_int (fun _ _ => rfl))) sa_nil))) sa_nil)) (sa_cons (se_tup (sa_cons (se_tup (sa_cons (se_len hF b_len (fun _ => rfl) (sa_cons (se_var (i := 3)) sa_nil)) (sa_cons (se_tup sa_nil) sa_nil))) sa_nil)) sa_nil)))))) (sg_name (i := 7) hF) (sb_cons (ss_set (i := 8) hF (se_reprX hF (fun _ => rfl) (fun _ => units_law _) b_repr (fun _ => rfl) (sa_cons (se_var (i := 7)) sa_nil)))
  (sb_cons (ss_if (SW.st (sw_or (st_ne hF hC (se_reprX hF (fun _ => rfl) (fun _ => units_law _) b_repr (fun _ => rfl) (sa_cons (se_call hF hC d__law_told (by decide) (fun _ => rfl) (sa_cons (se_var (i := 3)) (sa_cons (se_var (i := 7)) sa_nil))) sa_nil)) (se_reprX hF (fun _ => rfl) (fun _ => units_law _) b_repr (fun _ => rfl) (sa_cons (se_call hF hC d__law_due (by decide) (fun _ => rfl) (sa_cons (se_var (i := 3)) (sa_cons (se_var (i := 7)) sa_nil))) sa_nil))) (sw_or1 (st_ne hF hC (se_reprX hF (fun _ => rfl) (fun _ => units_law _) b_repr (fun _ => rfl) (sa_cons (se_var (i := 7)) sa_nil)) (se_var (i := 8)))))) (sb_one (ss_ret se_bl)) sb_nil)
  (sb_one (ss_for hF hO (si_seq hF (se_if (st_val (se_isi2 hF b_isinstance b_tuple (by kernel_rfl) (fun _ => rfl) (fun _ => rfl) (se_var (i := 7)) (.ty _))) (se_add hF (se_slice hF (se_list hF b_list (fun _ => rfl) (sa_cons (se_var (i := 7)) sa_nil)) so_none (so_some se_int)) (se_lst (sa_cons (se_var (i := 7)) sa_nil))) (se_lst (sa_cons (se_var (i := 7)) sa_nil)))) (sg_name (i := 9) hF) (sb_one (ss_if (st_ne hF hC (se_reprX hF (fun _ => rfl) (fun _ => units_law _) b_repr (fun _ => rfl) (sa_cons (se_call hF hC d_is_fact (by decide) (fun _ => rfl) (sa_cons (se_var (i := 3)) (sa_cons (se_var (i := 9)) sa_nil))) sa_nil)) (se_reprX hF (fun _ => rfl) (fun _ => units_law _) b_repr (fun _ => rfl) (sa_cons (se_call hF hC d__law_is_right (by decide) (fun _ => rfl) (sa_cons (se_var (i := 3)) (sa_cons (se_var (i := 9)) sa_nil))) sa_nil))) (sb_one (ss_ret se_bl)) sb_nil)))))))
  (sb_one (ss_if (st_ne hF hC (se_reprX hF (fun _ => rfl) (fun _ => units_law _) b_repr (fun _ => rfl) (sa_cons (se_call hF hC d_are_among (by decide) (fun _ => rfl) (sa_cons (se_var (i := 4)) (sa_cons (se_var (i := 5)) sa_nil))) sa_nil)) (se_reprX hF (fun _ => rfl) (fun _ => units_law _) b_repr (fun _ => rfl) (sa_cons (se_eq hF hC (se_lc (own := [("fact", 9)]) hF (si_seq hF (se_var (i := 4))) (fun _ => blkOk_by rfl) (by decide) (sg_name (i := 9) (hF.blk _)) (sts_one (st_ninX (hF.blk _) (hC.blk _) (se_var (i := 9)) (se_var (i := 5)))) se_int) (se_lst sa_nil)) sa_nil))) (sb_one (ss_ret se_bl)) sb_nil))))))))
  (sb_one (ss_ret se_bl))))))
end
end Law
end

section
set_option maxRecDepth 100000
set_option maxHeartbeats 4000000
namespace Law
open PySem PySem.Spec L2 MP
/-- the pen at p: what is given, the next one's seat, what is left -/
def penAt (hp : EH) (p : Nat) (xs : List Int) (s l : Int) : Prop := hp[p]? = some [.lst (xs.map .int), .int s, .int l]
abbrev penOf (xs : List Int) (s l : Int) : List D := [.lst (xs.map .int), .int s, .int l]
abbrev prime : Int := 2305843009213693951
def freshBody : FS := (fSeq (fAsg (eBin gMod (eCall gInt (aCons (eBin gAdd (eBin gAdd (eBin gMul (eVar 5) (eVar 5)) (eBin gMul (eBin gMul (ret (.int 70139)) (eBin gAdd (eVar 7) (ret (.int 5)))) (eBin gAdd (eVar 1) (ret (.int 1))))) (eVar 3)) aNil)) (eVar 4)) (tgN 5)) (fAsg (eBin gAdd (eBin gMul (eVar 6) (eVar 4)) (eVar 5)) (tgN 6)))
theorem fresh_turn (o x : Option D) (s c st f lap : Int) (hp : EH) (h1 : 0 ≤ lap) (h2 : lap ≤ 5) (h3 : 0 ≤ st) (h4 : st < prime) :
    freshBody [o, some (.int s), x, some (.int c), some (.int prime), some (.int st), some (.int f), some (.int lap)] hp =
      some (.nxt, [o, some (.int s), x, some (.int c), some (.int prime), some (.int ((st * st + 70139 * (lap + 5) * (s + 1) + c) % prime)), some (.int (f * prime + (st * st + 70139 * (lap + 5) * (s + 1) + c) % prime)), some (.int lap)], hp) := by
  have e1 : MP.small64 st = true := by unfold MP.small64; rw [decide_eq_true_eq]; unfold prime at h4; omega
  have e2 : MP.small64 70139 = true := by decide
  have e3 : MP.small64 (70139 * (lap + 5)) = true := by unfold MP.small64; rw [decide_eq_true_eq]; omega
  have e4 : MP.small64 prime = true := by decide
  have e5 : (0 : Int) < prime := by decide
  simp [freshBody, fSeq, fAsg, fE, eBin, bnd, eVar, MP.ret, eCall, aCons, aNil, gInt, gAdd, gMul, gMod, iOp, tgN, e1, e2, e3, e4, e5]
theorem fresh_turns (o x : Option D) (s c : Int) (hp : EH) : ∀ (laps : List Int) (st f : Int) (lap0 : Option D), (∀ l ∈ laps, 0 ≤ l ∧ l ≤ 5) → 0 ≤ st → st < prime → 0 ≤ f →
    ∃ st' f' lap', fTurns (tgN 7) yes freshBody (laps.map .int) [o, some (.int s), x, some (.int c), some (.int prime), some (.int st), some (.int f), lap0] hp =
      some (.nxt, [o, some (.int s), x, some (.int c), some (.int prime), some (.int st'), some (.int f'), lap'], hp) ∧ 0 ≤ f' := by
  intro laps
  induction laps with
  | nil => intro st f lap0 _ _ _ hf; exact ⟨st, f, lap0, by simp [fTurns, yes], hf⟩
  | cons l laps ih =>
    intro st f lap0 hl h0 h1 hf
    obtain ⟨a, b⟩ := hl l (by simp)
    have p0 : (0 : Int) ≤ (st * st + 70139 * (l + 5) * (s + 1) + c) % prime := Int.emod_nonneg _ (by decide)
    have p1 : (st * st + 70139 * (l + 5) * (s + 1) + c) % prime < prime := Int.emod_lt_of_pos _ (by decide)
    obtain ⟨st', f', lap', e, q⟩ := ih ((st * st + 70139 * (l + 5) * (s + 1) + c) % prime) (f * prime + (st * st + 70139 * (l + 5) * (s + 1) + c) % prime) (some (.int l)) (fun z hz => hl z (by simp [hz])) p0 p1 (by unfold prime at *; omega)
    refine ⟨st', f', lap', ?_, q⟩
    rw [← e, List.map_cons]
    have t := fresh_turn o x s c st f l hp a b h0 h1
    exact turns_cons (by simp [tgN]) t
theorem gNe_nil (xs : List Int) (hp : EH) : gNe (.lst (xs.map .int)) (.lst []) hp = some (.bl (!xs.isEmpty)) := by
  have q : toPh hp (.lst (xs.map D.int)) = some (.list (xs.map .int)) := by simp [toPh, D.toP, toPs_ints]
  have q0 : toPh hp (.lst []) = some (.list []) := by simp [toPh, D.toP, D.toPs]
  have z0 : SeqAt.shaped (.list []) = true := by decide
  unfold gNe dEq
  rw [q, q0]
  simp only [shaped_ints, z0, and_self, if_true, Option.map_some]
  cases xs <;> simp [PyData.eqv, PyData.eqvAll]
theorem fresh_ok {hp : EH} {p : Nat} {xs : List Int} {s l : Int} (h : penAt hp p xs s l) (h0 : 0 ≤ s) : ∃ v : Int, 0 ≤ v ∧ m__law_fresh [.obj p] hp = some (.val (.int v), hp.set p (penOf xs (s + 1) l)) := by
  unfold penAt at h
  have hp0 : p < hp.length := (List.getElem?_eq_some_iff.mp h).1
  have kt : keptTo hp.length hp (hp.set p (penOf xs (s + 1) l)) = true := keptTo_set (by simp [oldDs, oldD, olds_ints])
  have tk : (hp.set p (penOf xs (s + 1) l)).take hp.length = hp.set p (penOf xs (s + 1) l) := by
    rw [List.take_of_length_le]; simp
  have fin : ∀ (v : Int) (env : Ev), b__law_fresh ([D.obj p].map some ++ List.replicate (8 - 1) none) hp = some (.ret (.int v), env, hp.set p (penOf xs (s + 1) l)) → m__law_fresh [.obj p] hp = some (.val (.int v), hp.set p (penOf xs (s + 1) l)) := fun v env e =>
    runDef_ret rfl e kt (handed_int _ _ _) tk
  have cell : ∃ c : Int, (eIf (MP.tB (eBin gNe (eVar 2) (eLst aNil))) (eBin gIx (eVar 2) (eBin gMod (eCall gInt (aCons (eVar 1) aNil)) (eCall gLen (aCons (eVar 2) aNil)))) (MP.ret (.int 0)))
      [some (.obj p), some (.int s), some (.lst (xs.map .int)), none, none, none, none, none] (hp.set p (penOf xs (s + 1) l)) = some (.val (.int c), hp.set p (penOf xs (s + 1) l)) := by
    cases xs with
    | nil => 
      have q : gNe (.lst []) (.lst []) (hp.set p (penOf [] (s + 1) l)) = some (.bl false) := gNe_nil [] _
      exact ⟨0, by simp [eIf, MP.tB, eBin, bnd, eVar, eLst, aNil, MP.ret, q]⟩
    | cons x xs =>
      have q := gNe_nil (x :: xs)
      obtain ⟨c, hc⟩ := atI_ints (xs := x :: xs) (i := s % ((x :: xs).length : Int)) (Int.emod_nonneg _ (by simp; omega)) (Int.emod_lt_of_pos _ (by simp))
      have pos : (0 : Int) < ((x :: xs).length : Int) := by simp
      refine ⟨c, ?_⟩
      simp only [List.map_cons] at q hc ⊢
      simp [eIf, MP.tB, eBin, bnd, eVar, eLst, aNil, aCons, MP.ret, q, eCall, gInt, gLen, asQ, gMod, iOp, gIx]
      simp at hc pos
      simp [hc, pos]
  obtain ⟨c, hc⟩ := cell
  let env0 : Ev := [some (.obj p), some (.int s), some (.lst (xs.map .int)), none, none, none, none, none]
  have first : (fPar (aCons (eBin gIx (eVar 0) (MP.ret (.int 1))) (aCons (eBin gIx (eVar 0) (MP.ret (.int 0))) aNil)) 1 2) ([D.obj p].map some ++ List.replicate (8 - 1) none) hp = some (.nxt, env0, hp) := by
    simp [fPar, fE, aCons, aNil, bnd, eBin, eVar, MP.ret, gIx, asQ, h, L2.atI, L2.ixN, List.replicate, env0]
  have second : (fSto (eBin gAdd (eVar 1) (MP.ret (.int 1))) (eVar 0) (MP.ret (.int 1))) env0 hp = some (.nxt, env0, hp.set p (penOf xs (s + 1) l)) := by
    simp [fSto, fE, bnd, eBin, eVar, MP.ret, gAdd, env0, h, L2.ixN]
  have third : (fAsg (eIf (MP.tB (eBin gNe (eVar 2) (eLst aNil))) (eBin gIx (eVar 2) (eBin gMod (eCall gInt (aCons (eVar 1) aNil)) (eCall gLen (aCons (eVar 2) aNil)))) (MP.ret (.int 0))) (tgN 3)) env0 (hp.set p (penOf xs (s + 1) l)) =
      some (.nxt, [some (.obj p), some (.int s), some (.lst (xs.map .int)), some (.int c), none, none, none, none], hp.set p (penOf xs (s + 1) l)) := by
    unfold fAsg fE
    rw [hc]
    simp [tgN, env0]
  by_cases big : s < xs.length ∧ 10 ^ 18 ≤ c
  · have b2 : (1000000000000000000 : Int) ≤ c := by have := big.2; omega
    refine ⟨c - 10 ^ 18, by omega, fin _ [some (.obj p), some (.int s), some (.lst (xs.map .int)), some (.int c), none, none, none, none] ?_⟩
    unfold b__law_fresh
    rw [fSeq, first]
    simp only
    rw [fSeq, second]
    simp only
    rw [fSeq, third]
    simp only
    rw [fSeq]
    simp [fIf, fE, MP.tAnd, MP.tB, bnd, eBin, eVar, MP.ret, eCall, aCons, aNil, gLen, asQ, gLt, gGe, iCmp, gPow, iOp, MP.gSub, fRet, big.1, b2]
  · have e5 : (0 : Int) < prime := by decide
    have fourth : (fIf (MP.tAnd (MP.tB (eBin gLt (eVar 1) (eCall gLen (aCons (eVar 2) aNil)))) (MP.tB (eBin gGe (eVar 3) (eBin gPow (MP.ret (.int 10)) (MP.ret (.int 18)))))) (fRet (eBin MP.gSub (eVar 3) (eBin gPow (MP.ret (.int 10)) (MP.ret (.int 18))))) fNext)
        [some (.obj p), some (.int s), some (.lst (xs.map .int)), some (.int c), none, none, none, none] (hp.set p (penOf xs (s + 1) l)) = some (.nxt, [some (.obj p), some (.int s), some (.lst (xs.map .int)), some (.int c), none, none, none, none], hp.set p (penOf xs (s + 1) l)) := by
      by_cases b1 : s < xs.length
      · have b2 : ¬ (1000000000000000000 : Int) ≤ c := fun z => big ⟨b1, by omega⟩
        simp [fIf, fE, MP.tAnd, MP.tB, bnd, eBin, eVar, MP.ret, eCall, aCons, aNil, gLen, asQ, gLt, gGe, iCmp, gPow, iOp, MP.gSub, fRet, fNext, b1, b2]
      · simp [fIf, fE, MP.tAnd, MP.tB, bnd, eBin, eVar, MP.ret, eCall, aCons, aNil, gLen, asQ, gLt, iCmp, fNext, b1]
    have p0 : (0 : Int) ≤ (c * 48271 + 60013 * s + 31) % prime := Int.emod_nonneg _ (by decide)
    have p1 : (c * 48271 + 60013 * s + 31) % prime < prime := Int.emod_lt_of_pos _ e5
    obtain ⟨st', f', lap', et, q⟩ := fresh_turns (some (.obj p)) (some (.lst (xs.map .int))) s c (hp.set p (penOf xs (s + 1) l)) [0, 1, 2, 3, 4, 5] ((c * 48271 + 60013 * s + 31) % prime) ((c * 48271 + 60013 * s + 31) % prime) none (by decide) p0 p1 p0
    have rg : rangeD 0 6 = ([0, 1, 2, 3, 4, 5] : List Int).map .int := by rfl
    have loop : (fFor (iRange1 (aCons (MP.ret (.int 6)) aNil)) (tgN 7) freshBody) [some (.obj p), some (.int s), some (.lst (xs.map .int)), some (.int c), some (.int prime), some (.int ((c * 48271 + 60013 * s + 31) % prime)), some (.int ((c * 48271 + 60013 * s + 31) % prime)), none] (hp.set p (penOf xs (s + 1) l)) =
        some (.nxt, [some (.obj p), some (.int s), some (.lst (xs.map .int)), some (.int c), some (.int prime), some (.int st'), some (.int f'), lap'], hp.set p (penOf xs (s + 1) l)) := by
      rw [← et, ← rg]
      simp [fFor, fE, iRange1, bnd, aCons, aNil, MP.ret]
    refine ⟨f', q, fin f' [some (.obj p), some (.int s), some (.lst (xs.map .int)), some (.int c), some (.int prime), some (.int st'), some (.int f'), lap'] ?_⟩
    have e1 : MP.small64 48271 = true := by decide
    have e2 : MP.small64 60013 = true := by decide
    unfold b__law_fresh
    rw [fSeq, first]
    simp only
    rw [fSeq, second]
    simp only
    rw [fSeq, third]
    simp only
    rw [fSeq, fourth]
    simp only
    have fifth : (fAsg (MP.ret (.int 2305843009213693951)) (tgN 4)) [some (.obj p), some (.int s), some (.lst (xs.map .int)), some (.int c), none, none, none, none] (hp.set p (penOf xs (s + 1) l)) = some (.nxt, [some (.obj p), some (.int s), some (.lst (xs.map .int)), some (.int c), some (.int prime), none, none, none], hp.set p (penOf xs (s + 1) l)) := by
      simp [fAsg, fE, MP.ret, tgN]
    rw [fSeq, fifth]
    simp only
    have sixth : (fAsg (eBin gMod (eCall gInt (aCons (eBin gAdd (eBin gAdd (eBin gMul (eVar 3) (MP.ret (.int 48271))) (eBin gMul (MP.ret (.int 60013)) (eVar 1))) (MP.ret (.int 31))) aNil)) (eVar 4)) (tgN 5)) [some (.obj p), some (.int s), some (.lst (xs.map .int)), some (.int c), some (.int prime), none, none, none] (hp.set p (penOf xs (s + 1) l)) =
        some (.nxt, [some (.obj p), some (.int s), some (.lst (xs.map .int)), some (.int c), some (.int prime), some (.int ((c * 48271 + 60013 * s + 31) % prime)), none, none], hp.set p (penOf xs (s + 1) l)) := by
      simp [fAsg, fE, eBin, bnd, eVar, MP.ret, eCall, aCons, aNil, gInt, gAdd, gMul, gMod, iOp, tgN, e1, e2, e5]
    rw [fSeq, sixth]
    simp only
    have seventh : (fAsg (eVar 5) (tgN 6)) [some (.obj p), some (.int s), some (.lst (xs.map .int)), some (.int c), some (.int prime), some (.int ((c * 48271 + 60013 * s + 31) % prime)), none, none] (hp.set p (penOf xs (s + 1) l)) =
        some (.nxt, [some (.obj p), some (.int s), some (.lst (xs.map .int)), some (.int c), some (.int prime), some (.int ((c * 48271 + 60013 * s + 31) % prime)), some (.int ((c * 48271 + 60013 * s + 31) % prime)), none], hp.set p (penOf xs (s + 1) l)) := by
      simp [fAsg, fE, eVar, tgN]
    rw [fSeq, seventh]
    simp only
    show fSeq (fFor (iRange1 (aCons (MP.ret (.int 6)) aNil)) (tgN 7) freshBody) (fRet (eVar 6)) _ _ = _
    rw [fSeq, loop]
    simp [fRet, fE, eVar]
theorem penAt_set {hp : EH} {p : Nat} {xs : List Int} {s l s' l' : Int} (h : penAt hp p xs s l) : penAt (hp.set p (penOf xs s' l')) p xs s' l' := by
  have hl : p < hp.length := (List.getElem?_eq_some_iff.mp h).1
  unfold penAt
  rw [List.getElem?_set_self hl]
theorem set_set {hp : EH} {p : Nat} {a b : List D} : (hp.set p a).set p b = hp.set p b := by simp
/-- a pen that may be drawn from: the heap but for its own place is h0's -/
structure Pen (h0 : EH) (hp : EH) (p : Nat) (xs : List Int) : Prop where
  ex : ∃ s l : Int, 0 ≤ s ∧ 0 ≤ l ∧ hp = h0.set p (penOf xs s l) ∧ p < h0.length
theorem draw_ok {h0 hp : EH} {p : Nat} {xs : List Int} (h : Pen h0 hp p xs) {b : Int} (b0 : 0 < b) (b1 : b < 1073741824) : ∃ (v : Int) (hp' : EH), 0 ≤ v ∧ v < b ∧ Pen h0 hp' p xs ∧ m__law_draw [.obj p, .int b] hp = some (.val (.int v), hp') := by
  obtain ⟨s, l, s0, l0, rfl, hl⟩ := h.ex
  have hl2 : p < (h0.set p (penOf xs s l)).length := by simpa using hl
  have pa : penAt (h0.set p (penOf xs s l)) p xs s l := by
    unfold penAt
    rw [List.getElem?_set_self hl]
  -- the first statement
  have one : ∃ s' l' : Int, 0 ≤ s' ∧ 0 ≤ l' ∧ (fIf (MP.tB (eBin gLt (eBin gIx (eVar 0) (MP.ret (.int 2))) (eVar 1))) (fSto (eFn m__law_fresh (aCons (eVar 0) aNil)) (eVar 0) (MP.ret (.int 2))) fNext) [some (.obj p), some (.int b), none] (h0.set p (penOf xs s l)) =
      some (.nxt, [some (.obj p), some (.int b), none], h0.set p (penOf xs s' l')) := by
    have g2 : (h0.set p (penOf xs s l))[p]? = some (penOf xs s l) := List.getElem?_set_self hl
    by_cases c : l < b
    · obtain ⟨v, v0, e⟩ := fresh_ok pa s0
      refine ⟨s + 1, v, by omega, v0, ?_⟩
      rw [set_set] at e
      simp [fIf, fE, MP.tB, bnd, eBin, eVar, MP.ret, gIx, asQ, g2, L2.atI, L2.ixN, gLt, iCmp, c, fSto, eFn, aCons, aNil, e, hl]
    · refine ⟨s, l, s0, l0, ?_⟩
      simp [fIf, fE, MP.tB, bnd, eBin, eVar, MP.ret, gIx, asQ, g2, L2.atI, L2.ixN, gLt, iCmp, c, fNext]
  obtain ⟨s', l', s0', l0', e1⟩ := one
  have g3 : (h0.set p (penOf xs s' l'))[p]? = some (penOf xs s' l') := List.getElem?_set_self hl
  refine ⟨l' % b, h0.set p (penOf xs s' (l' / b)), Int.emod_nonneg _ (by omega), Int.emod_lt_of_pos _ b0, ⟨⟨s', l' / b, s0', Int.ediv_nonneg l0' (by omega), rfl, hl⟩⟩, ?_⟩
  have body : b__law_draw ([D.obj p, D.int b].map some ++ List.replicate (3 - 2) none) (h0.set p (penOf xs s l)) = some (.ret (.int (l' % b)), [some (.obj p), some (.int b), some (.int (l' % b))], h0.set p (penOf xs s' (l' / b))) := by
    show b__law_draw [some (.obj p), some (.int b), none] (h0.set p (penOf xs s l)) = _
    unfold b__law_draw
    rw [fSeq, e1]
    simp [fSeq, fAsg, fSto, fRet, fE, bnd, eBin, eVar, MP.ret, gIx, asQ, g3, L2.atI, L2.ixN, eCall, aCons, aNil, gInt, gMod, gDiv, iOp, tgN, b0, b1, hl]
  refine runDef_ret rfl body ?_ (handed_int _ _ _) ?_
  · have := keptTo_set (h := h0.set p (penOf xs s l)) (p := p) (ys := penOf xs s' (l' / b)) (by simp [oldDs, oldD, olds_ints])
    rwa [set_set] at this
  · rw [List.take_of_length_le]; simp
theorem one_of_ok {h0 hp : EH} {p : Nat} {xs : List Int} (h : Pen h0 hp p xs) {ds : List D} (hn : ds ≠ []) (hl : ds.length < 1073741824) (ho : oldDs h0.length ds = true) :
    ∃ (d : D) (hp' : EH), d ∈ ds ∧ Pen h0 hp' p xs ∧ m__law_one_of [.obj p, .lst ds] hp = some (.val d, hp') := by
  have pos : (0 : Int) < ds.length := by
    cases ds with
    | nil => exact absurd rfl hn
    | cons x xs => simp
  obtain ⟨v, hp', v0, v1, h', e⟩ := draw_ok h pos (by omega)
  obtain ⟨d, hd, ed⟩ := atI_mem v0 v1
  obtain ⟨s, l, _, _, e1, hl1⟩ := h.ex
  obtain ⟨s', l', _, _, e2, _⟩ := h'.ex
  have body : b__law_one_of ([D.obj p, D.lst ds].map some ++ List.replicate (2 - 2) none) hp = some (.ret d, [some (.obj p), some (.lst ds)], hp') := by
    show b__law_one_of [some (.obj p), some (.lst ds)] hp = _
    simp [b__law_one_of, fRet, fE, bnd, eBin, eVar, eFn, aCons, aNil, MP.ret, eCall, gLen, asQ, e, gIx, ed]
  have hlen : hp.length = h0.length := by rw [e1]; simp
  refine ⟨d, hp', hd, h', runDef_ret rfl body ?_ (handed_old (by rw [hlen]; exact olds_mem ho hd)) ?_⟩
  · have := keptTo_set (h := hp) (p := p) (ys := penOf xs s' l') (by simp [oldDs, oldD, olds_ints])
    rw [e1, set_set] at this
    rw [e1, e2]; exact this
  · rw [List.take_of_length_le]; rw [e2, hlen]; simp
theorem pen_ok (xs : List Int) (hp : EH) : m__law_pen [.scr (xs.map .int)] hp = some (.val (.obj hp.length), hp ++ [penOf (xs.take 63) 0 0]) := by
  have c : cutD (xs.map D.int) none (some 63) = (xs.take 63).map .int := by
    unfold cutD HT.sIx
    simp
  unfold m__law_pen runDefO
  simp [b__law_pen, fRet, fE, bnd, eObj, aCons, aNil, MP.ret, eCall, eCut, eVar, oSome, gCut, gList, asQ, c]
end Law
end

section
set_option maxRecDepth 100000
set_option maxHeartbeats 4000000
namespace Law
open PySem PySem.Spec L2 MP
/-! steps of the plain functions, one by one -/
section
variable {α β : Type} {f g : FS} {e e1 e2 : FE} {fa ga : FA} {t t1 t2 : FT} {env env1 env2 : Ev} {hp hp1 hp2 hp3 : EH} {d d1 d2 : D} {ds : List D} {fl : Fl} {x : Exc}
theorem bnd_of {p : Ev → EH → Option (Res α × EH)} {q : α → Ev → EH → Option (Res β × EH)} {a : α} (h : p env hp = some (.val a, hp1)) : bnd p q env hp = q a env hp1 := by
  unfold bnd; rw [h]
theorem seq_of (h : f env hp = some (.nxt, env1, hp1)) : fSeq f g env hp = g env1 hp1 := by unfold fSeq; rw [h]
theorem seq_ret (h : f env hp = some (.ret d, env1, hp1)) : fSeq f g env hp = some (.ret d, env1, hp1) := by unfold fSeq; rw [h]
theorem seq_exc (h : f env hp = some (.exc x, env1, hp1)) : fSeq f g env hp = some (.exc x, env1, hp1) := by unfold fSeq; rw [h]
theorem fE_of {p : Ev → EH → Option (Res α × EH)} {q : α → FS} {a : α} (h : p env hp = some (.val a, hp1)) : fE p q env hp = q a env hp1 := by unfold fE; rw [h]
theorem ret_of (h : e env hp = some (.val d, hp1)) : fRet e env hp = some (.ret d, env, hp1) := fE_of h
theorem asg_of {tg : D → Ev → Option Ev} (h : e env hp = some (.val d, hp1)) (ht : tg d env = some env1) : fAsg e tg env hp = some (.nxt, env1, hp1) := by
  unfold fAsg; rw [fE_of h, ht]
theorem if_t (h : t env hp = some (.val true, hp1)) : fIf t f g env hp = f env hp1 := by unfold fIf; rw [fE_of h]; rfl
theorem if_f (h : t env hp = some (.val false, hp1)) : fIf t f g env hp = g env hp1 := by unfold fIf; rw [fE_of h]; rfl
theorem tB_of {b : Bool} (h : e env hp = some (.val (.bl b), hp1)) : MP.tB e env hp = some (.val b, hp1) := by unfold MP.tB; rw [bnd_of h]
theorem tNot_of {b : Bool} (h : t env hp = some (.val b, hp1)) : MP.tNot t env hp = some (.val (!b), hp1) := by unfold MP.tNot; rw [bnd_of h]; rfl
theorem tAnd_t (h : t1 env hp = some (.val true, hp1)) : MP.tAnd t1 t2 env hp = t2 env hp1 := by unfold MP.tAnd; rw [bnd_of h]; rfl
theorem tAnd_f (h : t1 env hp = some (.val false, hp1)) : MP.tAnd t1 t2 env hp = some (.val false, hp1) := by unfold MP.tAnd; rw [bnd_of h]; rfl
theorem tOr_t (h : t1 env hp = some (.val true, hp1)) : MP.tOr t1 t2 env hp = some (.val true, hp1) := by unfold MP.tOr; rw [bnd_of h]; rfl
theorem tOr_f (h : t1 env hp = some (.val false, hp1)) : MP.tOr t1 t2 env hp = t2 env hp1 := by unfold MP.tOr; rw [bnd_of h]; rfl
theorem and_t (h : e1 env hp = some (.val (.bl true), hp1)) : eAnd e1 e2 env hp = e2 env hp1 := by unfold eAnd; rw [bnd_of (tB_of h)]; rfl
theorem and_f (h : e1 env hp = some (.val (.bl false), hp1)) : eAnd e1 e2 env hp = some (.val (.bl false), hp1) := by unfold eAnd; rw [bnd_of (tB_of h)]; rfl
theorem not_of {b : Bool} (h : e env hp = some (.val (.bl b), hp1)) : eNot e env hp = some (.val (.bl (!b)), hp1) := by unfold eNot; rw [bnd_of (tB_of h)]; rfl
theorem nil_of : aNil env hp = some (.val [], hp) := rfl
theorem cons_of (h : e env hp = some (.val d, hp1)) (h2 : fa env hp1 = some (.val ds, hp2)) : aCons e fa env hp = some (.val (d :: ds), hp2) := by unfold aCons; rw [bnd_of h, bnd_of h2]; rfl
theorem call_of {g : List D → EH → Option D} (h : fa env hp = some (.val ds, hp1)) (hg : g ds hp1 = some d) : eCall g fa env hp = some (.val d, hp1) := by unfold eCall; rw [bnd_of h]; simp only [hg]
theorem fn_of' {φ : FF} {r : Res D} (h : fa env hp = some (.val ds, hp1)) (hf : φ ds hp1 = some (r, hp2)) : eFn φ fa env hp = some (r, hp2) := by unfold eFn; rw [bnd_of h, hf]
theorem bin_of {g : D → D → EH → Option D} (h1 : e1 env hp = some (.val d1, hp1)) (h2 : e2 env hp1 = some (.val d2, hp2)) (hg : g d1 d2 hp2 = some d) : eBin g e1 e2 env hp = some (.val d, hp2) := by unfold eBin; rw [bnd_of h1, bnd_of h2]; simp only [hg]
theorem if_et (h : t env hp = some (.val true, hp1)) : eIf t e1 e2 env hp = e1 env hp1 := by unfold eIf; rw [bnd_of h]; rfl
theorem if_ef (h : t env hp = some (.val false, hp1)) : eIf t e1 e2 env hp = e2 env hp1 := by unfold eIf; rw [bnd_of h]; rfl
theorem tup_of (h : fa env hp = some (.val ds, hp1)) (hl : ds.length ≤ 16777216) : eTup fa env hp = some (.val (.tup ds), hp1) := by unfold eTup; rw [bnd_of h, if_pos hl]
theorem lst_of (h : fa env hp = some (.val ds, hp1)) (hl : ds.length ≤ 16777216) : eLst fa env hp = some (.val (.lst ds), hp1) := by unfold eLst; rw [bnd_of h, if_pos hl]
theorem for_of {src : FI} {tg : D → Ev → Option Ev} {c : EH → Bool} (h : src env hp = some (.val (ds, c), hp1)) : fFor src tg f env hp = fTurns tg c f ds env hp1 := by unfold fFor; rw [fE_of h]
theorem lc_of {src : FI} {vs : List Nat} {tg : D → Ev → Option Ev} {ys : List D} {c : EH → Bool} (h : src env hp = some (.val (ds, c), hp1)) (h2 : lcRun tg c t e (wipeE env vs) ds hp1 = some (ys, hp2)) (hl : ys.length ≤ 16777216) : eLc src vs tg t e env hp = some (.val (.lst ys), hp2) := by
  unfold eLc; rw [bnd_of h]; simp only [h2, if_pos hl]
theorem isi_of {T : String} {b : Bool} {s : String} (h : e env hp = some (.val d, hp1)) (h1 : d.tyN = some s) (h2 : kitB s T = some b) : eIsi T e env hp = some (.val (.bl b), hp1) := by unfold eIsi; rw [bnd_of h]; simp [gIsi, h1, h2]
theorem enum_tup {xs : List D} (h : fa env hp = some (.val [.tup xs], hp1)) : iEnumA fa env hp = some (.val (enumD 0 xs, yes), hp1) := by unfold iEnumA; rw [bnd_of h]
theorem seq_tup {xs : List D} (h : e env hp = some (.val (.tup xs), hp1)) : iSeq e env hp = some (.val (xs, yes), hp1) := by unfold iSeq; rw [bnd_of h]
theorem seq_lst {xs : List D} (h : e env hp = some (.val (.lst xs), hp1)) : iSeq e env hp = some (.val (xs, yes), hp1) := by unfold iSeq; rw [bnd_of h]
theorem fv_of {φ : FF} {i : Nat} {r : Res D} (hi : env[i]? = some none) (h : eFn φ fa env hp = some (r, hp1)) : eFv i φ fa env hp = some (r, hp1) := by unfold eFv; rw [hi]; exact h
theorem ret_exc (h : e env hp = some (.exc x, hp1)) : fRet e env hp = some (.exc x, env, hp1) := by unfold fRet fE; rw [h]
theorem bnd_exc {p : Ev → EH → Option (Res α × EH)} {q : α → Ev → EH → Option (Res β × EH)} (h : p env hp = some (.exc x, hp1)) : bnd p q env hp = some (.exc x, hp1) := by unfold bnd; rw [h]
theorem tup_exc (h : fa env hp = some (.exc x, hp1)) : eTup fa env hp = some (.exc x, hp1) := by unfold eTup; exact bnd_exc h
theorem cons_exc (h : e env hp = some (.exc x, hp1)) : aCons e fa env hp = some (.exc x, hp1) := by unfold aCons; exact bnd_exc h
theorem cons_exc2 (h : e env hp = some (.val d, hp1)) (h2 : fa env hp1 = some (.exc x, hp2)) : aCons e fa env hp = some (.exc x, hp2) := by unfold aCons; rw [bnd_of h]; exact bnd_exc h2
end
end Law
end

section
set_option maxRecDepth 100000
set_option maxHeartbeats 4000000
namespace Law
open PySem PySem.Spec L2 MP
/-! ### values that are drawn -/
mutual
/-- data: no set, no error, no list that may change -/
def dv : D → Bool
  | .non => true
  | .bl _ => true
  | .int _ => true
  | .str _ => true
  | .tup xs => dvs xs
  | .lst xs => dvs xs
  | .dic0 => true
  | _ => false
def dvs : List D → Bool
  | [] => true
  | x :: xs => dv x && dvs xs
end
theorem dvs_mem : ∀ {xs : List D}, dvs xs = true ↔ ∀ x ∈ xs, dv x = true
  | [] => by simp [dvs]
  | x :: xs => by simp [dvs, dvs_mem (xs := xs)]
def inR : D → Int → Int → Bool
  | .int i, lo, hi => decide (lo ≤ i) && decide (i ≤ hi)
  | _, _, _ => false
theorem k1 : kitB "NoneType" "int" = some false := by decide +kernel
theorem k2 : kitB "bool" "int" = some true := by decide +kernel
theorem k3 : kitB "int" "int" = some true := by decide +kernel
theorem k4 : kitB "str" "int" = some false := by decide +kernel
theorem k5 : kitB "tuple" "int" = some false := by decide +kernel
theorem k6 : kitB "list" "int" = some false := by decide +kernel
theorem k7 : kitB "dict" "int" = some false := by decide +kernel
theorem k8 : kitB "bool" "bool" = some true := by decide +kernel
theorem k9 : kitB "int" "bool" = some false := by decide +kernel
theorem k10 : kitB "NoneType" "tuple" = some false := by decide +kernel
theorem k11 : kitB "bool" "tuple" = some false := by decide +kernel
theorem k12 : kitB "int" "tuple" = some false := by decide +kernel
theorem k13 : kitB "str" "tuple" = some false := by decide +kernel
theorem k14 : kitB "tuple" "tuple" = some true := by decide +kernel
theorem k15 : kitB "list" "tuple" = some false := by decide +kernel
theorem k16 : kitB "dict" "tuple" = some false := by decide +kernel
theorem in_range_ok {v : D} (hv : dv v = true) (lo hi : Int) (hp : EH) : m_is_in_range [v, .int lo, .int hi] hp = some (.val (.bl (inR v lo hi)), hp) := by
  have body : b_is_in_range ([v, .int lo, .int hi].map some ++ List.replicate (3 - 3) none) hp = some (.ret (.bl (inR v lo hi)), [v, .int lo, .int hi].map some, hp) := by
    cases v <;> simp [dv] at hv <;> simp [b_is_in_range, fRet, fE, eAnd, eNot, eIsi, gIsi, D.tyN, bnd, eVar, MP.tB, MP.ret, inR, k1, k2, k3, k4, k5, k6, k7, k8, k9]
    rename_i i
    simp [eChain, gLe, iCmp, bnd, eVar, MP.ret]
    by_cases c : lo ≤ i <;> simp [c]
  exact runDef_same rfl body (handed_bl _ _ _)
theorem whole_ok {v : D} (hv : dv v = true) (lo hi : Int) (hp : EH) : m__law_whole [v, .int lo, .int hi] hp = some (.val (.bl (inR v lo hi)), hp) := in_range_ok hv lo hi hp
def isT : D → Nat → Nat → Bool
  | .tup xs, lo, hi => decide (lo ≤ xs.length) && decide (xs.length ≤ hi)
  | _, _, _ => false
theorem tuple_ok {v : D} (hv : dv v = true) (lo hi : Nat) (hp : EH) : m_is_tuple [v, .int lo, .int hi] hp = some (.val (.bl (isT v lo hi)), hp) := by
  have body : b_is_tuple ([v, .int lo, .int hi].map some ++ List.replicate (3 - 3) none) hp = some (.ret (.bl (isT v lo hi)), [v, .int lo, .int hi].map some, hp) := by
    cases v <;> simp [dv] at hv <;> simp [b_is_tuple, fRet, fE, eAnd, eIsi, gIsi, D.tyN, bnd, eVar, MP.tB, MP.ret, isT, k10, k11, k12, k13, k14, k15, k16]
    rename_i xs
    simp [eChain, gLe, iCmp, bnd, eVar, eCall, gLen, asQ, aCons, aNil, MP.ret]
    by_cases c : lo ≤ xs.length <;> simp [c]
  exact runDef_same rfl body (handed_bl _ _ _)
/-- a comprehension that tells a bool of each -/
theorem lc_bools {g : D → Ev → Option Ev} {f : FE} {env : Ev} {hp : EH} {h : D → Bool} : ∀ {xs : List D}, (∀ x ∈ xs, ∃ env1, g x env = some env1 ∧ f env1 hp = some (.val (.bl (h x)), hp)) → lcRun g yes tYesF f env xs hp = some (xs.map fun x => .bl (h x), hp)
  | [], _ => by simp [lcRun, yes]
  | x :: xs, q => by
    obtain ⟨env1, e1, e2⟩ := q x (by simp)
    have ih := lc_bools (g := g) (f := f) (env := env) (hp := hp) (h := h) (xs := xs) fun y hy => q y (by simp [hy])
    have ty : ∀ env hp, tYesF env hp = some (.val true, hp) := fun _ _ => rfl
    simp [lcRun, yes, e1, ty, e2, ih]
theorem asB_map (h : D → Bool) : ∀ xs : List D, asB (xs.map fun x => .bl (h x)) = some (xs.map h)
  | [] => rfl
  | x :: xs => by simp [asB, asB_map h xs]
/-- kinds -/
abbrev kd (ks : List Nat) : D := .tup (ks.map fun k : Nat => .int (k : Int))
def allIn : D → Int → Int → Bool
  | .tup xs, lo, hi => xs.all fun x => inR x lo hi
  | _, _, _ => false
def kindOf (ks : List Nat) : D → Nat
  | .int i => ks.getD i.toNat 0
  | _ => 0
def ofKind (ks : List Nat) (lo hi : Int) : D → Bool
  | .tup [k, p] => inR k 0 (ks.length - 1) && (isT p (kindOf ks k) (kindOf ks k) && allIn p lo hi)
  | _ => false
theorem kd_at {ks : List Nat} {i : Int} (h0 : 0 ≤ i) (h1 : i ≤ ks.length - 1) : L2.atI (ks.map fun k : Nat => D.int (k : Int)) i = some (.int (ks.getD i.toNat 0 : Nat)) := by
  have hl : i.toNat < ks.length := by omega
  unfold L2.atI L2.ixN
  rw [if_pos h0, List.length_map, if_pos (by omega)]
  simp [List.getElem?_eq_getElem hl]
theorem of_kind_ok {ks : List Nat} {v : D} (hv : dv v = true) (lo hi : Int) (hp : EH) (hs : ∀ xs, v = .tup xs → ∀ y ys, xs = [y, .tup ys] → ys.length ≤ 16777216) : m_is_of_kind [kd ks, v, .int lo, .int hi] hp = some (.val (.bl (ofKind ks lo hi v)), hp) := by
  have t2 := tuple_ok hv 2 2 hp
  have fin : ∀ (env : Ev), b_is_of_kind ([kd ks, v, .int lo, .int hi].map some ++ List.replicate (8 - 4) none) hp = some (.ret (.bl (ofKind ks lo hi v)), env, hp) → m_is_of_kind [kd ks, v, .int lo, .int hi] hp = some (.val (.bl (ofKind ks lo hi v)), hp) := fun env e => runDef_same rfl e (handed_bl _ _ _)
  have t2' : m_is_tuple [v, .int 2, .int 2] hp = some (.val (.bl (isT v 2 2)), hp) := t2
  cases hc : isT v 2 2 with
  | false =>
    have e0 : ofKind ks lo hi v = false := by
      unfold ofKind
      split
      · simp [isT] at hc
      · rfl
    rw [e0] at fin ⊢
    refine fin ([kd ks, v, .int lo, .int hi].map some ++ List.replicate 4 none) ?_
    simp [b_is_of_kind, fSeq, fIf, fE, MP.tNot, MP.tB, bnd, eFn, eVar, aCons, aNil, MP.ret, t2', hc, fRet]
  | true =>
    obtain ⟨k, p, rfl⟩ : ∃ k p, v = .tup [k, p] := by
      cases v <;> simp [isT] at hc
      rename_i xs
      match xs, hc with
      | [k, p], _ => exact ⟨k, p, rfl⟩
      | [], hc => simp at hc
      | [_], hc => simp at hc
      | _ :: _ :: _ :: _, hc => simp at hc
    have hv2 : dv k = true ∧ dv p = true := by simpa [dv, dvs] using hv
    have r1 := in_range_ok hv2.1 0 (ks.length - 1) hp
    cases hk : inR k 0 (ks.length - 1) with
    | false =>
      have e0 : ofKind ks lo hi (.tup [k, p]) = false := by simp [ofKind, hk]
      rw [e0] at fin ⊢
      refine fin [some (kd ks), some (.tup [k, p]), some (.int lo), some (.int hi), some k, some p, none, none] ?_
      simp [b_is_of_kind, fSeq, fIf, fE, MP.tNot, MP.tB, bnd, eFn, eVar, aCons, aNil, MP.ret, t2', hc, fRet, fNext, fAsg, tgT, tgCons, tgN, tgNil, eBin, MP.gSub, iOp, eCall, gLen, asQ, r1, hk]
    | true =>
      obtain ⟨i, rfl, h0, h1⟩ : ∃ i, k = .int i ∧ 0 ≤ i ∧ i ≤ ks.length - 1 := by
        cases k <;> simp [inR] at hk
        exact ⟨_, rfl, hk⟩
      have at_ := kd_at (ks := ks) h0 h1
      have r1' : ∀ n : Int, n = ks.length - 1 → m_is_in_range [.int i, .int 0, .int n] hp = some (.val (.bl true), hp) := fun n e => by rw [e, r1, hk]
      have t3 := tuple_ok hv2.2 (ks.getD i.toNat 0) (ks.getD i.toNat 0) hp
      have e0 : ofKind ks lo hi (.tup [.int i, p]) = (isT p (ks.getD i.toNat 0) (ks.getD i.toNat 0) && allIn p lo hi) := by simp [ofKind, hk, kindOf]
      rw [e0] at fin ⊢
      cases hp3 : isT p (ks.getD i.toNat 0) (ks.getD i.toNat 0) with
      | false =>
        rw [hp3] at fin t3
        refine fin [some (kd ks), some (.tup [.int i, p]), some (.int lo), some (.int hi), some (.int i), some p, some (.int (ks.getD i.toNat 0 : Nat)), none] ?_
        simp [b_is_of_kind, fSeq, fIf, fE, MP.tNot, MP.tB, bnd, eFn, eVar, aCons, aNil, MP.ret, t2', hc, fRet, fNext, fAsg, tgT, tgCons, tgN, tgNil, eBin, MP.gSub, iOp, eCall, gLen, asQ, r1, hk, gIx, at_, eAnd]
        simp at t3
        simp [t3, MP.ret]
      | true =>
        rw [hp3] at fin t3
        obtain ⟨xs, rfl⟩ : ∃ xs, p = .tup xs := by
          cases p <;> simp [isT] at hp3
          exact ⟨_, rfl⟩
        have hl : xs.length ≤ 16777216 := hs _ rfl _ _ rfl
        have dx : ∀ x ∈ xs, dv x = true := dvs_mem.mp (by simpa [dv] using hv2.2)
        let env1 : Ev := [some (kd ks), some (.tup [.int i, .tup xs]), some (.int lo), some (.int hi), none, none, none, none]
        let env2 : Ev := [some (kd ks), some (.tup [.int i, .tup xs]), some (.int lo), some (.int hi), some (.int i), some (.tup xs), none, none]
        let env3 : Ev := [some (kd ks), some (.tup [.int i, .tup xs]), some (.int lo), some (.int hi), some (.int i), some (.tup xs), some (.int (ks.getD i.toNat 0 : Nat)), none]
        refine fin env3 ?_
        have lc := lc_bools (g := tgN 7) (f := eFn m_is_in_range (aCons (eVar 7) (aCons (eVar 2) (aCons (eVar 3) aNil)))) (env := wipeE env3 [7]) (hp := hp) (h := fun x => inR x lo hi) (xs := xs) fun x hx => ⟨_, rfl, fn_of' (cons_of rfl (cons_of rfl (cons_of rfl rfl))) (in_range_ok (dx x hx) lo hi hp)⟩
        show b_is_of_kind env1 hp = _
        unfold b_is_of_kind
        refine (seq_of (if_f (tNot_of (tB_of (fn_of' (cons_of rfl (cons_of rfl (cons_of rfl rfl))) (t2'.trans (by rw [hc]))))))).trans ?_
        refine (seq_of (env1 := env2) (asg_of (d := .tup [.int i, .tup xs]) rfl rfl)).trans ?_
        refine (seq_of (if_f (tNot_of (tB_of (fn_of' (cons_of rfl (cons_of rfl (cons_of (bin_of (call_of (cons_of rfl rfl) rfl) rfl rfl) rfl))) (r1' _ (by simp))))))).trans ?_
        refine (seq_of (env1 := env3) (asg_of (bin_of rfl rfl (show gIx (kd ks) (.int i) hp = _ from at_)) rfl)).trans ?_
        refine ret_of ((and_t (fn_of' (cons_of rfl (cons_of rfl (cons_of rfl rfl))) t3)).trans ?_)
        refine call_of (d := .bl (true && allIn (.tup xs) lo hi)) (cons_of (lc_of (seq_tup rfl) lc (by rw [List.length_map]; exact hl)) rfl) ?_
        simp [gAll, asL, asB_map, allIn]
/-- facts -/
abbrev isF (ks : List Nat) (v : D) : Bool := ofKind ks 0 29 v
/-- no list or tuple in it is too long -/
def shortP (v : D) : Prop := ∀ xs, v = .tup xs → xs.length ≤ 16777216 ∧ ∀ y ys, xs = [y, .tup ys] → ys.length ≤ 16777216
theorem fact_ok {ks : List Nat} {v : D} (hv : dv v = true) (hs : shortP v) (hp : EH) : m_is_fact [kd ks, v] hp = some (.val (.bl (isF ks v)), hp) :=
  runDef_same (env := [some (kd ks), some v]) rfl (ret_of (fn_of' (cons_of rfl (cons_of rfl (cons_of rfl (cons_of rfl rfl)))) (of_kind_ok hv 0 29 hp fun xs e y ys q => (hs xs e).2 y ys q))) (handed_bl _ _ _)
/-- a comprehension that tells 1 of each that has a test -/
theorem lc_ones {g : D → Ev → Option Ev} {t : FT} {env : Ev} {hp : EH} {h : D → Bool} : ∀ {xs : List D}, (∀ x ∈ xs, ∃ env1, g x env = some env1 ∧ t env1 hp = some (.val (h x), hp)) → lcRun g yes t (MP.ret (.int 1)) env xs hp = some ((xs.filter h).map fun _ => .int 1, hp)
  | [], _ => by simp [lcRun, yes]
  | x :: xs, q => by
    obtain ⟨env1, e1, e2⟩ := q x (by simp)
    have ih := lc_ones (g := g) (t := t) (env := env) (hp := hp) (h := h) (xs := xs) fun y hy => q y (by simp [hy])
    cases hx : h x <;> rw [hx] at e2
    · simp [lcRun, yes, e1, e2, ih, hx]
    · have ty : (MP.ret (.int 1) : FE) env1 hp = some (.val (.int 1), hp) := rfl
      rw [List.filter_cons_of_pos hx, List.map_cons]
      unfold lcRun
      simp only [yes, if_true, e1, e2, ty, ih]
theorem gEq_nil (n : Nat) (hp : EH) : gEq (.lst (List.replicate n (.int 1))) (.lst []) hp = some (.bl (decide (n = 0))) := by
  have e : List.replicate n (D.int 1) = (List.replicate n (1 : Int)).map .int := by simp
  rw [e]
  have q : toPh hp (.lst ((List.replicate n (1 : Int)).map D.int)) = some (.list ((List.replicate n (1 : Int)).map .int)) := by simp only [toPh, D.toP, toPs_ints]
  have q0 : toPh hp (.lst []) = some (.list []) := by simp [toPh, D.toP, D.toPs]
  have z0 : SeqAt.shaped (.list []) = true := by decide
  unfold gEq dEq
  rw [q, q0]
  simp only [shaped_ints, z0, and_self, if_true, Option.map_some]
  cases n <;> simp [PyData.eqv, PyData.eqvAll, List.replicate_succ]
theorem tyN_of {v : D} (hv : dv v = true) : ∃ s, v.tyN = some s ∧ kitB s "tuple" = some (match v with | .tup _ => true | _ => false) := by
  cases v <;> simp [dv] at hv <;> first | exact ⟨_, rfl, k10⟩ | exact ⟨_, rfl, k11⟩ | exact ⟨_, rfl, k12⟩ | exact ⟨_, rfl, k13⟩ | exact ⟨_, rfl, k14⟩ | exact ⟨_, rfl, k15⟩ | exact ⟨_, rfl, k16⟩
def isTup : D → Bool
  | .tup _ => true
  | _ => false
theorem isi_tup {v : D} (hv : dv v = true) {e : FE} {env : Ev} {hp hp1 : EH} (h : e env hp = some (.val v, hp1)) : eIsi "tuple" e env hp = some (.val (.bl (isTup v)), hp1) := by
  obtain ⟨s, h1, h2⟩ := tyN_of hv
  exact isi_of h h1 (h2.trans (by cases v <;> rfl))
theorem gNe_int (a b : Int) (hp : EH) : gNe (.int a) (.int b) hp = some (.bl (!decide (a = b))) := by
  have z : ∀ c : Int, SeqAt.shaped (.int c) = true := fun c => by simp [SeqAt.shaped, PyData.canLay0, PyData.depth]
  simp only [gNe, dEq, toPh, D.toP, z, PyData.eqv, and_self, if_true, Option.map_some]
  rfl
theorem gEq_int (a b : Int) (hp : EH) : gEq (.int a) (.int b) hp = some (.bl (decide (a = b))) := by
  have z : ∀ c : Int, SeqAt.shaped (.int c) = true := fun c => by simp [SeqAt.shaped, PyData.canLay0, PyData.depth]
  simp only [gEq, dEq, toPh, D.toP, z, PyData.eqv, and_self, if_true, Option.map_some]
  rfl
theorem gNe_nat (a b : Nat) (hp : EH) : gNe (.int a) (.int b) hp = some (.bl (!decide (a = b))) := by
  rw [gNe_int]
  by_cases h : a = b
  · subst h; simp
  · have : ¬ (a : Int) = b := by omega
    simp [h, this]
theorem right_ok {ks : List Nat} {v : D} (hv : dv v = true) (hs : shortP v) (hp : EH) : m__law_is_right [kd ks, v] hp = some (.val (.bl (isF ks v)), hp) := by
  have fin : ∀ (env : Ev), b__law_is_right [some (kd ks), some v, none] hp = some (.ret (.bl (isF ks v)), env, hp) → m__law_is_right [kd ks, v] hp = some (.val (.bl (isF ks v)), hp) := fun env e => runDef_same rfl e (handed_bl _ _ _)
  by_cases ht : isTup v = true
  · obtain ⟨xs, rfl⟩ : ∃ xs, v = .tup xs := by cases v <;> simp [isTup] at ht; exact ⟨_, rfl⟩
    by_cases h2 : xs.length = 2
    · match xs, h2 with
      | [k, p], _ =>
        have hv2 : dv k = true ∧ dv p = true := by simpa [dv, dvs] using hv
        have w := whole_ok hv2.1 0 (ks.length - 1) hp
        have i0 : gIx (.tup [k, p]) (.int 0) hp = some k := by simp [gIx, asQ, L2.atI, L2.ixN]
        have i1 : gIx (.tup [k, p]) (.int 1) hp = some p := by simp [gIx, asQ, L2.atI, L2.ixN]
        have ln : gNe (.int 2) (.int 2) hp = some (.bl false) := gNe_int 2 2 hp
        have w' : ∀ n : Int, n = ks.length - 1 → m__law_whole [k, .int 0, .int n] hp = some (.val (.bl (inR k 0 (ks.length - 1))), hp) := fun n e => by rw [e, w]
        have first : MP.tOr (MP.tNot (MP.tB (eIsi "tuple" (eVar 1)))) (MP.tOr (MP.tB (eBin gNe (eCall gLen (aCons (eVar 1) aNil)) (MP.ret (.int 2)))) (MP.tNot (MP.tB (eFn m__law_whole (aCons (eBin gIx (eVar 1) (MP.ret (.int 0))) (aCons (MP.ret (.int 0)) (aCons (eBin MP.gSub (eCall gLen (aCons (eVar 0) aNil)) (MP.ret (.int 1))) aNil))))))) [some (kd ks), some (.tup [k, p]), none] hp = some (.val (!inR k 0 (ks.length - 1)), hp) :=
          (tOr_f (tNot_of (tB_of (isi_tup hv rfl)))).trans ((tOr_f (tB_of (bin_of (call_of (d := .int 2) (cons_of rfl rfl) rfl) rfl ln))).trans (tNot_of (tB_of (fn_of' (cons_of (bin_of rfl rfl i0) (cons_of rfl (cons_of (bin_of (call_of (cons_of rfl rfl) rfl) rfl rfl) rfl))) (w' _ (by simp))))))
        cases hk : inR k 0 (ks.length - 1) with
        | false =>
          rw [hk] at first
          have e0 : isF ks (.tup [k, p]) = false := by simp [isF, ofKind, hk]
          rw [e0] at fin ⊢
          exact fin _ (seq_ret ((if_t first).trans (ret_of rfl)))
        | true =>
          rw [hk] at first
          obtain ⟨i, rfl, h0, h1⟩ : ∃ i, k = .int i ∧ 0 ≤ i ∧ i ≤ ks.length - 1 := by
            cases k <;> simp [inR] at hk
            exact ⟨_, rfl, hk⟩
          have at_ := kd_at (ks := ks) h0 h1
          have e0 : isF ks (.tup [.int i, p]) = (isT p (ks.getD i.toNat 0) (ks.getD i.toNat 0) && allIn p 0 29) := by simp [isF, ofKind, hk, kindOf]
          rw [e0] at fin ⊢
          by_cases hp1 : isTup p = true
          · obtain ⟨xs, rfl⟩ : ∃ xs, p = .tup xs := by cases p <;> simp [isTup] at hp1; exact ⟨_, rfl⟩
            have ne : gNe (.int xs.length) (.int (ks.getD i.toNat 0 : Nat)) hp = some (.bl (!decide (xs.length = ks.getD i.toNat 0))) := gNe_nat _ _ hp
            have second : MP.tOr (MP.tNot (MP.tB (eIsi "tuple" (eBin gIx (eVar 1) (MP.ret (.int 1)))))) (MP.tB (eBin gNe (eCall gLen (aCons (eBin gIx (eVar 1) (MP.ret (.int 1))) aNil)) (eBin gIx (eVar 0) (eBin gIx (eVar 1) (MP.ret (.int 0)))))) [some (kd ks), some (.tup [.int i, .tup xs]), none] hp = some (.val (!decide (xs.length = ks.getD i.toNat 0)), hp) :=
              (tOr_f (tNot_of (tB_of (isi_tup hv2.2 (bin_of rfl rfl i1))))).trans (tB_of (bin_of (call_of (d := .int xs.length) (cons_of (bin_of rfl rfl i1) rfl) rfl) (bin_of rfl (bin_of rfl rfl i0) (show gIx (kd ks) (.int i) hp = _ from at_)) ne))
            have dx : ∀ x ∈ xs, dv x = true := dvs_mem.mp (by simpa [dv] using hv2.2)
            have hl : xs.length ≤ 16777216 := (hs _ rfl).2 _ _ rfl
            have lc := lc_ones (g := tgN 2) (t := MP.tNot (MP.tB (eFn m__law_whole (aCons (eVar 2) (aCons (MP.ret (.int 0)) (aCons (MP.ret (.int 29)) aNil)))))) (env := wipeE [some (kd ks), some (.tup [.int i, .tup xs]), none] [2]) (hp := hp) (h := fun x => !inR x 0 29) (xs := xs) fun x hx => ⟨_, rfl, tNot_of (tB_of (fn_of' (cons_of rfl (cons_of rfl (cons_of rfl rfl))) (whole_ok (dx x hx) 0 29 hp)))⟩
            have rep : ((xs.filter fun x => !inR x 0 29).map fun _ => D.int 1) = List.replicate (xs.filter fun x => !inR x 0 29).length (.int 1) := by rw [List.map_const']
            rw [rep] at lc
            have all_ : allIn (.tup xs) 0 29 = decide ((xs.filter fun x => !inR x 0 29).length = 0) := by
              rw [Bool.eq_iff_iff]
              simp [allIn]
            have tt : isT (.tup xs) (ks.getD i.toNat 0) (ks.getD i.toNat 0) = decide (xs.length = ks.getD i.toNat 0) := by
              rw [Bool.eq_iff_iff]
              simp [isT]
              omega
            rw [tt] at fin ⊢
            cases hq : decide (xs.length = ks.getD i.toNat 0) with
            | false =>
              rw [hq] at second fin
              exact fin _ ((seq_of (if_f first)).trans (seq_ret ((if_t second).trans (ret_of rfl))))
            | true =>
              rw [hq] at second fin
              rw [all_] at fin ⊢
              refine fin _ ((seq_of (if_f first)).trans ((seq_of (if_f second)).trans (ret_of (bin_of (lc_of (seq_tup (bin_of rfl rfl i1)) lc ?_) (lst_of rfl (by decide)) (gEq_nil _ hp)))))
              rw [List.length_replicate]
              exact Nat.le_trans (List.length_filter_le _ _) hl
          · have f1 : isTup p = false := by simpa using hp1
            have second : MP.tOr (MP.tNot (MP.tB (eIsi "tuple" (eBin gIx (eVar 1) (MP.ret (.int 1)))))) (MP.tB (eBin gNe (eCall gLen (aCons (eBin gIx (eVar 1) (MP.ret (.int 1))) aNil)) (eBin gIx (eVar 0) (eBin gIx (eVar 1) (MP.ret (.int 0)))))) [some (kd ks), some (.tup [.int i, p]), none] hp = some (.val true, hp) :=
              tOr_t (tNot_of (b := false) (tB_of ((isi_tup hv2.2 (bin_of rfl rfl i1)).trans (by rw [f1]))))
            have e1 : (isT p (ks.getD i.toNat 0) (ks.getD i.toNat 0) && allIn p 0 29) = false := by
              cases p <;> simp [isTup] at f1 <;> simp [isT]
            rw [e1] at fin ⊢
            exact fin _ ((seq_of (if_f first)).trans (seq_ret ((if_t second).trans (ret_of rfl))))
    · have hl : gNe (.int xs.length) (.int 2) hp = some (.bl true) := (gNe_nat xs.length 2 hp).trans (by simp [h2])
      have e0 : isF ks (.tup xs) = false := by
        match xs, h2 with
        | [], _ => rfl
        | [_], _ => rfl
        | _ :: _ :: _ :: _, _ => rfl
        | [_, _], h => exact absurd rfl h
      rw [e0] at fin ⊢
      exact fin _ (seq_ret ((if_t ((tOr_f (tNot_of (tB_of (isi_tup hv rfl)))).trans (tOr_t (tB_of (bin_of (call_of (d := .int xs.length) (cons_of rfl rfl) rfl) rfl hl))))).trans (ret_of rfl)))
  · have f1 : isTup v = false := by simpa using ht
    have e0 : isF ks v = false := by cases v <;> simp [isTup] at f1 <;> rfl
    rw [e0] at fin ⊢
    exact fin _ (seq_ret ((if_t (tOr_t (tNot_of (b := false) (tB_of ((isi_tup hv rfl).trans (by rw [f1])))))).trans (ret_of rfl)))
end Law
end

section
set_option maxRecDepth 100000
set_option maxHeartbeats 4000000
namespace Law
open PySem PySem.Spec L2 MP
theorem two (a b : D) : [a, b].length ≤ 16777216 := by simp
/-! the first part that is wrong -/
def goodAt (ok : D → Bool) (lt : D → D → Bool) (pre : List D) (x : D) : Bool := ok x && (match pre.getLast? with | none => true | some p => lt p x)
def firstBad (ok : D → Bool) (lt : D → D → Bool) : List D → List D → Option Nat
  | _, [] => none
  | pre, x :: xs => if goodAt ok lt pre x = true then firstBad ok lt (pre ++ [x]) xs else some pre.length
theorem turns_first {ok : D → Bool} {lt : D → D → Bool} {E : Option D → Option D → Ev} {tg : D → Ev → Option Ev} {body : FS} {hp : EH} {full : List D} {r : Nat → D} (ht : ∀ i x a b, tg (.tup [i, x]) (E a b) = some (E (some i) (some x)))
    (hb : ∀ pre x post, full = pre ++ x :: post → (∀ y ∈ pre, ok y = true) → body (E (some (.int (pre.length : Nat))) (some x)) hp = if goodAt ok lt pre x = true then some (.nxt, E (some (.int (pre.length : Nat))) (some x), hp) else some (.ret (r pre.length), E (some (.int (pre.length : Nat))) (some x), hp)) :
    ∀ (xs pre : List D) (a b : Option D), full = pre ++ xs → (∀ y ∈ pre, ok y = true) →
      (firstBad ok lt pre xs = none → ∃ a' b', fTurns tg yes body (enumD pre.length xs) (E a b) hp = some (.nxt, E a' b', hp)) ∧ ∀ i, firstBad ok lt pre xs = some i → ∃ env', fTurns tg yes body (enumD pre.length xs) (E a b) hp = some (.ret (r i), env', hp)
  | [], pre, a, b, hf, hpre => ⟨fun _ => ⟨a, b, by simp [enumD, fTurns, yes]⟩, fun i e => by simp [firstBad] at e⟩
  | x :: xs, pre, a, b, hf, hpre => by
    have bd := hb pre x xs hf hpre
    have t := ht (.int (pre.length : Nat)) x a b
    by_cases g : goodAt ok lt pre x = true
    · rw [if_pos g] at bd
      have ox : ok x = true := by unfold goodAt at g; simp only [Bool.and_eq_true] at g; exact g.1
      obtain ⟨h1, h2⟩ := turns_first ht hb xs (pre ++ [x]) (some (.int (pre.length : Nat))) (some x) (by rw [hf]; simp) (fun y hy => by
        rcases List.mem_append.mp hy with z | z
        · exact hpre y z
        · rw [List.mem_singleton] at z; rw [z]; exact ox)
      have el : (pre ++ [x]).length = pre.length + 1 := by simp
      rw [el] at h1 h2
      have st : fTurns tg yes body (enumD pre.length (x :: xs)) (E a b) hp = fTurns tg yes body (enumD (pre.length + 1) xs) (E (some (.int (pre.length : Nat))) (some x)) hp := turns_cons t bd
      rw [st]
      unfold firstBad
      rw [if_pos g]
      exact ⟨h1, h2⟩
    · rw [if_neg g] at bd
      refine ⟨fun e => ?_, fun i e => ?_⟩
      · unfold firstBad at e; rw [if_neg g] at e; cases e
      · unfold firstBad at e
        rw [if_neg g] at e
        cases e
        exact ⟨E (some (.int (pre.length : Nat))) (some x), by simp [enumD, fTurns, yes, t, bd]⟩
/-- the order of facts -/
def ltF (x y : D) : Bool := match x.toP, y.toP with
  | some p, some q => PySem.W.dataLt p q
  | _, _ => false
theorem isF_form {ks : List Nat} {v : D} (h : isF ks v = true) : ∃ (k : Int) (ts : List Int), v = .tup [.int k, .tup (ts.map .int)] ∧ 0 ≤ k ∧ k ≤ ks.length - 1 ∧ ts.length = ks.getD k.toNat 0 ∧ ∀ t ∈ ts, 0 ≤ t ∧ t ≤ 29 := by
  unfold isF ofKind at h
  split at h
  · rename_i k p
    simp only [Bool.and_eq_true] at h
    obtain ⟨h1, h2, h3⟩ := h
    cases k <;> simp [inR] at h1
    rename_i i
    cases p <;> simp [isT] at h2
    rename_i xs
    simp only [allIn, List.all_eq_true] at h3
    have all : ∃ ts : List Int, xs = ts.map .int ∧ ∀ t ∈ ts, 0 ≤ t ∧ t ≤ 29 := by
      clear h2
      induction xs with
      | nil => exact ⟨[], rfl, by simp⟩
      | cons x xs ih =>
        have hx := h3 x (by simp)
        cases x <;> simp [inR] at hx
        rename_i t
        obtain ⟨ts, e, q⟩ := ih fun y hy => h3 y (by simp [hy])
        exact ⟨t :: ts, by simp [e], fun u hu => by
          rcases List.mem_cons.mp hu with rfl | hu
          · exact hx
          · exact q u hu⟩
    obtain ⟨ts, rfl, q⟩ := all
    refine ⟨i, ts, rfl, h1.1, h1.2, ?_, q⟩
    simp [kindOf] at h2
    simp
    omega
  · cases h
theorem alike_ints : ∀ (a b : List Int), PySem.W.alikeAll (a.map .int) (b.map .int) = true
  | [], b => by simp [PySem.W.alikeAll]
  | x :: a, [] => by simp [PySem.W.alikeAll]
  | x :: a, y :: b => by simp [PySem.W.alikeAll, PySem.W.alike, alike_ints a b]
abbrev fP (k : Int) (ts : List Int) : PyData := .tuple [.int k, .tuple (ts.map .int)]
theorem fact_toP (k : Int) (ts : List Int) : D.toP (.tup [.int k, .tup (ts.map .int)]) = some (fP k ts) := by simp [D.toP, D.toPs, toPs_ints]
theorem fact_ord (k l : Int) (ts us : List Int) : ordOk (fP k ts) (fP l us) = true := by
  simp [ordOk, PySem.W.alike, PySem.W.alikeAll, alike_ints, PyData.depth, PyData.depthAll, depth_ints]
theorem lt_ok {ks : List Nat} {x y : D} (hx : isF ks x = true) (hy : isF ks y = true) (hp : EH) : gLtA x y hp = some (.bl (ltF x y)) ∧ gLeA y x hp = some (.bl (!ltF x y)) := by
  obtain ⟨k, ts, rfl, _⟩ := isF_form hx
  obtain ⟨l, us, rfl, _⟩ := isF_form hy
  have e1 := fact_toP k ts
  have e2 := fact_toP l us
  constructor
  · simp only [gLtA, gLt, iCmp, gCmpD, toPh, e1, e2, fact_ord, if_true, ltF]
  · simp only [gLeA, gLe, iCmp, gCmpD, toPh, e1, e2, fact_ord, if_true, ltF]
/-- of any part: a function that tells whether it is right -/
theorem gGt_nat (n : Nat) (hp : EH) : gGt (.int (n : Int)) (.int 0) hp = some (.bl (decide (0 < n))) := by simp [gGt, iCmp]
theorem ix_prev {full pre post : List D} {x : D} (hf : full = pre ++ x :: post) (hn : pre ≠ []) (hp : EH) : ∃ p, pre.getLast? = some p ∧ p ∈ pre ∧ gIx (.tup full) (.int ((pre.length : Int) - 1)) hp = some p := by
  obtain ⟨q, p, rfl⟩ : ∃ q p, pre = q ++ [p] := ⟨pre.dropLast, pre.getLast hn, (List.dropLast_concat_getLast hn).symm⟩
  refine ⟨p, by simp, by simp, ?_⟩
  subst hf
  have e : (((q ++ [p]).length : Nat) : Int) - 1 = (q.length : Int) := by simp
  rw [e]
  simp only [gIx, asQ]
  unfold L2.atI L2.ixN
  rw [if_pos (by omega), if_pos (by simp; omega)]
  simp
theorem first_wrong_ok {ks : List Nat} {φ : FF} {xs : List D} (hp : EH) (hφ : ∀ x ∈ xs, φ [x] hp = some (.val (.bl (isF ks x)), hp)) (hd : oldD hp.length (.tup xs) = true) :
    m_first_wrong φ [.tup xs] hp = some (.val (match firstBad (isF ks) ltF [] xs with | none => .non | some i => .int i), hp) := by
  let E : Option D → Option D → Ev := fun a b => [some (.tup xs), none, a, b]
  have key := turns_first (ok := isF ks) (lt := ltF) (E := E) (tg := tgT 2 (tgCons (tgN 2) (tgCons (tgN 3) tgNil))) (hp := hp) (full := xs) (r := fun i => .int i)
    (body := fIf (MP.tOr (MP.tNot (MP.tB (eFv 1 φ (aCons (eVar 3) aNil)))) (MP.tAnd (MP.tB (eBin gGt (eVar 2) (MP.ret (.int 0)))) (MP.tB (eBin gLeA (eVar 3) (eBin gIx (eVar 0) (eBin MP.gSub (eVar 2) (MP.ret (.int 1)))))))) (fRet (eVar 2)) fNext) (fun i x a b => rfl) (fun pre x post hf hpre => by
      have hx : φ [x] hp = some (.val (.bl (isF ks x)), hp) := hφ x (by rw [hf]; simp)
      have t1 : MP.tNot (MP.tB (eFv 1 φ (aCons (eVar 3) aNil))) (E (some (.int (pre.length : Nat))) (some x)) hp = some (.val (!isF ks x), hp) := tNot_of (tB_of (fv_of rfl (fn_of' (cons_of rfl rfl) hx)))
      cases hk : isF ks x with
      | false =>
        rw [hk] at t1
        have g : ¬ goodAt (isF ks) ltF pre x = true := by simp [goodAt, hk]
        rw [if_neg g]
        exact (if_t (tOr_t t1)).trans (ret_of rfl)
      | true =>
        rw [hk] at t1
        by_cases hn : pre = []
        · subst hn
          have g : goodAt (isF ks) ltF [] x = true := by simp [goodAt, hk]
          rw [if_pos g]
          exact (if_f ((tOr_f t1).trans (tAnd_f (tB_of (bin_of rfl rfl (gGt_nat 0 hp)))))).trans rfl
        · obtain ⟨p, e1, e2, e3⟩ := ix_prev hf hn hp
          have hpos : decide (0 < pre.length) = true := by simp; exact List.length_pos_iff.mpr hn
          have le := (lt_ok (hpre p e2) hk hp).2
          have t2 : MP.tAnd (MP.tB (eBin gGt (eVar 2) (MP.ret (.int 0)))) (MP.tB (eBin gLeA (eVar 3) (eBin gIx (eVar 0) (eBin MP.gSub (eVar 2) (MP.ret (.int 1)))))) (E (some (.int (pre.length : Nat))) (some x)) hp = some (.val (!ltF p x), hp) :=
            (tAnd_t (tB_of (bin_of rfl rfl ((gGt_nat pre.length hp).trans (by rw [hpos]))))).trans (tB_of (bin_of rfl (bin_of rfl (bin_of rfl rfl rfl) e3) le))
          have eg : goodAt (isF ks) ltF pre x = ltF p x := by simp [goodAt, hk, e1]
          rw [eg]
          cases hl : ltF p x with
          | true =>
            rw [hl] at t2
            exact (if_f ((tOr_f t1).trans t2)).trans rfl
          | false =>
            rw [hl] at t2
            exact (if_t ((tOr_f t1).trans t2)).trans (ret_of rfl)) xs [] none none rfl (by simp)
  have src : (iEnumA (aCons (eVar 0) aNil)) (E none none) hp = some (.val (enumD 0 xs, yes), hp) := enum_tup (cons_of rfl rfl)
  show runDef 4 1 (b_first_wrong φ) [.tup xs] hp = _
  cases hb : firstBad (isF ks) ltF [] xs with
  | none =>
    obtain ⟨a, b, e⟩ := key.1 hb
    exact runDef_same (env := E a b) rfl ((seq_of ((for_of src).trans e)).trans (ret_of rfl)) (handed_old (by simp [oldD]))
  | some i =>
    obtain ⟨env', e⟩ := key.2 i hb
    exact runDef_same (env := env') rfl (seq_ret ((for_of src).trans e)) (handed_int _ _ _)
/-! ### what require_facts tells -/
def toldS (ks : List Nat) (v : D) : D := match v with
  | .tup xs => if xs.length ≤ 5400 then (match firstBad (isF ks) ltF [] xs with | none => .tup [.str "told", v] | some i => .tup [.str "index", .int i]) else .tup [.str "index", .non]
  | _ => .tup [.str "index", .non]
theorem due_ok {ks : List Nat} {v : D} (hv : dv v = true) (hs : shortP v) (hsx : ∀ xs, v = .tup xs → ∀ x ∈ xs, shortP x) (hp : EH) (hd : oldD hp.length v = true) : m__law_due [kd ks, v] hp = some (.val (toldS ks v), hp) := by
  have ho : oldD hp.length (.tup [.str "told", v]) = true := by simp [oldD, oldDs, hd]
  have isi := isi_tup hv (e := eVar 1) (env := [some (kd ks), some v, none, none]) (hp := hp) (hp1 := hp) rfl
  show runDef 4 2 b__law_due [kd ks, v] hp = _
  by_cases ht : isTup v = true
  · obtain ⟨xs, rfl⟩ : ∃ xs, v = .tup xs := by cases v <;> simp [isTup] at ht; exact ⟨_, rfl⟩
    have dx : ∀ x ∈ xs, dv x = true := dvs_mem.mp (by simpa [dv] using hv)
    have t1 : MP.tOr (MP.tNot (MP.tB (eIsi "tuple" (eVar 1)))) (MP.tB (eBin gGt (eCall gLen (aCons (eVar 1) aNil)) (MP.ret (.int 5400)))) [some (kd ks), some (.tup xs), none, none] hp = some (.val (decide ((5400 : Int) < xs.length)), hp) :=
      (tOr_f (tNot_of (tB_of isi))).trans (tB_of (bin_of (call_of (d := .int xs.length) (cons_of rfl rfl) rfl) rfl rfl))
    by_cases hl : xs.length ≤ 5400
    · have f1 : decide ((5400 : Int) < xs.length) = false := by simp; omega
      rw [f1] at t1
      let E : Option D → Option D → Ev := fun a b => [some (kd ks), some (.tup xs), a, b]
      have key := turns_first (ok := isF ks) (lt := ltF) (E := E) (tg := tgT 2 (tgCons (tgN 2) (tgCons (tgN 3) tgNil))) (hp := hp) (full := xs) (r := fun i => .tup [.str "index", .int i])
        (body := fIf (MP.tOr (MP.tNot (MP.tB (eFn m__law_is_right (aCons (eVar 0) (aCons (eVar 3) aNil))))) (MP.tAnd (MP.tB (eBin gGt (eVar 2) (MP.ret (.int 0)))) (MP.tNot (MP.tB (eBin gLtA (eBin gIx (eVar 1) (eBin MP.gSub (eVar 2) (MP.ret (.int 1)))) (eVar 3)))))) (fRet (eTup (aCons (MP.ret (.str "index")) (aCons (eVar 2) aNil)))) fNext) (fun i x a b => rfl) (fun pre x post hf hpre => by
          have hm : x ∈ xs := by rw [hf]; simp
          have hx := right_ok (ks := ks) (dx x hm) (hsx _ rfl x hm) hp
          have t1 : MP.tNot (MP.tB (eFn m__law_is_right (aCons (eVar 0) (aCons (eVar 3) aNil)))) (E (some (.int (pre.length : Nat))) (some x)) hp = some (.val (!isF ks x), hp) := tNot_of (tB_of (fn_of' (cons_of rfl (cons_of rfl rfl)) hx))
          cases hk : isF ks x with
          | false =>
            rw [hk] at t1
            have g : ¬ goodAt (isF ks) ltF pre x = true := by simp [goodAt, hk]
            rw [if_neg g]
            exact (if_t (tOr_t t1)).trans (ret_of (tup_of (cons_of rfl (cons_of rfl rfl)) (two _ _)))
          | true =>
            rw [hk] at t1
            by_cases hn : pre = []
            · subst hn
              have g : goodAt (isF ks) ltF [] x = true := by simp [goodAt, hk]
              rw [if_pos g]
              exact (if_f ((tOr_f t1).trans (tAnd_f (tB_of (bin_of rfl rfl (gGt_nat 0 hp)))))).trans rfl
            · obtain ⟨p, e1, e2, e3⟩ := ix_prev hf hn hp
              have hpos : decide (0 < pre.length) = true := by simp; exact List.length_pos_iff.mpr hn
              have le := (lt_ok (hpre p e2) hk hp).1
              have t2 : MP.tAnd (MP.tB (eBin gGt (eVar 2) (MP.ret (.int 0)))) (MP.tNot (MP.tB (eBin gLtA (eBin gIx (eVar 1) (eBin MP.gSub (eVar 2) (MP.ret (.int 1)))) (eVar 3)))) (E (some (.int (pre.length : Nat))) (some x)) hp = some (.val (!ltF p x), hp) :=
                (tAnd_t (tB_of (bin_of rfl rfl ((gGt_nat pre.length hp).trans (by rw [hpos]))))).trans (tNot_of (tB_of (bin_of (bin_of rfl (bin_of rfl rfl rfl) e3) rfl le)))
              have eg : goodAt (isF ks) ltF pre x = ltF p x := by simp [goodAt, hk, e1]
              rw [eg]
              cases hl : ltF p x with
              | true =>
                rw [hl] at t2
                exact (if_f ((tOr_f t1).trans t2)).trans rfl
              | false =>
                rw [hl] at t2
                exact (if_t ((tOr_f t1).trans t2)).trans (ret_of (tup_of (cons_of rfl (cons_of rfl rfl)) (two _ _)))) xs [] none none rfl (by simp)
      have src : (iEnumA (aCons (eVar 1) aNil)) (E none none) hp = some (.val (enumD 0 xs, yes), hp) := enum_tup (cons_of rfl rfl)
      have es : toldS ks (.tup xs) = match firstBad (isF ks) ltF [] xs with | none => .tup [.str "told", .tup xs] | some i => .tup [.str "index", .int i] := by simp [toldS, hl]
      rw [es]
      cases hb : firstBad (isF ks) ltF [] xs with
      | none =>
        obtain ⟨a, b, e⟩ := key.1 hb
        exact runDef_same (env := E a b) rfl ((seq_of (if_f t1)).trans ((seq_of ((for_of src).trans e)).trans (ret_of (tup_of (cons_of rfl (cons_of rfl rfl)) (two _ _))))) (handed_old ho)
      | some i =>
        obtain ⟨env', e⟩ := key.2 i hb
        exact runDef_same (env := env') rfl ((seq_of (if_f t1)).trans (seq_ret ((for_of src).trans e))) (handed_old (by simp [oldD, oldDs]))
    · have f1 : decide ((5400 : Int) < xs.length) = true := by simp; omega
      rw [f1] at t1
      have es : toldS ks (.tup xs) = .tup [.str "index", .non] := by simp [toldS, hl]
      rw [es]
      exact runDef_same (env := [some (kd ks), some (.tup xs), none, none]) rfl (seq_ret ((if_t t1).trans (ret_of (tup_of (cons_of rfl (cons_of rfl rfl)) (two _ _))))) (handed_old (by simp [oldD, oldDs]))
  · have f1 : isTup v = false := by simpa using ht
    rw [f1] at isi
    have es : toldS ks v = .tup [.str "index", .non] := by cases v <;> simp [isTup] at f1 <;> rfl
    rw [es]
    exact runDef_same (env := [some (kd ks), some v, none, none]) rfl (seq_ret ((if_t (tOr_t (tNot_of (b := false) (tB_of isi)))).trans (ret_of (tup_of (cons_of rfl (cons_of rfl rfl)) (two _ _))))) (handed_old (by simp [oldD, oldDs]))
/-- the value, or the error -/
def reqS (ks : List Nat) (v : D) : Res D := match v with
  | .tup xs => if xs.length ≤ 5400 then (match firstBad (isF ks) ltF [] xs with | none => .val v | some i => .exc ⟨31, ["index"], [.int i]⟩) else .exc ⟨31, ["index"], [.non]⟩
  | _ => .exc ⟨31, ["index"], [.non]⟩
theorem runDef_exc {N np : Nat} {body : FS} {ds : List D} {hp hp' : EH} {x : Exc} {env : Ev} (hl : ds.length = np) (hb : body (ds.map some ++ List.replicate (N - np) none) hp = some (.exc x, env, hp')) : runDef N np body ds hp = some (.exc x, hp') := by
  unfold runDef
  rw [if_pos hl, hb]
theorem raise_of {C : Nat} {fs : List Str} {fa : FA} {ds : List D} {env : Ev} {hp hp1 : EH} (h : fa env hp = some (.val ds, hp1)) (hl : ds.length = fs.length) : fRaise C fs fa env hp = some (.exc ⟨C, fs.reverse, ds.reverse⟩, env, hp1) := by
  unfold fRaise
  rw [fE_of h, if_pos hl]
theorem raise1 {C : Nat} {f : Str} {fa : FA} {x : D} {env : Ev} {hp hp1 : EH} (h : fa env hp = some (.val [x], hp1)) : fRaise C [f] fa env hp = some (.exc ⟨C, [f], [x]⟩, env, hp1) := raise_of h rfl
theorem require_ok {ks : List Nat} {v : D} (hv : dv v = true) (hs : shortP v) (hsx : ∀ xs, v = .tup xs → ∀ x ∈ xs, shortP x) (hp : EH) (hd : oldD hp.length v = true) : m_require_facts [kd ks, v] hp = some (reqS ks v, hp) := by
  have t0 := tuple_ok hv 0 5400 hp
  have t1 : MP.tNot (MP.tB (eFn m_is_tuple (aCons (eVar 1) (aCons (MP.ret (.int 0)) (aCons (MP.ret (.int 5400)) aNil))))) [some (kd ks), some v, none] hp = some (.val (!isT v 0 5400), hp) := tNot_of (tB_of (fn_of' (cons_of rfl (cons_of rfl (cons_of rfl rfl))) t0))
  show runDef 3 2 b_require_facts [kd ks, v] hp = _
  by_cases ht : isT v 0 5400 = true
  · obtain ⟨xs, rfl, hl⟩ : ∃ xs, v = .tup xs ∧ xs.length ≤ 5400 := by cases v <;> simp [isT] at ht; exact ⟨_, rfl, ht⟩
    have dx : ∀ x ∈ xs, dv x = true := dvs_mem.mp (by simpa [dv] using hv)
    rw [ht] at t1
    have φok : ∀ x ∈ xs, runLam 2 1 (capE [some (kd ks), some (.tup xs), none] [0]) (eFn m_is_fact (aCons (eVar 1) (aCons (eVar 0) aNil))) [x] hp = some (.val (.bl (isF ks x)), hp) := fun x hx => by
      have f := fact_ok (ks := ks) (dx x hx) (hsx _ rfl x hx) hp
      show eFn m_is_fact (aCons (eVar 1) (aCons (eVar 0) aNil)) [some x, some (kd ks)] hp = _
      exact fn_of' (cons_of rfl (cons_of rfl rfl)) f
    have fw := first_wrong_ok (ks := ks) hp φok hd
    have call : eCallLam1 m_first_wrong 2 1 [0] (eFn m_is_fact (aCons (eVar 1) (aCons (eVar 0) aNil))) (eVar 1) [some (kd ks), some (.tup xs), none] hp = some (.val (match firstBad (isF ks) ltF [] xs with | none => .non | some i => .int i), hp) := fw
    have es : reqS ks (.tup xs) = match firstBad (isF ks) ltF [] xs with | none => .val (.tup xs) | some i => .exc ⟨31, ["index"], [.int i]⟩ := by simp [reqS, hl]
    rw [es]
    cases hb : firstBad (isF ks) ltF [] xs with
    | none =>
      rw [hb] at call
      refine runDef_same (env := [some (kd ks), some (.tup xs), some .non]) rfl ((seq_of (if_f t1)).trans ((seq_of (asg_of call rfl)).trans ((seq_of (if_f (tB_of rfl))).trans (ret_of rfl)))) (handed_old hd)
    | some i =>
      rw [hb] at call
      have call : _ = some (Res.val (D.int i), hp) := call
      refine runDef_exc (env := [some (kd ks), some (.tup xs), some (.int i)]) rfl ((seq_of (if_f t1)).trans ((seq_of (asg_of call rfl)).trans (seq_exc ((if_t (tB_of rfl)).trans (raise1 (cons_of rfl rfl))))))
  · have f1 : isT v 0 5400 = false := by simpa using ht
    rw [f1] at t1
    have es : reqS ks v = .exc ⟨31, ["index"], [.non]⟩ := by
      cases v <;> simp [isT] at f1 <;> simp [reqS]
      omega
    rw [es]
    exact runDef_exc (env := [some (kd ks), some v, none]) rfl (seq_exc ((if_t t1).trans (raise1 (cons_of rfl rfl))))
theorem told_ok {ks : List Nat} {v : D} (hv : dv v = true) (hs : shortP v) (hsx : ∀ xs, v = .tup xs → ∀ x ∈ xs, shortP x) (hp : EH) (hd : oldD hp.length v = true) : m__law_told [kd ks, v] hp = some (.val (toldS ks v), hp) := by
  have rq := require_ok (ks := ks) hv hs hsx hp hd
  have bx : ∀ x : D, reqS ks v = .exc ⟨31, ["index"], [x]⟩ → oldD hp.length x = true → m__law_told [kd ks, v] hp = some (.val (.tup [.str "index", x]), hp) := fun x e ho => by
    rw [e] at rq
    refine runDef_same (env := [some (kd ks), some v, none]) rfl ?_ (handed_old (by simp [oldD, oldDs, ho]))
    show b__law_told [some (kd ks), some v, none] hp = _
    unfold b__law_told fTry
    have body : (fRet (eTup (aCons (MP.ret (.str "told")) (aCons (eFn m_require_facts (aCons (eVar 0) (aCons (eVar 1) aNil))) aNil)))) [some (kd ks), some v, none] hp = some (.exc ⟨31, ["index"], [x]⟩, [some (kd ks), some v, none], hp) := by
      have c : eFn m_require_facts (aCons (eVar 0) (aCons (eVar 1) aNil)) [some (kd ks), some v, none] hp = some (.exc ⟨31, ["index"], [x]⟩, hp) := fn_of' (cons_of rfl (cons_of rfl rfl)) rq
      exact ret_exc (tup_exc (cons_exc2 rfl (cons_exc c)))
    rw [body]
    have lk : lookA 31 xt_InvalidFacts = some true := by decide
    have lk2 : lookA 31 tb_ValueError = some true := by decide
    simp only [lk]
    simp [fRet, fE, eIf, eTup, eLst, aCons, aNil, bnd, eVar, MP.tB, MP.ret, eXFld, eXIs, tagD, wipeI, lk2, fldOf]
  have bv : reqS ks v = .val v → m__law_told [kd ks, v] hp = some (.val (.tup [.str "told", v]), hp) := fun e => by
    rw [e] at rq
    refine runDef_same (env := [some (kd ks), some v, none]) rfl ?_ (handed_old (by simp [oldD, oldDs, hd]))
    show b__law_told [some (kd ks), some v, none] hp = _
    unfold b__law_told fTry
    rw [ret_of (tup_of (cons_of rfl (cons_of (fn_of' (cons_of rfl (cons_of rfl rfl)) rq) rfl)) (two _ _))]
  unfold toldS
  split
  · rename_i xs
    split
    · rename_i hl
      split
      · rename_i hb
        exact bv (by simp [reqS, hl, hb])
      · rename_i i hb
        exact bx _ (by simp [reqS, hl, hb]) (by simp [oldD])
    · rename_i hl
      exact bx _ (by simp [reqS, hl]) (by simp [oldD])
  · rename_i h
    refine bx _ ?_ (by simp [oldD])
    unfold reqS
    split
    · exact absurd rfl (h _)
    · rfl
end Law
end

section
set_option maxRecDepth 100000
set_option maxHeartbeats 4000000
namespace Law
open PySem PySem.Spec L2 MP
/-! repr of what is drawn -/
def sixS : List Str := ["", "0", "leads", "within", "told", "index"]
mutual
def okP : PyData → Bool
  | .none => true
  | .bool _ => true
  | .int i => decide (i.natAbs < 10 ^ 43)
  | .str x => decide (x ∈ sixS)
  | .list xs => okPs xs
  | .tuple xs => okPs xs
  | .dict kvs => kvs.isEmpty
def okPs : List PyData → Bool
  | [] => true
  | x :: xs => okP x && okPs xs
end
theorem six_ok : ∀ x ∈ sixS, PyData.strOk (reprText x) = true ∧ (x.cps.toList.all fun c => decide (c < 16 ^ 8)) = true ∧ PyData.strOk x = true := by decide +kernel
theorem join_ok : ∀ ts : List Str, (∀ t ∈ ts, PyData.strOk t = true) → PyData.strOk (Str.join ", " ts) = true
  | [], _ => by decide +kernel
  | [x], h => h x (by simp)
  | x :: y :: r, h => strOk_app (strOk_app (h x (by simp)) (strOk_of ", ")) (join_ok (y :: r) fun t ht => h t (by simp at ht ⊢; right; exact ht))
theorem from_ok : ∀ (ts : List Str) (k : Nat) (acc : Str), PyData.strOk acc = true → (∀ t ∈ ts, PyData.strOk t = true) → PyData.strOk (textFrom k acc ts) = true
  | [], k, acc, ha, h => ha
  | t :: ts, k, acc, ha, h => from_ok ts (k + 1) _ (strOk_app (strOk_app ha (strOk_of _)) (h t (by simp))) fun u hu => h u (by simp [hu])
theorem shown_len44 (i : Int) (h : i.natAbs < 10 ^ 43) : (PyData.shown (.int i)).length ≤ 44 := by
  have e : (PyData.shown (.int i)) = Str.ofString (toString i) := by simp only [PyData.shown]
  rw [e]
  show (Str.ofString (toString i)).cps.size ≤ 44
  rw [Str.ofString_eq_toList]
  show (List.toArray _).size ≤ 44
  rw [List.size_toArray, List.length_map]
  cases i with
  | ofNat n =>
    show (Nat.repr n).toList.length ≤ 44
    rw [Nat.toList_repr]
    exact Nat.le_trans (toDigits_len_pow (by decide) (by decide) h) (by decide)
  | negSucc m =>
    show ("-" ++ Nat.repr (m + 1)).toList.length ≤ 44
    rw [String.toList_append, List.length_append, Nat.toList_repr]
    have l := toDigits_len_pow (b := 10) (k := 43) (n := m + 1) (by decide) (by decide) (by simpa [Int.natAbs] using h)
    have : "-".toList.length = 1 := by decide
    omega
mutual
theorem okP_is : ∀ p : PyData, okP p = true → p.leavesShort 60 = true ∧ PyData.strOk p.shown = true ∧ p.showable = true
  | .none, _ => ⟨by simp [PyData.leavesShort], by decide +kernel, by simp [PyData.showable]⟩
  | .bool b, _ => ⟨by simp [PyData.leavesShort], by cases b <;> decide +kernel, by simp [PyData.showable]⟩
  | .int i, h => by
    simp only [okP, decide_eq_true_eq] at h
    have l := shown_len44 i h
    refine ⟨by simp only [PyData.leavesShort, decide_eq_true_eq]; omega, shown_int_ok i, ?_⟩
    simp only [PyData.showable, decide_eq_true_eq]
    by_cases z : i.natAbs = 0
    · rw [z]; decide
    · rw [Nat.log2_lt z]
      exact Nat.lt_of_lt_of_le h (Nat.le_trans (show 10 ^ 43 ≤ 2 ^ 200 by decide +kernel) (Nat.pow_le_pow_right (by decide) (by decide)))
  | .str x, h => by
    simp only [okP, decide_eq_true_eq] at h
    obtain ⟨a, b, _⟩ := six_ok x h
    exact ⟨by simp only [PyData.leavesShort]; exact b, by simp only [PyData.shown]; exact a, by simp [PyData.showable]⟩
  | .list xs, h => by
    obtain ⟨a, b, c⟩ := okPs_is xs (by simpa [okP] using h)
    exact ⟨by simpa [PyData.leavesShort] using a, by simp only [PyData.shown]; exact strOk_app (from_ok _ _ _ (strOk_of _) b) (strOk_of _), by simpa [PyData.showable] using c⟩
  | .tuple xs, h => by
    obtain ⟨a, b, c⟩ := okPs_is xs (by simpa [okP] using h)
    exact ⟨by simpa [PyData.leavesShort] using a, by simp only [PyData.shown]; exact strOk_app (strOk_app (strOk_of _) (join_ok _ b)) (strOk_of _), by simpa [PyData.showable] using c⟩
  | .dict kvs, h => by
    cases kvs with
    | nil => exact ⟨by simp [PyData.leavesShort, PyData.leavesShortKv], by decide +kernel, by simp [PyData.showable, PyData.showableKv]⟩
    | cons x xs => simp [okP] at h
theorem okPs_is : ∀ ps : List PyData, okPs ps = true → PyData.leavesShortAll 60 ps = true ∧ (∀ t ∈ PyData.shownAll ps, PyData.strOk t = true) ∧ PyData.showableAll ps = true
  | [], _ => ⟨by simp [PyData.leavesShortAll], by simp [PyData.shownAll], by simp [PyData.showableAll]⟩
  | p :: ps, h => by
    have h' : okP p = true ∧ okPs ps = true := by simpa [okPs] using h
    obtain ⟨a, b, c⟩ := okP_is p h'.1
    obtain ⟨a2, b2, c2⟩ := okPs_is ps h'.2
    exact ⟨by simp [PyData.leavesShortAll, a, a2], fun t ht => by
      simp only [PyData.shownAll, List.mem_cons] at ht
      rcases ht with rfl | ht
      · exact b
      · exact b2 t ht, by simp [PyData.showableAll, c, c2]⟩
end
/-! the measure of what is drawn: leaves as asked, its nodes, its depth -/
mutual
def okD : D → Bool
  | .non => true
  | .bl _ => true
  | .int i => decide (i.natAbs < 10 ^ 43)
  | .str x => decide (x ∈ sixS)
  | .tup xs => okDs xs
  | .lst xs => okDs xs
  | .dic0 => true
  | _ => false
def okDs : List D → Bool
  | [] => true
  | x :: xs => okD x && okDs xs
end
mutual
def sz : D → Nat
  | .str x => x.cps.size
  | .tup xs => szs xs
  | .lst xs => szs xs
  | _ => 0
def szs : List D → Nat
  | [] => 0
  | x :: xs => sz x + 1 + szs xs
end
mutual
def dep : D → Nat
  | .tup xs => deps xs + 1
  | .lst xs => deps xs + 1
  | .dic0 => 1
  | _ => 0
def deps : List D → Nat
  | [] => 0
  | x :: xs => max (dep x) (deps xs)
end
mutual
def noDic : D → Bool
  | .tup xs => noDics xs
  | .lst xs => noDics xs
  | .dic0 => false
  | _ => true
def noDics : List D → Bool
  | [] => true
  | x :: xs => noDic x && noDics xs
end
mutual
def noLst : D → Bool
  | .tup xs => noLsts xs
  | .lst _ => false
  | _ => true
def noLsts : List D → Bool
  | [] => true
  | x :: xs => noLst x && noLsts xs
end
mutual
theorem toP_of : ∀ d : D, okD d = true → noDic d = true → ∃ p, d.toP = some p ∧ okP p = true ∧ p.hasDict = false ∧ p.bulk = sz d ∧ p.depth = dep d
  | .non, _, _ => ⟨_, by simp [D.toP]; rfl, by simp [okP, PyData.hasDict, PyData.bulk, sz, dep, PyData.depth]⟩
  | .bl _, _, _ => ⟨_, by simp [D.toP]; rfl, by simp [okP, PyData.hasDict, PyData.bulk, sz, dep, PyData.depth]⟩
  | .int i, h, _ => ⟨_, by simp [D.toP]; rfl, by simpa [okP, okD] using h, by simp [PyData.hasDict, PyData.bulk, sz, dep, PyData.depth]⟩
  | .str x, h, _ => ⟨_, by simp [D.toP]; rfl, by simpa [okP, okD] using h, by simp [PyData.hasDict, PyData.bulk, sz, dep, PyData.depth]⟩
  | .tup xs, h, n => by
    obtain ⟨ps, a, b, c, d, e⟩ := toPs_of xs (by simpa [okD] using h) (by simpa [noDic] using n)
    exact ⟨.tuple ps, by simp [D.toP, a], by simpa [okP] using b, by simpa [PyData.hasDict] using c, by simpa [PyData.bulk, sz] using d, by simp [PyData.depth, dep, e]⟩
  | .lst xs, h, n => by
    obtain ⟨ps, a, b, c, d, e⟩ := toPs_of xs (by simpa [okD] using h) (by simpa [noDic] using n)
    exact ⟨.list ps, by simp [D.toP, a], by simpa [okP] using b, by simpa [PyData.hasDict] using c, by simpa [PyData.bulk, sz] using d, by simp [PyData.depth, dep, e]⟩
  | .dic0, _, n => by simp [noDic] at n
  | .scr _, h, _ => by simp [okD] at h
  | .obj _, h, _ => by simp [okD] at h
  | .err _ _ _, h, _ => by simp [okD] at h
  | .xcp _ _ _ _, h, _ => by simp [okD] at h
  | .set _, h, _ => by simp [okD] at h
  | .ist _, h, _ => by simp [okD] at h
theorem toPs_of : ∀ ds : List D, okDs ds = true → noDics ds = true → ∃ ps, D.toPs ds = some ps ∧ okPs ps = true ∧ PyData.hasDictAll ps = false ∧ PyData.bulkAll ps = szs ds ∧ PyData.depthAll ps = deps ds
  | [], _, _ => ⟨[], by simp [D.toPs], by simp [okPs], by simp [PyData.hasDictAll], by simp [PyData.bulkAll, szs], by simp [PyData.depthAll, deps]⟩
  | x :: xs, h, n => by
    have h' : okD x = true ∧ okDs xs = true := by simpa [okDs] using h
    have n' : noDic x = true ∧ noDics xs = true := by simpa [noDics] using n
    obtain ⟨p, a, b, c, d, e⟩ := toP_of x h'.1 n'.1
    obtain ⟨ps, a2, b2, c2, d2, e2⟩ := toPs_of xs h'.2 n'.2
    exact ⟨p :: ps, by simp [D.toPs, a, a2], by simp [okPs, b, b2], by simp [PyData.hasDictAll, c, c2], by simp [PyData.bulkAll, szs, d, d2], by simp [PyData.depthAll, deps, e, e2]⟩
end
mutual
theorem toQ_of : ∀ d : D, okD d = true → noLst d = true → ∃ p, d.toQ = some p ∧ okP p = true ∧ p.bulk = sz d ∧ p.depth = dep d
  | .non, _, _ => ⟨_, by simp [D.toQ]; rfl, by simp [okP, PyData.bulk, sz, dep, PyData.depth]⟩
  | .bl _, _, _ => ⟨_, by simp [D.toQ]; rfl, by simp [okP, PyData.bulk, sz, dep, PyData.depth]⟩
  | .int i, h, _ => ⟨_, by simp [D.toQ]; rfl, by simpa [okP, okD] using h, by simp [PyData.bulk, sz, dep, PyData.depth]⟩
  | .str x, h, _ => ⟨_, by simp [D.toQ]; rfl, by simpa [okP, okD] using h, by simp [PyData.bulk, sz, dep, PyData.depth]⟩
  | .tup xs, h, n => by
    obtain ⟨ps, a, b, d, e⟩ := toQs_of xs (by simpa [okD] using h) (by simpa [noLst] using n)
    exact ⟨.tuple ps, by simp [D.toQ, a], by simpa [okP] using b, by simpa [PyData.bulk, sz] using d, by simp [PyData.depth, dep, e]⟩
  | .dic0, _, n => ⟨_, by simp [D.toQ]; rfl, by simp [okP, PyData.bulk, PyData.bulkKv, sz, dep, PyData.depth, PyData.depthKv]⟩
  | .lst _, _, n => by simp [noLst] at n
  | .scr _, h, _ => by simp [okD] at h
  | .obj _, h, _ => by simp [okD] at h
  | .err _ _ _, h, _ => by simp [okD] at h
  | .xcp _ _ _ _, h, _ => by simp [okD] at h
  | .set _, h, _ => by simp [okD] at h
  | .ist _, h, _ => by simp [okD] at h
theorem toQs_of : ∀ ds : List D, okDs ds = true → noLsts ds = true → ∃ ps, D.toQ.toQs ds = some ps ∧ okPs ps = true ∧ PyData.bulkAll ps = szs ds ∧ PyData.depthAll ps = deps ds
  | [], _, _ => ⟨[], by simp [D.toQ.toQs], by simp [okPs], by simp [PyData.bulkAll, szs], by simp [PyData.depthAll, deps]⟩
  | x :: xs, h, n => by
    have h' : okD x = true ∧ okDs xs = true := by simpa [okDs] using h
    have n' : noLst x = true ∧ noLsts xs = true := by simpa [noLsts] using n
    obtain ⟨p, a, b, d, e⟩ := toQ_of x h'.1 n'.1
    obtain ⟨ps, a2, b2, d2, e2⟩ := toQs_of xs h'.2 n'.2
    exact ⟨p :: ps, by simp [D.toQ.toQs, a, a2], by simp [okPs, b, b2], by simp [PyData.bulkAll, szs, d, d2], by simp [PyData.depthAll, deps, e, e2]⟩
end
mutual
theorem noDic_of_toP : ∀ (d : D) (p : PyData), d.toP = some p → noDic d = true
  | .non, _, _ => by simp [noDic]
  | .bl _, _, _ => by simp [noDic]
  | .int _, _, _ => by simp [noDic]
  | .str _, _, _ => by simp [noDic]
  | .tup xs, p, h => by
    simp only [D.toP] at h
    split at h
    · rename_i ps e
      simpa [noDic] using noDics_of xs ps e
    · cases h
  | .lst xs, p, h => by
    simp only [D.toP] at h
    split at h
    · rename_i ps e
      simpa [noDic] using noDics_of xs ps e
    · cases h
  | .dic0, _, h => by simp [D.toP] at h
  | .scr _, _, _ => by simp [noDic]
  | .obj _, _, _ => by simp [noDic]
  | .err _ _ _, _, _ => by simp [noDic]
  | .xcp _ _ _ _, _, _ => by simp [noDic]
  | .set _, _, _ => by simp [noDic]
  | .ist _, _, _ => by simp [noDic]
theorem noDics_of : ∀ (ds : List D) (ps : List PyData), D.toPs ds = some ps → noDics ds = true
  | [], _, _ => by simp [noDics]
  | x :: xs, ps, h => by
    simp only [D.toPs] at h
    split at h
    · rename_i p ps' a b
      simp [noDics, noDic_of_toP x p a, noDics_of xs ps' b]
    · cases h
end
/-- may be shown -/
structure Sh (d : D) : Prop where
  ok : okD d = true
  sz : sz d ≤ 100000
  dep : dep d ≤ 40
  one : noDic d = true ∨ noLst d = true
theorem sh_repr {d : D} (h : Sh d) (hp : EH) (hno : ∀ i, d ≠ .obj i) : ∃ S, gReprX [d] hp = some (.str S) ∧ PyData.strOk S = true := by
  have hz := h.sz
  have hd := h.dep
  by_cases hn : noDic d = true
  · obtain ⟨p, a, b, c, e, f⟩ := toP_of d h.ok hn
    obtain ⟨l, s, w⟩ := okP_is p b
    have lb := PyData.shown_le_bulk 60 (by decide) p l
    have t : toPh hp d = some p := by
      cases d <;> first | exact a | exact absurd rfl (hno _)
    refine ⟨p.shown, ?_, s⟩
    have hg : gRepr [d] hp = some (.str p.shown) := by
      simp only [gRepr, t]
      rw [if_pos ⟨w, c, by omega, by omega⟩]
    simp only [gReprX, hg]
  · have hl : noLst d = true := h.one.resolve_left hn
    obtain ⟨p, a, b, e, f⟩ := toQ_of d h.ok hl
    obtain ⟨l, s, w⟩ := okP_is p b
    have lb := PyData.shown_le_bulk 60 (by decide) p l
    cases hg : gRepr [d] hp with
    | some z =>
      have hz : ∃ S, z = .str S ∧ PyData.strOk S = true := by
        unfold gRepr at hg
        simp only at hg
        split at hg
        · rename_i p2 h2
          split at hg
          · rename_i hc
            cases hg
            have hD : d.toP = some p2 := by
              cases d <;> first | exact h2 | exact absurd rfl (hno _)
            exact absurd (noDic_of_toP d p2 hD) hn
          · cases hg
        · cases hg
      obtain ⟨S, rfl, hS⟩ := hz
      exact ⟨S, by simp only [gReprX, hg], hS⟩
    | none =>
      refine ⟨p.shown, ?_, s⟩
      simp only [gReprX, hg, a]
      rw [if_pos ⟨w, by omega, by omega⟩]
end Law
end

section
set_option maxRecDepth 100000
set_option maxHeartbeats 4000000
namespace Law
open PySem PySem.Spec L2 MP
/-! what is drawn -/
section
variable {h0 hp hp' : EH} {p : Nat} {zs : List Int}
theorem runDef_pen {N np : Nat} {body : FS} {ds : List D} {d : D} {env : Ev} (h : Pen h0 hp p zs) (h' : Pen h0 hp' p zs) (hl : ds.length = np) (hb : body (ds.map some ++ List.replicate (N - np) none) hp = some (.ret d, env, hp')) (ho : oldD h0.length d = true) : runDef N np body ds hp = some (.val d, hp') := by
  obtain ⟨s, l, _, _, e1, hl1⟩ := h.ex
  obtain ⟨s', l', _, _, e2, _⟩ := h'.ex
  have hlen : hp.length = h0.length := by rw [e1]; simp
  refine runDef_ret hl hb ?_ (handed_old (by rw [hlen]; exact ho)) ?_
  · have := keptTo_set (h := hp) (p := p) (ys := penOf zs s' l') (by simp [oldDs, oldD, olds_ints])
    rw [e1, set_set] at this
    rw [e1, e2]; exact this
  · rw [List.take_of_length_le]; rw [e2, hlen]; simp
theorem pen_old (h : Pen h0 hp p zs) : oldD h0.length (.obj p) = true := by
  obtain ⟨_, _, _, _, _, hl⟩ := h.ex
  simpa [oldD] using hl
/-- data speaks of no list that may change -/
theorem dv_old (n : Nat) : ∀ d : D, dv d = true → oldD n d = true := by
  intro d
  apply D.rec (motive_1 := fun d => dv d = true → oldD n d = true) (motive_2 := fun ds => dvs ds = true → oldDs n ds = true) <;> simp_all [dv, dvs, oldD, oldDs]
theorem dvs_old (n : Nat) {ds : List D} (h : dvs ds = true) : oldDs n ds = true := by
  have := dv_old n (.tup ds) (by simpa [dv] using h)
  simpa [oldD] using this
/-- one of a list of data -/
theorem one_of (h : Pen h0 hp p zs) {ds : List D} (hn : ds ≠ []) (hl : ds.length < 1073741824) (hd : dvs ds = true) : ∃ (d : D) (hp' : EH), d ∈ ds ∧ Pen h0 hp' p zs ∧ m__law_one_of [.obj p, .lst ds] hp = some (.val d, hp') :=
  one_of_ok h hn hl (dvs_old _ hd)
def kindsL : List (List Nat) := [[1, 1], [2], [1, 2], [2, 2], [2, 1, 0], [1, 1, 1], [1, 0, 1, 2, 1], [0, 0, 2, 1, 0, 1]]
theorem kinds_ok (h : Pen h0 hp p zs) : ∃ (ks : List Nat) (hp' : EH), ks ∈ kindsL ∧ Pen h0 hp' p zs ∧ m__law_drawn_kinds [.obj p] hp = some (.val (kd ks), hp') := by
  obtain ⟨d, hp', hd, h', e⟩ := one_of h (ds := kindsL.map kd) (by decide) (by decide) (by decide)
  obtain ⟨ks, hk, rfl⟩ := List.mem_map.mp hd
  refine ⟨ks, hp', hk, h', runDef_pen (env := [some (.obj p)]) h h' rfl (ret_of (fn_of' (cons_of rfl (cons_of ?_ rfl)) e)) (dv_old _ _ ?_)⟩
  · rfl
  · exact (show ∀ ks ∈ kindsL, dv (kd ks) = true by decide) ks hk
/-- a comprehension that draws -/
theorem lc_draw {g : D → Ev → Option Ev} {f : FE} {env : Ev} {P : D → Prop} : ∀ (xs : List D) (hp : EH), Pen h0 hp p zs → (∀ x ∈ xs, ∀ hp, Pen h0 hp p zs → ∃ env1 d hp', g x env = some env1 ∧ P d ∧ Pen h0 hp' p zs ∧ f env1 hp = some (.val d, hp')) →
    ∃ ys hp', ys.length = xs.length ∧ (∀ y ∈ ys, P y) ∧ Pen h0 hp' p zs ∧ lcRun g yes tYesF f env xs hp = some (ys, hp')
  | [], hp, h, _ => ⟨[], hp, rfl, by simp, h, by simp [lcRun, yes]⟩
  | x :: xs, hp, h, q => by
    obtain ⟨env1, d, hp1, e1, hd, h1, e2⟩ := q x (by simp) hp h
    obtain ⟨ys, hp2, l, hy, h2, e3⟩ := lc_draw xs hp1 h1 fun y hy => q y (by simp [hy])
    have ty : tYesF env1 hp = some (.val true, hp) := rfl
    refine ⟨d :: ys, hp2, by simp [l], fun y hm => ?_, h2, ?_⟩
    · rcases List.mem_cons.mp hm with rfl | hm
      · exact hd
      · exact hy y hm
    · unfold lcRun
      simp only [yes, if_true, e1, ty, e2, e3]
theorem kinds_pos : ∀ ks ∈ kindsL, 0 < ks.length ∧ ks.length ≤ 6 ∧ ∀ k ∈ ks, k ≤ 2 := by decide
theorem range_len (n : Nat) : (rangeD 0 n).length = n := by simp [rangeD]
theorem range_of {fa : FA} {env : Ev} {hp hp1 : EH} {n : Nat} (h : fa env hp = some (.val [.int (n : Int)], hp1)) (hn : n ≤ 1000000) : iRange1 fa env hp = some (.val (rangeD 0 n, yes), hp1) := by
  unfold iRange1
  rw [bnd_of h]
  simp only
  rw [if_pos ⟨by omega, by omega⟩, Int.toNat_natCast]
theorem fact_drawn {ks : List Nat} (hk : ks ∈ kindsL) (h : Pen h0 hp p zs) : ∃ (f : D) (hp' : EH), isF ks f = true ∧ Pen h0 hp' p zs ∧ m__law_drawn_fact [.obj p, kd ks] hp = some (.val f, hp') := by
  obtain ⟨k1, k2, k3⟩ := kinds_pos ks hk
  obtain ⟨v, hp1, v0, v1, h1, e1⟩ := draw_ok h (b := ks.length) (by omega) (by omega)
  have at_ := kd_at (ks := ks) v0 (by omega)
  let n := ks.getD v.toNat 0
  have hn : n ≤ 2 := by
    have hl : v.toNat < ks.length := by omega
    show ks.getD v.toNat 0 ≤ 2
    rw [List.getD_eq_getElem?_getD, List.getElem?_eq_getElem hl]
    exact k3 _ (List.getElem_mem hl)
  let env1 : Ev := [some (.obj p), some (kd ks), some (.int v), none]
  obtain ⟨ys, hp2, l, hy, h2, e2⟩ := lc_draw (g := tgN 3) (f := eFn m__law_one_of (aCons (eVar 0) (aCons (eLst (aCons (MP.ret (.int 0)) (aCons (MP.ret (.int 1)) (aCons (MP.ret (.int 3)) (aCons (MP.ret (.int 5)) (aCons (MP.ret (.int 28)) aNil)))))) aNil))) (env := wipeE env1 [3]) (P := fun d => ∃ i : Int, d = .int i ∧ 0 ≤ i ∧ i ≤ 29) (rangeD 0 n) hp1 h1 (fun x _ hp h => by
    obtain ⟨d, hp', hd, h', e⟩ := one_of h (ds := [.int 0, .int 1, .int 3, .int 5, .int 28]) (by decide) (by decide) (by decide)
    refine ⟨_, d, hp', rfl, ?_, h', fn_of' (cons_of rfl (cons_of rfl rfl)) e⟩
    simp at hd
    rcases hd with rfl | rfl | rfl | rfl | rfl <;> exact ⟨_, rfl, by decide, by decide⟩)
  rw [range_len] at l
  have hf : isF ks (.tup [.int v, .tup ys]) = true := by
    have a1 : inR (.int v) 0 (ks.length - 1) = true := by simp [inR]; omega
    have a2 : isT (.tup ys) n n = true := by simp [isT]; omega
    have a3 : allIn (.tup ys) 0 29 = true := by
      simp only [allIn, List.all_eq_true]
      intro y hm
      obtain ⟨i, rfl, b1, b2⟩ := hy y hm
      simp [inR, b1, b2]
    simp only [isF, ofKind, a1, kindOf, Bool.true_and]
    show (isT (.tup ys) n n && allIn (.tup ys) 0 29) = true
    rw [a2, a3]; rfl
  have dvy : dv (.tup [.int v, .tup ys]) = true := by
    simp only [dv, dvs, Bool.true_and, Bool.and_true]
    rw [dvs_mem]
    intro y hm
    obtain ⟨i, rfl, _⟩ := hy y hm
    rfl
  refine ⟨_, hp2, hf, h2, runDef_pen (env := env1) h h2 rfl ?_ (dv_old _ _ dvy)⟩
  show b__law_drawn_fact [some (.obj p), some (kd ks), none, none] hp = _
  refine (seq_of (env1 := env1) (asg_of (fn_of' (cons_of rfl (cons_of (call_of (d := .int ks.length) (cons_of rfl rfl) ?_) rfl)) e1) rfl)).trans ?_
  · simp [gLen, asQ]
  · refine ret_of (tup_of (cons_of rfl (cons_of (call_of (d := .tup ys) (cons_of (lc_of (c := yes) (ds := rangeD 0 n) ?_ e2 (by omega)) rfl) rfl) rfl)) (two _ _))
    have gi : gIx (kd ks) (.int v) hp1 = some (.int (n : Int)) := at_
    exact range_of (cons_of (bin_of rfl rfl gi) rfl) (by omega)
end
end Law
end

section
set_option maxRecDepth 100000
set_option maxHeartbeats 4000000
namespace Law
open PySem PySem.Spec L2 MP MX
theorem fact_dv {ks : List Nat} {f : D} (h : isF ks f = true) : dv f = true := by
  obtain ⟨k, ts, rfl, _⟩ := isF_form h
  simp only [dv, dvs, Bool.true_and, Bool.and_true]
  rw [dvs_mem]
  intro y hy
  obtain ⟨t, _, rfl⟩ := List.mem_map.mp hy
  rfl
theorem keys_num (ts : List Int) : D.keys (ts.map .int) = some (ts.map .num) := by
  induction ts with
  | nil => simp [D.keys]
  | cons t ts ih => simp [D.keys, D.key, ih]
abbrev fK (k : Int) (ts : List Int) : NestedKey := .tup [.num k, .tup (ts.map .num)]
theorem fact_key (k : Int) (ts : List Int) : D.key (.tup [.int k, .tup (ts.map .int)]) = some (fK k ts) := by simp [D.key, D.keys, keys_num]
theorem nums_depth (ts : List Int) : NestedKey.depthAll (ts.map .num) = 0 := by
  induction ts with
  | nil => simp [NestedKey.depthAll]
  | cons t ts ih => simp [NestedKey.depthAll, NestedKey.depth, ih]
theorem nums_int (ts : List Int) : intKs (ts.map .num) = true := by
  induction ts with
  | nil => simp [intKs]
  | cons t ts ih => simp [intKs, intK, ih]
theorem fact_setK (k : Int) (ts : List Int) : setK (.tup [.int k, .tup (ts.map .int)]) (fK k ts) = true := by
  simp [setK, fK, NestedKey.depth, NestedKey.depthAll, nums_depth, intK, intKs, nums_int]
theorem keys_all {ks : List Nat} : ∀ {ys : List D}, (∀ y ∈ ys, isF ks y = true) → ∃ qs, D.keys ys = some qs ∧ ((ys.zip qs).all fun p => setK p.1 p.2) = true
  | [], _ => ⟨[], by simp [D.keys], by simp⟩
  | y :: ys, h => by
    obtain ⟨qs, a, b⟩ := keys_all (ys := ys) fun z hz => h z (by simp [hz])
    obtain ⟨k, ts, rfl, _⟩ := isF_form (h y (by simp))
    refine ⟨fK k ts :: qs, by simp only [D.keys, fact_key, a], ?_⟩
    rw [List.zip_cons_cons, List.all_cons, b, Bool.and_true]
    exact fact_setK k ts
theorem toPs_all {ks : List Nat} : ∀ {ys : List D}, (∀ y ∈ ys, isF ks y = true) → ∃ ps, D.toPs ys = some ps ∧ ∀ q ∈ ps, ∃ k ts, q = fP k ts
  | [], _ => ⟨[], by simp [D.toPs], by simp⟩
  | y :: ys, h => by
    obtain ⟨ps, a, b⟩ := toPs_all (ys := ys) fun z hz => h z (by simp [hz])
    obtain ⟨k, ts, rfl, _⟩ := isF_form (h y (by simp))
    refine ⟨fP k ts :: ps, by simp only [D.toPs, fact_toP, a], fun q hq => ?_⟩
    rcases List.mem_cons.mp hq with rfl | hq
    · exact ⟨k, ts, rfl⟩
    · exact b q hq
theorem hasDict_ints (ts : List Int) : PyData.hasDictAll (ts.map .int) = false := by
  induction ts with
  | nil => simp [PyData.hasDictAll]
  | cons t ts ih => simp [PyData.hasDictAll, PyData.hasDict, ih]
theorem facts_sortOk {ps : List PyData} (h : ∀ q ∈ ps, ∃ k ts, q = fP k ts) : sortOk ps = true := by
  unfold sortOk
  simp only [Bool.and_eq_true, List.all_eq_true, Bool.or_eq_true]
  refine ⟨fun d hd e he => ?_, fun d hd => ?_, .inl fun d hd => ?_⟩
  · obtain ⟨k, ts, rfl⟩ := h d hd
    obtain ⟨l, us, rfl⟩ := h e he
    simp [PySem.W.alike, PySem.W.alikeAll, alike_ints]
  · obtain ⟨k, ts, rfl⟩ := h d hd
    simp [PyData.hasDict, PyData.hasDictAll, hasDict_ints, PyData.depth, PyData.depthAll, depth_ints]
  · obtain ⟨k, ts, rfl⟩ := h d hd
    rfl
theorem firstK_len {α : Type} : ∀ (xs acc : List (α × NestedKey)), (xs.foldl nextK acc).length ≤ acc.length + xs.length
  | [], acc => by simp
  | x :: xs, acc => by
    have h := firstK_len xs (nextK acc x)
    have : (nextK acc x).length ≤ acc.length + 1 := by
      unfold nextK
      split <;> simp
    rw [List.foldl_cons, List.length_cons]
    omega
theorem facts_set {ks : List Nat} {ys : List D} (h : ∀ y ∈ ys, isF ks y = true) (hl : ys.length < 4000) (hp : EH) : ∃ s zs, gSet [.lst ys] hp = some (.set s) ∧ gSorted [.set s] hp = some (.lst zs) ∧ zs.length ≤ ys.length ∧ ∀ z ∈ zs, isF ks z = true := by
  obtain ⟨qs, a, b⟩ := keys_all h
  let s := (firstK (ys.zip qs)).map (·.1)
  have hs : ∀ z ∈ s, isF ks z = true := fun z hz => by
    obtain ⟨t, ht, rfl⟩ := List.mem_map.mp hz
    exact h _ (List.of_mem_zip (firstK_sub ht)).1
  have ls : s.length ≤ ys.length := by
    have := firstK_len (ys.zip qs) []
    simp only [s, List.length_map]
    unfold firstK
    simp at this
    omega
  have e1 : gSet [.lst ys] hp = some (.set s) := by
    have ai : ∀ i is, asI ys ≠ some (i :: is) := fun i is e => by
      cases ys with
      | nil => simp [asI] at e
      | cons y ys =>
        obtain ⟨k, ts, rfl, _⟩ := isF_form (h y (by simp))
        simp [asI] at e
    have c : ys.length < 9000 ∧ ((ys.zip qs).all fun p => setK p.1 p.2) = true := ⟨by omega, b⟩
    rcases hq : asI ys with _ | (_ | ⟨i, is⟩)
    · simp only [gSet, asQ, hq, a]
      rw [if_pos c]
    · simp only [gSet, asQ, hq, a]
      rw [if_pos c]
    · exact absurd hq (ai i is)
  obtain ⟨qs2, a2, _⟩ := keys_all hs
  obtain ⟨ps, a3, b3⟩ := toPs_all hs
  refine ⟨s, sortD s ps, e1, ?_, ?_, fun z hz => ?_⟩
  · simp only [gSorted, a2, a3]
    rw [if_pos ⟨by omega, facts_sortOk b3⟩]
  · simp only [sortD, List.length_map, List.length_mergeSort, List.length_zip]
    omega
  · simp only [sortD] at hz
    obtain ⟨t, ht, rfl⟩ := List.mem_map.mp hz
    exact hs _ (List.of_mem_zip (List.mem_mergeSort.mp ht)).1
section
variable {h0 hp hp' : EH} {p : Nat} {zs : List Int}
theorem facts_drawn {ks : List Nat} (hk : ks ∈ kindsL) (h : Pen h0 hp p zs) : ∃ (fs : List D) (hp' : EH), (∀ f ∈ fs, isF ks f = true) ∧ fs.length ≤ 6 ∧ Pen h0 hp' p zs ∧ m__law_drawn_facts [.obj p, kd ks, .int 6] hp = some (.val (.tup fs), hp') := by
  obtain ⟨v, hp1, v0, v1, h1, e1⟩ := draw_ok h (b := 7) (by omega) (by omega)
  obtain ⟨n, rfl⟩ := Int.eq_ofNat_of_zero_le v0
  let env1 : Ev := [some (.obj p), some (kd ks), some (.int 6), none]
  obtain ⟨ys, hp2, l, hy, h2, e2⟩ := lc_draw (g := tgN 3) (f := eFn m__law_drawn_fact (aCons (eVar 0) (aCons (eVar 1) aNil))) (env := wipeE env1 [3]) (P := fun d => isF ks d = true) (rangeD 0 n) hp1 h1 (fun x _ hp h => by
    obtain ⟨f, hp', hf, h', e⟩ := fact_drawn hk h
    exact ⟨_, f, hp', rfl, hf, h', fn_of' (cons_of rfl (cons_of rfl rfl)) e⟩)
  rw [range_len] at l
  obtain ⟨s, fs, g1, g2, g3, g4⟩ := facts_set hy (by omega) hp2
  have dvf : dv (.tup fs) = true := by
    simp only [dv]
    exact dvs_mem.mpr fun f hf => fact_dv (g4 f hf)
  refine ⟨fs, hp2, g4, by omega, h2, runDef_pen (env := env1) h h2 rfl (ret_of (call_of (d := .tup fs) (cons_of (call_of (d := .lst fs) (cons_of (call_of (d := .set s) (cons_of (lc_of (c := yes) (ds := rangeD 0 n) (range_of (cons_of (fn_of' (cons_of rfl (cons_of (bin_of rfl rfl ?_) rfl)) e1) rfl) (by omega)) e2 (by omega)) rfl) g1) rfl) g2) rfl) rfl)) (dv_old _ _ dvf)⟩
  rfl
def oddL : List D := [.non, .bl true, .bl false, .int (-1), .int 0, .int 1, .int 2, .int 3, .int 5, .int 30, .str "", .str "0", .str "leads", .str "within", .tup [], .lst [], .dic0, .tup [.int 0], .tup [.int 0, .int 1], .tup [.tup []], .lst [.int 0],
  .int (10 ^ 41), .tup [.int 0, .tup [.int 1]], .tup [.int 0, .tup []], .tup [.tup [.int 0, .tup [.int (-1)]], .tup [], .tup []], .tup [.tup [.int 1], .tup []], .tup [.int 1, .lst [.int 3]], .int (-2)]
theorem odd_ok (h : Pen h0 hp p zs) : ∃ (d : D) (hp' : EH), d ∈ oddL ∧ Pen h0 hp' p zs ∧ m__law_odd [.obj p] hp = some (.val d, hp') := by
  obtain ⟨d, hp', hd, h', e⟩ := one_of h (ds := oddL) (by decide) (by decide) (by decide +kernel)
  refine ⟨d, hp', hd, h', runDef_pen (env := [some (.obj p), some (.lst (oddL.take 21))]) h h' rfl ?_ (dv_old _ _ ((show ∀ d ∈ oddL, dv d = true by decide +kernel) d hd))⟩
  refine (seq_of (env1 := [some (.obj p), some (.lst (oddL.take 21))]) (asg_of (d := .lst (oddL.take 21)) rfl rfl)).trans (ret_of (fn_of' (cons_of rfl (cons_of (d := .lst oddL) ?_ rfl)) e))
  rfl
end
end Law
end

section
set_option maxRecDepth 100000
set_option maxHeartbeats 4000000
namespace Law
open PySem PySem.Spec L2 MP MX
/-! a value with one part changed -/
mutual
/-- tuples of small numbers, at any depth -/
def pu : D → Bool
  | .int i => decide (i.natAbs ≤ 1000)
  | .tup xs => pus xs
  | _ => false
def pus : List D → Bool
  | [] => true
  | x :: xs => pu x && pus xs
end
theorem pus_mem : ∀ {xs : List D}, pus xs = true ↔ ∀ x ∈ xs, pu x = true
  | [] => by simp [pus]
  | x :: xs => by simp [pus, pus_mem (xs := xs)]
theorem okDs_mem : ∀ {xs : List D}, okDs xs = true ↔ ∀ x ∈ xs, okD x = true
  | [] => by simp [okDs]
  | x :: xs => by simp [okDs, okDs_mem (xs := xs)]
theorem noDics_mem : ∀ {xs : List D}, noDics xs = true ↔ ∀ x ∈ xs, noDic x = true
  | [] => by simp [noDics]
  | x :: xs => by simp [noDics, noDics_mem (xs := xs)]
theorem noLsts_mem : ∀ {xs : List D}, noLsts xs = true ↔ ∀ x ∈ xs, noLst x = true
  | [] => by simp [noLsts]
  | x :: xs => by simp [noLsts, noLsts_mem (xs := xs)]
theorem deps_le {k : Nat} : ∀ {xs : List D}, (∀ x ∈ xs, dep x ≤ k) → deps xs ≤ k
  | [], _ => by simp [deps]
  | x :: xs, h => by
    have := deps_le (xs := xs) fun y hy => h y (by simp [hy])
    have := h x (by simp)
    simp [deps]; omega
theorem dep_mem {x : D} : ∀ {xs : List D}, x ∈ xs → dep x ≤ deps xs
  | y :: xs, h => by
    rcases List.mem_cons.mp h with rfl | h
    · simp [deps]; omega
    · have := dep_mem h
      simp [deps]; omega
theorem szs_app : ∀ (a b : List D), szs (a ++ b) = szs a + szs b
  | [], b => by simp [szs]
  | x :: a, b => by simp [szs, szs_app a b]; omega
theorem sz_mem {x : D} {xs : List D} (h : x ∈ xs) : sz x + 1 ≤ szs xs := by
  obtain ⟨a, b, rfl⟩ := List.append_of_mem h
  rw [szs_app]
  simp [szs]
  omega
theorem szs_len : ∀ xs : List D, xs.length ≤ szs xs
  | [] => by simp [szs]
  | x :: xs => by have := szs_len xs; simp [szs]; omega
theorem szs_take (n : Nat) (xs : List D) : szs (xs.take n) ≤ szs xs := by
  have := szs_app (xs.take n) (xs.drop n)
  rw [List.take_append_drop] at this
  omega
theorem szs_drop (n : Nat) (xs : List D) : szs (xs.drop n) ≤ szs xs := by
  have := szs_app (xs.take n) (xs.drop n)
  rw [List.take_append_drop] at this
  omega
theorem szs_rev (xs : List D) : szs xs.reverse = szs xs := by
  induction xs with
  | nil => rfl
  | cons x xs ih => rw [List.reverse_cons, szs_app, ih]; simp [szs]; omega
theorem cut_mem {xs : List D} {lo hi : Option Int} {x : D} (h : x ∈ cutD xs lo hi) : x ∈ xs := List.mem_of_mem_drop (List.mem_of_mem_take h)
theorem cut_szs (xs : List D) (lo hi : Option Int) : szs (cutD xs lo hi) ≤ szs xs := Nat.le_trans (szs_take _ _) (szs_drop _ _)
theorem cut_len (xs : List D) (lo hi : Option Int) : (cutD xs lo hi).length ≤ xs.length := by
  unfold cutD
  rw [List.length_take, List.length_drop]
  omega
mutual
theorem pu_is : ∀ d : D, pu d = true → dv d = true ∧ okD d = true ∧ noDic d = true ∧ noLst d = true
  | .int i, h => by
    simp only [pu, decide_eq_true_eq] at h
    refine ⟨rfl, ?_, rfl, rfl⟩
    simp only [okD, decide_eq_true_eq]
    exact Nat.lt_of_le_of_lt h (by decide +kernel)
  | .tup xs, h => by
    obtain ⟨a, b, c, d⟩ := pus_is xs (by simpa [pu] using h)
    exact ⟨by simpa [dv] using a, by simpa [okD] using b, by simpa [noDic] using c, by simpa [noLst] using d⟩
  | .non, h => by simp [pu] at h
  | .bl _, h => by simp [pu] at h
  | .str _, h => by simp [pu] at h
  | .lst _, h => by simp [pu] at h
  | .scr _, h => by simp [pu] at h
  | .obj _, h => by simp [pu] at h
  | .err _ _ _, h => by simp [pu] at h
  | .xcp _ _ _ _, h => by simp [pu] at h
  | .set _, h => by simp [pu] at h
  | .ist _, h => by simp [pu] at h
  | .dic0, h => by simp [pu] at h
theorem pus_is : ∀ ds : List D, pus ds = true → dvs ds = true ∧ okDs ds = true ∧ noDics ds = true ∧ noLsts ds = true
  | [], _ => ⟨rfl, rfl, rfl, rfl⟩
  | x :: xs, h => by
    have h' : pu x = true ∧ pus xs = true := by simpa [pus] using h
    obtain ⟨a, b, c, d⟩ := pu_is x h'.1
    obtain ⟨a2, b2, c2, d2⟩ := pus_is xs h'.2
    exact ⟨by simp [dvs, a, a2], by simp [okDs, b, b2], by simp [noDics, c, c2], by simp [noLsts, d, d2]⟩
end
/-- good: may be shown, and is data -/
structure Gd (n k : Nat) (d : D) : Prop where
  dv : dv d = true
  ok : okD d = true
  sz : sz d ≤ n
  dep : dep d ≤ k
  one : noDic d = true ∨ noLst d = true
theorem Gd.mono {n k n' k' : Nat} {d : D} (h : Gd n k d) (hn : n ≤ n') (hk : k ≤ k') : Gd n' k' d := ⟨h.dv, h.ok, by have := h.sz; omega, by have := h.dep; omega, h.one⟩
theorem gd_pu {d : D} (h : pu d = true) : Gd (sz d) (dep d) d := by
  obtain ⟨a, b, c, e⟩ := pu_is d h
  exact ⟨a, b, Nat.le_refl _, Nat.le_refl _, .inl c⟩
theorem gd_put {xs : List D} {n k : Nat} (h : ∀ x ∈ xs, pu x = true) (hn : szs xs ≤ n) (hk : deps xs + 1 ≤ k) : Gd n k (.tup xs) :=
  (gd_pu (d := .tup xs) (by simpa [pu] using pus_mem.mpr h)).mono (by simpa [sz] using hn) (by simpa [dep] using hk)
theorem odd_gd : ∀ d ∈ oddL, Gd 100 5 d := by
  have h : ∀ d ∈ oddL, dv d = true ∧ okD d = true ∧ sz d ≤ 100 ∧ dep d ≤ 5 ∧ (noDic d = true ∨ noLst d = true) := by decide +kernel
  exact fun d hd => ⟨(h d hd).1, (h d hd).2.1, (h d hd).2.2.1, (h d hd).2.2.2.1, (h d hd).2.2.2.2⟩
mutual
theorem lay_of : ∀ p : PyData, okP p = true → p.hasDict = false → p.canLay0 = true
  | .none, _, _ => by simp [PyData.canLay0]
  | .bool _, _, _ => by simp [PyData.canLay0]
  | .int _, _, _ => by simp [PyData.canLay0]
  | .str x, h, _ => by
    simp only [okP, decide_eq_true_eq] at h
    simpa [PyData.canLay0] using (six_ok x h).2.2
  | .list xs, h, n => by simpa [PyData.canLay0] using lays_of xs (by simpa [okP] using h) (by simpa [PyData.hasDict] using n)
  | .tuple xs, h, n => by simpa [PyData.canLay0] using lays_of xs (by simpa [okP] using h) (by simpa [PyData.hasDict] using n)
  | .dict _, _, n => by simp [PyData.hasDict] at n
theorem lays_of : ∀ ps : List PyData, okPs ps = true → PyData.hasDictAll ps = false → PyData.canLayAll0 ps = true
  | [], _, _ => by simp [PyData.canLayAll0]
  | p :: ps, h, n => by
    have h' : okP p = true ∧ okPs ps = true := by simpa [okPs] using h
    have n' : p.hasDict = false ∧ PyData.hasDictAll ps = false := by simpa [PyData.hasDictAll] using n
    simp [PyData.canLayAll0, lay_of p h'.1 n'.1, lays_of ps h'.2 n'.2]
end
theorem gEq_empty {xs : List D} (h : ∀ x ∈ xs, pu x = true) (hk : deps xs ≤ 60) (hp : EH) : gEq (.tup xs) (.tup []) hp = some (.bl (decide (xs = []))) := by
  have pt : pu (.tup xs) = true := by simpa [pu] using pus_mem.mpr h
  obtain ⟨_, b, c, _⟩ := pu_is _ pt
  obtain ⟨p, e1, e2, e3, e4, e5⟩ := toP_of _ b c
  have hd : p.depth ≤ 64 := by rw [e5]; simp [dep]; omega
  have s1 : SeqAt.shaped p = true := by
    unfold SeqAt.shaped
    rw [lay_of p e2 e3, decide_eq_true hd]; rfl
  have s2 : SeqAt.shaped (.tuple []) = true := by decide
  have q0 : toPh hp (.tup []) = some (.tuple []) := by simp [toPh, D.toP, D.toPs]
  have q1 : toPh hp (.tup xs) = some p := e1
  unfold gEq dEq
  rw [q1, q0]
  simp only [s1, s2, and_self, if_true, Option.map_some]
  have : p.eqv (.tuple []) = decide (xs = []) := by
    simp only [D.toP] at e1
    split at e1
    · rename_i ps hps
      cases e1
      cases xs with
      | nil => simp [D.toPs] at hps; subst hps; simp [PyData.eqv, PyData.eqvAll]
      | cons x xs =>
        simp only [D.toPs] at hps
        split at hps
        · cases hps; simp [PyData.eqv, PyData.eqvAll]
        · cases hps
    · cases e1
  rw [this]
theorem kint {v : D} (h : pu v = true) : (∃ i, v = .int i ∧ i.natAbs ≤ 1000) ∨ ∃ xs, v = .tup xs ∧ ∀ x ∈ xs, pu x = true := by
  cases v <;> simp [pu] at h
  · exact .inl ⟨_, rfl, h⟩
  · exact .inr ⟨_, rfl, pus_mem.mp h⟩
end Law
end

section
set_option maxRecDepth 100000
set_option maxHeartbeats 4000000
namespace Law
open PySem PySem.Spec L2 MP MX
section
variable {e : FE} {lo hi : FO} {env : Ev} {hp hp1 hp2 hp3 : EH} {d z : D} {l h : Option Int}
theorem cut_of' (h1 : e env hp = some (.val d, hp1)) (h2 : lo env hp1 = some (.val l, hp2)) (h3 : hi env hp2 = some (.val h, hp3)) (g : gCut d l h hp3 = some z) : eCut e lo hi env hp = some (.val z, hp3) := by
  unfold eCut; rw [bnd_of h1, bnd_of h2, bnd_of h3]; simp only [g]
theorem some_of {i : Int} (h1 : e env hp = some (.val (.int i), hp1)) : oSome e env hp = some (.val (some i), hp1) := by unfold oSome; rw [bnd_of h1]
theorem rev_of {xs : List D} (h1 : e env hp = some (.val (.tup xs), hp1)) : eRev e env hp = some (.val (.tup xs.reverse), hp1) := by unfold eRev; rw [bnd_of h1]; rfl
theorem neg_of {i : Int} (h1 : e env hp = some (.val (.int i), hp1)) : MP.eNeg e env hp = some (.val (.int (-i)), hp1) := by unfold MP.eNeg; rw [bnd_of h1]
end
theorem gAdd_tup {a b : List D} (hp : EH) (h : a.length + b.length ≤ 16777216) : gAdd (.tup a) (.tup b) hp = some (.tup (a ++ b)) := by simp [gAdd, h]
theorem six_at {ds : List D} (h : ds.length = 6) {o : Int} (h0 : 0 ≤ o) (h1 : o < 6) (hp : EH) : ∃ d, d ∈ ds ∧ gIx (.lst ds) (.int o) hp = some d := by
  obtain ⟨d, hd, e⟩ := atI_mem (ds := ds) h0 (by omega)
  exact ⟨d, hd, by simp [gIx, asQ, e]⟩
theorem gLt_int (a b : Int) (hp : EH) : gLt (.int a) (.int b) hp = some (.bl (decide (a < b))) := by simp [gLt, iCmp]
theorem int_items {i : Int} (hi : i.natAbs ≤ 1000) : ∀ d ∈ ([.int (i + 1), .int (i - 1), .bl (decide (i = 1)), .int 0, .int (-i), .int (i + 1)] : List D), Gd 100 6 d := by
  have ok : ∀ j : Int, j.natAbs ≤ 1001 → Gd 100 6 (.int j) := fun j hj => ⟨rfl, by
    simp only [okD, decide_eq_true_eq]
    exact Nat.lt_of_le_of_lt hj (by decide +kernel), by simp [sz], by simp [dep], .inl rfl⟩
  intro d hd
  simp only [List.mem_cons, List.not_mem_nil, or_false] at hd
  rcases hd with rfl | rfl | rfl | rfl | rfl | rfl
  · exact ok _ (by omega)
  · exact ok _ (by omega)
  · exact ⟨rfl, rfl, by simp [sz], by simp [dep], .inl rfl⟩
  · exact ok _ (by omega)
  · exact ok _ (by omega)
  · exact ok _ (by omega)
theorem deps_sub {xs ys : List D} (h : ∀ x ∈ ys, x ∈ xs) : deps ys ≤ deps xs := deps_le fun x hx => dep_mem (h x hx)
theorem tup_items {xs : List D} (h : ∀ x ∈ xs, pu x = true) : ∀ d ∈ ([.tup (cutD xs (some 1) none), .tup (cutD xs none (some (-1))), .tup (xs ++ cutD xs none (some 1)), .tup xs.reverse, .lst xs, .tup (xs ++ [.int 0])] : List D), Gd (2 * szs xs + 100) (deps xs + 7) d := by
  have ps : ∀ lo hi, ∀ x ∈ cutD xs lo hi, pu x = true := fun lo hi x hx => h x (cut_mem hx)
  intro d hd
  simp only [List.mem_cons, List.not_mem_nil, or_false] at hd
  rcases hd with rfl | rfl | rfl | rfl | rfl | rfl
  · exact gd_put (ps _ _) (by have := cut_szs xs (some 1) none; omega) (by have := deps_sub (xs := xs) (ys := cutD xs (some 1) none) fun x hx => cut_mem hx; omega)
  · exact gd_put (ps _ _) (by have := cut_szs xs none (some (-1)); omega) (by have := deps_sub (xs := xs) (ys := cutD xs none (some (-1))) fun x hx => cut_mem hx; omega)
  · refine gd_put (fun x hx => ?_) (by have := cut_szs xs none (some 1); rw [szs_app]; omega) (by
      have := deps_sub (xs := xs) (ys := xs ++ cutD xs none (some 1)) fun x hx => (List.mem_append.mp hx).elim id cut_mem
      omega)
    rcases List.mem_append.mp hx with z | z
    · exact h x z
    · exact ps _ _ x z
  · exact gd_put (fun x hx => h x (List.mem_reverse.mp hx)) (by rw [szs_rev]; omega) (by have := deps_sub (xs := xs) (ys := xs.reverse) fun x hx => List.mem_reverse.mp hx; omega)
  · obtain ⟨a, b, c, _⟩ := pus_is xs (pus_mem.mpr h)
    exact ⟨by simpa [dv] using a, by simpa [okD] using b, by simp [sz]; omega, by simp [dep], .inl (by simpa [noDic] using c)⟩
  · refine gd_put (fun x hx => ?_) (by rw [szs_app]; simp [szs, sz]; omega) (by
      have : deps (xs ++ [.int 0]) ≤ deps xs := deps_le fun x hx => by
        rcases List.mem_append.mp hx with z | z
        · exact dep_mem z
        · rw [List.mem_singleton] at z; subst z; simp [dep]
      omega)
    rcases List.mem_append.mp hx with z | z
    · exact h x z
    · rw [List.mem_singleton] at z; subst z; rfl
abbrev condB : FT := (MP.tOr (MP.tNot (MP.tB (eIsi "tuple" (eVar 1)))) (MP.tOr (MP.tB (eBin gEq (eVar 1) (eTup aNil))) (MP.tOr (MP.tB (eBin gEq (eVar 2) (MP.ret (.int 0)))) (MP.tB (eBin gEq (eFn m__law_draw (aCons (eVar 0) (aCons (MP.ret (.int 6)) aNil))) (MP.ret (.int 0)))))))
abbrev blkB : FS := (fSeq (fAsg (eFn m__law_draw (aCons (eVar 0) (aCons (MP.ret (.int 8)) aNil))) (tgN 5)) (fSeq (fIf (MP.tAnd (MP.tB (eIsi "int" (eVar 1))) (MP.tAnd (MP.tNot (MP.tB (eIsi "bool" (eVar 1)))) (MP.tB (eBin gLt (eVar 5) (MP.ret (.int 6)))))) (fRet (eBin gIx (eLst (aCons (eBin gAdd (eVar 1) (MP.ret (.int 1))) (aCons (eBin MP.gSub (eVar 1) (MP.ret (.int 1))) (aCons (eBin gEq (eVar 1) (MP.ret (.int 1))) (aCons (MP.ret (.int 0)) (aCons (MP.eNeg (eVar 1)) (aCons (eBin gAdd (eVar 1) (MP.ret (.int 1))) aNil))))))) (eVar 5))) fNext) (fSeq (fIf (MP.tAnd (MP.tB (eIsi "tuple" (eVar 1))) (MP.tB (eBin gLt (eVar 5) (MP.ret (.int 6))))) (fRet (eBin gIx (eLst (aCons (eCut (eVar 1) (oSome (MP.ret (.int 1))) (MP.ret none)) (aCons (eCut (eVar 1) (MP.ret none) (oSome (MP.eNeg (MP.ret (.int 1))))) (aCons (eBin gAdd (eVar 1) (eCut (eVar 1) (MP.ret none) (oSome (MP.ret (.int 1))))) (aCons (eRev (eVar 1)) (aCons (eCall gList (aCons (eVar 1) aNil)) (aCons (eBin gAdd (eVar 1) (eTup (aCons (MP.ret (.int 0)) aNil))) aNil))))))) (eVar 5))) fNext) (fRet (eFn m__law_odd (aCons (eVar 0) aNil))))))
abbrev restB (m__law_bent : FF) : FS := (fSeq (fAsg (eFn m__law_draw (aCons (eVar 0) (aCons (eCall gLen (aCons (eVar 1) aNil)) aNil))) (tgN 3)) (fSeq (fAsg (eFn m__law_bent (aCons (eVar 0) (aCons (eBin gIx (eVar 1) (eVar 3)) (aCons (eBin MP.gSub (eVar 2) (MP.ret (.int 1))) aNil)))) (tgN 4)) (fRet (eBin gAdd (eBin gAdd (eCut (eVar 1) (MP.ret none) (oSome (eVar 3))) (eTup (aCons (eVar 4) aNil))) (eCut (eVar 1) (oSome (eBin gAdd (eVar 3) (MP.ret (.int 1)))) (MP.ret none))))))
theorem b_eq (m : FF) : b__law_bent m = fSeq (fIf condB blkB fNext) (restB m) := rfl
section
variable {h0 : EH} {p : Nat} {zs : List Int}
theorem isi_other {v : D} {T s : String} {b : Bool} {e : FE} {env : Ev} {hp hp1 : EH} (h : e env hp = some (.val v, hp1)) (h1 : v.tyN = some s) (h2 : kitB s T = some b) : MP.tB (eIsi T e) env hp = some (.val b, hp1) := tB_of (isi_of h h1 h2)
theorem k17 : kitB "tuple" "bool" = some false := by decide +kernel
theorem blk_ok {k : Int} {v : D} (hv : pu v = true) (hs : sz v ≤ 20000) {hp : EH} (h : Pen h0 hp p zs) : ∃ (r : D) (env' : Ev) (hp' : EH), Gd (2 * sz v + 100) (dep v + 6) r ∧ Pen h0 hp' p zs ∧ blkB [some (.obj p), some v, some (.int k), none, none, none] hp = some (.ret r, env', hp') := by
  obtain ⟨o, hp1, o0, o1, h1, e1⟩ := draw_ok h (b := 8) (by omega) (by omega)
  let E5 : Ev := [some (.obj p), some v, some (.int k), none, none, some (.int o)]
  have first : fAsg (eFn m__law_draw (aCons (eVar 0) (aCons (MP.ret (.int 8)) aNil))) (tgN 5) [some (.obj p), some v, some (.int k), none, none, none] hp = some (.nxt, E5, hp1) := asg_of (fn_of' (cons_of rfl (cons_of rfl rfl)) e1) rfl
  obtain ⟨d, hp2, hd, h2, e2⟩ := odd_ok h1
  have lastS : fRet (eFn m__law_odd (aCons (eVar 0) aNil)) E5 hp1 = some (.ret d, E5, hp2) := ret_of (fn_of' (cons_of rfl rfl) e2)
  have lt6 : MP.tB (eBin gLt (eVar 5) (MP.ret (.int 6))) E5 hp1 = some (.val (decide (o < 6)), hp1) := tB_of (bin_of rfl rfl (gLt_int o 6 hp1))
  have gd_odd : Gd (2 * sz v + 100) (dep v + 6) d := (odd_gd d hd).mono (by omega) (by omega)
  rcases kint hv with ⟨i, rfl, hi⟩ | ⟨xs, rfl, hx⟩
  · have t1 : MP.tAnd (MP.tB (eIsi "int" (eVar 1))) (MP.tAnd (MP.tNot (MP.tB (eIsi "bool" (eVar 1)))) (MP.tB (eBin gLt (eVar 5) (MP.ret (.int 6))))) E5 hp1 = some (.val (decide (o < 6)), hp1) :=
      (tAnd_t (isi_other rfl rfl k3)).trans ((tAnd_t (tNot_of (isi_other rfl rfl k9))).trans lt6)
    by_cases c : o < 6
    · rw [decide_eq_true c] at t1
      obtain ⟨r, hr, er⟩ := six_at (ds := [.int (i + 1), .int (i - 1), .bl (decide (i = 1)), .int 0, .int (-i), .int (i + 1)]) rfl o0 c hp1
      refine ⟨r, E5, hp1, (int_items hi r hr).mono (by simp [sz]) (by simp [dep]), h1, (seq_of first).trans (seq_ret ((if_t t1).trans (ret_of (bin_of (lst_of (cons_of rfl (cons_of rfl (cons_of (bin_of rfl rfl (gEq_int i 1 hp1)) (cons_of rfl (cons_of (neg_of rfl) (cons_of rfl rfl)))))) (by simp)) rfl er))))⟩
    · rw [decide_eq_false c] at t1
      have t2 : MP.tAnd (MP.tB (eIsi "tuple" (eVar 1))) (MP.tB (eBin gLt (eVar 5) (MP.ret (.int 6)))) E5 hp1 = some (.val false, hp1) := tAnd_f (isi_other rfl rfl k12)
      exact ⟨d, E5, hp2, gd_odd, h2, (seq_of first).trans ((seq_of (if_f t1)).trans ((seq_of (if_f t2)).trans lastS))⟩
  · have t1 : MP.tAnd (MP.tB (eIsi "int" (eVar 1))) (MP.tAnd (MP.tNot (MP.tB (eIsi "bool" (eVar 1)))) (MP.tB (eBin gLt (eVar 5) (MP.ret (.int 6))))) E5 hp1 = some (.val false, hp1) := tAnd_f (isi_other rfl rfl k5)
    have t2 : MP.tAnd (MP.tB (eIsi "tuple" (eVar 1))) (MP.tB (eBin gLt (eVar 5) (MP.ret (.int 6)))) E5 hp1 = some (.val (decide (o < 6)), hp1) := (tAnd_t (isi_other rfl rfl k14)).trans lt6
    by_cases c : o < 6
    · rw [decide_eq_true c] at t2
      obtain ⟨r, hr, er⟩ := six_at (ds := [.tup (cutD xs (some 1) none), .tup (cutD xs none (some (-1))), .tup (xs ++ cutD xs none (some 1)), .tup xs.reverse, .lst xs, .tup (xs ++ [.int 0])]) rfl o0 c hp1
      have len : xs.length ≤ 20000 := by have := szs_len xs; simp [sz] at hs; omega
      have lc := cut_len xs none (some 1)
      refine ⟨r, E5, hp1, (tup_items hx r hr).mono (by simp [sz]) (by simp [dep]), h1, (seq_of first).trans ((seq_of (if_f t1)).trans (seq_ret ((if_t t2).trans (ret_of (bin_of (lst_of (cons_of (cut_of' rfl (some_of rfl) rfl rfl) (cons_of (cut_of' rfl rfl (some_of (neg_of rfl)) rfl) (cons_of (bin_of rfl (cut_of' rfl rfl (some_of rfl) rfl) (gAdd_tup hp1 (by omega))) (cons_of (rev_of rfl) (cons_of (call_of (d := .lst xs) (cons_of rfl rfl) rfl) (cons_of (bin_of rfl (tup_of (cons_of rfl rfl) (by simp)) (gAdd_tup hp1 (by simp; omega))) rfl)))))) (by simp)) rfl er)))))⟩
    · rw [decide_eq_false c] at t2
      exact ⟨d, E5, hp2, gd_odd, h2, (seq_of first).trans ((seq_of (if_f t1)).trans ((seq_of (if_f t2)).trans lastS))⟩
theorem cond_ok {k : Nat} {v : D} (hv : pu v = true) (hd : dep v ≤ 20) {hp : EH} (h : Pen h0 hp p zs) : ∃ (b : Bool) (hp' : EH), Pen h0 hp' p zs ∧ condB [some (.obj p), some v, some (.int k), none, none, none] hp = some (.val b, hp') ∧ (b = false → ∃ xs, v = .tup xs ∧ xs ≠ [] ∧ 0 < k) := by
  rcases kint hv with ⟨i, rfl, hi⟩ | ⟨xs, rfl, hx⟩
  · exact ⟨true, hp, h, tOr_t (tNot_of (b := false) (isi_other rfl rfl k12)), fun z => by cases z⟩
  · have t1 : MP.tNot (MP.tB (eIsi "tuple" (eVar 1))) [some (.obj p), some (.tup xs), some (.int (k : Int)), none, none, none] hp = some (.val false, hp) := tNot_of (b := true) (isi_other rfl rfl k14)
    have dx : deps xs ≤ 60 := by simp [dep] at hd; omega
    have t2 : MP.tB (eBin gEq (eVar 1) (eTup aNil)) [some (.obj p), some (.tup xs), some (.int (k : Int)), none, none, none] hp = some (.val (decide (xs = [])), hp) := tB_of (bin_of rfl (tup_of rfl (by simp)) (gEq_empty hx dx hp))
    by_cases c : xs = []
    · rw [decide_eq_true c] at t2
      exact ⟨true, hp, h, (tOr_f t1).trans (tOr_t t2), fun z => by cases z⟩
    · rw [decide_eq_false c] at t2
      have t3 : MP.tB (eBin gEq (eVar 2) (MP.ret (.int 0))) [some (.obj p), some (.tup xs), some (.int (k : Int)), none, none, none] hp = some (.val (decide ((k : Int) = 0)), hp) := tB_of (bin_of rfl rfl (gEq_int k 0 hp))
      by_cases c3 : (k : Int) = 0
      · rw [decide_eq_true c3] at t3
        exact ⟨true, hp, h, (tOr_f t1).trans ((tOr_f t2).trans (tOr_t t3)), fun z => by cases z⟩
      · rw [decide_eq_false c3] at t3
        obtain ⟨o, hp1, o0, o1, h1, e1⟩ := draw_ok h (b := 6) (by omega) (by omega)
        exact ⟨_, hp1, h1, (tOr_f t1).trans ((tOr_f t2).trans ((tOr_f t3).trans (tB_of (bin_of (fn_of' (cons_of rfl (cons_of rfl rfl)) e1) rfl (gEq_int o 0 hp1))))), fun _ => ⟨xs, rfl, c, by omega⟩⟩
end
end Law
end

section
set_option maxRecDepth 100000
set_option maxHeartbeats 4000000
namespace Law
open PySem PySem.Spec L2 MP MX
theorem cut_left {xs : List D} {a : Nat} (h : a ≤ xs.length) : cutD xs none (some (a : Int)) = xs.take a := by
  unfold cutD
  rw [HT.sIx_nat, HT.sIx_none, Nat.min_eq_left h, List.drop_zero, Nat.sub_zero]
theorem cut_right {xs : List D} {a : Nat} (h : a ≤ xs.length) : cutD xs (some (a : Int)) none = xs.drop a := by
  unfold cutD
  rw [HT.sIx_nat, HT.sIx_none, Nat.min_eq_left h, List.take_of_length_le (by rw [List.length_drop]; exact Nat.le_refl _)]
theorem tup_at {xs : List D} {a : Nat} (h : a < xs.length) (hp : EH) : gIx (.tup xs) (.int (a : Int)) hp = some xs[a] := by
  simp only [gIx, asQ]
  unfold L2.atI L2.ixN
  rw [if_pos (by omega), if_pos (by omega)]
  simp [List.getElem?_eq_getElem h]
theorem put_gd {xs : List D} {a : Nat} (h : a < xs.length) (hx : ∀ x ∈ xs, pu x = true) {r : D} {x : D} (ex : xs[a] = x) (hr : Gd (2 * sz x + 100) (dep x + 6) r) : Gd (2 * szs xs + 100) (deps xs + 7) (.tup ((xs.take a ++ [r]) ++ xs.drop (a + 1))) := by
  have e : xs = xs.take a ++ x :: xs.drop (a + 1) := by
    rw [← ex]
    exact (List.take_append_drop a xs).symm.trans (by rw [List.drop_eq_getElem_cons h])
  have es : szs xs = szs (xs.take a) + (sz x + 1 + szs (xs.drop (a + 1))) := by
    have := congrArg szs e
    rw [szs_app] at this
    simpa [szs] using this
  have hxm : x ∈ xs := by rw [← ex]; exact List.getElem_mem h
  have hd := dep_mem hxm
  have r1 := hr.sz
  have r2 := hr.dep
  have mem : ∀ y ∈ (xs.take a ++ [r]) ++ xs.drop (a + 1), y = r ∨ y ∈ xs := fun y hy => by
    rcases List.mem_append.mp hy with z | z
    · rcases List.mem_append.mp z with z | z
      · exact .inr (List.mem_of_mem_take z)
      · rw [List.mem_singleton] at z; exact .inl z
    · exact .inr (List.mem_of_mem_drop z)
  have all : ∀ (f : D → Bool), (∀ y, pu y = true → f y = true) → f r = true → ∀ y ∈ (xs.take a ++ [r]) ++ xs.drop (a + 1), f y = true := fun f hf hr y hy => by
    rcases mem y hy with rfl | z
    · exact hr
    · exact hf y (hx y z)
  refine ⟨?_, ?_, ?_, ?_, ?_⟩
  · simp only [dv]
    exact dvs_mem.mpr (all dv (fun y hy => (pu_is y hy).1) hr.dv)
  · simp only [okD]
    exact okDs_mem.mpr (all okD (fun y hy => (pu_is y hy).2.1) hr.ok)
  · simp only [sz]
    rw [szs_app, szs_app]
    simp only [szs]
    omega
  · simp only [dep]
    have : deps ((xs.take a ++ [r]) ++ xs.drop (a + 1)) ≤ deps xs + 6 := deps_le fun y hy => by
      rcases mem y hy with rfl | z
      · omega
      · have := dep_mem z; omega
    omega
  · rcases hr.one with z | z
    · exact .inl (by simp only [noDic]; exact noDics_mem.mpr (all noDic (fun y hy => (pu_is y hy).2.2.1) z))
    · exact .inr (by simp only [noLst]; exact noLsts_mem.mpr (all noLst (fun y hy => (pu_is y hy).2.2.2) z))
section
variable {h0 : EH} {p : Nat} {zs : List Int}
theorem bent_ok : ∀ (k n : Nat) (v : D) (hp : EH), pu v = true → sz v ≤ 20000 → dep v ≤ 20 → k < n → Pen h0 hp p zs →
    ∃ (r : D) (hp' : EH), Gd (2 * sz v + 100) (dep v + 6) r ∧ Pen h0 hp' p zs ∧ m__law_bent n [.obj p, v, .int k] hp = some (.val r, hp') := by
  intro k
  induction k with
  | zero =>
    intro n v hp hv hs hd hn h
    obtain ⟨m, rfl⟩ : ∃ m, n = m + 1 := ⟨n - 1, by omega⟩
    obtain ⟨b, hp1, h1, e1, q1⟩ := cond_ok (k := 0) hv hd h
    obtain ⟨r, env', hp2, g, h2, e2⟩ := blk_ok (k := 0) hv hs h1
    have bt : b = true := by
      cases b with
      | true => rfl
      | false => obtain ⟨_, _, _, z⟩ := q1 rfl; exact absurd z (by omega)
    subst bt
    refine ⟨r, hp2, g, h2, ?_⟩
    show runDef 6 3 (b__law_bent (m__law_bent m)) [.obj p, v, .int 0] hp = _
    rw [b_eq]
    exact runDef_pen (env := env') h h2 rfl (seq_ret ((if_t e1).trans e2)) (dv_old _ _ g.dv)
  | succ k ih =>
    intro n v hp hv hs hd hn h
    obtain ⟨m, rfl⟩ : ∃ m, n = m + 1 := ⟨n - 1, by omega⟩
    obtain ⟨b, hp1, h1, e1, q1⟩ := cond_ok (k := k + 1) hv hd h
    show ∃ (r : D) (hp' : EH), _ ∧ _ ∧ runDef 6 3 (b__law_bent (m__law_bent m)) [.obj p, v, .int ((k + 1 : Nat) : Int)] hp = _
    rw [b_eq]
    cases b with
    | true =>
      obtain ⟨r, env', hp2, g, h2, e2⟩ := blk_ok (k := ((k + 1 : Nat) : Int)) hv hs h1
      exact ⟨r, hp2, g, h2, runDef_pen (env := env') h h2 rfl (seq_ret ((if_t e1).trans e2)) (dv_old _ _ g.dv)⟩
    | false =>
      obtain ⟨xs, rfl, hne, _⟩ := q1 rfl
      have hx : ∀ x ∈ xs, pu x = true := pus_mem.mp (by simpa [pu] using hv)
      have len := szs_len xs
      have hs' : szs xs ≤ 20000 := by simpa [sz] using hs
      have hd' : deps xs + 1 ≤ 20 := by simpa [dep] using hd
      have hpos : 0 < xs.length := List.length_pos_iff.mpr hne
      obtain ⟨o, hp2, o0, o1, h2, e2⟩ := draw_ok h1 (b := xs.length) (by omega) (by omega)
      obtain ⟨a, rfl⟩ := Int.eq_ofNat_of_zero_le o0
      have ha : a < xs.length := by omega
      have hxa := hx _ (List.getElem_mem ha)
      have szx := sz_mem (List.getElem_mem ha)
      have dpx := dep_mem (List.getElem_mem ha)
      obtain ⟨r, hp3, g, h3, e3⟩ := ih m xs[a] hp2 hxa (by omega) (by omega) (by omega) h2
      have G := put_gd ha hx rfl g
      let E3 : Ev := [some (.obj p), some (.tup xs), some (.int ((k + 1 : Nat) : Int)), some (.int (a : Int)), none, none]
      let E4 : Ev := [some (.obj p), some (.tup xs), some (.int ((k + 1 : Nat) : Int)), some (.int (a : Int)), some r, none]
      have k1 : (((k + 1 : Nat) : Int) - 1) = (k : Int) := by omega
      have sub1 : MP.gSub (.int ((k + 1 : Nat) : Int)) (.int 1) hp2 = some (.int (k : Int)) := by simp [MP.gSub, iOp]
      refine ⟨.tup ((xs.take a ++ [r]) ++ xs.drop (a + 1)), hp3, by simpa [sz, dep] using G, h3, runDef_pen (env := E4) h h3 rfl ((seq_of (if_f e1)).trans ?_) (dv_old _ _ G.dv)⟩
      refine (seq_of (env1 := E3) (asg_of (fn_of' (cons_of rfl (cons_of (call_of (d := .int xs.length) (cons_of rfl rfl) rfl) rfl)) e2) rfl)).trans ?_
      refine (seq_of (env1 := E4) (asg_of (fn_of' (cons_of rfl (cons_of (bin_of rfl rfl (tup_at ha hp2)) (cons_of (bin_of rfl rfl sub1) rfl))) e3) rfl)).trans ?_
      refine ret_of (bin_of (bin_of (cut_of' rfl rfl (some_of rfl) (by rw [gCut, cut_left (Nat.le_of_lt ha)])) (tup_of (cons_of rfl rfl) (by simp)) (gAdd_tup hp3 ?_)) (cut_of' rfl (some_of (bin_of rfl rfl (show gAdd (.int (a : Int)) (.int 1) hp3 = some (.int ((a + 1 : Nat) : Int)) by simp [gAdd]))) rfl (by rw [gCut, cut_right (by omega)])) (gAdd_tup hp3 ?_))
      · rw [List.length_take]; simp; omega
      · rw [List.length_append, List.length_take, List.length_drop]; simp; omega
end
end Law
end

section
set_option maxRecDepth 100000
set_option maxHeartbeats 4000000
namespace Law
open PySem PySem.Spec L2 MP MX
/-! among others -/
def memF (f : D) (gs : List D) : Bool := gs.any fun g => D.beq f g
theorem memF_iff {f : D} {gs : List D} : memF f gs = true ↔ f ∈ gs := by
  unfold memF
  rw [List.any_eq_true]
  constructor
  · rintro ⟨g, hg, e⟩
    rw [D.beq_eq e]; exact hg
  · intro h
    exact ⟨f, h, D.beq_refl f⟩
theorem key_inj {ks : List Nat} {f g : D} {k : NestedKey} (hf : isF ks f = true) (hg : isF ks g = true) (e1 : f.key = some k) (e2 : g.key = some k) : f = g := by
  obtain ⟨a, ts, rfl, _⟩ := isF_form hf
  obtain ⟨b, us, rfl, _⟩ := isF_form hg
  rw [fact_key] at e1 e2
  have e := (Option.some.inj e1).trans (Option.some.inj e2).symm
  simp only [fK, NestedKey.tup.injEq, List.cons.injEq, NestedKey.num.injEq, and_true] at e
  obtain ⟨rfl, e⟩ := e
  have : ts = us := by
    have inj : Function.Injective NestedKey.num := fun x y h => by cases h; rfl
    exact (List.map_inj_right (fun x y h => inj h)).mp e
  rw [this]
theorem fold_keys {α : Type} (k : NestedKey) : ∀ (T acc : List (α × NestedKey)), k ∈ (T.foldl nextK acc).map (·.2) ↔ k ∈ acc.map (·.2) ∨ k ∈ T.map (·.2)
  | [], acc => by simp
  | t :: T, acc => by
    rw [List.foldl_cons, fold_keys k T (nextK acc t)]
    unfold nextK
    by_cases c : t.2 ∈ acc.map (·.2)
    · rw [if_pos c]
      simp only [List.map_cons, List.mem_cons]
      constructor
      · rintro (z | z)
        · exact .inl z
        · exact .inr (.inr z)
      · rintro (z | z | z)
        · exact .inl z
        · exact .inl (z ▸ c)
        · exact .inr z
    · rw [if_neg c]
      simp only [List.map_cons, List.mem_cons, List.map_append, List.mem_append, List.map_nil, List.not_mem_nil, or_false]
      constructor
      · rintro ((z | z) | z)
        · exact .inl z
        · exact .inr (.inl z)
        · exact .inr (.inr z)
      · rintro (z | z | z)
        · exact .inl (.inl z)
        · exact .inl (.inr z)
        · exact .inr z
theorem kzip : ∀ {ds : List D} {ks : List NestedKey}, D.keys ds = some ks → ks.length = ds.length ∧ ∀ p ∈ ds.zip ks, p.1.key = some p.2
  | [], ks, e => by simp [D.keys] at e; subst e; exact ⟨rfl, fun p hp => by simp at hp⟩
  | d :: ds, ks, e => by
    simp only [D.keys] at e
    split at e
    · rename_i k ks' h1 h2
      cases e
      obtain ⟨a, b⟩ := kzip h2
      refine ⟨by simp [a], fun p hp => ?_⟩
      rw [List.zip_cons_cons] at hp
      rcases List.mem_cons.mp hp with rfl | hp
      · exact h1
      · exact b p hp
    · cases e
theorem kall : ∀ {l : List (D × NestedKey)}, (∀ p ∈ l, p.1.key = some p.2) → D.keys (l.map (·.1)) = some (l.map (·.2))
  | [], _ => by simp [D.keys]
  | p :: l, h => by simp only [List.map_cons, D.keys, h p List.mem_cons_self, kall (l := l) fun q hq => h q (List.mem_cons_of_mem _ hq)]
theorem set_tup {ks : List Nat} {gs : List D} (h : ∀ g ∈ gs, isF ks g = true) (hl : gs.length < 9000) (hp : EH) : ∃ s, gSet [.tup gs] hp = some (.set s) ∧ ∀ f, isF ks f = true → gNinX f (.set s) hp = some (.bl (!memF f gs)) := by
  obtain ⟨qs, a, b⟩ := keys_all h
  let T := gs.zip qs
  have hz : ∀ t ∈ T, t.1.key = some t.2 := (kzip a).2
  refine ⟨(firstK T).map (·.1), ?_, fun f hf => ?_⟩
  · have ai : ∀ i is, asI gs ≠ some (i :: is) := fun i is e => by
      cases gs with
      | nil => simp [asI] at e
      | cons y ys =>
        obtain ⟨k, ts, rfl, _⟩ := isF_form (h y (by simp))
        simp [asI] at e
    have c : gs.length < 9000 ∧ ((gs.zip qs).all fun p => setK p.1 p.2) = true := ⟨hl, b⟩
    rcases hq : asI gs with _ | (_ | ⟨i, is⟩)
    · simp only [gSet, asQ, hq, a]
      rw [if_pos c]
    · simp only [gSet, asQ, hq, a]
      rw [if_pos c]
    · exact absurd hq (ai i is)
  · have ek := kall (l := firstK T) fun t ht => hz t (firstK_sub ht)
    obtain ⟨k, ts, rfl, r⟩ := isF_form hf
    have e1 := fact_key k ts
    have e2 := fact_setK k ts
    have em : decide (fK k ts ∈ (firstK T).map (·.2)) = memF (.tup [.int k, .tup (ts.map .int)]) gs := by
      rw [Bool.eq_iff_iff, decide_eq_true_eq, memF_iff]
      unfold firstK
      rw [fold_keys]
      simp only [List.map_nil, List.not_mem_nil, false_or]
      constructor
      · intro hm
        obtain ⟨t, ht, et⟩ := List.mem_map.mp hm
        have hg := (List.of_mem_zip ht).1
        have := key_inj (h t.1 hg) hf (hz t ht) (by rw [e1, et])
        rw [← this]; exact hg
      · intro hm
        obtain ⟨i, hi, ei⟩ := List.mem_iff_getElem.mp hm
        have lq : qs.length = gs.length := (kzip a).1
        have ht : T[i]? = some (gs[i], qs[i]'(by omega)) := by
          simp only [T]
          rw [List.getElem?_zip_eq_some]
          exact ⟨List.getElem?_eq_getElem hi, List.getElem?_eq_getElem (by omega)⟩
        have hm2 := List.mem_of_getElem? ht
        have := hz _ hm2
        simp only [ei, e1] at this
        exact List.mem_map.mpr ⟨_, hm2, (Option.some.inj this).symm⟩
    simp only [gNinX, isSet, if_true, gInS, ek, e1, e2, em]
theorem eqv_ints : ∀ (a b : List Int), PyData.eqvAll (a.map .int) (b.map .int) = decide (a = b)
  | [], [] => by simp [PyData.eqvAll]
  | [], _ :: _ => by simp [PyData.eqvAll]
  | _ :: _, [] => by simp [PyData.eqvAll]
  | x :: a, y :: b => by
    simp only [List.map_cons, PyData.eqvAll, PyData.eqv, eqv_ints a b, List.cons.injEq]
    rw [Bool.eq_iff_iff]
    simp
theorem eqv_fact (k l : Int) (ts us : List Int) : (fP k ts).eqv (fP l us) = decide (k = l ∧ ts = us) := by
  simp only [fP, PyData.eqv, PyData.eqvAll, eqv_ints]
  rw [Bool.eq_iff_iff]
  simp
theorem fact_shaped (k : Int) (ts : List Int) : SeqAt.shaped (fP k ts) = true := by
  simp [SeqAt.shaped, fP, PyData.canLay0, PyData.canLayAll0, canLay_ints, PyData.depth, PyData.depthAll, depth_ints]
theorem facts_data {ks : List Nat} : ∀ {gs : List D}, (∀ g ∈ gs, isF ks g = true) → ∃ ps, D.toPs gs = some ps ∧ PyData.canLayAll0 ps = true ∧ PyData.depthAll ps ≤ 2 ∧ ∀ (k : Int) (ts : List Int), (ps.any fun z => z.eqv (fP k ts)) = memF (.tup [.int k, .tup (ts.map .int)]) gs
  | [], _ => ⟨[], by simp [D.toPs], by simp [PyData.canLayAll0], by simp [PyData.depthAll], fun k ts => by simp [memF]⟩
  | g :: gs, h => by
    obtain ⟨ps, a, b, c, d⟩ := facts_data (gs := gs) fun y hy => h y (by simp [hy])
    obtain ⟨l, us, rfl, _⟩ := isF_form (h g (by simp))
    have s := fact_shaped l us
    unfold SeqAt.shaped at s
    rw [Bool.and_eq_true] at s
    refine ⟨fP l us :: ps, by simp only [D.toPs, fact_toP, a], by simp [PyData.canLayAll0, s.1, b], ?_, fun k ts => ?_⟩
    · have : (fP l us).depth ≤ 2 := by simp [fP, PyData.depth, PyData.depthAll, depth_ints]
      simp [PyData.depthAll]; omega
    · have e : D.beq (.tup [.int k, .tup (ts.map .int)]) (.tup [.int l, .tup (us.map .int)]) = decide (l = k ∧ us = ts) := by
        rw [Bool.eq_iff_iff, decide_eq_true_eq]
        constructor
        · intro z
          have := D.beq_eq z
          simp only [D.tup.injEq, List.cons.injEq, D.int.injEq, and_true] at this
          exact ⟨this.1.symm, ((List.map_inj_right (fun x y h => by cases h; rfl)).mp this.2).symm⟩
        · rintro ⟨rfl, rfl⟩
          exact D.beq_refl _
      rw [List.any_cons, eqv_fact, d]
      simp only [memF, List.any_cons, e]
theorem nin_tup {ks : List Nat} {f : D} {gs : List D} (hf : isF ks f = true) (h : ∀ g ∈ gs, isF ks g = true) (hp : EH) : gNinX f (.tup gs) hp = some (.bl (!memF f gs)) := by
  obtain ⟨ps, a, b, c, d⟩ := facts_data h
  obtain ⟨k, ts, rfl, _⟩ := isF_form hf
  have q1 : toPh hp (.tup [.int k, .tup (ts.map .int)]) = some (fP k ts) := fact_toP k ts
  have q2 : toPh hp (.tup gs) = some (.tuple ps) := by simp [toPh, D.toP, a]
  have s2 : SeqAt.shaped (.tuple ps) = true := by
    unfold SeqAt.shaped
    simp [PyData.canLay0, b, PyData.depth]; omega
  have e : dIn hp (.tup [.int k, .tup (ts.map .int)]) (.tup gs) = some (memF (.tup [.int k, .tup (ts.map .int)]) gs) := by
    unfold dIn
    rw [q1, q2]
    simp only
    rw [if_pos ⟨fact_shaped k ts, s2⟩, d]
  simp only [gNinX, isSet, Bool.false_eq_true, if_false, gNinA, e, Option.map_some]
/-- the turns of a search: the first that fails is told -/
theorem turns_miss {E : Option D → Ev} {tg : D → Ev → Option Ev} {body : FS} {hp : EH} {Q : D → Bool} (ht : ∀ x a, tg x (E a) = some (E (some x))) : ∀ (xs : List D) (a : Option D), (∀ x ∈ xs, body (E (some x)) hp = if Q x = true then some (.nxt, E (some x), hp) else some (.ret x, E (some x), hp)) →
    (xs.all Q = true → ∃ a', fTurns tg yes body xs (E a) hp = some (.nxt, E a', hp)) ∧ (xs.all Q = false → ∃ r env', r ∈ xs ∧ fTurns tg yes body xs (E a) hp = some (.ret r, env', hp))
  | [], a, _ => ⟨fun _ => ⟨a, by simp [fTurns, yes]⟩, fun z => by simp at z⟩
  | x :: xs, a, h => by
    have b := h x (by simp)
    obtain ⟨h1, h2⟩ := turns_miss ht xs (some x) fun y hy => h y (by simp [hy])
    cases hq : Q x with
    | true =>
      rw [hq, if_pos rfl] at b
      have st : fTurns tg yes body (x :: xs) (E a) hp = fTurns tg yes body xs (E (some x)) hp := turns_cons (ht x a) b
      rw [st, List.all_cons, hq, Bool.true_and]
      exact ⟨h1, fun z => by
        obtain ⟨r, env', m, e⟩ := h2 z
        exact ⟨r, env', by simp [m], e⟩⟩
    | false =>
      rw [hq, if_neg Bool.false_ne_true] at b
      refine ⟨fun z => by simp [hq] at z, fun _ => ⟨x, E (some x), by simp, ?_⟩⟩
      simp [fTurns, yes, ht, b]
def amongS (fs gs : List D) : Bool := fs.all fun f => memF f gs
/-- the first fact that is not among others is none exactly if all are -/
theorem miss_ok {ks : List Nat} {fs gs : List D} (hf : ∀ f ∈ fs, isF ks f = true) (hg : ∀ g ∈ gs, isF ks g = true) (hl : gs.length < 9000) {hp : EH} (of : oldDs hp.length fs = true) : ∃ r, m_first_missing [.tup fs, .tup gs] hp = some (.val r, hp) ∧ (r = .non ∨ r ∈ fs) ∧ (amongS fs gs = true ↔ r = .non) := by
  obtain ⟨s, e1, e2⟩ := set_tup hg hl hp
  let E : Option D → Ev := fun a => [some (.tup fs), some (.tup gs), some (.set s), a]
  obtain ⟨t1, t2⟩ := turns_miss (E := E) (tg := tgN 3) (body := fIf (MP.tB (eBin gNinX (eVar 3) (eVar 2))) (fRet (eVar 3)) fNext) (hp := hp) (Q := fun f => memF f gs) (fun x a => rfl) fs none fun x hx => by
    have t := tB_of (bin_of (e1 := eVar 3) (e2 := eVar 2) (env := E (some x)) rfl rfl (e2 x (hf x hx)))
    cases hm : memF x gs with
    | true =>
      rw [hm] at t
      rw [if_pos rfl]
      exact (if_f t).trans rfl
    | false =>
      rw [hm] at t
      rw [if_neg Bool.false_ne_true]
      exact (if_t t).trans (ret_of rfl)
  have first : fAsg (eCall gSet (aCons (eVar 1) aNil)) (tgN 2) [some (.tup fs), some (.tup gs), none, none] hp = some (.nxt, E none, hp) := asg_of (call_of (cons_of rfl rfl) e1) rfl
  cases ha : amongS fs gs with
  | true =>
    obtain ⟨a', e⟩ := t1 ha
    refine ⟨.non, ?_, .inl rfl, by simp⟩
    show runDef 4 2 b_first_missing [.tup fs, .tup gs] hp = _
    exact runDef_same (env := E a') rfl ((seq_of first).trans ((seq_of ((for_of (seq_tup rfl)).trans e)).trans (ret_of rfl))) (by simp [handed, oldD])
  | false =>
    obtain ⟨r, env', hr, e⟩ := t2 ha
    refine ⟨r, ?_, .inr hr, ?_⟩
    · show runDef 4 2 b_first_missing [.tup fs, .tup gs] hp = _
      exact runDef_same (env := env') rfl ((seq_of first).trans (seq_ret ((for_of (seq_tup rfl)).trans e))) (handed_old (olds_mem of hr))
    · constructor
      · intro z; cases z
      · intro z
        obtain ⟨k, ts, z2, _⟩ := isF_form (hf r hr)
        rw [z] at z2; cases z2
theorem among_ok {ks : List Nat} {fs gs : List D} (hf : ∀ f ∈ fs, isF ks f = true) (hg : ∀ g ∈ gs, isF ks g = true) (hl : gs.length < 9000) (hp : EH) : m_are_among [.tup fs, .tup gs] hp = some (.val (.bl (amongS fs gs)), hp) := by
  have of : oldDs hp.length fs = true := by
    clear hg
    induction fs with
    | nil => rfl
    | cons f fs ih =>
      obtain ⟨k, ts, rfl, _⟩ := isF_form (hf f (by simp))
      simp only [oldDs, Bool.and_eq_true]
      exact ⟨by simp [oldD, oldDs, olds_ints], ih fun y hy => hf y (by simp [hy])⟩
  obtain ⟨r, e, hr, hi⟩ := miss_ok hf hg hl of
  have en : eIsN (eFn m_first_missing (aCons (eVar 0) (aCons (eVar 1) aNil))) [some (.tup fs), some (.tup gs)] hp = some (.val (.bl (amongS fs gs)), hp) := by
    have e2 := fn_of' (fa := aCons (eVar 0) (aCons (eVar 1) aNil)) (env := [some (.tup fs), some (.tup gs)]) (hp := hp) (cons_of rfl (cons_of rfl rfl)) e
    rcases hr with rfl | hr
    · rw [(hi.2 rfl : amongS fs gs = true)]
      unfold eIsN
      rw [bnd_of e2]
      rfl
    · have na : amongS fs gs = false := by
        cases q : amongS fs gs with
        | false => rfl
        | true =>
          obtain ⟨k, ts, z2, _⟩ := isF_form (hf r hr)
          rw [hi.1 q] at z2; cases z2
      rw [na]
      obtain ⟨k, ts, rfl, _⟩ := isF_form (hf r hr)
      unfold eIsN
      rw [bnd_of e2]
      rfl
  show runDef 2 2 b_are_among [.tup fs, .tup gs] hp = _
  exact runDef_same (env := [some (.tup fs), some (.tup gs)]) rfl (ret_of en) (handed_bl _ _ _)
end Law
end

section
set_option maxRecDepth 100000
set_option maxHeartbeats 4000000
namespace Law
open PySem PySem.Spec L2 MP MX
/-! five thousand and four hundred facts -/
def fct (k a b : Int) : D := .tup [.int k, .tup [.int a, .int b]]
def rowOf (k a : Int) : List D := (rangeD 0 30).map fun b => match b with | .int b => fct k a b | _ => .non
def factsOf (k : Int) : List D := (rangeD 0 30).flatMap fun a => match a with | .int a => rowOf k a | _ => []
def allF : List D := (rangeD 0 6).flatMap fun k => match k with | .int k => factsOf k | _ => []
abbrev ks6 : List Nat := [2, 2, 2, 2, 2, 2]
def chainB (lt : D → D → Bool) : List D → Bool
  | x :: y :: r => lt x y && chainB lt (y :: r)
  | _ => true
theorem all_chain : chainB ltF allF = true := by decide +kernel
theorem all_facts : (allF.all fun f => isF ks6 f) = true := by decide +kernel
theorem all_len : allF.length = 5400 := by decide +kernel
theorem all_out (a : Nat) (h : a = 0 ∨ a = 20 ∨ a = 700 ∨ a = 5399) : memF (allF.getD a .non) (allF.take a ++ allF.drop (a + 1)) = false := by
  rcases h with rfl | rfl | rfl | rfl <;> decide +kernel
theorem all_self (a : Nat) (h : a = 20 ∨ a = 700 ∨ a = 5399) : ltF (allF.getD (a - 1) .non) (allF.getD (a - 1) .non) = false := by
  rcases h with rfl | rfl | rfl <;> decide +kernel
end Law
end

section
set_option maxRecDepth 100000
set_option maxHeartbeats 4000000
namespace Law
open PySem PySem.Spec L2 MP MX
theorem chain_take {lt : D → D → Bool} : ∀ (xs : List D) (n : Nat), chainB lt xs = true → chainB lt (xs.take n) = true
  | [], n, _ => by simp [chainB]
  | [x], n, _ => by cases n <;> simp [chainB]
  | x :: y :: r, 0, _ => by simp [chainB]
  | x :: y :: r, 1, _ => by simp [chainB]
  | x :: y :: r, n + 2, h => by
    simp only [chainB, Bool.and_eq_true] at h
    have := chain_take (y :: r) (n + 1) h.2
    simp only [List.take_succ_cons, chainB, Bool.and_eq_true] at this ⊢
    exact ⟨h.1, this⟩
theorem fb_chain {ok : D → Bool} {lt : D → D → Bool} {rest : List D} : ∀ (xs pre : List D), (∀ x ∈ xs, ok x = true) → chainB lt xs = true → (∀ p x, pre.getLast? = some p → xs.head? = some x → lt p x = true) → firstBad ok lt pre (xs ++ rest) = firstBad ok lt (pre ++ xs) rest
  | [], pre, _, _, _ => by simp
  | x :: xs, pre, h, c, l => by
    have g : goodAt ok lt pre x = true := by
      unfold goodAt
      rw [h x (by simp)]
      cases e : pre.getLast? with
      | none => rfl
      | some p => simp only [Bool.true_and]; exact l p x e rfl
    have c2 : chainB lt xs = true := by
      cases xs with
      | nil => rfl
      | cons y r => simp only [chainB, Bool.and_eq_true] at c; exact c.2
    have := fb_chain (rest := rest) xs (pre ++ [x]) (fun y hy => h y (by simp [hy])) c2 fun p y e1 e2 => by
      have ep : x = p := by simpa using e1
      subst ep
      cases xs with
      | nil => cases e2
      | cons z r =>
        cases e2
        simp only [chainB, Bool.and_eq_true] at c
        exact c.1
    have st : firstBad ok lt pre (x :: (xs ++ rest)) = firstBad ok lt (pre ++ [x]) (xs ++ rest) := by
      rw [firstBad, if_pos g]
    rw [List.cons_append, st, this]
    simp
theorem allF_is : ∀ f ∈ allF, isF ks6 f = true := by
  have := all_facts
  rw [List.all_eq_true] at this
  exact this
theorem fact_short {ks : List Nat} {f : D} (h : isF ks f = true) (hk : ∀ k ∈ ks, k ≤ 2) : shortP f := by
  obtain ⟨k, ts, rfl, h0, h1, h2, _⟩ := isF_form h
  have hl : k.toNat < ks.length := by omega
  have : ts.length ≤ 2 := by
    rw [h2, List.getD_eq_getElem?_getD, List.getElem?_eq_getElem hl]
    exact hk _ (List.getElem_mem hl)
  intro xs e
  cases e
  refine ⟨by simp, fun y ys q => ?_⟩
  simp only [List.cons.injEq, D.tup.injEq, and_true] at q
  rw [← q.2, List.length_map]
  omega
theorem nn_eq {p : PyData} {d : D} (hp : EH) (h : toPh hp d = some p) (s : SeqAt.shaped p = true) (e : p.eqv p = true) : gNe d d hp = some (.bl false) := by
  unfold gNe dEq
  rw [h]
  simp only [s, and_self, if_true, Option.map_some, e]
  rfl
theorem ne_index (i : Int) (hp : EH) : gNe (.tup [.str "index", .int i]) (.tup [.str "index", .int i]) hp = some (.bl false) := by
  refine nn_eq (p := .tuple [.str "index", .int i]) hp (by simp [toPh, D.toP, D.toPs]) ?_ ?_
  · have : PyData.strOk ("index" : Str) = true := strOk_of _
    simp [SeqAt.shaped, PyData.canLay0, PyData.canLayAll0, this, PyData.depth, PyData.depthAll]
  · simp [PyData.eqv, PyData.eqvAll]
theorem ne_none (hp : EH) : gNe (.tup [.str "index", .non]) (.tup [.str "index", .non]) hp = some (.bl false) := by
  refine nn_eq (p := .tuple [.str "index", .none]) hp (by simp [toPh, D.toP, D.toPs]) ?_ ?_
  · have : PyData.strOk ("index" : Str) = true := strOk_of _
    simp [SeqAt.shaped, PyData.canLay0, PyData.canLayAll0, this, PyData.depth, PyData.depthAll]
  · simp [PyData.eqv, PyData.eqvAll]
theorem eqv_self {ks : List Nat} : ∀ {gs : List D} {ps : List PyData}, (∀ g ∈ gs, isF ks g = true) → D.toPs gs = some ps → PyData.eqvAll ps ps = true
  | [], ps, _, e => by simp [D.toPs] at e; subst e; simp [PyData.eqvAll]
  | g :: gs, ps, h, e => by
    obtain ⟨l, us, rfl, _⟩ := isF_form (h g (by simp))
    simp only [D.toPs, fact_toP] at e
    split at e
    · rename_i p ps' e1 e2
      cases e1
      cases e
      have := eqv_self (gs := gs) (fun y hy => h y (by simp [hy])) e2
      simp [PyData.eqvAll, eqv_fact, this]
    · cases e
theorem ne_facts {ks : List Nat} {gs : List D} (h : ∀ g ∈ gs, isF ks g = true) (hp : EH) : gNe (.tup gs) (.tup gs) hp = some (.bl false) := by
  obtain ⟨ps, a, b, c, _⟩ := facts_data h
  refine nn_eq (p := .tuple ps) hp (by simp [toPh, D.toP, a]) ?_ ?_
  · unfold SeqAt.shaped
    simp [PyData.canLay0, b, PyData.depth]; omega
  · simp [PyData.eqv, eqv_self h a]
end Law
end

section
set_option maxRecDepth 100000
set_option maxHeartbeats 4000000
namespace Law
open PySem PySem.Spec L2 MP MX
theorem keptTo_app (hp : EH) (ex : EH) : keptTo hp.length hp (hp ++ ex) = true := by
  unfold keptTo
  rw [List.all_eq_true]
  intro i hi
  have hl : i < hp.length := List.mem_range.mp hi
  rw [List.getElem?_append_left hl, List.getElem?_eq_getElem hl]
  simp [D.beqs_refl]
theorem runDef_new {N np : Nat} {body : FS} {ds : List D} {hp : EH} {env : Ev} {xs : List D} (hl : ds.length = np) (hb : body (ds.map some ++ List.replicate (N - np) none) hp = some (.ret (.obj hp.length), env, hp ++ [xs])) (ho : oldDs hp.length xs = true) : runDef N np body ds hp = some (.val (.lst xs), hp) := by
  unfold runDef
  rw [if_pos hl, hb]
  simp only
  rw [if_pos (keptTo_app hp _)]
  have h : handed hp.length (hp ++ [xs]) (.obj hp.length) = some (.lst xs) := by simp [handed, ho]
  simp [h]
theorem runDef_bl {N np : Nat} {body : FS} {ds : List D} {hp ex : EH} {env : Ev} {b : Bool} (hl : ds.length = np) (hb : body (ds.map some ++ List.replicate (N - np) none) hp = some (.ret (.bl b), env, hp ++ ex)) : runDef N np body ds hp = some (.val (.bl b), hp) := by
  unfold runDef
  rw [if_pos hl, hb]
  simp only
  rw [if_pos (keptTo_app hp _)]
  simp [handed_bl]
theorem lc_map {g : D → Ev → Option Ev} {f : FE} {env : Ev} {hp : EH} {h : D → D} : ∀ {xs : List D}, (∀ x ∈ xs, ∃ env1, g x env = some env1 ∧ f env1 hp = some (.val (h x), hp)) → lcRun g yes tYesF f env xs hp = some (xs.map h, hp)
  | [], _ => by simp [lcRun, yes]
  | x :: xs, q => by
    obtain ⟨env1, e1, e2⟩ := q x (by simp)
    have ih := lc_map (g := g) (f := f) (env := env) (hp := hp) (h := h) (xs := xs) fun y hy => q y (by simp [hy])
    have ty : ∀ env hp, tYesF env hp = some (.val true, hp) := fun _ _ => rfl
    simp [lcRun, yes, e1, ty, e2, ih]
theorem ext_of {fo : FE} {fa : FA} {env : Ev} {hp : EH} {acc ys : List D} (ho : fo env (hp ++ [acc]) = some (.val (.obj hp.length), hp ++ [acc])) (ha : fa env (hp ++ [acc]) = some (.val [.lst ys], hp ++ [acc])) (hl : acc.length + ys.length ≤ 16777216) : eObjArg fo fa gExt env (hp ++ [acc]) = some (.val .non, hp ++ [acc ++ ys]) := by
  unfold eObjArg
  rw [bnd_of ho]
  simp only
  rw [if_pos (by simp), bnd_of ha]
  simp [gExt, asX, hl]
theorem drop_of {e : FE} {env : Ev} {hp hp1 : EH} {d : D} (h : e env hp = some (.val d, hp1)) : fDrop e env hp = some (.nxt, env, hp1) := by unfold fDrop; rw [fE_of h]; rfl
def rowD (k : Int) : D → List D
  | .int a => rowOf k a
  | _ => []
theorem range_int {n : Nat} {x : D} (h : x ∈ rangeD 0 n) : ∃ i : Int, x = .int i ∧ 0 ≤ i ∧ i < n := by
  unfold rangeD at h
  obtain ⟨i, hi, rfl⟩ := List.mem_map.mp h
  exact ⟨_, rfl, by omega, by have := List.mem_range.mp hi; omega⟩
theorem all_turns (k : Int) (n : Nat) (hp : EH) (hn : n = hp.length) : ∀ (xs acc : List D) (c : Option D), (∀ x ∈ xs, ∃ i : Int, x = .int i) → acc.length + 30 * xs.length ≤ 16777216 →
    ∃ c', fTurns (tgN 2) yes (fDrop (eObjArg (eVar 1) (aCons (eLc (iRange1 (aCons (MP.ret (.int 30)) aNil)) [3] (tgN 3) tYesF (eTup (aCons (eVar 0) (aCons (eTup (aCons (eVar 2) (aCons (eVar 3) aNil))) aNil)))) aNil) gExt)) xs [some (.int k), some (.obj n), c, none] (hp ++ [acc]) = some (.nxt, [some (.int k), some (.obj n), c', none], hp ++ [acc ++ xs.flatMap (rowD k)])
  | [], acc, c, _, _ => ⟨c, by simp [fTurns, yes]⟩
  | x :: xs, acc, c, h, hl => by
    obtain ⟨a, rfl⟩ := h x (by simp)
    let E : Ev := [some (.int k), some (.obj n), some (.int a), none]
    have lc : lcRun (tgN 3) yes tYesF (eTup (aCons (eVar 0) (aCons (eTup (aCons (eVar 2) (aCons (eVar 3) aNil))) aNil))) (wipeE E [3]) (rangeD 0 30) (hp ++ [acc]) = some (rowOf k a, hp ++ [acc]) := lc_map fun y hy => by
      obtain ⟨b, rfl, _⟩ := range_int hy
      exact ⟨_, rfl, tup_of (cons_of rfl (cons_of (tup_of (cons_of rfl (cons_of rfl rfl)) (two _ _)) rfl)) (two _ _)⟩
    have rl : (rowOf k a).length = 30 := by simp [rowOf, rangeD]
    have b1 := drop_of (ext_of (fo := eVar 1) (env := E) (hp := hp) (acc := acc) (ys := rowOf k a) (by show some _ = _; rw [hn]) (cons_of (lc_of (c := yes) (ds := rangeD 0 30) (range_of (n := 30) (cons_of (e := MP.ret (.int 30)) rfl nil_of) (by decide)) lc (by rw [rl]; decide)) nil_of) (by simp at hl; omega))
    obtain ⟨c', e⟩ := all_turns k n hp hn xs (acc ++ rowOf k a) (some (.int a)) (fun y hy => h y (by simp [hy])) (by simp [rl] at hl ⊢; omega)
    refine ⟨c', ?_⟩
    have st := turns_cons (g := tgN 2) (ds := xs) (env := [some (.int k), some (.obj n), c, none]) (show tgN 2 (.int a) [some (.int k), some (.obj n), c, none] = some E from rfl) b1
    rw [List.flatMap_cons, ← List.append_assoc]
    exact st.trans e
theorem row_dv (k a : Int) : dvs (rowOf k a) = true := by
  rw [dvs_mem]
  intro x hx
  unfold rowOf at hx
  obtain ⟨b, hb, rfl⟩ := List.mem_map.mp hx
  obtain ⟨i, rfl, _⟩ := range_int hb
  rfl
theorem facts_flat (k : Int) : (rangeD 0 30).flatMap (rowD k) = factsOf k := rfl
theorem factsOf_dv (k : Int) : dvs (factsOf k) = true := by
  rw [dvs_mem]
  intro x hx
  rw [← facts_flat] at hx
  obtain ⟨a, ha, hx⟩ := List.mem_flatMap.mp hx
  obtain ⟨i, rfl, _⟩ := range_int ha
  exact dvs_mem.mp (row_dv k i) x hx
theorem all_facts_ok (k : Int) (hp : EH) : m__law_all_facts [.int k] hp = some (.val (.lst (factsOf k)), hp) := by
  obtain ⟨c', e⟩ := all_turns k hp.length hp rfl (rangeD 0 30) [] none (fun x hx => by
    obtain ⟨i, rfl, _⟩ := range_int hx
    exact ⟨i, rfl⟩) (by simp [rangeD])
  rw [facts_flat, List.nil_append] at e
  refine runDef_new (env := [some (.int k), some (.obj hp.length), c', none]) rfl ?_ (dvs_old _ (factsOf_dv k))
  refine (seq_of (env1 := [some (.int k), some (.obj hp.length), none, none]) (hp1 := hp ++ [[]]) (asg_of (d := .obj hp.length) (hp1 := hp ++ [[]]) rfl rfl)).trans ?_
  exact (seq_of ((for_of (range_of (n := 30) (cons_of rfl rfl) (by decide))).trans e)).trans (ret_of rfl)
def factsD : D → List D
  | .int k => factsOf k
  | _ => []
theorem many_turns (n : Nat) (hp : EH) (hn : n = hp.length) : ∀ (xs acc : List D) (c : Option D), (∀ x ∈ xs, ∃ i : Int, x = .int i) → acc.length + 900 * xs.length ≤ 16777216 →
    ∃ c', fTurns (tgN 1) yes (fDrop (eObjArg (eVar 0) (aCons (eFn m__law_all_facts (aCons (eVar 1) aNil)) aNil) gExt)) xs [some (.obj n), c, none, none, none, none] (hp ++ [acc]) = some (.nxt, [some (.obj n), c', none, none, none, none], hp ++ [acc ++ xs.flatMap factsD])
  | [], acc, c, _, _ => ⟨c, by simp [fTurns, yes]⟩
  | x :: xs, acc, c, h, hl => by
    obtain ⟨a, rfl⟩ := h x (by simp)
    let E : Ev := [some (.obj n), some (.int a), none, none, none, none]
    have rl : (factsOf a).length = 900 := by
      rw [← facts_flat]
      have : ∀ l : List D, (∀ y ∈ l, ∃ i : Int, y = .int i) → (l.flatMap (rowD a)).length = 30 * l.length := fun l => by
        induction l with
        | nil => intro _; rfl
        | cons y l ih =>
          intro q
          obtain ⟨i, rfl⟩ := q y (by simp)
          rw [List.flatMap_cons, List.length_append, ih fun z hz => q z (by simp [hz]), List.length_cons]
          have : (rowD a (.int i)).length = 30 := by simp [rowD, rowOf, rangeD]
          omega
      rw [this _ fun y hy => by
        obtain ⟨i, rfl, _⟩ := range_int hy
        exact ⟨i, rfl⟩, range_len]
    have b1 := drop_of (ext_of (fo := eVar 0) (env := E) (hp := hp) (acc := acc) (ys := factsOf a) (by show some _ = _; rw [hn]) (cons_of (fn_of' (cons_of (e := eVar 1) rfl nil_of) (all_facts_ok a (hp ++ [acc]))) nil_of) (by simp at hl; omega))
    obtain ⟨c', e⟩ := many_turns n hp hn xs (acc ++ factsOf a) (some (.int a)) (fun y hy => h y (by simp [hy])) (by simp [rl] at hl ⊢; omega)
    refine ⟨c', ?_⟩
    have st := turns_cons (g := tgN 1) (ds := xs) (env := [some (.obj n), c, none, none, none, none]) (show tgN 1 (.int a) [some (.obj n), c, none, none, none, none] = some E from rfl) b1
    rw [List.flatMap_cons, ← List.append_assoc]
    exact st.trans e
theorem all_flat : (rangeD 0 6).flatMap factsD = allF := rfl
end Law
end

section
set_option maxRecDepth 100000
set_option maxHeartbeats 4000000
namespace Law
open PySem PySem.Spec L2 MP MX
theorem par_of {fa : FA} {i j : Nat} {env : Ev} {hp hp1 : EH} {a b : D} (h : fa env hp = some (.val [a, b], hp1)) : fPar fa i j env hp = some (.nxt, (env.set i (some a)).set j (some b), hp1) := by
  unfold fPar; rw [fE_of h]
theorem turns_id {S : Type} {E : S → Ev} {tg : D → Ev → Option Ev} {body : FS} {hp : EH} : ∀ (xs : List D), (∀ x ∈ xs, ∀ s, ∃ s1 s2, tg x (E s) = some (E s1) ∧ body (E s1) hp = some (.nxt, E s2, hp)) → ∀ s, ∃ s', fTurns tg yes body xs (E s) hp = some (.nxt, E s', hp)
  | [], _, s => ⟨s, by simp [fTurns, yes]⟩
  | x :: xs, h, s => by
    obtain ⟨s1, s2, e1, e2⟩ := h x (by simp) s
    obtain ⟨s', e⟩ := turns_id xs (fun y hy => h y (by simp [hy])) s2
    exact ⟨s', (turns_cons e1 e2).trans e⟩
theorem tup_getD {xs : List D} {a : Nat} (h : a < xs.length) (hp : EH) : gIx (.tup xs) (.int (a : Int)) hp = some (xs.getD a .non) := by
  rw [tup_at h hp, List.getD_eq_getElem?_getD, List.getElem?_eq_getElem h]; rfl
theorem short_big {xs : List D} (h : 3 ≤ xs.length) (h2 : xs.length ≤ 16777216) : shortP (.tup xs) := by
  intro ys e
  cases e
  refine ⟨h2, fun y zs q => ?_⟩
  rw [q] at h
  simp at h
theorem two6 : ∀ k ∈ ks6, k ≤ 2 := by decide
theorem req_all (hp : EH) : m_require_facts [kd ks6, .tup allF] hp = some (.val (.tup allF), hp) := by
  have d1 : dv (.tup allF) = true := by
    simp only [dv]
    exact dvs_mem.mpr fun f hf => fact_dv (allF_is f hf)
  have r := require_ok (ks := ks6) d1 (short_big (by rw [all_len]; decide) (by rw [all_len]; decide)) (fun xs e x hx => by cases e; exact fact_short (allF_is x hx) two6) hp (dv_old _ _ d1)
  have fb : firstBad (isF ks6) ltF [] allF = none := by
    have := fb_chain (ok := isF ks6) (lt := ltF) (rest := []) allF [] allF_is all_chain (fun p x e => by cases e)
    rw [List.append_nil] at this
    rw [this]
    rfl
  rw [r]
  simp only [reqS, all_len, fb]
  rfl
theorem told_more (hp : EH) : m__law_told [kd ks6, .tup (allF ++ [fct 0 0 0])] hp = some (.val (.tup [.str "index", .non]), hp) := by
  have fx : ∀ x ∈ allF ++ [fct 0 0 0], isF ks6 x = true := fun x hx => by
    rcases List.mem_append.mp hx with z | z
    · exact allF_is x z
    · rw [List.mem_singleton] at z; subst z; decide
  have d1 : dv (.tup (allF ++ [fct 0 0 0])) = true := by
    simp only [dv]
    exact dvs_mem.mpr fun f hf => fact_dv (fx f hf)
  have l : (allF ++ [fct 0 0 0]).length = 5401 := by rw [List.length_append, all_len]; rfl
  have r := told_ok (ks := ks6) d1 (short_big (by rw [l]; decide) (by rw [l]; decide)) (fun xs e x hx => by cases e; exact fact_short (fx x hx) two6) hp (dv_old _ _ d1)
  rw [r]
  simp only [toldS, l]
  rfl
theorem told_at {a : Nat} (ha : a = 20 ∨ a = 700 ∨ a = 5399) {odd : D} (ho : odd = fct 0 0 30 ∨ odd = allF.getD (a - 1) .non ∨ odd = .non) (hp : EH) : m__law_told [kd ks6, .tup ((allF.take a ++ [odd]) ++ allF.drop (a + 1))] hp = some (.val (.tup [.str "index", .int (a : Int)]), hp) := by
  have al : 1 ≤ a ∧ a < 5400 := by omega
  have lt : (allF.take a).length = a := by rw [List.length_take, all_len]; omega
  have pm : allF.getD (a - 1) .non ∈ allF := by
    rw [List.getD_eq_getElem?_getD, List.getElem?_eq_getElem (by rw [all_len]; omega)]
    exact List.getElem_mem _
  have od : dv odd = true ∧ shortP odd := by
    rcases ho with rfl | rfl | rfl
    · refine ⟨rfl, ?_⟩
      intro xs e
      cases e
      refine ⟨by simp, fun y ys q => ?_⟩
      simp only [List.cons.injEq, D.tup.injEq, and_true] at q
      rw [← q.2]; simp
    · exact ⟨fact_dv (allF_is _ pm), fact_short (allF_is _ pm) two6⟩
    · exact ⟨rfl, fun xs e => by cases e⟩
  have mem : ∀ x ∈ (allF.take a ++ [odd]) ++ allF.drop (a + 1), x = odd ∨ x ∈ allF := fun y hy => by
    rcases List.mem_append.mp hy with z | z
    · rcases List.mem_append.mp z with z | z
      · exact .inr (List.mem_of_mem_take z)
      · rw [List.mem_singleton] at z; exact .inl z
    · exact .inr (List.mem_of_mem_drop z)
  have d1 : dv (.tup ((allF.take a ++ [odd]) ++ allF.drop (a + 1))) = true := by
    simp only [dv]
    refine dvs_mem.mpr fun f hf => ?_
    rcases mem f hf with rfl | z
    · exact od.1
    · exact fact_dv (allF_is f z)
  have l : ((allF.take a ++ [odd]) ++ allF.drop (a + 1)).length = 5400 := by
    rw [List.length_append, List.length_append, lt, List.length_drop, all_len]; simp; omega
  have r := told_ok (ks := ks6) d1 (short_big (by rw [l]; decide) (by rw [l]; decide)) (fun xs e x hx => by
    cases e
    rcases mem x hx with rfl | z
    · exact od.2
    · exact fact_short (allF_is x z) two6) hp (dv_old _ _ d1)
  have bad : goodAt (isF ks6) ltF (allF.take a) odd = false := by
    rcases ho with rfl | rfl | rfl
    · have : isF ks6 (fct 0 0 30) = false := by decide
      simp [goodAt, this]
    · have e : (allF.take a).getLast? = some (allF.getD (a - 1) .non) := by
        rw [List.getLast?_eq_getElem?, lt, List.getElem?_take_of_lt (by omega), List.getD_eq_getElem?_getD, List.getElem?_eq_getElem (by rw [all_len]; omega)]
        rfl
      simp only [goodAt, e, all_self a ha, Bool.and_false]
    · have : isF ks6 .non = false := rfl
      simp [goodAt, this]
  have fb : firstBad (isF ks6) ltF [] ((allF.take a ++ [odd]) ++ allF.drop (a + 1)) = some a := by
    rw [List.append_assoc, fb_chain (allF.take a) [] (fun x hx => allF_is x (List.mem_of_mem_take hx)) (chain_take _ _ all_chain) (fun p x e => by cases e)]
    show firstBad (isF ks6) ltF (allF.take a) (odd :: allF.drop (a + 1)) = some a
    rw [firstBad, if_neg (by rw [bad]; exact Bool.false_ne_true), lt]
  rw [r]
  simp only [toldS, l, fb]
  rfl
theorem among_out {a : Nat} (ha : a = 0 ∨ a = 20 ∨ a = 700 ∨ a = 5399) (hp : EH) : m_are_among [.tup allF, .tup (allF.take a ++ allF.drop (a + 1))] hp = some (.val (.bl false), hp) := by
  have mem : ∀ x ∈ allF.take a ++ allF.drop (a + 1), x ∈ allF := fun x hx => by
    rcases List.mem_append.mp hx with z | z
    · exact List.mem_of_mem_take z
    · exact List.mem_of_mem_drop z
  have l : (allF.take a ++ allF.drop (a + 1)).length < 9000 := by
    rw [List.length_append, List.length_take, List.length_drop, all_len]; omega
  rw [among_ok allF_is (fun g hg => allF_is g (mem g hg)) l hp]
  have pm : allF.getD a .non ∈ allF := by
    rw [List.getD_eq_getElem?_getD, List.getElem?_eq_getElem (by rw [all_len]; omega)]
    exact List.getElem_mem _
  have : amongS allF (allF.take a ++ allF.drop (a + 1)) = false := by
    unfold amongS
    rw [List.all_eq_false]
    exact ⟨_, pm, by rw [all_out a ha]; exact Bool.false_ne_true⟩
  rw [this]
theorem among_in {fs : List D} (h : ∀ f ∈ fs, f ∈ allF) (hp : EH) : m_are_among [.tup fs, .tup allF] hp = some (.val (.bl true), hp) := by
  rw [among_ok (fun f hf => allF_is f (h f hf)) allF_is (by rw [all_len]; decide) hp]
  have : amongS fs allF = true := by
    unfold amongS
    rw [List.all_eq_true]
    exact fun f hf => memF_iff.mpr (h f hf)
  rw [this]
end Law
end

section
set_option maxRecDepth 100000
set_option maxHeartbeats 4000000
namespace Law
open PySem PySem.Spec L2 MP MX
theorem cast_sub {a : Nat} (h : 1 ≤ a) : (a : Int) - 1 = ((a - 1 : Nat) : Int) := by omega
theorem many_ok (hp : EH) : m__law_many_right [] hp = some (.val (.bl true), hp) := by
  let hpB := hp ++ [allF]
  obtain ⟨c', e1⟩ := many_turns hp.length hp rfl (rangeD 0 6) [] none (fun x hx => by
    obtain ⟨i, rfl, _⟩ := range_int hx
    exact ⟨i, rfl⟩) (by simp [rangeD])
  rw [all_flat, List.nil_append] at e1
  have len9 : allF.length ≤ 10000 := by rw [all_len]; decide
  let E : Option D × Option D → Ev := fun s => [some (.obj hp.length), c', some (.tup allF), some (kd ks6), s.1, s.2]
  have ob : eVar 0 [some (.obj hp.length), c', none, none, none, none] hpB = some (.val (.obj hp.length), hpB) := rfl
  have tp : gTuple [.obj hp.length] hpB = some (.tup allF) := by simp [gTuple, asQ, hpB]
  have mu : gMul (.tup [.int 2]) (.int 6) hpB = some (kd ks6) := rfl
  have par : fPar (aCons (eCall gTuple (aCons (eVar 0) aNil)) (aCons (eBin gMul (eTup (aCons (MP.ret (.int 2)) aNil)) (MP.ret (.int 6))) aNil)) 2 3 [some (.obj hp.length), c', none, none, none, none] hpB = some (.nxt, E (none, none), hpB) :=
    par_of (cons_of (call_of (cons_of ob nil_of) tp) (cons_of (bin_of (tup_of (cons_of rfl nil_of) (by simp)) rfl mu) nil_of))
  have add1 : gAdd (.tup allF) (.tup [fct 0 0 0]) hpB = some (.tup (allF ++ [fct 0 0 0])) := gAdd_tup _ (by simp; omega)
  have test1 : MP.tOr (MP.tB (eBin gNe (eFn m_require_facts (aCons (eVar 3) (aCons (eVar 2) aNil))) (eVar 2))) (MP.tB (eBin gNe (eFn m__law_told (aCons (eVar 3) (aCons (eBin gAdd (eVar 2) (eTup (aCons (eTup (aCons (MP.ret (.int 0)) (aCons (eTup (aCons (MP.ret (.int 0)) (aCons (MP.ret (.int 0)) aNil))) aNil))) aNil))) aNil))) (eTup (aCons (MP.ret (.str "index")) (aCons (MP.ret .non) aNil))))) (E (none, none)) hpB = some (.val false, hpB) :=
    (tOr_f (tB_of (bin_of (fn_of' (cons_of rfl (cons_of rfl nil_of)) (req_all hpB)) rfl (ne_facts allF_is hpB)))).trans
      (tB_of (bin_of (fn_of' (cons_of rfl (cons_of (bin_of rfl (tup_of (cons_of (tup_of (cons_of rfl (cons_of (tup_of (cons_of rfl (cons_of rfl nil_of)) (by simp)) nil_of)) (by simp)) nil_of) (by simp)) add1) nil_of)) (told_more hpB)) (tup_of (cons_of rfl (cons_of rfl nil_of)) (by simp)) (ne_none hpB)))
  have inner : ∀ (a : Nat), (a = 20 ∨ a = 700 ∨ a = 5399) → ∀ o, ∃ o', fTurns (tgN 5) yes (fIf (MP.tB (eBin gNe (eFn m__law_told (aCons (eVar 3) (aCons (eBin gAdd (eBin gAdd (eCut (eVar 2) (MP.ret none) (oSome (eVar 4))) (eTup (aCons (eVar 5) aNil))) (eCut (eVar 2) (oSome (eBin gAdd (eVar 4) (MP.ret (.int 1)))) (MP.ret none))) aNil))) (eTup (aCons (MP.ret (.str "index")) (aCons (eVar 4) aNil))))) (fRet (MP.ret (.bl false))) fNext)
      [fct 0 0 30, allF.getD (a - 1) .non, .non] (E (some (.int (a : Int)), o)) hpB = some (.nxt, E (some (.int (a : Int)), o'), hpB) := fun a ha o => by
    have al : 1 ≤ a ∧ a < 5400 := by omega
    refine turns_id (E := fun o => E (some (.int (a : Int)), o)) _ (fun x hx s => ⟨some x, some x, rfl, ?_⟩) o
    have ho : x = fct 0 0 30 ∨ x = allF.getD (a - 1) .non ∨ x = .non := by simpa using hx
    refine (if_f (tB_of (bin_of (fn_of' (cons_of rfl (cons_of (bin_of (bin_of (cut_of' rfl rfl (some_of rfl) (by rw [gCut, cut_left (by rw [all_len]; omega)])) (tup_of (cons_of rfl nil_of) (by simp)) (gAdd_tup hpB ?_)) (cut_of' rfl (some_of (bin_of rfl rfl (show gAdd (.int (a : Int)) (.int 1) hpB = some (.int ((a + 1 : Nat) : Int)) by simp [gAdd]))) rfl (by rw [gCut, cut_right (by rw [all_len]; omega)])) (gAdd_tup hpB ?_)) nil_of)) (told_at ha ho hpB)) (tup_of (cons_of rfl (cons_of rfl nil_of)) (by simp)) (ne_index a hpB)))).trans rfl
    · rw [List.length_take]; simp; omega
    · rw [List.length_append, List.length_take, List.length_drop]; simp; omega
  have outer : ∃ s', fTurns (tgN 4) yes (fSeq (fFor (iSeq (eTup (aCons (eTup (aCons (MP.ret (.int 0)) (aCons (eTup (aCons (MP.ret (.int 0)) (aCons (MP.ret (.int 30)) aNil))) aNil))) (aCons (eBin gIx (eVar 2) (eBin MP.gSub (eVar 4) (MP.ret (.int 1)))) (aCons (MP.ret .non) aNil))))) (tgN 5) (fIf (MP.tB (eBin gNe (eFn m__law_told (aCons (eVar 3) (aCons (eBin gAdd (eBin gAdd (eCut (eVar 2) (MP.ret none) (oSome (eVar 4))) (eTup (aCons (eVar 5) aNil))) (eCut (eVar 2) (oSome (eBin gAdd (eVar 4) (MP.ret (.int 1)))) (MP.ret none))) aNil))) (eTup (aCons (MP.ret (.str "index")) (aCons (eVar 4) aNil))))) (fRet (MP.ret (.bl false))) fNext))
      (fIf (MP.tB (eFn m_are_among (aCons (eVar 2) (aCons (eBin gAdd (eCut (eVar 2) (MP.ret none) (oSome (eVar 4))) (eCut (eVar 2) (oSome (eBin gAdd (eVar 4) (MP.ret (.int 1)))) (MP.ret none))) aNil)))) (fRet (MP.ret (.bl false))) fNext)) [.int 20, .int 700, .int 5399] (E (none, none)) hpB = some (.nxt, E s', hpB) := by
    refine turns_id (E := E) _ (fun x hx s => ?_) (none, none)
    obtain ⟨a, ha, rfl⟩ : ∃ a : Nat, (a = 20 ∨ a = 700 ∨ a = 5399) ∧ x = .int (a : Int) := by
      simp at hx
      rcases hx with rfl | rfl | rfl
      · exact ⟨20, .inl rfl, rfl⟩
      · exact ⟨700, .inr (.inl rfl), rfl⟩
      · exact ⟨5399, .inr (.inr rfl), rfl⟩
    have al : 1 ≤ a ∧ a < 5400 := by omega
    obtain ⟨o', ei⟩ := inner a ha s.2
    have sub : MP.gSub (.int (a : Int)) (.int 1) hpB = some (.int ((a - 1 : Nat) : Int)) := by
      have := cast_sub al.1
      simp [MP.gSub, iOp, this]
    have gi := tup_getD (xs := allF) (a := a - 1) (by rw [all_len]; omega) hpB
    refine ⟨(some (.int (a : Int)), s.2), (some (.int (a : Int)), o'), rfl, ?_⟩
    refine (seq_of ((for_of (seq_tup (tup_of (cons_of (tup_of (cons_of rfl (cons_of (tup_of (cons_of rfl (cons_of rfl nil_of)) (by simp)) nil_of)) (by simp)) (cons_of (bin_of rfl (bin_of rfl rfl sub) gi) (cons_of rfl nil_of))) (by simp)))).trans ei)).trans ?_
    refine (if_f (tB_of (fn_of' (cons_of rfl (cons_of (bin_of (cut_of' rfl rfl (some_of rfl) (by rw [gCut, cut_left (by rw [all_len]; omega)])) (cut_of' rfl (some_of (bin_of rfl rfl (show gAdd (.int (a : Int)) (.int 1) hpB = some (.int ((a + 1 : Nat) : Int)) by simp [gAdd]))) rfl (by rw [gCut, cut_right (by rw [all_len]; omega)])) (gAdd_tup hpB ?_)) nil_of)) (among_out (.inr ha) hpB)))).trans rfl
    rw [List.length_take, List.length_drop]; omega
  obtain ⟨s', e2⟩ := outer
  have c1 : cutD allF (some 1) none = allF.take 0 ++ allF.drop (0 + 1) := by
    have := cut_right (xs := allF) (a := 1) (by rw [all_len]; decide)
    exact this
  have last : eAnd (eFn m_are_among (aCons (eVar 2) (aCons (eVar 2) aNil))) (eAnd (eNot (eFn m_are_among (aCons (eVar 2) (aCons (eCut (eVar 2) (oSome (MP.ret (.int 1))) (MP.ret none)) aNil)))) (eFn m_are_among (aCons (eCut (eVar 2) (oSome (MP.ret (.int 7))) (oSome (MP.ret (.int 9)))) (aCons (eVar 2) aNil)))) (E s') hpB = some (.val (.bl true), hpB) :=
    (and_t (fn_of' (cons_of rfl (cons_of rfl nil_of)) (among_in (fun f hf => hf) hpB))).trans
      ((and_t (not_of (b := false) (fn_of' (cons_of rfl (cons_of (cut_of' rfl (some_of rfl) rfl (by rw [gCut, c1])) nil_of)) (among_out (.inl rfl) hpB)))).trans
        (fn_of' (cons_of (cut_of' rfl (some_of rfl) (some_of rfl) rfl) (cons_of rfl nil_of)) (among_in (fun f hf => cut_mem hf) hpB)))
  refine runDef_bl (ex := [allF]) (env := E s') rfl ?_
  refine (seq_of (env1 := [some (.obj hp.length), none, none, none, none, none]) (hp1 := hp ++ [[]]) (asg_of (d := .obj hp.length) (hp1 := hp ++ [[]]) rfl rfl)).trans ?_
  refine (seq_of ((for_of (range_of (n := 6) (cons_of (e := MP.ret (.int 6)) rfl nil_of) (by decide))).trans e1)).trans ?_
  refine (seq_of par).trans ((seq_of (if_f test1)).trans ?_)
  exact (seq_of ((for_of (seq_tup (tup_of (cons_of rfl (cons_of rfl (cons_of rfl nil_of))) (by simp)))).trans e2)).trans (ret_of last)
end Law
end

section
set_option maxRecDepth 100000
set_option maxHeartbeats 4000000
namespace Law
open PySem PySem.Spec L2 MP MX
/-! the law itself -/
abbrev partV2c : FT := (MP.tOr (MP.tB (eBin gNe (eCall gReprX (aCons (eFn m__law_told (aCons (eVar 3) (aCons (eVar 7) aNil))) aNil)) (eCall gReprX (aCons (eFn m__law_due (aCons (eVar 3) (aCons (eVar 7) aNil))) aNil)))) (MP.tB (eBin gNe (eCall gReprX (aCons (eVar 7) aNil)) (eVar 8))))
abbrev partVFsrc : FI := (iSeq (eIf (MP.tB (eIsi "tuple" (eVar 7))) (eBin gAdd (eCut (eCall gList (aCons (eVar 7) aNil)) (MP.ret none) (oSome (MP.ret (.int 4)))) (eLst (aCons (eVar 7) aNil))) (eLst (aCons (eVar 7) aNil))))
abbrev partVFb : FS := (fIf (MP.tB (eBin gNe (eCall gReprX (aCons (eFn m_is_fact (aCons (eVar 3) (aCons (eVar 9) aNil))) aNil)) (eCall gReprX (aCons (eFn m__law_is_right (aCons (eVar 3) (aCons (eVar 9) aNil))) aNil)))) (fRet (MP.ret (.bl false))) fNext)
abbrev partBV : FS := fSeq (fAsg (eCall gReprX (aCons (eVar 7) aNil)) (tgN 8)) (fSeq (fIf partV2c (fRet (MP.ret (.bl false))) fNext) (fFor partVFsrc (tgN 9) partVFb))
abbrev partL1 : FS := (fAsg (eFn m__law_drawn_kinds (aCons (eVar 1) aNil)) (tgN 3))
abbrev partL2 : FS := (fAsg (eTup (aCons (eFn m__law_drawn_facts (aCons (eVar 1) (aCons (eVar 3) (aCons (MP.ret (.int 6)) aNil)))) (aCons (eFn m__law_drawn_facts (aCons (eVar 1) (aCons (eVar 3) (aCons (MP.ret (.int 6)) aNil)))) aNil))) (tgT 2 (tgCons (tgN 4) (tgCons (tgN 5) tgNil))))
abbrev partL3 : FS := (fAsg (eLst (aCons (eVar 4) (aCons (eRev (eVar 4)) (aCons (eBin gAdd (eVar 4) (eCut (eVar 4) (oSome (MP.eNeg (MP.ret (.int 1)))) (MP.ret none))) (aCons (eCall gList (aCons (eVar 4) aNil)) (aCons (eBin gAdd (eVar 4) (eVar 5)) (aCons (eFn m__law_odd (aCons (eVar 1) aNil)) aNil))))))) (tgN 6))
abbrev partL4 : FS := (fAsg (eBin gAdd (eVar 6) (eLc (iSeq (eTup (aCons (MP.ret (.int 1)) (aCons (MP.ret (.int 2)) (aCons (MP.ret (.int 3)) (aCons (MP.ret (.int 3)) (aCons (MP.ret (.int 3)) aNil))))))) [10] (tgN 10) tYesF (eFn (m__law_bent 10) (aCons (eVar 1) (aCons (eVar 4) (aCons (eVar 10) aNil)))))) (tgN 6))
abbrev partLFsrc : FI := (iSeq (eBin gAdd (eVar 6) (eLst (aCons (eTup (aCons (eTup (aCons (MP.ret (.int 0)) (aCons (eBin gMul (eTup (aCons (MP.ret (.int 30)) aNil)) (eBin gIx (eVar 3) (MP.ret (.int 0)))) aNil))) aNil)) (aCons (eTup (aCons (eTup (aCons (MP.ret (.int 0)) (aCons (eBin gMul (eTup (aCons (MP.ret (.int 29)) aNil)) (eBin gIx (eVar 3) (MP.ret (.int 0)))) aNil))) aNil)) (aCons (eTup (aCons (eTup (aCons (eCall gLen (aCons (eVar 3) aNil)) (aCons (eTup aNil) aNil))) aNil)) aNil))))))
abbrev partL6c : FT := (MP.tB (eBin gNe (eCall gReprX (aCons (eFn m_are_among (aCons (eVar 4) (aCons (eVar 5) aNil))) aNil)) (eCall gReprX (aCons (eBin gEq (eLc (iSeq (eVar 4)) [9] (tgN 9) (MP.tB (eBin gNinX (eVar 9) (eVar 5))) (MP.ret (.int 1))) (eLst aNil)) aNil))))
abbrev partLap : FS := fSeq partL1 (fSeq partL2 (fSeq partL3 (fSeq partL4 (fSeq (fFor partLFsrc (tgN 7) partBV) (fIf partL6c (fRet (MP.ret (.bl false))) fNext)))))
abbrev partBc : FT := (MP.tAnd (MP.tB (eBin gEq (eFn m__law_draw (aCons (eVar 1) (aCons (MP.ret (.int 6)) aNil))) (MP.ret (.int 5)))) (MP.tNot (MP.tB (eFn m__law_many_right aNil))))
theorem law_eq : b_law = fSeq (fAsg (eFn m__law_pen (aCons (eVar 0) aNil)) (tgN 1)) (fSeq (fIf partBc (fRet (MP.ret (.bl false))) fNext) (fSeq (fFor (iRange1 (aCons (MP.ret (.int 6)) aNil)) (tgN 2) partLap) (fRet (MP.ret (.bl true))))) := rfl
theorem gd_sh {n k : Nat} {d : D} (h : Gd n k d) (hn : n ≤ 100000) (hk : k ≤ 40) : Sh d := ⟨h.ok, by have := h.sz; omega, by have := h.dep; omega, h.one⟩
theorem dv_obj {d : D} (h : dv d = true) : ∀ i, d ≠ .obj i := fun i e => by rw [e] at h; cases h
theorem rep_of {d : D} (h : Sh d) (hd : dv d = true) (hp : EH) : ∃ S, gReprX [d] hp = some (.str S) ∧ gNe (.str S) (.str S) hp = some (.bl false) := by
  obtain ⟨S, e, q⟩ := sh_repr h hp (dv_obj hd)
  refine ⟨S, e, nn_eq (p := .str S) hp (by simp [toPh, D.toP]) ?_ (by simp [PyData.eqv])⟩
  simp [SeqAt.shaped, PyData.canLay0, q, PyData.depth]
theorem gd_short {n k : Nat} {v : D} (h : Gd n k v) (hn : n ≤ 100000) : shortP v := by
  have hz := h.sz
  intro xs e
  subst e
  have l := szs_len xs
  simp only [sz] at hz
  refine ⟨by omega, fun y ys q => ?_⟩
  subst q
  have l2 := szs_len ys
  simp [szs, sz] at hz
  omega
theorem gd_shorts {n k : Nat} {v : D} (h : Gd n k v) (hn : n ≤ 100000) : ∀ xs, v = .tup xs → ∀ x ∈ xs, shortP x := by
  have hz := h.sz
  intro xs e x hx
  subst e
  have m := sz_mem hx
  simp only [sz] at hz
  intro ys e2
  subst e2
  have l := szs_len ys
  simp only [sz] at m
  refine ⟨by omega, fun y zs q => ?_⟩
  subst q
  have l2 := szs_len zs
  simp [szs, sz] at m
  omega
theorem fb_le {ok : D → Bool} {lt : D → D → Bool} : ∀ (xs pre : List D) (i : Nat), firstBad ok lt pre xs = some i → i < pre.length + xs.length
  | [], pre, i, h => by simp [firstBad] at h
  | x :: xs, pre, i, h => by
    rw [firstBad] at h
    split at h
    · have := fb_le xs (pre ++ [x]) i h
      simp at this ⊢
      omega
    · cases h
      simp
theorem told_sh {n k : Nat} {ks : List Nat} {v : D} (h : Gd n k v) (hn : n ≤ 90000) (hk : k ≤ 30) : Sh (toldS ks v) ∧ dv (toldS ks v) = true := by
  have six1 : ("index" : Str) ∈ sixS := by simp [sixS]
  have six2 : ("told" : Str) ∈ sixS := by simp [sixS]
  have sz1 : (("index" : Str)).cps.size = 5 := by decide +kernel
  have sz2 : (("told" : Str)).cps.size = 4 := by decide +kernel
  have idx : ∀ x : D, okD x = true → sz x = 0 → dep x = 0 → noDic x = true → dv x = true → Sh (.tup [.str "index", x]) ∧ dv (.tup [.str "index", x]) = true := fun x a b c d e => by
    refine ⟨⟨by simp [okD, okDs, six1, a], by simp [sz, szs, sz1, b], by simp [dep, deps, c], .inl (by simp [noDic, noDics, d])⟩, by simp [dv, dvs, e]⟩
  have hz := h.sz
  have hd := h.dep
  have nonc := idx .non rfl (by simp [sz]) (by simp [dep]) rfl rfl
  unfold toldS
  split
  · rename_i xs
    split
    · rename_i hl
      split
      · have ox : okDs xs = true := by simpa [okD] using h.ok
        refine ⟨⟨by simp [okD, okDs, six2, ox], ?_, ?_, ?_⟩, ?_⟩
        · simp only [sz] at hz
          simp [sz, szs, sz2]; omega
        · simp only [dep] at hd
          simp [dep, deps]; omega
        · rcases h.one with z | z
          · exact .inl (by simpa [noDic, noDics] using z)
          · exact .inr (by simpa [noLst, noLsts] using z)
        · simpa [dv, dvs] using h.dv
      · rename_i i hb
        have := fb_le xs [] i hb
        refine idx _ ?_ (by simp [sz]) (by simp [dep]) rfl rfl
        simp only [okD, decide_eq_true_eq]
        have : (i : Int).natAbs = i := by simp
        rw [this]
        simp at *
        omega
    · exact nonc
  · exact nonc
section
variable {a0 a1 a2 a4 a5 a6 a10 : Option D} {ks : List Nat}
abbrev EV (a0 a1 a2 a4 a5 a6 a10 : Option D) (ks : List Nat) (s : Option D × Option D × Option D) : Ev := [a0, a1, a2, some (kd ks), a4, a5, a6, s.1, s.2.1, s.2.2, a10]
theorem list_cut {xs : List D} (hp : EH) : gCut (.lst xs) none (some 4) hp = some (.lst (cutD xs none (some 4))) := by simp [gCut, asL]
theorem cat_lst {a b : List D} (hp : EH) (h : a.length + b.length ≤ 16777216) : gAdd (.lst a) (.lst b) hp = some (.lst (a ++ b)) := by simp [gAdd, gCatL, asL, h]
theorem val_turn {n k : Nat} {v : D} (h : Gd n k v) (hn : n ≤ 90000) (hk : k ≤ 30) (hp : EH) (s2 : Option D × Option D) : ∃ s', partBV (EV a0 a1 a2 a4 a5 a6 a10 ks (some v, s2)) hp = some (.nxt, EV a0 a1 a2 a4 a5 a6 a10 ks s', hp) := by
  have sh := gd_sh h (by omega) (by omega)
  obtain ⟨S, r1, q1⟩ := rep_of sh h.dv hp
  obtain ⟨tsh, tdv⟩ := told_sh (ks := ks) h hn hk
  obtain ⟨S2, r2, q2⟩ := rep_of tsh tdv hp
  have sp := gd_short h (by omega)
  have sps := gd_shorts h (by omega)
  have ho := dv_old hp.length v h.dv
  have told := told_ok (ks := ks) h.dv sp sps hp ho
  have due := due_ok (ks := ks) h.dv sp sps hp ho
  let E1 : Ev := EV a0 a1 a2 a4 a5 a6 a10 ks (some v, some (.str S), s2.2)
  have first : fAsg (eCall gReprX (aCons (eVar 7) aNil)) (tgN 8) (EV a0 a1 a2 a4 a5 a6 a10 ks (some v, s2)) hp = some (.nxt, E1, hp) := asg_of (call_of (cons_of (e := eVar 7) rfl nil_of) r1) rfl
  have test : partV2c E1 hp = some (.val false, hp) :=
    (tOr_f (tB_of (bin_of (call_of (cons_of (fn_of' (cons_of rfl (cons_of rfl nil_of)) told) nil_of) r2) (call_of (cons_of (fn_of' (cons_of rfl (cons_of rfl nil_of)) due) nil_of) r2) q2))).trans
      (tB_of (bin_of (call_of (cons_of rfl nil_of) r1) rfl q1))
  have inner : ∀ l : List D, (∀ x ∈ l, dv x = true ∧ shortP x) → ∃ f', fTurns (tgN 9) yes partVFb l E1 hp = some (.nxt, EV a0 a1 a2 a4 a5 a6 a10 ks (some v, some (.str S), f'), hp) := fun l hl => by
    obtain ⟨f', e⟩ := turns_id (E := fun f => EV a0 a1 a2 a4 a5 a6 a10 ks (some v, some (.str S), f)) (tg := tgN 9) (body := partVFb) (hp := hp) l (fun x hx f => by
      obtain ⟨dx, sx⟩ := hl x hx
      have bsh : Sh (.bl (isF ks x)) := ⟨rfl, by simp [sz], by simp [dep], .inl rfl⟩
      obtain ⟨S3, r3, q3⟩ := rep_of bsh rfl hp
      refine ⟨some x, some x, rfl, (if_f (tB_of (bin_of (call_of (cons_of (fn_of' (cons_of rfl (cons_of rfl nil_of)) (fact_ok (ks := ks) dx sx hp)) nil_of) r3) (call_of (cons_of (fn_of' (cons_of rfl (cons_of rfl nil_of)) (right_ok (ks := ks) dx sx hp)) nil_of) r3) q3))).trans rfl⟩) s2.2
    exact ⟨f', e⟩
  have src : ∃ l, partVFsrc E1 hp = some (.val (l, yes), hp) ∧ ∀ x ∈ l, dv x = true ∧ shortP x := by
    have isi := isi_tup h.dv (e := eVar 7) (env := E1) (hp := hp) (hp1 := hp) rfl
    by_cases ht : isTup v = true
    · obtain ⟨xs, rfl⟩ : ∃ xs, v = .tup xs := by cases v <;> simp [isTup] at ht; exact ⟨_, rfl⟩
      have isi : eIsi "tuple" (eVar 7) E1 hp = some (.val (.bl true), hp) := isi
      have dx : ∀ x ∈ xs, dv x = true := dvs_mem.mp (by simpa [dv] using h.dv)
      have hl : xs.length ≤ 90000 := by
        have := szs_len xs
        have hz := h.sz
        simp only [sz] at hz
        omega
      have cl := cut_len xs none (some 4)
      refine ⟨cutD xs none (some 4) ++ [.tup xs], seq_lst ((if_et (tB_of isi)).trans (bin_of (cut_of' (call_of (d := .lst xs) (cons_of (e := eVar 7) rfl nil_of) rfl) rfl (some_of rfl) (list_cut hp)) (lst_of (cons_of rfl nil_of) (by simp)) (cat_lst hp (by simp; omega)))), fun x hx => ?_⟩
      rcases List.mem_append.mp hx with z | z
      · exact ⟨dx x (cut_mem z), sps xs rfl x (cut_mem z)⟩
      · rw [List.mem_singleton] at z; subst z; exact ⟨h.dv, sp⟩
    · have f1 : isTup v = false := by simpa using ht
      rw [f1] at isi
      refine ⟨[v], seq_lst ((if_ef (tB_of isi)).trans (lst_of (cons_of rfl nil_of) (by simp))), fun x hx => ?_⟩
      rw [List.mem_singleton] at hx; subst hx; exact ⟨h.dv, sp⟩
  obtain ⟨l, e3, hl⟩ := src
  obtain ⟨f', e4⟩ := inner l hl
  exact ⟨(some v, some (.str S), f'), (seq_of first).trans ((seq_of (if_f test)).trans ((for_of e3).trans e4))⟩
end
end Law
end

section
set_option maxRecDepth 100000
set_option maxHeartbeats 4000000
namespace Law
open PySem PySem.Spec L2 MP MX
theorem ints_sz (ts : List Int) : szs (ts.map .int) = ts.length := by
  induction ts with
  | nil => rfl
  | cons t ts ih => simp [szs, sz, ih]; omega
theorem ints_dep (ts : List Int) : deps (ts.map .int) = 0 := by
  induction ts with
  | nil => rfl
  | cons t ts ih => simp [deps, dep, ih]
theorem fact_pu {ks : List Nat} (hk : ks ∈ kindsL) {f : D} (h : isF ks f = true) : pu f = true ∧ sz f ≤ 4 ∧ dep f ≤ 2 := by
  obtain ⟨_, k2, k3⟩ := kinds_pos ks hk
  obtain ⟨k, ts, rfl, h0, h1, h2, h3⟩ := isF_form h
  have hl : k.toNat < ks.length := by omega
  have l2 : ts.length ≤ 2 := by
    rw [h2, List.getD_eq_getElem?_getD, List.getElem?_eq_getElem hl]
    exact k3 _ (List.getElem_mem hl)
  refine ⟨?_, ?_, ?_⟩
  · have : pus (ts.map .int) = true := pus_mem.mpr fun x hx => by
      obtain ⟨t, ht, rfl⟩ := List.mem_map.mp hx
      have := h3 t ht
      simp [pu]; omega
    simp [pu, pus, this]
    omega
  · simp [sz, szs, ints_sz]; omega
  · simp [dep, deps, ints_dep]
theorem facts_pu {ks : List Nat} (hk : ks ∈ kindsL) {fs : List D} (h : ∀ f ∈ fs, isF ks f = true) : (∀ f ∈ fs, pu f = true) ∧ szs fs ≤ 5 * fs.length ∧ deps fs ≤ 2 := by
  refine ⟨fun f hf => (fact_pu hk (h f hf)).1, ?_, deps_le fun f hf => (fact_pu hk (h f hf)).2.2⟩
  induction fs with
  | nil => simp [szs]
  | cons f fs ih =>
    have a := (fact_pu hk (h f (by simp))).2.1
    have b := ih fun g hg => h g (by simp [hg])
    simp [szs]; omega
theorem mul_small (c : Int) {k : Nat} (hk : k ≤ 2) (hp : EH) : gMul (.tup [.int c]) (.int (k : Int)) hp = some (.tup (List.replicate k (.int c))) := by
  match k, hk with
  | 0, _ => rfl
  | 1, _ => rfl
  | 2, _ => rfl
theorem rep_pu (c : Int) (hc : c.natAbs ≤ 1000) (k : Nat) : pus (List.replicate k (.int c)) = true ∧ szs (List.replicate k (.int c)) = k ∧ deps (List.replicate k (.int c)) = 0 := by
  induction k with
  | zero => exact ⟨rfl, rfl, rfl⟩
  | succ k ih => rw [List.replicate_succ]; simp [pus, szs, deps, pu, sz, dep, ih, hc]; omega
theorem extra_gd (c : Int) (hc : c.natAbs ≤ 1000) {k : Nat} (hk : k ≤ 2) : Gd 1000 20 (.tup [.tup [.int 0, .tup (List.replicate k (.int c))]]) := by
  obtain ⟨a, b, d⟩ := rep_pu c hc k
  refine gd_put (fun x hx => ?_) ?_ ?_
  · rw [List.mem_singleton] at hx; subst hx
    simp [pu, pus, a]
  · simp [szs, sz, b]; omega
  · simp [deps, dep, d]
section
variable {h0 hp : EH} {zs : List Int}
theorem lap_ok (h : Pen h0 hp 0 zs) (sc lap c3 c4 c5 c6 c7 c8 c9 c10 : Option D) : ∃ (d3 d4 d5 d6 d7 d8 d9 : Option D) (hp' : EH), Pen h0 hp' 0 zs ∧
    partLap [sc, some (.obj 0), lap, c3, c4, c5, c6, c7, c8, c9, c10] hp = some (.nxt, [sc, some (.obj 0), lap, d3, d4, d5, d6, d7, d8, d9, c10], hp') := by
  obtain ⟨ks, hp1, hk, h1, e1⟩ := kinds_ok h
  obtain ⟨fs, hp2, hf, lf, h2, e2⟩ := facts_drawn hk h1
  obtain ⟨gs, hp3, hg, lg, h3, e3⟩ := facts_drawn hk h2
  obtain ⟨od, hp4, hod, h4, e4⟩ := odd_ok h3
  obtain ⟨pf, sf, df⟩ := facts_pu hk hf
  obtain ⟨pg, sg, dg⟩ := facts_pu hk hg
  obtain ⟨k1, k2, k3⟩ := kinds_pos ks hk
  have puT : pu (.tup fs) = true := by simpa [pu] using pus_mem.mpr pf
  have szT : sz (.tup fs) ≤ 30 := by simp only [sz]; omega
  have depT : dep (.tup fs) ≤ 3 := by simp only [dep]; omega
  let E1 : Ev := [sc, some (.obj 0), lap, some (kd ks), c4, c5, c6, c7, c8, c9, c10]
  let E2 : Ev := [sc, some (.obj 0), lap, some (kd ks), some (.tup fs), some (.tup gs), c6, c7, c8, c9, c10]
  let items : List D := [.tup fs, .tup fs.reverse, .tup (fs ++ cutD fs (some (-1)) none), .lst fs, .tup (fs ++ gs), od]
  let E3 : Ev := [sc, some (.obj 0), lap, some (kd ks), some (.tup fs), some (.tup gs), some (.lst items), c7, c8, c9, c10]
  have s1 : partL1 [sc, some (.obj 0), lap, c3, c4, c5, c6, c7, c8, c9, c10] hp = some (.nxt, E1, hp1) := asg_of (fn_of' (cons_of rfl nil_of) e1) rfl
  have s2 : partL2 E1 hp1 = some (.nxt, E2, hp3) := asg_of (tup_of (cons_of (fn_of' (cons_of rfl (cons_of rfl (cons_of rfl nil_of))) e2) (cons_of (fn_of' (cons_of rfl (cons_of rfl (cons_of rfl nil_of))) e3) nil_of)) (by simp)) rfl
  have cl := cut_len fs (some (-1)) none
  have s3 : partL3 E2 hp3 = some (.nxt, E3, hp4) := asg_of (lst_of (cons_of rfl (cons_of (rev_of rfl) (cons_of (bin_of rfl (cut_of' rfl (some_of (neg_of rfl)) rfl rfl) (gAdd_tup hp3 (by omega))) (cons_of (call_of (d := .lst fs) (cons_of (e := eVar 4) rfl nil_of) rfl) (cons_of (bin_of rfl rfl (gAdd_tup hp3 (by omega))) (cons_of (fn_of' (cons_of rfl nil_of) e4) nil_of)))))) (by simp)) rfl
  obtain ⟨ys, hp5, ly, hy, h5, e5⟩ := lc_draw (g := tgN 10) (f := eFn (m__law_bent 10) (aCons (eVar 1) (aCons (eVar 4) (aCons (eVar 10) aNil)))) (env := wipeE E3 [10]) (P := fun d => Gd 300 20 d) [.int 1, .int 2, .int 3, .int 3, .int 3] hp4 h4 (fun x hx hp h => by
    have : ∃ k : Nat, k ≤ 3 ∧ x = .int (k : Int) := by
      simp at hx
      rcases hx with rfl | rfl | rfl
      · exact ⟨1, by omega, rfl⟩
      · exact ⟨2, by omega, rfl⟩
      · exact ⟨3, by omega, rfl⟩
    obtain ⟨k, hk3, rfl⟩ := this
    obtain ⟨r, hp', g, h', e⟩ := bent_ok k 10 (.tup fs) hp puT (by omega) (by omega) (by omega) h
    exact ⟨_, r, hp', rfl, g.mono (by omega) (by omega), h', fn_of' (cons_of rfl (cons_of rfl (cons_of rfl nil_of))) e⟩)
  have ly5 : ys.length = 5 := ly
  let vals1 := items ++ ys
  let E4 : Ev := [sc, some (.obj 0), lap, some (kd ks), some (.tup fs), some (.tup gs), some (.lst vals1), c7, c8, c9, c10]
  have s4 : partL4 E3 hp4 = some (.nxt, E4, hp5) := asg_of (bin_of (e1 := eVar 6) rfl (lc_of (seq_tup (tup_of (cons_of rfl (cons_of rfl (cons_of rfl (cons_of rfl (cons_of rfl nil_of))))) (by simp))) e5 (by omega)) (cat_lst hp5 (by simp [items, ly5]))) rfl
  let k0 := ks.getD 0 0
  have hk0 : k0 ≤ 2 := by
    show ks.getD 0 0 ≤ 2
    rw [List.getD_eq_getElem?_getD, List.getElem?_eq_getElem k1]
    exact k3 _ (List.getElem_mem k1)
  have g0 : gIx (kd ks) (.int 0) hp5 = some (.int (k0 : Int)) := kd_at (ks := ks) (i := 0) (by omega) (by omega)
  let ex : List D := [.tup [.tup [.int 0, .tup (List.replicate k0 (.int 30))]], .tup [.tup [.int 0, .tup (List.replicate k0 (.int 29))]], .tup [.tup [.int ks.length, .tup []]]]
  have lenK : gLen [kd ks] hp5 = some (.int (ks.length : Int)) := by simp [gLen, asQ]
  have one1 : ∀ x : D, [x].length ≤ 16777216 := fun x => by simp
  have src : partLFsrc E4 hp5 = some (.val (vals1 ++ ex, yes), hp5) :=
    seq_lst (bin_of (e1 := eVar 6) rfl (lst_of (cons_of (tup_of (cons_of (tup_of (cons_of rfl (cons_of (bin_of (tup_of (cons_of rfl nil_of) (one1 _)) (bin_of rfl rfl g0) (mul_small 30 hk0 hp5)) nil_of)) (two _ _)) nil_of) (one1 _)) (cons_of (tup_of (cons_of (tup_of (cons_of rfl (cons_of (bin_of (tup_of (cons_of rfl nil_of) (one1 _)) (bin_of rfl rfl g0) (mul_small 29 hk0 hp5)) nil_of)) (two _ _)) nil_of) (one1 _)) (cons_of (tup_of (cons_of (tup_of (cons_of (call_of (cons_of (e := eVar 3) rfl nil_of) lenK) (cons_of (tup_of nil_of (by simp)) nil_of)) (two _ _)) nil_of) (one1 _)) nil_of))) (by simp)) (cat_lst hp5 (by simp [vals1, items, ly5])))
  have all : ∀ v ∈ vals1 ++ ex, Gd 1000 20 v := fun v hv => by
    have gT : Gd 1000 20 (.tup fs) := (gd_pu puT).mono (by omega) (by omega)
    rcases List.mem_append.mp hv with z | z
    · rcases List.mem_append.mp z with z | z
      · simp only [items, List.mem_cons, List.not_mem_nil, or_false] at z
        have cz := cut_szs fs (some (-1)) none
        have rz := szs_rev fs
        rcases z with rfl | rfl | rfl | rfl | rfl | rfl
        · exact gT
        · exact gd_put (fun x hx => pf x (List.mem_reverse.mp hx)) (by omega) (by
            have := deps_sub (xs := fs) (ys := fs.reverse) fun x hx => List.mem_reverse.mp hx
            omega)
        · refine gd_put (fun x hx => ?_) (by rw [szs_app]; omega) (by
            have := deps_sub (xs := fs) (ys := fs ++ cutD fs (some (-1)) none) fun x hx => (List.mem_append.mp hx).elim id cut_mem
            omega)
          rcases List.mem_append.mp hx with z | z
          · exact pf x z
          · exact pf x (cut_mem z)
        · obtain ⟨a, b, c, _⟩ := pus_is fs (pus_mem.mpr pf)
          exact ⟨by simpa [dv] using a, by simpa [okD] using b, by simp only [sz]; omega, by simp only [dep]; omega, .inl (by simpa [noDic] using c)⟩
        · refine gd_put (fun x hx => ?_) (by rw [szs_app]; omega) (by
            have : deps (fs ++ gs) ≤ 2 := deps_le fun x hx => by
              rcases List.mem_append.mp hx with z | z
              · have := dep_mem z; omega
              · have := dep_mem z; omega
            omega)
          rcases List.mem_append.mp hx with z | z
          · exact pf x z
          · exact pg x z
        · exact (odd_gd _ hod).mono (by decide) (by decide)
      · exact (hy v z).mono (by omega) (by omega)
    · simp only [ex, List.mem_cons, List.not_mem_nil, or_false] at z
      rcases z with rfl | rfl | rfl
      · exact extra_gd 30 (by decide) hk0
      · exact extra_gd 29 (by decide) hk0
      · refine gd_put (fun x hx => ?_) ?_ ?_
        · rw [List.mem_singleton] at hx; subst hx
          simp [pu, pus]; omega
        · simp [szs, sz]
        · simp [deps, dep]
  obtain ⟨s', e6⟩ := turns_id (E := EV sc (some (.obj 0)) lap (some (.tup fs)) (some (.tup gs)) (some (.lst vals1)) c10 ks) (tg := tgN 7) (body := partBV) (hp := hp5) (vals1 ++ ex) (fun v hv s => by
    obtain ⟨s2, e⟩ := val_turn (a0 := sc) (a1 := some (.obj 0)) (a2 := lap) (a4 := some (.tup fs)) (a5 := some (.tup gs)) (a6 := some (.lst vals1)) (a10 := c10) (ks := ks) (all v hv) (by omega) (by omega) hp5 s.2
    exact ⟨(some v, s.2), s2, rfl, e⟩) (c7, c8, c9)
  let E6 : Ev := EV sc (some (.obj 0)) lap (some (.tup fs)) (some (.tup gs)) (some (.lst vals1)) c10 ks s'
  have am := among_ok (ks := ks) hf hg (by omega) hp5
  have lc := lc_ones (g := tgN 9) (t := MP.tB (eBin gNinX (eVar 9) (eVar 5))) (env := wipeE E6 [9]) (hp := hp5) (h := fun f => !memF f gs) (xs := fs) fun x hx => ⟨_, rfl, tB_of (bin_of (e1 := eVar 9) (e2 := eVar 5) rfl rfl (nin_tup (hf x hx) hg hp5))⟩
  have rep : ((fs.filter fun x => !memF x gs).map fun _ => D.int 1) = List.replicate (fs.filter fun x => !memF x gs).length (.int 1) := by rw [List.map_const']
  rw [rep] at lc
  have same : decide ((fs.filter fun x => !memF x gs).length = 0) = amongS fs gs := by
    rw [Bool.eq_iff_iff]
    simp [amongS]
  have bsh : Sh (.bl (amongS fs gs)) := ⟨rfl, by simp [sz], by simp [dep], .inl rfl⟩
  obtain ⟨S, r1, q1⟩ := rep_of bsh rfl hp5
  have ge := gEq_nil (fs.filter fun x => !memF x gs).length hp5
  rw [same] at ge
  have last : partL6c E6 hp5 = some (.val false, hp5) :=
    tB_of (bin_of (call_of (cons_of (fn_of' (cons_of rfl (cons_of rfl nil_of)) am) nil_of) r1) (call_of (cons_of (bin_of (lc_of (seq_tup (e := eVar 4) (env := E6) rfl) lc (by
      rw [List.length_replicate]
      have := List.length_filter_le (fun x => !memF x gs) fs
      omega)) (lst_of nil_of (by simp)) ge) nil_of) r1) q1)
  refine ⟨_, _, _, _, _, _, _, hp5, h5, (seq_of s1).trans ((seq_of s2).trans ((seq_of s3).trans ((seq_of s4).trans ((seq_of ((for_of src).trans e6)).trans ((if_f last).trans rfl)))))⟩
end
theorem laps {h0 : EH} {zs : List Int} (sc c10 : Option D) : ∀ (xs : List D) (hp : EH) (c2 c3 c4 c5 c6 c7 c8 c9 : Option D), Pen h0 hp 0 zs →
    ∃ d2 d3 d4 d5 d6 d7 d8 d9 hp', Pen h0 hp' 0 zs ∧ fTurns (tgN 2) yes partLap xs [sc, some (.obj 0), c2, c3, c4, c5, c6, c7, c8, c9, c10] hp = some (.nxt, [sc, some (.obj 0), d2, d3, d4, d5, d6, d7, d8, d9, c10], hp')
  | [], hp, c2, c3, c4, c5, c6, c7, c8, c9, h => ⟨c2, c3, c4, c5, c6, c7, c8, c9, hp, h, by simp [fTurns, yes]⟩
  | x :: xs, hp, c2, c3, c4, c5, c6, c7, c8, c9, h => by
    obtain ⟨d3, d4, d5, d6, d7, d8, d9, hp1, h1, e1⟩ := lap_ok h sc (some x) c3 c4 c5 c6 c7 c8 c9 c10
    obtain ⟨f2, f3, f4, f5, f6, f7, f8, f9, hp2, h2, e2⟩ := laps sc c10 xs hp1 (some x) d3 d4 d5 d6 d7 d8 d9 h1
    refine ⟨f2, f3, f4, f5, f6, f7, f8, f9, hp2, h2, ?_⟩
    have st : fTurns (tgN 2) yes partLap (x :: xs) [sc, some (.obj 0), c2, c3, c4, c5, c6, c7, c8, c9, c10] hp = fTurns (tgN 2) yes partLap xs [sc, some (.obj 0), some x, d3, d4, d5, d6, d7, d8, d9, c10] hp1 := by
      have t : tgN 2 x [sc, some (.obj 0), c2, c3, c4, c5, c6, c7, c8, c9, c10] = some [sc, some (.obj 0), some x, c3, c4, c5, c6, c7, c8, c9, c10] := rfl
      simp only [fTurns, yes, if_true, t, e1]
    exact st.trans e2
theorem law_true : ∀ ns : List Int, ns.length ≤ 63 → ∃ hpE, runDefO 11 1 b_law [.scr (ns.map .int)] [] = some (.val (.bl true), hpE) := by
  intro ns _
  let h0 : EH := [penOf (ns.take 63) 0 0]
  have pen : Pen h0 h0 0 (ns.take 63) := ⟨⟨0, 0, by omega, by omega, rfl, by simp [h0]⟩⟩
  have pk := pen_ok ns []
  let sc : Option D := some (.scr (ns.map .int))
  let E0 : Ev := [sc, some (.obj 0), none, none, none, none, none, none, none, none, none]
  have s1 : fAsg (eFn m__law_pen (aCons (eVar 0) aNil)) (tgN 1) [sc, none, none, none, none, none, none, none, none, none, none] [] = some (.nxt, E0, h0) := asg_of (fn_of' (cons_of (e := eVar 0) rfl nil_of) pk) rfl
  obtain ⟨v, hp1, v0, v1, h1, e1⟩ := draw_ok pen (b := 6) (by omega) (by omega)
  have c : partBc E0 h0 = some (.val false, hp1) := by
    have d : MP.tB (eBin gEq (eFn m__law_draw (aCons (eVar 1) (aCons (MP.ret (.int 6)) aNil))) (MP.ret (.int 5))) E0 h0 = some (.val (decide (v = 5)), hp1) := tB_of (bin_of (fn_of' (cons_of rfl (cons_of rfl nil_of)) e1) rfl (gEq_int v 5 hp1))
    by_cases z : v = 5
    · rw [decide_eq_true z] at d
      exact (tAnd_t d).trans (tNot_of (b := true) (tB_of (fn_of' nil_of (many_ok hp1))))
    · rw [decide_eq_false z] at d
      exact tAnd_f d
  obtain ⟨d2, d3, d4, d5, d6, d7, d8, d9, hp2, h2, e2⟩ := laps sc none (rangeD 0 6) hp1 none none none none none none none none h1
  refine ⟨hp2, ?_⟩
  unfold runDefO
  rw [if_pos (show [D.scr (ns.map .int)].length = 1 from rfl)]
  have body : b_law ([D.scr (ns.map .int)].map some ++ List.replicate (11 - 1) none) [] = some (.ret (.bl true), [sc, some (.obj 0), d2, d3, d4, d5, d6, d7, d8, d9, none], hp2) := by
    rw [law_eq]
    refine (seq_of s1).trans ((seq_of (if_f c)).trans ?_)
    exact (seq_of ((for_of (range_of (n := 6) (cons_of (e := MP.ret (.int 6)) rfl nil_of) (by decide))).trans e2)).trans (ret_of rfl)
  rw [body]
end Law
end

namespace Law
open PySem PySem.Spec PyProof.Rows L2 MP MX
abbrev tabsT : List (Str × Addr × Addr) := [("require_facts", 73, 69)]
abbrev tabsN : List NdefX.NTab := [(69, fun _ _ => (("require_facts" ++ ".<locals>." ++ "<lambda>" : Str)))]
theorem all_mk [ww : WW] (hWT : WW.T = tabsN) {K : PySem.W.Frag} {h : Heap} {mg : Str → Option Value} {fa : Addr} (X : K.In h) (G : h.Ns mainGlobals mg) (hfa : mg "law" = some (.ref fa))
    (f_is_in_range : FnAt K "is_in_range" (topS 6))
    (f_is_tuple : FnAt K "is_tuple" (topS 7))
    (f_is_of_kind : FnAt K "is_of_kind" (topS 8))
    (f_first_wrong : FnAt K "first_wrong" (topS 9))
    (f_is_fact : FnAt K "is_fact" (topS 10))
    (f_require_facts : FnAt K "require_facts" (topS 11))
    (f_first_missing : FnAt K "first_missing" (topS 12))
    (f_are_among : FnAt K "are_among" (topS 13))
    (f__law_pen : FnAt K "_law_pen" (topS 15))
    (f__law_fresh : FnAt K "_law_fresh" (topS 16))
    (f__law_draw : FnAt K "_law_draw" (topS 17))
    (f__law_one_of : FnAt K "_law_one_of" (topS 18))
    (f__law_whole : FnAt K "_law_whole" (topS 19))
    (f__law_odd : FnAt K "_law_odd" (topS 21))
    (f__law_bent : FnAt K "_law_bent" (topS 20))
    (f__law_drawn_kinds : FnAt K "_law_drawn_kinds" (topS 22))
    (f__law_drawn_fact : FnAt K "_law_drawn_fact" (topS 23))
    (f__law_drawn_facts : FnAt K "_law_drawn_facts" (topS 24))
    (f__law_is_right : FnAt K "_law_is_right" (topS 25))
    (f__law_due : FnAt K "_law_due" (topS 26))
    (f__law_told : FnAt K "_law_told" (topS 27))
    (f__law_all_facts : FnAt K "_law_all_facts" (topS 28))
    (f__law_many_right : FnAt K "_law_many_right" (topS 29))
    (f_law : FnAt K "law" (topS 30))
    (n_isinstance : PySem.W.nsIn K mainGlobals "isinstance" = some none)
    (n_int : PySem.W.nsIn K mainGlobals "int" = some none)
    (n_bool : PySem.W.nsIn K mainGlobals "bool" = some none)
    (n_tuple : PySem.W.nsIn K mainGlobals "tuple" = some none)
    (n_len : PySem.W.nsIn K mainGlobals "len" = some none)
    (n_all : PySem.W.nsIn K mainGlobals "all" = some none)
    (n_enumerate : PySem.W.nsIn K mainGlobals "enumerate" = some none)
    (n_set : PySem.W.nsIn K mainGlobals "set" = some none)
    (n_list : PySem.W.nsIn K mainGlobals "list" = some none)
    (n_range : PySem.W.nsIn K mainGlobals "range" = some none)
    (n_sorted : PySem.W.nsIn K mainGlobals "sorted" = some none)
    (n_ValueError : PySem.W.nsIn K mainGlobals "ValueError" = some none)
    (n_repr : PySem.W.nsIn K mainGlobals "repr" = some none)
    {o_LEAST_THING : Tok} (z_LEAST_THING : PySem.W.nsIn K mainGlobals "LEAST_THING" = some (some (.int 0 o_LEAST_THING)))
    {o_MOST_THING : Tok} (z_MOST_THING : PySem.W.nsIn K mainGlobals "MOST_THING" = some (some (.int 29 o_MOST_THING)))
    {o_MOST_FACTS : Tok} (z_MOST_FACTS : PySem.W.nsIn K mainGlobals "MOST_FACTS" = some (some (.int 5400 o_MOST_FACTS)))
    (c_InvalidFacts : PySem.W.nsIn K mainGlobals "InvalidFacts" = some (some (.ref 31)))
    (x_InvalidFacts : exTab K (.ref 31) xt_InvalidFacts = true)
    (q_InvalidFacts : ecB K 31 .value ["index"] = true)
    (i_InvalidFacts : InitAt K 31 "InvalidFacts.__init__" (inClass (topS 1) 0))
    (t_ValueError : isTab K (.type "ValueError") tb_ValueError = true)
    (u_require_facts : PySem.W.tabIn K "require_facts" = some (73, 69)) :
    ∃ fd : FuncData, Fun K "law" "law" (topS 30) fa fd ∧ (∀ (s : Shared) (u : Value), BindsTo s fd ⟨[u], []⟩ [("script", u)]) ∧ ∀ (base : Heap) (s : Shared) (H : Hp) (cdv : Value), K.In base → base.Ns mainGlobals mg → (∀ t ∈ tabsT, LamX.TabB base mg t.2.1 t.2.2) → Fam (cxD PySem.Challenge.rw_leadalike_k01_facts_required.prog WW.w K mg base ["script", "pen", "lap", "kinds", "facts", "others", "some", "value", "kept", "fact", "depth"] "law" (defScope (topS 30)) fa cdv callerA [] s H noE) K mg → Own (cxD PySem.Challenge.rw_leadalike_k01_facts_required.prog WW.w K mg base ["script", "pen", "lap", "kinds", "facts", "others", "some", "value", "kept", "fact", "depth"] "law" (defScope (topS 30)) fa cdv callerA [] s H noE) →
      SB (cxD PySem.Challenge.rw_leadalike_k01_facts_required.prog WW.w K mg base ["script", "pen", "lap", "kinds", "facts", "others", "some", "value", "kept", "fact", "depth"] "law" (defScope (topS 30)) fa cdv callerA [] s H noE) K mg (wOf noE) (defBody (topS 30)) b_law := by
  obtain ⟨f0, oc, od, kV, doc, pm, an, cdv0, ct, osl, h1, h2, h3, h4⟩ := f_law.ex
  have e := hfa.symm.trans (PySem.W.mg_of X G h1)
  cases e
  refine ⟨_, fun_mk h2 h3 h4, fun s u => .of_eq rfl, fun base s H cdv KB GB HT hF hO => ?_⟩
  have b_isinstance := PySem.W.mg_none_of X G n_isinstance
  have b_int := PySem.W.mg_none_of X G n_int
  have b_bool := PySem.W.mg_none_of X G n_bool
  have b_tuple := PySem.W.mg_none_of X G n_tuple
  have b_len := PySem.W.mg_none_of X G n_len
  have b_all := PySem.W.mg_none_of X G n_all
  have b_enumerate := PySem.W.mg_none_of X G n_enumerate
  have b_set := PySem.W.mg_none_of X G n_set
  have b_list := PySem.W.mg_none_of X G n_list
  have b_range := PySem.W.mg_none_of X G n_range
  have b_sorted := PySem.W.mg_none_of X G n_sorted
  have b_ValueError := PySem.W.mg_none_of X G n_ValueError
  have b_repr := PySem.W.mg_none_of X G n_repr
  have g_InvalidFacts := PySem.W.mg_of X G c_InvalidFacts
  have hx_InvalidFacts := (ecB_ok q_InvalidFacts).1.is
  have hn_InvalidFacts_index := (ecB_ok q_InvalidFacts).2 "index" (by simp)
  have e_InvalidFacts : ErrOk PySem.Challenge.rw_leadalike_k01_facts_required.prog WW.w K mg base 1 "InvalidFacts" 31 ["index"] ["index"] (fun l => l) := errOk_one g_InvalidFacts q_InvalidFacts i_InvalidFacts ⟨rfl, rfl, rfl, by decide +kernel, rfl, by decide +kernel, by decide +kernel⟩ rfl (Or.inl rfl) (Or.inl rfl) (fun _ _ _ _ _ _ _ _ => rfl) (fun _ _ _ _ _ _ _ _ => rfl)
  have k_LEAST_THING : ∃ t, mg "LEAST_THING" = some (.int 0 t) := ⟨_, PySem.W.mg_of X G z_LEAST_THING⟩
  have k_MOST_THING : ∃ t, mg "MOST_THING" = some (.int 29 t) := ⟨_, PySem.W.mg_of X G z_MOST_THING⟩
  have k_MOST_FACTS : ∃ t, mg "MOST_FACTS" = some (.int 5400 t) := ⟨_, PySem.W.mg_of X G z_MOST_FACTS⟩
  obtain ⟨a_is_in_range, fd_is_in_range, T_is_in_range, m_is_in_range, B_is_in_range⟩ := fnAt_ok f_is_in_range X G
  have d_is_in_range : DefOk PySem.Challenge.rw_leadalike_k01_facts_required.prog WW.w K mg base 1 "is_in_range" 3 Law.m_is_in_range := ok_is_in_range T_is_in_range m_is_in_range (B_is_in_range _ fun _ _ _ _ _ _ us hl => match us, hl with | [_, _, _], _ => rfl) b_isinstance b_int b_bool
  obtain ⟨a_is_tuple, fd_is_tuple, T_is_tuple, m_is_tuple, B_is_tuple⟩ := fnAt_ok f_is_tuple X G
  have d_is_tuple : DefOk PySem.Challenge.rw_leadalike_k01_facts_required.prog WW.w K mg base 1 "is_tuple" 3 Law.m_is_tuple := ok_is_tuple T_is_tuple m_is_tuple (B_is_tuple _ fun _ _ _ _ _ _ us hl => match us, hl with | [_, _, _], _ => rfl) b_isinstance b_tuple b_len
  obtain ⟨a_is_of_kind, fd_is_of_kind, T_is_of_kind, m_is_of_kind, B_is_of_kind⟩ := fnAt_ok f_is_of_kind X G
  have d_is_of_kind : DefOk PySem.Challenge.rw_leadalike_k01_facts_required.prog WW.w K mg base 2 "is_of_kind" 4 Law.m_is_of_kind := ok_is_of_kind T_is_of_kind m_is_of_kind (B_is_of_kind _ fun _ _ _ _ _ _ us hl => match us, hl with | [_, _, _, _], _ => rfl) d_is_tuple d_is_in_range b_len b_all
  obtain ⟨a_first_wrong, fd_first_wrong, T_first_wrong, m_first_wrong, B_first_wrong⟩ := fnAt_ok f_first_wrong X G
  have d_first_wrong : ∀ kf, DefOkF PySem.Challenge.rw_leadalike_k01_facts_required.prog WW.w K mg base (kf + 1) kf "first_wrong" 1 1 Law.m_first_wrong := ok_first_wrong T_first_wrong m_first_wrong (B_first_wrong _ fun _ _ _ _ _ _ us hl => match us, hl with | [_, _], _ => rfl) b_enumerate
  obtain ⟨a_is_fact, fd_is_fact, T_is_fact, m_is_fact, B_is_fact⟩ := fnAt_ok f_is_fact X G
  have d_is_fact : DefOk PySem.Challenge.rw_leadalike_k01_facts_required.prog WW.w K mg base 3 "is_fact" 2 Law.m_is_fact := ok_is_fact T_is_fact m_is_fact (B_is_fact _ fun _ _ _ _ _ _ us hl => match us, hl with | [_, _], _ => rfl) d_is_of_kind k_LEAST_THING k_MOST_THING
  obtain ⟨a_require_facts, fd_require_facts, T_require_facts, m_require_facts, B_require_facts⟩ := fnAt_ok f_require_facts X G
  have hcd_require_facts := cdAt_of X G u_require_facts m_require_facts
  have tq_require_facts : TabAt base mg 73 69 (("require_facts" ++ ".<locals>." ++ "<lambda>" : Str)) := tabAt_of (HT ("require_facts", 73, 69) (by simp [tabsT])) (by rw [hWT]; simp [tabsN]) (by rw [hWT]; decide)
  have d_require_facts : DefOk PySem.Challenge.rw_leadalike_k01_facts_required.prog WW.w K mg base 6 "require_facts" 2 Law.m_require_facts := ok_require_facts T_require_facts hcd_require_facts tq_require_facts m_require_facts (B_require_facts _ fun _ _ _ _ _ _ us hl => match us, hl with | [_, _], _ => rfl) d_is_tuple d_is_fact d_first_wrong e_InvalidFacts k_MOST_FACTS
  obtain ⟨a_first_missing, fd_first_missing, T_first_missing, m_first_missing, B_first_missing⟩ := fnAt_ok f_first_missing X G
  have d_first_missing : DefOk PySem.Challenge.rw_leadalike_k01_facts_required.prog WW.w K mg base 1 "first_missing" 2 Law.m_first_missing := ok_first_missing T_first_missing m_first_missing (B_first_missing _ fun _ _ _ _ _ _ us hl => match us, hl with | [_, _], _ => rfl) b_set
  obtain ⟨a_are_among, fd_are_among, T_are_among, m_are_among, B_are_among⟩ := fnAt_ok f_are_among X G
  have d_are_among : DefOk PySem.Challenge.rw_leadalike_k01_facts_required.prog WW.w K mg base 2 "are_among" 2 Law.m_are_among := ok_are_among T_are_among m_are_among (B_are_among _ fun _ _ _ _ _ _ us hl => match us, hl with | [_, _], _ => rfl) d_first_missing
  obtain ⟨a__law_pen, fd__law_pen, T__law_pen, m__law_pen, B__law_pen⟩ := fnAt_ok f__law_pen X G
  have d__law_pen : DefOk PySem.Challenge.rw_leadalike_k01_facts_required.prog WW.w K mg base 1 "_law_pen" 1 Law.m__law_pen := ok__law_pen T__law_pen m__law_pen (B__law_pen _ fun _ _ _ _ _ _ us hl => match us, hl with | [_], _ => rfl) b_list
  obtain ⟨a__law_fresh, fd__law_fresh, T__law_fresh, m__law_fresh, B__law_fresh⟩ := fnAt_ok f__law_fresh X G
  have d__law_fresh : DefOk PySem.Challenge.rw_leadalike_k01_facts_required.prog WW.w K mg base 1 "_law_fresh" 1 Law.m__law_fresh := ok__law_fresh T__law_fresh m__law_fresh (B__law_fresh _ fun _ _ _ _ _ _ us hl => match us, hl with | [_], _ => rfl) b_int b_len b_range
  obtain ⟨a__law_draw, fd__law_draw, T__law_draw, m__law_draw, B__law_draw⟩ := fnAt_ok f__law_draw X G
  have d__law_draw : DefOk PySem.Challenge.rw_leadalike_k01_facts_required.prog WW.w K mg base 2 "_law_draw" 2 Law.m__law_draw := ok__law_draw T__law_draw m__law_draw (B__law_draw _ fun _ _ _ _ _ _ us hl => match us, hl with | [_, _], _ => rfl) d__law_fresh b_int
  obtain ⟨a__law_one_of, fd__law_one_of, T__law_one_of, m__law_one_of, B__law_one_of⟩ := fnAt_ok f__law_one_of X G
  have d__law_one_of : DefOk PySem.Challenge.rw_leadalike_k01_facts_required.prog WW.w K mg base 3 "_law_one_of" 2 Law.m__law_one_of := ok__law_one_of T__law_one_of m__law_one_of (B__law_one_of _ fun _ _ _ _ _ _ us hl => match us, hl with | [_, _], _ => rfl) d__law_draw b_len
  obtain ⟨a__law_whole, fd__law_whole, T__law_whole, m__law_whole, B__law_whole⟩ := fnAt_ok f__law_whole X G
  have d__law_whole : DefOk PySem.Challenge.rw_leadalike_k01_facts_required.prog WW.w K mg base 1 "_law_whole" 3 Law.m__law_whole := ok__law_whole T__law_whole m__law_whole (B__law_whole _ fun _ _ _ _ _ _ us hl => match us, hl with | [_, _, _], _ => rfl) b_isinstance b_int b_bool
  obtain ⟨a__law_odd, fd__law_odd, T__law_odd, m__law_odd, B__law_odd⟩ := fnAt_ok f__law_odd X G
  have d__law_odd : DefOk PySem.Challenge.rw_leadalike_k01_facts_required.prog WW.w K mg base 4 "_law_odd" 1 Law.m__law_odd := ok__law_odd T__law_odd m__law_odd (B__law_odd _ fun _ _ _ _ _ _ us hl => match us, hl with | [_], _ => rfl) d__law_one_of
  obtain ⟨a__law_bent, fd__law_bent, T__law_bent, m__law_bent, B__law_bent⟩ := fnAt_ok f__law_bent X G
  have d__law_bent : DefOk PySem.Challenge.rw_leadalike_k01_facts_required.prog WW.w K mg base 16 "_law_bent" 3 (Law.m__law_bent 10) := ok__law_bent T__law_bent m__law_bent (B__law_bent _ fun _ _ _ _ _ _ us hl => match us, hl with | [_, _, _], _ => rfl) d__law_draw d__law_odd b_isinstance b_tuple b_int b_bool b_list b_len 10
  obtain ⟨a__law_drawn_kinds, fd__law_drawn_kinds, T__law_drawn_kinds, m__law_drawn_kinds, B__law_drawn_kinds⟩ := fnAt_ok f__law_drawn_kinds X G
  have d__law_drawn_kinds : DefOk PySem.Challenge.rw_leadalike_k01_facts_required.prog WW.w K mg base 4 "_law_drawn_kinds" 1 Law.m__law_drawn_kinds := ok__law_drawn_kinds T__law_drawn_kinds m__law_drawn_kinds (B__law_drawn_kinds _ fun _ _ _ _ _ _ us hl => match us, hl with | [_], _ => rfl) d__law_one_of
  obtain ⟨a__law_drawn_fact, fd__law_drawn_fact, T__law_drawn_fact, m__law_drawn_fact, B__law_drawn_fact⟩ := fnAt_ok f__law_drawn_fact X G
  have d__law_drawn_fact : DefOk PySem.Challenge.rw_leadalike_k01_facts_required.prog WW.w K mg base 4 "_law_drawn_fact" 2 Law.m__law_drawn_fact := ok__law_drawn_fact T__law_drawn_fact m__law_drawn_fact (B__law_drawn_fact _ fun _ _ _ _ _ _ us hl => match us, hl with | [_, _], _ => rfl) d__law_draw d__law_one_of b_len b_range b_tuple
  obtain ⟨a__law_drawn_facts, fd__law_drawn_facts, T__law_drawn_facts, m__law_drawn_facts, B__law_drawn_facts⟩ := fnAt_ok f__law_drawn_facts X G
  have d__law_drawn_facts : DefOk PySem.Challenge.rw_leadalike_k01_facts_required.prog WW.w K mg base 5 "_law_drawn_facts" 3 Law.m__law_drawn_facts := ok__law_drawn_facts T__law_drawn_facts m__law_drawn_facts (B__law_drawn_facts _ fun _ _ _ _ _ _ us hl => match us, hl with | [_, _, _], _ => rfl) d__law_draw d__law_drawn_fact b_range b_set b_sorted b_tuple
  obtain ⟨a__law_is_right, fd__law_is_right, T__law_is_right, m__law_is_right, B__law_is_right⟩ := fnAt_ok f__law_is_right X G
  have d__law_is_right : DefOk PySem.Challenge.rw_leadalike_k01_facts_required.prog WW.w K mg base 2 "_law_is_right" 2 Law.m__law_is_right := ok__law_is_right T__law_is_right m__law_is_right (B__law_is_right _ fun _ _ _ _ _ _ us hl => match us, hl with | [_, _], _ => rfl) d__law_whole b_isinstance b_tuple b_len
  obtain ⟨a__law_due, fd__law_due, T__law_due, m__law_due, B__law_due⟩ := fnAt_ok f__law_due X G
  have d__law_due : DefOk PySem.Challenge.rw_leadalike_k01_facts_required.prog WW.w K mg base 3 "_law_due" 2 Law.m__law_due := ok__law_due T__law_due m__law_due (B__law_due _ fun _ _ _ _ _ _ us hl => match us, hl with | [_, _], _ => rfl) d__law_is_right b_isinstance b_tuple b_len b_enumerate
  obtain ⟨a__law_told, fd__law_told, T__law_told, m__law_told, B__law_told⟩ := fnAt_ok f__law_told X G
  have d__law_told : DefOk PySem.Challenge.rw_leadalike_k01_facts_required.prog WW.w K mg base 7 "_law_told" 2 Law.m__law_told := ok__law_told T__law_told m__law_told (B__law_told _ fun _ _ _ _ _ _ us hl => match us, hl with | [_, _], _ => rfl) d_require_facts b_isinstance b_ValueError g_InvalidFacts t_ValueError x_InvalidFacts hx_InvalidFacts hn_InvalidFacts_index
  obtain ⟨a__law_all_facts, fd__law_all_facts, T__law_all_facts, m__law_all_facts, B__law_all_facts⟩ := fnAt_ok f__law_all_facts X G
  have d__law_all_facts : DefOk PySem.Challenge.rw_leadalike_k01_facts_required.prog WW.w K mg base 1 "_law_all_facts" 1 Law.m__law_all_facts := ok__law_all_facts T__law_all_facts m__law_all_facts (B__law_all_facts _ fun _ _ _ _ _ _ us hl => match us, hl with | [_], _ => rfl) b_range
  obtain ⟨a__law_many_right, fd__law_many_right, T__law_many_right, m__law_many_right, B__law_many_right⟩ := fnAt_ok f__law_many_right X G
  have d__law_many_right : DefOk PySem.Challenge.rw_leadalike_k01_facts_required.prog WW.w K mg base 8 "_law_many_right" 0 Law.m__law_many_right := ok__law_many_right T__law_many_right m__law_many_right (B__law_many_right _ fun _ _ _ _ _ _ us hl => match us, hl with | [], _ => rfl) d__law_all_facts d_require_facts d__law_told d_are_among b_range b_tuple
  exact lb_law d__law_pen d__law_draw d__law_many_right d__law_drawn_kinds d__law_drawn_facts d__law_odd d__law_bent d__law_told d__law_due d_is_fact d__law_is_right d_are_among b_range b_list b_len b_repr b_isinstance b_tuple hF hO
end Law
open PySem PySem.W PyProof.Rows in
set_option maxRecDepth 100000 in
set_option maxHeartbeats 0 in
theorem PySem.Challenge.cw_leadalike_k01_facts_required_holds : PySem.Challenge.rw_leadalike_k01_facts_required.Holds := by
  w_on; o_law; k_head; (case hw => w_witness2)
  k_fill
  refine MP.walkM (l := PySem.Challenge.rw_leadalike_k01_facts_required) (n := 63) (y := "script") (N := ["script", "pen", "lap", "kinds", "facts", "others", "some", "value", "kept", "fact", "depth"]) (st := Law.topS 30) (x := "law") (qual := "law") (fb := Law.b_law) (ts := Law.tabsT) (nt := Law.tabsN) rfl (by decide) rfl (fun w h Y => PySem.W.km_in_of Y) Law.sc_law ?ht (by decide) ?F Law.law_true
  case ht =>
    intro w h KX t ht
    simp only [Law.tabsT, List.mem_cons, List.not_mem_nil, or_false] at ht
    rcases ht with rfl
    · refine ⟨⟨_, rfl⟩, ?_, ?_⟩
      · kernel_rfl
      · kernel_rfl
  case F =>
    intro w mg fa h KX G hmg
    refine' Law.all_mk (ww := ⟨w, Law.tabsN⟩) rfl KX G hmg ?f_is_in_range ?f_is_tuple ?f_is_of_kind ?f_first_wrong ?f_is_fact ?f_require_facts ?f_first_missing ?f_are_among ?f__law_pen ?f__law_fresh ?f__law_draw ?f__law_one_of ?f__law_whole ?f__law_odd ?f__law_bent ?f__law_drawn_kinds ?f__law_drawn_fact ?f__law_drawn_facts ?f__law_is_right ?f__law_due ?f__law_told ?f__law_all_facts ?f__law_many_right ?f_law ?n_isinstance ?n_int ?n_bool ?n_tuple ?n_len ?n_all ?n_enumerate ?n_set ?n_list ?n_range ?n_sorted ?n_ValueError ?n_repr ?z_LEAST_THING ?z_MOST_THING ?z_MOST_FACTS ?c_InvalidFacts ?x_InvalidFacts ?q_InvalidFacts ?i_InvalidFacts ?t_ValueError ?u_require_facts
    (case f_is_in_range => refine' MP.fnAt_mk ?fa ?fl ?fc ?fk; (case fa => k_is); (case fl => k_is); (case fc => k_is); (case fk => k_is))
    (case f_is_tuple => refine' MP.fnAt_mk ?fa ?fl ?fc ?fk; (case fa => k_is); (case fl => k_is); (case fc => k_is); (case fk => k_is))
    (case f_is_of_kind => refine' MP.fnAt_mk ?fa ?fl ?fc ?fk; (case fa => k_is); (case fl => k_is); (case fc => k_is); (case fk => k_is))
    (case f_first_wrong => refine' MP.fnAt_mk ?fa ?fl ?fc ?fk; (case fa => k_is); (case fl => k_is); (case fc => k_is); (case fk => k_is))
    (case f_is_fact => refine' MP.fnAt_mk ?fa ?fl ?fc ?fk; (case fa => k_is); (case fl => k_is); (case fc => k_is); (case fk => k_is))
    (case f_require_facts => refine' MP.fnAt_mk ?fa ?fl ?fc ?fk; (case fa => k_is); (case fl => k_is); (case fc => k_is); (case fk => k_is))
    (case f_first_missing => refine' MP.fnAt_mk ?fa ?fl ?fc ?fk; (case fa => k_is); (case fl => k_is); (case fc => k_is); (case fk => k_is))
    (case f_are_among => refine' MP.fnAt_mk ?fa ?fl ?fc ?fk; (case fa => k_is); (case fl => k_is); (case fc => k_is); (case fk => k_is))
    (case f__law_pen => refine' MP.fnAt_mk ?fa ?fl ?fc ?fk; (case fa => k_is); (case fl => k_is); (case fc => k_is); (case fk => k_is))
    (case f__law_fresh => refine' MP.fnAt_mk ?fa ?fl ?fc ?fk; (case fa => k_is); (case fl => k_is); (case fc => k_is); (case fk => k_is))
    (case f__law_draw => refine' MP.fnAt_mk ?fa ?fl ?fc ?fk; (case fa => k_is); (case fl => k_is); (case fc => k_is); (case fk => k_is))
    (case f__law_one_of => refine' MP.fnAt_mk ?fa ?fl ?fc ?fk; (case fa => k_is); (case fl => k_is); (case fc => k_is); (case fk => k_is))
    (case f__law_whole => refine' MP.fnAt_mk ?fa ?fl ?fc ?fk; (case fa => k_is); (case fl => k_is); (case fc => k_is); (case fk => k_is))
    (case f__law_odd => refine' MP.fnAt_mk ?fa ?fl ?fc ?fk; (case fa => k_is); (case fl => k_is); (case fc => k_is); (case fk => k_is))
    (case f__law_bent => refine' MP.fnAt_mk ?fa ?fl ?fc ?fk; (case fa => k_is); (case fl => k_is); (case fc => k_is); (case fk => k_is))
    (case f__law_drawn_kinds => refine' MP.fnAt_mk ?fa ?fl ?fc ?fk; (case fa => k_is); (case fl => k_is); (case fc => k_is); (case fk => k_is))
    (case f__law_drawn_fact => refine' MP.fnAt_mk ?fa ?fl ?fc ?fk; (case fa => k_is); (case fl => k_is); (case fc => k_is); (case fk => k_is))
    (case f__law_drawn_facts => refine' MP.fnAt_mk ?fa ?fl ?fc ?fk; (case fa => k_is); (case fl => k_is); (case fc => k_is); (case fk => k_is))
    (case f__law_is_right => refine' MP.fnAt_mk ?fa ?fl ?fc ?fk; (case fa => k_is); (case fl => k_is); (case fc => k_is); (case fk => k_is))
    (case f__law_due => refine' MP.fnAt_mk ?fa ?fl ?fc ?fk; (case fa => k_is); (case fl => k_is); (case fc => k_is); (case fk => k_is))
    (case f__law_told => refine' MP.fnAt_mk ?fa ?fl ?fc ?fk; (case fa => k_is); (case fl => k_is); (case fc => k_is); (case fk => k_is))
    (case f__law_all_facts => refine' MP.fnAt_mk ?fa ?fl ?fc ?fk; (case fa => k_is); (case fl => k_is); (case fc => k_is); (case fk => k_is))
    (case f__law_many_right => refine' MP.fnAt_mk ?fa ?fl ?fc ?fk; (case fa => k_is); (case fl => k_is); (case fc => k_is); (case fk => k_is))
    (case f_law => refine' MP.fnAt_mk ?fa ?fl ?fc ?fk; (case fa => k_is); (case fl => k_is); (case fc => k_is); (case fk => k_is))
    (case n_isinstance => k_is)
    (case n_int => k_is)
    (case n_bool => k_is)
    (case n_tuple => k_is)
    (case n_len => k_is)
    (case n_all => k_is)
    (case n_enumerate => k_is)
    (case n_set => k_is)
    (case n_list => k_is)
    (case n_range => k_is)
    (case n_sorted => k_is)
    (case n_ValueError => k_is)
    (case n_repr => k_is)
    (case z_LEAST_THING => k_is)
    (case z_MOST_THING => k_is)
    (case z_MOST_FACTS => k_is)
    (case c_InvalidFacts => k_is)
    (case x_InvalidFacts => kernel_rfl)
    (case q_InvalidFacts => kernel_rfl)
    (case i_InvalidFacts => refine' MP.initAt_mk ?fa ?ft ?fl ?fc ?fk; (case fa => k_is); (case ft => k_is); (case fl => k_is); (case fc => k_is); (case fk => k_is))
    (case t_ValueError => kernel_rfl)
    (case u_require_facts => kernel_rfl)
