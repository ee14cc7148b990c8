import PyProof.Rows.All
import Wide.All
import OpenK.AllK
import Wide.FinOn
import HandS.ExcInit
import HandS.ExcIs
import HandS.ExcField
import HandS.MakeKw
import KE.KExcInit
import HandS.WordsExc
import KE.KExcIs
import HandS.ExcValue
import HandS.ForMost
import HandS.ForExc
import HandS.IsInst
import HandS.Deep
import HandS.TupAny
import HandS.TupMul
import KE.SortData
import HandS.Zip
import HandS.Wide
import KE.KIntText
import PyProof.Rows.StrBin
import PySem.Challenge.RW_leadalike_k86_errors_required
set_option Elab.async false
set_option linter.all false
set_option maxRecDepth 100000
set_option maxHeartbeats 1000000
section
set_option maxRecDepth 100000
set_option maxHeartbeats 4000000
/-! MX0: the call of an own exception class, with keywords too. -/
namespace MX
open PySem PySem.Spec PySem.W
section
variable {M : Model} {A : Around} {E : Value → Shared → Prop} {hp : Heap} {gs : Array GenState} {dr : Drawn} {tk : Nat} {os : OsState}
variable {nm q : Str} {C N : Addr} {bs bm bmB : List Value} {hdct : Bool} {sn : List Str} {sub : List Value} {ab : Bool} {col : Option Bool} {dd : Option Addr} {k0 k1 k2 k3 k5 : Option Value} {B newId initId : String}
/-- the class C at hp -/
abbrev ClsAt (hp : Heap) (nm q : Str) (C N : Addr) (bs bm : List Value) (hdct : Bool) (sn : List Str) (sub : List Value) (ab : Bool) (col : Option Bool) (dd : Option Addr) (k0 k1 k2 k3 k5 : Option Value) (newId : String) : Prop :=
  hp.get? C = some (excClassObj nm q C N bs bm hdct sn sub ab col dd k0 k1 k2 k3 k5 newId)

theorem new_checked (FB : ExcBaseFacts B newId initId bmB) (same : ∀ T : String, bm.contains (.type T) = bmB.contains (.type T)) (at_ : ClsAt hp nm q C N bs bm hdct sn sub ab col dd k0 k1 k2 k3 k5 newId)
    {vs : List Value} {kw : List (Str × Value)} {Q : Unit → Shared → Prop} (go : Q () ⟨hp, gs, dr, tk, os⟩) :
    wpAny M A (checkBuiltinCall newId ⟨.ref C :: vs, kw⟩) Q E ⟨hp, gs, dr, tk, os⟩ := by
  have c1 : (Value.ref C :: bm).contains (.type B) = true := by rw [List.contains_cons, same, FB.hasB, Bool.or_true]
  have c2 := FB.noStar
  unfold checkBuiltinCall
  simp only [FB.newKind, FB.newSplit, FB.newRow]
  repeat (first | with_reducible refine wpAny_loadPart_at at_ ?_ | (refine wpAny_isSubtype_exc at_ ?_; rw [c1]) | refine wpAny_staticBase_exc at_ ?_ | refine wpAny_madeBy_exc at_ ?_ | simp only [bne_self_eq_false, Bool.false_eq_true, if_false] | wp_step)
  exact go
end
section
variable {prog : Program} {w : World} {A : Around} {E : Value → Shared → Prop} {R : Result → Shared → Prop} {hp : Heap} {gs : Array GenState} {dr : Drawn} {tk : Nat} {os : OsState}
variable {nm q : Str} {C N : Addr} {bs bm bmB : List Value} {hdct : Bool} {sn : List Str} {sub : List Value} {ab : Bool} {col : Option Bool} {dd : Option Addr} {k0 k1 k2 k3 k5 : Option Value} {B newId initId : String}
/-- the heap with a new exception of the class C: its arguments, itself -/
abbrev withNew (hp : Heap) (C : Addr) (vs : List Value) : Heap := (hp.push (kdv_tup vs)).push (PySem.HandSPX.excO C hp.objs.size)
theorem withNew_keeps {vs : List Value} {b : Addr} {o : Obj} (e : hp.get? b = some o) : (withNew hp C vs).get? b = some o := Heap.get?_push_of_some _ (Heap.get?_push_of_some _ e)
theorem withNew_at {vs : List Value} : (withNew hp C vs).get? (hp.objs.size + 1) = some (PySem.HandSPX.excO C hp.objs.size) := by heap_get
theorem new_made (FB : ExcBaseFacts B newId initId bmB) (same : ∀ T : String, bm.contains (.type T) = bmB.contains (.type T)) (at_ : ClsAt hp nm q C N bs bm hdct sn sub ab col dd k0 k1 k2 k3 k5 newId)
    {vs : List Value} {kw : List (Str × Value)} (few : vs.length ≤ sizeLine) (go : R (.ok (.ret (.ref (hp.objs.size + 1)))) ⟨withNew hp C vs, gs, dr, tk, os⟩) :
    codeAny (model prog w) A (.builtin newId ⟨.ref C :: vs, kw⟩) R ⟨hp, gs, dr, tk, os⟩ := by
  have e0 := FB.ends
  have c1 : (Value.ref C :: bm).contains (.type B) = true := by rw [List.contains_cons, same, FB.hasB, Bool.or_true]
  have c2 : (Value.ref C :: bm).contains (.type "AttributeError") = false := by rw [List.contains_cons, same, FB.noAttr]; rfl
  have c3 : (Value.ref C :: bm).contains (.type "NameError") = false := by rw [List.contains_cons, same, FB.noName]; rfl
  refine codeAny_builtinAt FB.entry ?_
  unfold Builtin.«BaseException.__new__»
  refine wpAt_bind ?_
  show wpAt _ _ _ (stack >>= _) _ _ _
  refine wpAt_bind (wpAt_stack fun a1 a2 => wpAt_of_wpAny ?_)
  wp_walk
  refine wpAt_of_wpAny ?_
  rw [FB.owner]
  repeat (first | with_reducible refine wpAny_madeHere_exc FB.canon at_ ?_ | with_reducible refine wpAny_loadPart_at at_ ?_ | (with_reducible refine wpAny_isSubtype_exc at_ ?_; first | rw [c1] | rw [c2] | rw [c3]) | wp_step)
  show R _ _
  rw [Heap.size_push]
  exact go
/-- the class's __init__ is a def -/
theorem type_called (FB : ExcBaseFacts B newId initId bmB) (same : ∀ T : String, bm.contains (.type T) = bmB.contains (.type T)) (at_ : ClsAt hp nm q C N bs bm hdct sn sub ab col dd k0 k1 k2 k3 k5 newId)
    {vs : List Value} {kw : List (Str × Value)} {fI : Addr} {Q : Fin → Shared → Prop} (few : vs.length ≤ sizeLine)
    (hi : Looks (model prog w) hp (typeLookup (.ref C) "__init__") (some (.ref fI))) (hb : ∀ self, Looks (model prog w) hp (bindSpecial (.ref fI) self) (.ref fI, [self]))
    (go : codeAny (model prog w) A (.call (.ref fI) ⟨.ref (hp.objs.size + 1) :: vs, kw⟩)
      (fun r s' => match r with | .ok (.ret v) => v = .none ∧ Q (.done (.ret (.ref (hp.objs.size + 1)))) s' | .ok _ => False | .error e => E e s') ⟨withNew hp C vs, gs, dr, tk, os⟩) :
    wpAny (model prog w) A (Builtin.«type.__call__» ⟨.ref C :: vs, kw⟩) Q E ⟨hp, gs, dr, tk, os⟩ := by
  repeat (first | with_reducible refine wpAny_loadPart_at at_ ?_ | with_reducible refine wpAny_madeBy_exc at_ ?_ | wp_step)
  refine codeAny_call_builtin_code (Code.quiet_builtin _ FB.quiet) (new_checked FB same at_ ?_)
  refine new_made FB same at_ few ?_
  show wpAny _ _ _ _ _ _
  have at2 := withNew_keeps (C := C) (vs := vs) at_
  have new := withNew_at (hp := hp) (C := C) (vs := vs)
  have c0 : (Value.ref C :: bm).contains (.ref C) = true := by simp
  have keep : ∀ b o, hp.get? b = some o → (withNew hp C vs).get? b = some o := fun b o e => withNew_keeps e
  have hi2 := hi.keeps keep
  have hb2 := (hb (.ref (hp.objs.size + 1))).keeps keep
  unfold isInstance
  repeat (first | with_reducible refine wpAny_loadPart_at new ?_ | (with_reducible refine wpAny_isSubtype_exc at2 ?_; rw [c0]) | wp_step)
  show wpAny _ _ (typeLookup (.ref C) _) _ _ _
  refine hi2.at ?_
  refine wpAny_holding (wpAny_bind (hb2.at ?_))
  refine wpAny_bind (wpAny_call (codeAny_mono go fun r s' z => ?_))
  cases r with
  | error e => exact z
  | ok fl =>
    cases fl with
    | ret v =>
      obtain ⟨rfl, z⟩ := z
      first
        | exact wpAny_pure (wpAny_pure z)
        | (wp_walk; exact z)
    | next => exact z.elim
    | brk => exact z.elim
    | cont => exact z.elim
theorem checked_call {vs : List Value} {kw : List (Str × Value)} {Q : Unit → Shared → Prop} (at_ : ClsAt hp nm q C N bs bm hdct sn sub ab col dd k0 k1 k2 k3 k5 newId) (go : Q () ⟨hp, gs, dr, tk, os⟩) :
    wpAny (model prog w) A (checkBuiltinCall "type.__call__" ⟨.ref C :: vs, kw⟩) Q E ⟨hp, gs, dr, tk, os⟩ := by
  have c1 := tc_sub
  have ty : (⟨hp, gs, dr, tk, os⟩ : Shared).TypeIs (.ref C) "type" := ⟨_, at_, rfl⟩
  unfold checkBuiltinCall
  simp only [tc_kind, tc_split]
  repeat (any_goals (first | assumption | with_reducible refine wpAny_loadPart_at at_ ?_ | with_reducible refine wpAny_onRaise ?_ | with_reducible refine wpAny_map ?_ | wp_step))
/-- C(vs, kw): a new exception, then the class's __init__ -/
theorem class_called (FB : ExcBaseFacts B newId initId bmB) (same : ∀ T : String, bm.contains (.type T) = bmB.contains (.type T)) (at_ : ClsAt hp nm q C N bs bm hdct sn sub ab col dd k0 k1 k2 k3 k5 newId)
    {vs : List Value} {kw : List (Str × Value)} {fI : Addr} (few : vs.length ≤ sizeLine)
    (hi : Looks (model prog w) hp (typeLookup (.ref C) "__init__") (some (.ref fI))) (hb : ∀ self, Looks (model prog w) hp (bindSpecial (.ref fI) self) (.ref fI, [self]))
    (go : codeAny (model prog w) (A.under (.builtin "type.__call__" ⟨.ref C :: vs, kw⟩)) (.call (.ref fI) ⟨.ref (hp.objs.size + 1) :: vs, kw⟩) (InitBack (hp.objs.size + 1) R) ⟨withNew hp C vs, gs, dr, tk, os⟩) :
    codeAny (model prog w) A (.call (.ref C) ⟨vs, kw⟩) R ⟨hp, gs, dr, tk, os⟩ := by
  have l1 := tc_lookup
  have l2 := tc_bind (.ref C)
  have ty : (⟨hp, gs, dr, tk, os⟩ : Shared).TypeIs (.ref C) "type" := ⟨_, at_, rfl⟩
  refine codeAny_of_tree ?_
  show wpAny _ _ (callAny (.ref C) _) _ _ _
  repeat (any_goals (first | assumption | with_reducible refine wpAny_loadPart_at at_ ?_ | wp_step))
  refine ⟨rfl, ?_⟩
  refine codeAny_call_builtin_at (Code.quiet_builtin _ (by decide +kernel)) entry_typeCall (checked_call at_ (type_called FB same at_ few hi hb ?_))
  refine codeAny_mono go fun r s' z => ?_
  cases r with
  | error e => exact z
  | ok fl => cases fl <;> exact z
end
end MX
end

section
set_option maxRecDepth 100000
set_option maxHeartbeats 4000000
/-! MX1: exceptions of own classes as values: made, stored into, read, asked. -/
namespace MX
open PySem PySem.Spec PySem.W L2
/-- what an own class over a built-in exception must bear -/
structure EC (K : Frag) (C : Addr) : Prop where
  base : ∃ B newId initId bmB, ExcBaseFacts B newId initId bmB ∧ StoreFacts B bmB "object.__setattr__" "object" ∧ excInitIn K C bmB newId = true ∧ excOver K C bmB = true
  sa : findIn K (.ref C) "__setattr__" = some (some (.builtin "object.__setattr__"))
  kp : keepIn K (.ref C) = true
  is : ExcC K C
section
variable {X : Cx} {pins : List (Addr × Obj)} {σ : L2.St} {H : Hp} {s : Shared} {a C dx : Addr} {f : Str} {y : V} {u : Value} {fs : List (Str × V)} {Q : Unit → Shared → Prop} {E : Value → Shared → Prop} {A : Around}
theorem taker_none {K : Frag} (hno : findIn K (.ref C) f = some none) : takerIn K C f = some none := by
  unfold takerIn
  rw [hno]
  rfl
/-- the first field -/
theorem store_first (T : EC X.K C) (I : Inv X pins σ H s) (e : H a = some (exo a C none)) (hno : findIn X.K (.ref C) f = some none) (ry : RelV y u)
    (go : ∀ dx s', H dx = none → dx ≠ a → Inv X pins σ (upd (upd H dx (exd dx [(f, y)])) a (exo a C (some dx))) s' → Q () s') : wpAny (model X.prog X.w) A (setAttr (.ref a) f u) Q E s := by
  obtain ⟨B, nI, iI, bmB, FB, SF, q1, q2⟩ := T.base
  obtain ⟨cd, hc, hd'⟩ := any_some T.is.hd
  obtain ⟨t1, ho⟩ := exo_at I.hok e
  obtain ⟨hp, g, d, t, os⟩ := s
  have J : InstAt hp a (PySem.HandSPX.excO C t1) C none := ⟨ho, rfl, rfl, trivial⟩
  refine set_plain I.kIn J T.sa (osa_openX (s := ⟨hp, g, d, t + 1, os⟩) (od := none) SF I.kIn J q2 (taker_none hno) fun b => ?_)
  refine wpAny_bind (wpAny_pure (wpAny_bind (instanceDict_exc (s := ⟨hp, g, d, t + 1, os⟩) (c2 := .none) ho (looks_clsIn I.kIn hc) hd' ?_)))
  have lt : a < hp.objs.size := Heap.lt_size ho
  have ne : hp.objs.size ≠ a := Nat.ne_of_gt lt
  refine PySem.HandSPX.store_in_new (dx := hp.objs.size) ⟨_, #[], _, (Heap.get?_update_ne _ _ _ _ ne).trans (Heap.get?_push_at rfl rfl), rfl, fun e he => absurd he (by simp), fun _ => rfl⟩ fun h' tk' hn hs => ?_
  have hn0 : H hp.objs.size = none := I.hok.fresh (Nat.le_refl _)
  have keep : ∀ b o, b ≠ a → hp.get? b = some o → h'.get? b = some o := fun b o hb ho' => (hs.2 b (Nat.ne_of_lt (Heap.lt_size ho'))).trans ((Heap.get?_update_ne _ _ _ _ hb).trans (Heap.get?_push_of_some _ ho'))
  have new : h'.get? a = some ({ cls := .ref C, dict := some hp.objs.size, data := .fields #[.ref t1, .none, .none, .none, .bool false, .none] } : Obj) := (hs.2 a (Ne.symm ne)).trans (Heap.get?_update_self _ (Heap.get?_push_of_some _ ho) rfl)
  have nn : ∀ {b : Addr}, H b = none → b ≠ a := fun {b} n z => by rw [z, e] at n; cases n
  have nd : ∀ {b : Addr} {o : Obj}, hp.get? b = some o → b ≠ hp.objs.size := fun {b o} z => Nat.ne_of_lt (Heap.lt_size z)
  have U : Un X.fs [] H (upd (upd H hp.objs.size (exd hp.objs.size [(f, y)])) a (exo a C (some hp.objs.size))) hp h' := {
    keep := fun b o z n _ _ => keep b o (nn n) z
    slot := fun b o z n _ _ => ⟨o.slots, keep b o (nn n) z⟩
    free := fun b o z n _ => by rw [upd_ne (nn n), upd_ne (nd z)]; exact n
    there := fun b o z _ => by
      by_cases hb : b = a
      · subst hb; exact ⟨_, new⟩
      · exact ⟨o, keep b o hb z⟩
    tups := fun b xs z => by rw [upd_ne (at_ne e z exo_tup), upd_ne (ne_of_none z hn0)]; exact z
    frzs := fun b o v z => by rw [upd_ne (at_ne e z exo_frz), upd_ne (ne_of_none z hn0)]; exact z
    tbls := fun b ps z => ⟨#[], by rw [upd_ne (at_ne e z exo_tbl), upd_ne (ne_of_none z hn0), z]; simp⟩ }
  refine go hp.objs.size _ hn0 ne (I.un (t' := tk') U fun b o z => ?_)
  by_cases hb : b = a
  · subst hb
    rw [upd_same] at z
    cases z
    exact exo_ok new
  rw [upd_ne hb] at z
  by_cases hd : b = hp.objs.size
  · subst hd
    rw [upd_same] at z
    cases z
    exact exd_ok hn (relO_put (fs := []) ry fun g => True.intro)
  rw [upd_ne hd] at z
  refine (I.hok b o z).stay (fun c v hc w => keep c v ?_ w) (fun c hc => ?_) fun c xs hc => ?_
  · rcases hc with hc | hc
    · exact fun q => hb (hc ▸ q)
    · exact at_ne e hc exo_own
  · rw [upd_ne (at_ne e hc exo_own), upd_ne (ne_of_none hc hn0)]; exact hc
  · rw [upd_ne (at_ne e hc exo_tup), upd_ne (ne_of_none hc hn0)]; exact hc
/-- a further one -/
theorem store_more (T : EC X.K C) (I : Inv X pins σ H s) (e : H a = some (exo a C (some dx))) (ed : H dx = some (exd dx fs)) (few : fs.length ≤ 900) (hno : findIn X.K (.ref C) f = some none) (ry : RelV y u)
    (go : ∀ s', Inv X pins σ (upd H dx (exd dx ((f, y) :: fs))) s' → Q () s') : wpAny (model X.prog X.w) A (setAttr (.ref a) f u) Q E s := by
  obtain ⟨B, nI, iI, bmB, FB, SF, q1, q2⟩ := T.base
  obtain ⟨cd, hc, hd'⟩ := any_some T.is.hd
  obtain ⟨t1, ho⟩ := exo_at I.hok e
  obtain ⟨mA, hns, rel⟩ := exd_at I.hok ed
  have hw := within_of rel
  obtain ⟨hp, g, d, t, os⟩ := s
  obtain ⟨oD, _, _, hoD, _, _⟩ := hns.count hw
  have J : InstAt hp a ({ cls := .ref C, dict := some dx, data := .fields #[.ref t1, .none, .none, .none, .bool false, .none] } : Obj) C (some oD) := ⟨ho, rfl, rfl, hoD⟩
  refine set_plain I.kIn J T.sa (osa_openX (s := ⟨hp, g, d, t + 1, os⟩) (od := some oD) SF I.kIn J q2 (taker_none hno) fun b => ?_)
  refine wpAny_bind (wpAny_pure (wpAny_bind (wpAny_bind (wpAny_loadPart (s := ⟨hp, g, d, t + 1, os⟩) ho (wpAny_bind (Looks.here (s := ⟨hp, g, d, t + 1, os⟩) (looks_clsIn I.kIn hc) ?_))))))
  rw [hd']
  refine wpAny_pure (a := some dx) ?_
  refine PySem.OEX.store_in_old hns hw (by rw [List.length_map]; omega) fun h' tk' hn hs => ?_
  refine go _ (I.write (t' := tk') (x := dx) (e := dx) (o := exd dx ((f, y) :: fs)) (by rw [ed]; exact True.intro) (.inl rfl) (fun b o hb z => (hs.2 b hb).trans z) ?_ (exd_ok hn (relO_put ry rel)))
  obtain ⟨o, _, _, z, _⟩ := hn
  exact ⟨o, z⟩
end
end MX
end

section
set_option maxRecDepth 100000
set_option maxHeartbeats 4000000
/-! MX2: __init__ that stores its parameters; the calls C(..), C(f = ..). -/
namespace MX
open PySem PySem.Spec PyProof.Rows L2
def tStoF (K : PySem.W.Frag) (f : Str) (to te : TE) : TS := fun D σ H => te σ H fun y H1 => to σ H1 fun x H2 => ∃ a C : Addr, x = .ref a ∧ EC K C ∧ PySem.W.findIn K (.ref C) f = some none ∧
  ((H2 a = some (exo a C none) ∧ ∀ dx, H2 dx = none → dx ≠ a → D.nx σ (upd (upd H2 dx (exd dx [(f, y)])) a (exo a C (some dx)))) ∨
    ∃ (dx : Addr) (fs : List (Str × V)), H2 a = some (exo a C (some dx)) ∧ H2 dx = some (exd dx fs) ∧ fs.length ≤ 900 ∧ D.nx σ (upd H2 dx (exd dx ((f, y) :: fs))))
theorem ps_stoF {X : Cx} {o e : Expr} {to te : TE} {f : Str} {p' pos : Pos} (ho : PE X o to) (he : PE X e te) (hs : swapsWith e (some (.Attribute o f p')) pos.line X.env = pure false := by rfl) : PS X (.Assign [.Attribute o f p'] e pos) (tStoF X.K f to te) := by
  refine ⟨fun pins s σ H D I h => plainObj_wpAny_Assign_Attribute (thn (he.run pins s σ H _ I h) fun v s1 hv => ?_) hs⟩
  obtain ⟨y, H1, I1, r1, q1⟩ := hv
  refine thn (ho.run pins s1 σ H1 _ I1 q1) fun u s2 hu => ?_
  obtain ⟨x, H2, I2, r2, a, C, rfl, T, hno, q⟩ := hu
  cases r2
  rcases q with ⟨ea, q⟩ | ⟨dx, fs, ea, ed, hl, q⟩
  · exact store_first T I2 ea hno r1 fun dx s' n ne J => ⟨σ, _, J, q dx n ne⟩
  · exact store_more T I2 ea ed hl hno r1 fun s' J => ⟨σ, _, J, q⟩

/-- the fields as the exception's dict holds them: the last one first -/
def mkF (fs : List Str) (ws : List V) : List (Str × V) := (fs.zip ws).reverse
/-- __init__ with the exception first: the parameters are stored as these fields -/
def spE (np : Nat) (fs : List Str) (K : PySem.W.Frag) : Sp := fun vs H Q _ => vs.length = np ∧ ∃ (a C : Addr) (ws : List V), vs = .ref a :: ws ∧ EC K C ∧ (∀ f ∈ fs, PySem.W.findIn K (.ref C) f = some none) ∧ H a = some (exo a C none) ∧
  ∀ dx, H dx = none → dx ≠ a → Q .non (upd (upd H dx (exd dx (mkF fs ws))) a (exo a C (some dx)))
theorem upd_twice {H : Hp} {a d : Addr} {o o' u : HO} (h : d ≠ a) : upd (upd (upd H d o) a u) d o' = upd (upd H d o') a u := by
  funext b
  by_cases h1 : b = d
  · subst h1; rw [upd_same, upd_ne h, upd_same]
  · rw [upd_ne h1]
    by_cases h2 : b = a
    · subst h2; rw [upd_same, upd_same]
    · rw [upd_ne h2, upd_ne h1, upd_ne h2, upd_ne h1]
section
variable {P : Program} {w : World} {K : PySem.W.Frag} {mg : Str → Option Value} {base : Heap} {x qual self y z f g : Str} {st : Stmt} {fI : Addr} {fd : FuncData} {k : Nat} {p1 p2 p3 p4 q1 q2 q3 q4 : Pos}
theorem init_one (T : Fun K x qual st fI fd) (S : FnScope [self, y] [self, y] (defScope st)) (hb : defBody st = [.Assign [.Attribute (.Name self p1) f p2] (.Name y p3) p4]) (v0 : Vis (defScope st) self) (v1 : Vis (defScope st) y)
    (d0 : (self == ("__debug__" : Str)) = false := by decide) (d1 : (y == ("__debug__" : Str)) = false := by decide) (c0 : (self == ("__classdict__" : Str)) = false := by decide) (c1 : (y == ("__classdict__" : Str)) = false := by decide) :
    FnOk P w K mg base (L2.CX P w) (k + 1) fI fd [self, y] (spE 2 [f] K) := by
  refine T.okX S (fun vs H Q E h => h.1) fun cdv A outer s H vs Q E hr h => ?_
  rw [hb]
  refine ⟨_, pss_one (ps_stoF (pe_var (i := 0) rfl v0 d0 c0) (pe_var (i := 1) rfl v1 d1 c1)), ?_⟩
  obtain ⟨hl, a, C, ws, rfl, EC0, hf, ha, q⟩ := h
  match ws, hl with
  | [u], _ =>
    refine ⟨u, rfl, .ref a, rfl, a, C, rfl, EC0, hf f (by simp), .inl ⟨ha, fun dx h1 h2 => q dx h1 h2⟩⟩
theorem init_two (T : Fun K x qual st fI fd) (S : FnScope [self, y, z] [self, y, z] (defScope st)) (hb : defBody st = [.Assign [.Attribute (.Name self p1) f p2] (.Name y p3) p4, .Assign [.Attribute (.Name self q1) g q2] (.Name z q3) q4])
    (v0 : Vis (defScope st) self) (v1 : Vis (defScope st) y) (v2 : Vis (defScope st) z)
    (d0 : (self == ("__debug__" : Str)) = false := by decide) (d1 : (y == ("__debug__" : Str)) = false := by decide) (d2 : (z == ("__debug__" : Str)) = false := by decide) (c0 : (self == ("__classdict__" : Str)) = false := by decide) (c1 : (y == ("__classdict__" : Str)) = false := by decide) (c2 : (z == ("__classdict__" : Str)) = false := by decide) :
    FnOk P w K mg base (L2.CX P w) (k + 1) fI fd [self, y, z] (spE 3 [f, g] K) := by
  refine T.okX S (fun vs H Q E h => h.1) fun cdv A outer s H vs Q E hr h => ?_
  rw [hb]
  refine ⟨_, pss_cons (ps_stoF (pe_var (i := 0) rfl v0 d0 c0) (pe_var (i := 1) rfl v1 d1 c1)) (pss_one (ps_stoF (pe_var (i := 0) rfl v0 d0 c0) (pe_var (i := 2) rfl v2 d2 c2))), ?_⟩
  obtain ⟨hl, a, C, ws, rfl, EC0, hf, ha, q⟩ := h
  match ws, hl with
  | [u, u2], _ =>
    refine ⟨u, rfl, .ref a, rfl, a, C, rfl, EC0, hf f (by simp), .inl ⟨ha, fun dx h1 h2 => ?_⟩⟩
    refine ⟨u2, rfl, .ref a, rfl, a, C, rfl, EC0, hf g (by simp), .inr ⟨dx, [(f, u)], upd_same, by rw [upd_ne h2, upd_same], by simp, ?_⟩⟩
    show Q .non _
    rw [upd_twice h2]
    exact q dx h1 h2
end

/-! ### C(..) -/
/-- a new exception of the class C with these fields -/
def tMkE (C : Addr) (n m : Nat) (fs : List Str) (gA : List V → List V → List V) (t tk : TA) : TE := fun σ H Q => t σ H fun vs H1 => tk σ H1 fun zs H2 => vs.length = n ∧ zs.length = m ∧ n ≤ 1000 ∧
  ∀ a dx, H2 a = none → H2 dx = none → dx ≠ a → Q (.ref a) (upd (upd (upd H2 a (exo a C none)) dx (exd dx (mkF fs (gA vs zs)))) a (exo a C (some dx)))
section
variable {X : Cx} {k n np : Nat} {fI C : Addr} {fd : FuncData} {ps ks fs : List Str} {x : Str} {p pos : Pos} {e : Expr} {es : List Expr} {kws : List Keyword} {t tk : TA} {g : List Value → List Value → List Value} {gV gA : List V → List V → List V}
theorem run_mkE {pins : List (Addr × Obj)} {σ : L2.St} {H : Hp} {s : Shared} {Q : VK} {us ws : List Value} {vs zs : List V} (T : EC X.K C) (iC : PySem.W.findIn X.K (.ref C) "__init__" = some (some (.ref fI))) (tI : PySem.W.typeIn X.K (.ref fI) = some (.type "function"))
    (hfs : ∀ f ∈ fs, PySem.W.findIn X.K (.ref C) f = some none) (F : FnOk X.prog X.w X.K X.mg X.base (L2.CX X.prog X.w) k fI fd ps (spE np fs X.K)) (hr : Room (k + 1) X.A) (hb : KBn X.K fd ps (n + 1) ks g gV) (hg : ∀ a vs zs, vs.length = n → zs.length = ks.length → gV (V.ref a :: vs) zs = V.ref a :: gA vs zs ∧ (gA vs zs).length + 1 = np)
    (I : Inv X pins σ H s) (r : Vals vs us) (rz : Vals zs ws) (l1 : vs.length = n) (l2 : zs.length = ks.length) (few : n ≤ 1000)
    (h : ∀ a dx, H a = none → H dx = none → dx ≠ a → Q (.ref a) (upd (upd (upd H a (exo a C none)) dx (exd dx (mkF fs (gA vs zs)))) a (exo a C (some dx)))) :
    wpAny (model X.prog X.w) X.A (call (.ref C) us (ks.zip ws)) (EP X pins σ Q) X.xe s := by
  obtain ⟨B, nI, iI, bmB, FB, SF, q1, q2⟩ := T.base
  obtain ⟨nm, N', qn, bs, bm, hdct, sn, sub, ab, col, dd, k0, k1, k2, k3, k5, hC, hT⟩ := PySem.W.excInit_of I.kIn q1
  obtain ⟨hp, gs, dr, tok, os⟩ := s
  have keep : ∀ b o, hp.get? b = some o → (withNew hp C us).get? b = some o := fun b o q => withNew_keeps q
  have hsz : hp.objs.size ≤ hp.objs.size + 1 := Nat.le_succ _
  have ha : H (hp.objs.size + 1) = none := I.hok.fresh hsz
  have I2 : Inv X pins σ (upd H (hp.objs.size + 1) (exo (hp.objs.size + 1) C none)) ⟨withNew hp C us, gs, dr, tok, os⟩ :=
    I.laid (t' := tok) (a := hp.objs.size + 1) (o := exo (hp.objs.size + 1) C none) (h' := withNew hp C us) keep hsz (exo_ok (t1 := hp.objs.size) withNew_at)
  have r1 : Vals (V.ref (hp.objs.size + 1) :: vs) (Value.ref (hp.objs.size + 1) :: us) := .cons rfl r
  have r2 := hb.rel r1 rz
  obtain ⟨eg, eg2⟩ := hg (hp.objs.size + 1) vs zs l1 l2
  have lu : us.length ≤ sizeLine := by rw [← r.length, l1, sizeLine_eq]; omega
  have sp : spE np fs X.K (gV (V.ref (hp.objs.size + 1) :: vs) zs) (upd H (hp.objs.size + 1) (exo (hp.objs.size + 1) C none)) (fun v H2 => v = .non ∧ Q (.ref (hp.objs.size + 1)) H2) (fun _ _ _ => False) := by
    rw [eg]
    refine ⟨by simpa using eg2, hp.objs.size + 1, C, _, rfl, T, hfs, upd_same, fun dx h1 h2 => ⟨rfl, ?_⟩⟩
    exact h (hp.objs.size + 1) dx ha (by rw [upd_ne h2] at h1; exact h1) h2
  refine wpAny_call (class_called FB hT hC lu (PySem.W.looks_findIn I.kIn iC) (fun self => PySem.W.bind_fn I.kIn self tI) ?_)
  refine codeAny_mono (F.run _ X.stack _ _ ⟨Value.ref (hp.objs.size + 1) :: us, ks.zip ws⟩ (g (Value.ref (hp.objs.size + 1) :: us) ws) _ _ (fun _ _ _ => False) (hr.make C us (ks.zip ws)) (I2.env0.make C us (ks.zip ws))
    (hb.to _ (Value.ref (hp.objs.size + 1) :: us) ws I2.kIn (by rw [← r1.length]; simp [l1]) (by rw [← rz.length]; exact l2)) r2 sp) fun res s' hq => ?_
  cases res with
  | error e =>
    obtain ⟨_, _, _, _, _, _, _, _, _, _, _, _, z⟩ := hq
    exact z.elim
  | ok fl =>
    cases fl with
    | ret u =>
      obtain ⟨v, H', I3, rv, ev, q3⟩ := I2.after hq
      subst ev
      exact ⟨rv, ⟨V.ref (hp.objs.size + 1), H', I3, rfl, q3⟩⟩
    | next => exact False.elim hq
    | brk => exact False.elim hq
    | cont => exact False.elim hq
theorem pe_mkE (T : EC X.K C) (iC : PySem.W.findIn X.K (.ref C) "__init__" = some (some (.ref fI))) (tI : PySem.W.typeIn X.K (.ref fI) = some (.type "function"))
    (hfs : ∀ f ∈ fs, PySem.W.findIn X.K (.ref C) f = some none) (F : FnOk X.prog X.w X.K X.mg X.base (L2.CX X.prog X.w) k fI fd ps (spE np fs X.K)) (hr : Room (k + 1) X.A) (hb : KBn X.K fd ps (n + 1) [] g gV) (hg : ∀ a vs zs, vs.length = n → zs.length = ([] : List Str).length → gV (V.ref a :: vs) zs = V.ref a :: gA vs zs ∧ (gA vs zs).length + 1 = np)
    (hgl : Gl X x) (hm : X.mg x = some (.ref C)) (ha : PA X (e :: es) t)
    (hdb : (x == ("__debug__" : Str)) = false := by decide) (he : starEach (e :: es) X.env = (false, eval e X.env) :: starEach es X.env := by rfl) (hpl : (backTo pos (starEach es X.env)).any (·.1) = false := by rfl) :
    PE X (.Call (.Name x p) (e :: es) [] pos) (tMkE C n 0 fs gA t tNil) := by
  refine ⟨fun pins s σ H Q I h => ?_⟩
  refine wpAny_Call_Name_kw (ld_glob I hgl hm ?_ hdb)
  refine PySem.W.callWith_K (h₀ := X.base) I.ok.mod.kin T.kp (thn (ha.run pos pins s σ H _ I h) fun us s1 hu => ?_) he hpl
  obtain ⟨vs, H1, I1, r, l1, l2, few, q⟩ := hu
  exact ⟨I1.kIn, run_mkE (ks := []) (ws := []) (zs := []) T iC tI hfs F hr hb hg I1 r .nil l1 rfl few q⟩
theorem pe_mkEK (T : EC X.K C) (iC : PySem.W.findIn X.K (.ref C) "__init__" = some (some (.ref fI))) (tI : PySem.W.typeIn X.K (.ref fI) = some (.type "function"))
    (hfs : ∀ f ∈ fs, PySem.W.findIn X.K (.ref C) f = some none) (F : FnOk X.prog X.w X.K X.mg X.base (L2.CX X.prog X.w) k fI fd ps (spE np fs X.K)) (hr : Room (k + 1) X.A) (hb : KBn X.K fd ps (0 + 1) ks g gV) (hg : ∀ a vs zs, vs.length = 0 → zs.length = ks.length → gV (V.ref a :: vs) zs = V.ref a :: gA vs zs ∧ (gA vs zs).length + 1 = np)
    (hgl : Gl X x) (hm : X.mg x = some (.ref C)) (hkw : PK X kws tk) (hall : (backToKw pos (keywordEach kws X.env)).all (·.1.isSome) = true := by rfl) (hks : (backToKw pos (keywordEach kws X.env)).filterMap (·.1) = ks := by rfl)
    (hdb : (x == ("__debug__" : Str)) = false := by decide) (hpl : ((backTo pos (starEach [] X.env)).any (·.1) || (backToKw pos (keywordEach kws X.env)).any (·.1.isNone)) = false := by rfl) :
    PE X (.Call (.Name x p) [] kws pos) (tMkE C 0 ks.length fs gA tNil tk) := by
  refine ⟨fun pins s σ H Q I h => ?_⟩
  refine wpAny_Call_Name_kw (ld_glob I hgl hm ?_ hdb)
  refine PySem.W.callWith_KW0 (h₀ := X.base) I.ok.mod.kin T.kp hall (thn (hkw.run pos pins s σ H _ I h) fun ws s1 hu => ?_) hpl
  obtain ⟨zs, H1, I1, r, l1, l2, few, q⟩ := hu
  refine ⟨I1.kIn, ?_⟩
  rw [hks]
  exact run_mkE (n := 0) (us := []) (vs := []) T iC tI hfs F hr hb hg I1 .nil r rfl l2 few q
end
end MX
end

section
set_option maxRecDepth 100000
set_option maxHeartbeats 4000000
/-! MX3: C() of a class without own __init__; e.f; isinstance(e, T). -/
namespace MX
open PySem PySem.Spec PyProof.Rows L2
/-- an own class without an own __init__ -/
structure E0 (K : PySem.W.Frag) (C : Addr) : Prop where
  base : ∃ B newId initId bmB, ExcBaseFacts B newId initId bmB ∧ PySem.W.excIn K C bmB newId = true
  kp : PySem.W.keepIn K (.ref C) = true
/-- C() -/
def tMk0 (C : Addr) : TE := fun _ H Q => ∀ a, H a = none → Q (.ref a) (upd H a (exo a C none))
/-- e.f -/
def tFld (f : Str) (K : PySem.W.Frag) (te : TE) : TE := fun σ H Q => te σ H fun x H1 => ∃ (a C dx : Addr) (fs : List (Str × V)) (v : V), x = .ref a ∧ H1 a = some (exo a C (some dx)) ∧ H1 dx = some (exd dx fs) ∧ EC K C ∧ PySem.W.findIn K (.ref C) f = some none ∧ fs.lookup f = some v ∧ Q v H1
/-- isinstance(e, c) -/
def rIsX (K : PySem.W.Frag) : List V → Hp → VK → Prop := fun xs H Q => ∃ (a C : Addr) (c : V) (cv : Value) (b : Bool), xs = [.ref a, c] ∧ (H a = some (exo a C none) ∨ ∃ dx fs, H a = some (exo a C (some dx)) ∧ H dx = some (exd dx fs)) ∧ ExcC K C ∧ (∀ u, RelV c u → u = cv) ∧ PySem.W.kitOne K (.ref C) cv = some b ∧ Q (.bl b) H
section
variable {X : Cx} {C : Addr} {x f : Str} {e : Expr} {te : TE} {p pos : Pos}
theorem pe_mk0 (T : E0 X.K C) (hg : Gl X x) (hm : X.mg x = some (.ref C)) (hdb : (x == ("__debug__" : Str)) = false := by decide) : PE X (.Call (.Name x p) [] [] pos) (tMk0 C) := by
  refine ⟨fun pins s σ H Q I h => ?_⟩
  obtain ⟨B, nI, iI, bmB, FB, q⟩ := T.base
  refine wpAny_Call_Name_kw (ld_glob I hg hm ?_ hdb)
  refine PySem.W.callWith_K0 I.kIn T.kp ?_
  show wpAny _ _ (call (.ref C) []) _ _ _
  obtain ⟨bm, N, nm, qn, bs, hdct, sn, sub, ab, col, dd, k0, k1, k2, k3, k5, mN, hC, hN, hni, tl⟩ := exc_obj I.kIn q
  refine wpAny_call_exc_subT FB tl hC hN hni (fun h' a hm => ?_) (by show 0 ≤ sizeLine; exact Nat.zero_le _)
  have hn : H a = none := I.hok.gone hm.new
  obtain ⟨t, ht, _, _⟩ := hm.there
  exact ⟨.ref a, upd H a (exo a C none), I.laidN hm.keeps hm.new hn (exo_ok ht), rfl, h a hn⟩
theorem pe_fld (he : PE X e te) (hb : attributeBase e f X.env (eval e X.env) = eval e X.env := by rfl) : PE X (.Attribute e f pos) (tFld f X.K te) := by
  refine ⟨fun pins s σ H Q I h => attr_of hb (thn (he.run pins s σ H _ I h) fun u s1 hu => ?_)⟩
  obtain ⟨x, H1, I1, rx, a, C, dx, fs, v, rfl, ea, ed, T, hno, l, q⟩ := hu
  cases rx
  obtain ⟨t1, ho⟩ := exo_at I1.hok ea
  obtain ⟨mA, hns, hr⟩ := exd_at I1.hok ed
  obtain ⟨od, hod, hl⟩ := lookIn_ns hns
  obtain ⟨u, hu, ru⟩ := RelO.some_of (v := v) (o := mA f) (by rw [← l]; exact hr f)
  have J : PySem.W.InstAt s1.heap a ({ cls := .ref C, dict := some dx, data := .fields #[.ref t1, .none, .none, .none, .bool false, .none] } : Obj) C (some od) := ⟨ho, rfl, rfl, hod⟩
  exact HandSPX.exc_get I1.kIn J T.is.hg T.is.hk T.is.hs (PySem.W.findObj_own T.is.hd hno rfl (by rw [hl, hu])) (handed_of ru) ⟨v, H1, I1.tok _, ru, q⟩
theorem call_isX : CallR X (.builtin "isinstance") (rIsX X.K) := by
  intro pins s σ H xs us Q I r h
  obtain ⟨a, C, c, cv, b, rfl, hat, T, hcv, e, q⟩ := h
  cases r with
  | cons rx rr =>
    cases rr with
    | cons rt rr =>
      cases rr
      cases rx
      have ec := hcv _ rt
      subst ec
      have hcl : (PySem.W.clsIn X.K C).isSome = true := by
        obtain ⟨cd, hc, _⟩ := PySem.W.any_some T.hd
        rw [hc]; rfl
      have J : ∃ oe od, PySem.W.InstAt s.heap a oe C od := by
        rcases hat with ea | ⟨dx, fs, ea, ed⟩
        · obtain ⟨t1, ho⟩ := exo_at I.hok ea
          exact ⟨_, none, ho, rfl, rfl, trivial⟩
        · obtain ⟨t1, ho⟩ := exo_at I.hok ea
          obtain ⟨mA, ⟨od, _, _, hod, _⟩, _⟩ := exd_at I.hok ed
          exact ⟨_, some od, ho, rfl, rfl, hod⟩
      obtain ⟨oe, od, J⟩ := J
      exact PySem.W.kia_one (PySem.W.kitx_exc hcl T.hg T.hk T.hs T.ha T.hn T.ht T.hm) I.kIn J e (fun z => nomatch z) fun tk => ⟨.bl b, H, I.kept (t' := tk) fun _ _ z => z, rfl, q⟩
end
end MX
end

section
set_option maxRecDepth 100000
set_option maxHeartbeats 1000000
/-! MP: a small Python by values. D: a value (tuples, lists that are never changed again: by content; lists that may change: a number in the small heap).
  SE, ST, SS: an expression, a test, a block does what a plain function does. -/
namespace MP
open PySem PySem.Spec PyProof.Rows L2

inductive D where
  | non | bl (b : Bool) | int (i : Int) | str (x : Str) | tup (xs : List D) | lst (xs : List D) | scr (xs : List D) | obj (i : Nat) | err (c : Nat) (ns : List Str) (xs : List D)
  deriving Inhabited

mutual
def D.beq : D → D → Bool
  | .non, .non => true
  | .bl a, .bl b => a == b
  | .int a, .int b => a == b
  | .str a, .str b => decide (a = b)
  | .tup a, .tup b => D.beqs a b
  | .lst a, .lst b => D.beqs a b
  | .scr a, .scr b => D.beqs a b
  | .obj a, .obj b => a == b
  | .err c n a, .err d k b => (c == d && decide (n = k)) && D.beqs a b
  | _, _ => false
def D.beqs : List D → List D → Bool
  | [], [] => true
  | a :: as, b :: bs => D.beq a b && D.beqs as bs
  | _, _ => false
end
mutual
theorem D.beq_eq : ∀ {a b : D}, D.beq a b = true → a = b
  | .non, b, h => by cases b <;> simp_all [D.beq]
  | .bl a, b, h => by cases b <;> simp_all [D.beq]
  | .int a, b, h => by cases b <;> simp_all [D.beq]
  | .str a, b, h => by cases b <;> simp_all [D.beq]
  | .tup a, b, h => by
    cases b with
    | tup b => rw [D.beqs_eq (a := a) (b := b) (by simpa [D.beq] using h)]
    | _ => simp [D.beq] at h
  | .lst a, b, h => by
    cases b with
    | lst b => rw [D.beqs_eq (a := a) (b := b) (by simpa [D.beq] using h)]
    | _ => simp [D.beq] at h
  | .scr a, b, h => by
    cases b with
    | scr b => rw [D.beqs_eq (a := a) (b := b) (by simpa [D.beq] using h)]
    | _ => simp [D.beq] at h
  | .obj a, b, h => by cases b <;> simp_all [D.beq]
  | .err c n a, b, h => by
    cases b with
    | err d k b =>
      have h' : (c = d ∧ n = k) ∧ D.beqs a b = true := by simpa [D.beq] using h
      rw [h'.1.1, h'.1.2, D.beqs_eq (a := a) (b := b) h'.2]
    | _ => simp [D.beq] at h
theorem D.beqs_eq : ∀ {a b : List D}, D.beqs a b = true → a = b
  | [], b, h => by cases b <;> simp_all [D.beqs]
  | x :: xs, b, h => by
    cases b with
    | nil => simp [D.beqs] at h
    | cons y ys =>
      have h' : D.beq x y = true ∧ D.beqs xs ys = true := by simpa [D.beqs] using h
      rw [D.beq_eq h'.1, D.beqs_eq h'.2]
end
mutual
theorem D.beq_refl : ∀ (a : D), D.beq a a = true
  | .non => by simp [D.beq]
  | .bl a => by simp [D.beq]
  | .int a => by simp [D.beq]
  | .str a => by simp [D.beq]
  | .tup a => by simp [D.beq, D.beqs_refl a]
  | .lst a => by simp [D.beq, D.beqs_refl a]
  | .scr a => by simp [D.beq, D.beqs_refl a]
  | .obj a => by simp [D.beq]
  | .err c n a => by simp [D.beq, D.beqs_refl a]
theorem D.beqs_refl : ∀ (a : List D), D.beqs a a = true
  | [] => by simp [D.beqs]
  | x :: xs => by simp [D.beqs, D.beq_refl x, D.beqs_refl xs]
end

/-- an error of one of the program's own classes: its class's name, its fields -/
structure Exc where
  cls : Str
  fs : List (Str × D)

/-- the small heap: lists that may change -/
abbrev EH := List (List D)
abbrev Ev := List (Option D)
inductive Res (α : Type) where
  | val (a : α)
  | exc (e : Exc)
inductive Fl where
  | nxt | brk | cnt | ret (d : D) | exc (e : Exc)
/-- what an expression does; a test; a block -/
abbrev FE := Ev → EH → Option (Res D × EH)
abbrev FT := Ev → EH → Option (Res Bool × EH)
abbrev FA := Ev → EH → Option (Res (List D) × EH)
abbrev FS := Ev → EH → Option (Fl × Ev × EH)
/-- what a def does -/
abbrev FF := List D → EH → Option (Res D × EH)

/-! ### how the values stand in the heap: F the lists and tuples that are never changed again, m where the lists that may change stand -/
mutual
inductive Dn (K : PySem.W.Frag) (F : Hp) (m : List Addr) : V → D → Prop
  | non : Dn K F m .non .non
  | bl (b : Bool) : Dn K F m (.bl b) (.bl b)
  | int (i : Int) : Dn K F m (.int i) (.int i)
  | str (x : Str) : Dn K F m (.str x) (.str x)
  | tup {a : Addr} {vs : List V} {ds : List D} : SqT K F a vs → Dns K F m vs ds → Dn K F m (.ref a) (.tup ds)
  | lst {a : Addr} {vs : List V} {ds : List D} : F a = some (.lst vs) → Dns K F m vs ds → Dn K F m (.ref a) (.lst ds)
  | scr {a : Addr} {vs : List V} {ds : List D} : SqL K F a vs → Dns K F m vs ds → Dn K F m (.ref a) (.scr ds)
  | obj {a : Addr} {i : Nat} : m[i]? = some a → Dn K F m (.ref a) (.obj i)
  | err {a C dx : Addr} {fs : List (Str × V)} {ns : List Str} {ds : List D} : F a = some (exo a C (some dx)) → F dx = some (exd dx fs) → (MX.EC K C ∧ ∀ g ∈ ns, PySem.W.findIn K (.ref C) g = some none) → fs.map (·.1) = ns → Dns K F m (fs.map (·.2)) ds → Dn K F m (.ref a) (.err C ns ds)
  | er0 {a C : Addr} : F a = some (exo a C none) → ExcC K C → Dn K F m (.ref a) (.err C [] [])
inductive Dns (K : PySem.W.Frag) (F : Hp) (m : List Addr) : List V → List D → Prop
  | nil : Dns K F m [] []
  | cons {v : V} {vs : List V} {d : D} {ds : List D} : Dn K F m v d → Dns K F m vs ds → Dns K F m (v :: vs) (d :: ds)
end

section
variable {K : PySem.W.Frag} {F F' : Hp} {m m' : List Addr}
theorem SqL.mono {a : Addr} {xs : List V} (e : Same F F') (h : SqL K F a xs) : SqL K F' a xs := e.seq h
theorem SqT.mono {a : Addr} {xs : List V} (e : Same F F') (h : SqT K F a xs) : SqT K F' a xs := by
  rcases h with (h | ⟨o, h⟩) | h
  · exact .inl (.inl (e _ _ h))
  · exact .inl (.inr ⟨o, e _ _ h⟩)
  · exact .inr h
theorem pre_get {α : Type} {m m' : List α} {i : Nat} {a : α} (p : m <+: m') (h : m[i]? = some a) : m'[i]? = some a := by
  obtain ⟨t, rfl⟩ := p
  rw [List.getElem?_append_left (List.getElem?_eq_some_iff.mp h).1]
  exact h
mutual
theorem Dn.mono (e : Same F F') (p : m <+: m') : ∀ {d : D} {v : V}, Dn K F m v d → Dn K F' m' v d
  | .non, _, h => by cases h; exact .non
  | .bl b, _, h => by cases h; exact .bl b
  | .int i, _, h => by cases h; exact .int i
  | .str i, _, h => by cases h; exact .str i
  | .tup ds, _, h => by
    cases h with
    | tup h1 h2 => exact .tup (SqT.mono e h1) (Dns.mono e p h2)
  | .lst ds, _, h => by
    cases h with
    | lst h1 h2 => exact .lst (e _ _ h1) (Dns.mono e p h2)
  | .scr ds, _, h => by
    cases h with
    | scr h1 h2 => exact .scr (SqL.mono e h1) (Dns.mono e p h2)
  | .obj i, _, h => by
    cases h with
    | obj h1 => exact .obj (pre_get p h1)
  | .err c n ds, _, h => by
    cases h with
    | err h1 h2 h3 h4 h5 => exact .err (e _ _ h1) (e _ _ h2) h3 h4 (Dns.mono e p h5)
    | er0 h1 h2 => exact .er0 (e _ _ h1) h2
theorem Dns.mono (e : Same F F') (p : m <+: m') : ∀ {ds : List D} {vs : List V}, Dns K F m vs ds → Dns K F' m' vs ds
  | [], _, h => by cases h; exact .nil
  | d :: ds, _, h => by
    cases h with
    | cons h1 h2 => exact .cons (Dn.mono e p h1) (Dns.mono e p h2)
end
theorem Dns.length : ∀ {vs : List V} {ds : List D}, Dns K F m vs ds → vs.length = ds.length
  | _, [], h => by cases h; rfl
  | _, d :: ds, h => by
    cases h with
    | cons h1 h2 => simp [Dns.length h2]
theorem Dns.get : ∀ {vs : List V} {ds : List D} {i : Nat} {d : D}, Dns K F m vs ds → ds[i]? = some d → ∃ v, vs[i]? = some v ∧ Dn K F m v d
  | _, [], i, d, h, e => by simp at e
  | _, d :: ds, i, d', h, e => by
    cases h with
    | cons h1 h2 =>
      cases i with
      | zero => simp at e; subst e; exact ⟨_, rfl, h1⟩
      | succ i =>
        obtain ⟨v, q1, q2⟩ := Dns.get (i := i) h2 (by simpa using e)
        exact ⟨v, by simpa using q1, q2⟩
theorem Dns.getV : ∀ {vs : List V} {ds : List D} {i : Nat} {v : V}, Dns K F m vs ds → vs[i]? = some v → ∃ d, ds[i]? = some d ∧ Dn K F m v d
  | _, [], i, d, h, e => by cases h; simp at e
  | _, d :: ds, i, d', h, e => by
    cases h with
    | cons h1 h2 =>
      cases i with
      | zero => simp at e; subst e; exact ⟨_, rfl, h1⟩
      | succ i =>
        obtain ⟨v, q1, q2⟩ := Dns.getV (i := i) h2 (by simpa using e)
        exact ⟨v, by simpa using q1, q2⟩
theorem Dns.append : ∀ {vs ws : List V} {ds es : List D}, Dns K F m vs ds → Dns K F m ws es → Dns K F m (vs ++ ws) (ds ++ es)
  | _, _, [], _, h, q => by cases h; exact q
  | _, _, d :: ds, _, h, q => by
    cases h with
    | cons h1 h2 => exact .cons h1 (Dns.append h2 q)
theorem Dns.take (n : Nat) : ∀ {vs : List V} {ds : List D}, Dns K F m vs ds → Dns K F m (vs.take n) (ds.take n) := by
  induction n with
  | zero => intro vs ds h; exact .nil
  | succ n ih =>
    intro vs ds h
    cases h with
    | nil => exact .nil
    | cons h1 h2 => exact .cons h1 (ih h2)
theorem Dns.drop (n : Nat) : ∀ {vs : List V} {ds : List D}, Dns K F m vs ds → Dns K F m (vs.drop n) (ds.drop n) := by
  induction n with
  | zero => intro vs ds h; exact h
  | succ n ih =>
    intro vs ds h
    cases h with
    | nil => exact .nil
    | cons h1 h2 => exact ih h2
theorem Dns.set (n : Nat) {v : V} {d : D} (q : Dn K F m v d) : ∀ {vs : List V} {ds : List D}, Dns K F m vs ds → Dns K F m (vs.set n v) (ds.set n d) := by
  induction n with
  | zero =>
    intro vs ds h
    cases h with
    | nil => exact .nil
    | cons h1 h2 => exact .cons q h2
  | succ n ih =>
    intro vs ds h
    cases h with
    | nil => exact .nil
    | cons h1 h2 => exact .cons h1 (ih h2)
theorem Dns.reverse {vs : List V} {ds : List D} (h : Dns K F m vs ds) : Dns K F m vs.reverse ds.reverse := by
  induction ds generalizing vs with
  | nil => cases h; exact .nil
  | cons d ds ih =>
    cases h with
    | cons h1 h2 =>
      rw [List.reverse_cons, List.reverse_cons]
      exact Dns.append (ih h2) (.cons h1 .nil)
theorem Dns.rep {vs : List V} {ds : List D} (h : Dns K F m vs ds) : ∀ k : Nat, Dns K F m (List.replicate k vs).flatten (List.replicate k ds).flatten
  | 0 => .nil
  | k + 1 => by
    rw [List.replicate_succ, List.replicate_succ, List.flatten_cons, List.flatten_cons]
    exact Dns.append h (Dns.rep h k)
theorem Dns.one {v : V} {d : D} (h : Dn K F m v d) : Dns K F m [v] [d] := .cons h .nil
end

/-- the small heap stands in the heap -/
structure R (K : PySem.W.Frag) (F : Hp) (m : List Addr) (H : Hp) (hp : EH) : Prop where
  sub : Same F H
  len : m.length = hp.length
  nod : m.Nodup
  fre : ∀ a, a ∈ m → F a = none
  obj : ∀ (i : Nat) (a : Addr) (ds : List D), m[i]? = some a → hp[i]? = some ds → ∃ vs, H a = some (.lst vs) ∧ Dns K F m vs ds
/-- the names -/
structure En (K : PySem.W.Frag) (F : Hp) (m : List Addr) (σ : L2.St) (env : Ev) : Prop where
  len : env.length = σ.length
  get : ∀ (i : Nat) (d : D), env[i]? = some (some d) → ∃ v, σ[i]? = some (some v) ∧ Dn K F m v d
/-- what happens between two moments -/
structure Nx (F : Hp) (m : List Addr) (H : Hp) (F' : Hp) (m' : List Addr) (H' : Hp) : Prop where
  fz : Same F F'
  pre : m <+: m'
  kp : ∀ a o, H a = some o → a ∉ m → H' a = some o
  nw : ∀ a, a ∈ m' → a ∈ m ∨ H a = none
  nf : ∀ a o, F' a = some o → F a = some o ∨ H a = none
  tr : ∀ a o, H a = some o → ∃ o', H' a = some o'
section
variable {K : PySem.W.Frag} {F F' F1 F2 : Hp} {m m' m1 m2 : List Addr} {H H' H1 H2 : Hp} {hp hp' : EH} {σ : L2.St} {env : Ev}
theorem Nx.refl : Nx F m H F m H := ⟨Same.refl _, List.prefix_refl _, fun _ _ h _ => h, fun _ h => .inl h, fun _ _ h => .inl h, fun _ o h => ⟨o, h⟩⟩
theorem pre_mem {α : Type} {m m' : List α} (p : m <+: m') {a : α} (h : a ∈ m) : a ∈ m' := by
  obtain ⟨t, rfl⟩ := p
  exact List.mem_append_left _ h
theorem R.there {a : Addr} (r : R K F m H hp) (h : a ∈ m) : ∃ vs, H a = some (.lst vs) := by
  obtain ⟨i, hi, e⟩ := List.mem_iff_getElem.mp h
  have h1 : m[i]? = some a := by rw [List.getElem?_eq_getElem hi, e]
  have h2 : i < hp.length := by rw [← r.len]; exact hi
  obtain ⟨vs, q, _⟩ := r.obj i a hp[i] h1 (List.getElem?_eq_getElem h2)
  exact ⟨vs, q⟩
theorem Nx.trans (a : Nx F m H F1 m1 H1) (b : Nx F1 m1 H1 F2 m2 H2) : Nx F m H F2 m2 H2 where
  fz := a.fz.trans b.fz
  pre := a.pre.trans b.pre
  kp := fun c o e n => b.kp c o (a.kp c o e n) fun q => by
    rcases a.nw c q with z | z
    · exact n z
    · rw [z] at e; cases e
  nw := fun c q => by
    rcases b.nw c q with z | z
    · exact a.nw c z
    · cases e : H c with
      | none => exact .inr rfl
      | some o =>
        obtain ⟨o', q⟩ := a.tr c o e
        rw [q] at z; cases z
  nf := fun c o q => by
    rcases b.nf c o q with z | z
    · exact a.nf c o z
    · cases e : H c with
      | none => exact .inr rfl
      | some o =>
        obtain ⟨o', q⟩ := a.tr c o e
        rw [q] at z; cases z
  tr := fun c o e => by
    obtain ⟨o', q⟩ := a.tr c o e
    exact b.tr c o' q
theorem En.mono (n : Nx F m H F' m' H') (e : En K F m σ env) : En K F' m' σ env := ⟨e.len, fun i d h => by
  obtain ⟨v, q1, q2⟩ := e.get i d h
  exact ⟨v, q1, q2.mono n.fz n.pre⟩⟩
theorem En.set {i : Nat} {v : V} {d : D} (e : En K F m σ env) (h : Dn K F m v d) : En K F m (σ.set i (some v)) (env.set i (some d)) := ⟨by simpa using e.len, fun j d' q => by
  by_cases hj : j = i
  · subst hj
    by_cases hl : j < env.length
    · rw [List.getElem?_set_self hl] at q
      cases q
      exact ⟨v, by rw [List.getElem?_set_self (by rw [← e.len]; exact hl)], h⟩
    · rw [List.getElem?_eq_none (by simpa using hl)] at q; cases q
  · rw [List.getElem?_set_ne (Ne.symm hj)] at q ⊢
    exact e.get j d' q⟩
/-- a new thing that is never changed again -/
theorem R.fresh {a : Addr} {o : HO} (r : R K F m H hp) (hn : H a = none) : R K (upd F a o) m (upd H a o) hp ∧ Nx F m H (upd F a o) m (upd H a o) := by
  have fn : F a = none := r.sub.free hn
  have s1 : Same F (upd F a o) := fun b x e => by rw [upd_ne (ne_of_none e fn)]; exact e
  have nm : ∀ b, b ∈ m → b ≠ a := fun b hb => by
    obtain ⟨vs, q⟩ := r.there hb
    exact ne_of_none q hn
  refine ⟨⟨fun b x e => ?_, r.len, r.nod, fun b hb => ?_, fun i b ds h1 h2 => ?_⟩, ⟨s1, List.prefix_refl _, fun b x e _ => ?_, fun _ h => .inl h, fun b x e => ?_, fun b x e => ⟨x, ?_⟩⟩⟩
  · by_cases hb : b = a
    · subst hb; rw [upd_same] at e ⊢; exact e
    · rw [upd_ne hb] at e ⊢; exact r.sub _ _ e
  · rw [upd_ne (nm b hb)]; exact r.fre b hb
  · obtain ⟨vs, q1, q2⟩ := r.obj i b ds h1 h2
    exact ⟨vs, by rw [upd_ne (ne_of_none q1 hn)]; exact q1, q2.mono s1 (List.prefix_refl _)⟩
  · rw [upd_ne (ne_of_none e hn)]; exact e
  · by_cases hb : b = a
    · subst hb; exact .inr hn
    · rw [upd_ne hb] at e; exact .inl e
  · rw [upd_ne (ne_of_none e hn)]; exact e
/-- a new thing that nothing speaks of -/
theorem R.loose {a : Addr} {o : HO} (r : R K F m H hp) (hn : H a = none) : R K F m (upd H a o) hp ∧ Nx F m H F m (upd H a o) := by
  refine ⟨⟨fun b x e => ?_, r.len, r.nod, r.fre, fun i b ds h1 h2 => ?_⟩, ⟨Same.refl _, List.prefix_refl _, fun b x e _ => ?_, fun _ h => .inl h, fun _ _ h => .inl h, fun b x e => ⟨x, ?_⟩⟩⟩
  · rw [upd_ne (ne_of_none (r.sub _ _ e) hn)]; exact r.sub _ _ e
  · obtain ⟨vs, q1, q2⟩ := r.obj i b ds h1 h2
    exact ⟨vs, by rw [upd_ne (ne_of_none q1 hn)]; exact q1, q2⟩
  · rw [upd_ne (ne_of_none e hn)]; exact e
  · rw [upd_ne (ne_of_none e hn)]; exact e
/-- a new list that may change -/
theorem R.newobj {a : Addr} {vs : List V} {ds : List D} (r : R K F m H hp) (hn : H a = none) (hd : Dns K F m vs ds) :
    R K F (m ++ [a]) (upd H a (.lst vs)) (hp ++ [ds]) ∧ Nx F m H F (m ++ [a]) (upd H a (.lst vs)) := by
  have p : m <+: m ++ [a] := List.prefix_append _ _
  have nm : a ∉ m := fun q => by
    obtain ⟨vs, z⟩ := r.there q
    rw [hn] at z; cases z
  refine ⟨⟨fun b x e => ?_, by simp [r.len], ?_, fun b hb => ?_, fun i b es h1 h2 => ?_⟩, ⟨Same.refl _, p, fun b x e _ => ?_, fun b hb => ?_, fun _ _ h => .inl h, fun b x e => ⟨x, ?_⟩⟩⟩
  · rw [upd_ne (ne_of_none (r.sub _ _ e) hn)]; exact r.sub _ _ e
  · rw [List.nodup_append]
    refine ⟨r.nod, by simp, fun x hx y hy => ?_⟩
    rw [List.mem_singleton] at hy
    subst hy
    intro e
    subst e
    exact nm hx
  · rcases List.mem_append.mp hb with h | h
    · exact r.fre b h
    · rw [List.mem_singleton] at h; subst h; exact r.sub.free hn
  · by_cases hi : i < m.length
    · rw [List.getElem?_append_left hi] at h1
      rw [List.getElem?_append_left (by rw [← r.len]; exact hi)] at h2
      obtain ⟨us, q1, q2⟩ := r.obj i b es h1 h2
      exact ⟨us, by rw [upd_ne (ne_of_none q1 hn)]; exact q1, q2.mono (Same.refl _) p⟩
    · have e1 : i = m.length := by
        have := (List.getElem?_eq_some_iff.mp h1).1
        simp at this; omega
      subst e1
      rw [List.getElem?_append_right (Nat.le_refl _)] at h1
      rw [List.getElem?_append_right (by rw [r.len]; exact Nat.le_refl _)] at h2
      simp at h1
      have e2 : m.length - hp.length = 0 := by rw [r.len]; omega
      rw [e2] at h2
      simp at h2
      subst h1; subst h2
      exact ⟨vs, upd_same, hd.mono (Same.refl _) p⟩
  · rw [upd_ne (ne_of_none e hn)]; exact e
  · rcases List.mem_append.mp hb with h | h
    · exact .inl h
    · rw [List.mem_singleton] at h; subst h; exact .inr hn
  · rw [upd_ne (ne_of_none e hn)]; exact e
/-- a list that may change is changed -/
theorem R.write {i : Nat} {a : Addr} {vs : List V} {ds : List D} (r : R K F m H hp) (hi : m[i]? = some a) (hd : Dns K F m vs ds) :
    R K F m (upd H a (.lst vs)) (hp.set i ds) ∧ Nx F m H F m (upd H a (.lst vs)) := by
  have ha : a ∈ m := List.mem_of_getElem? hi
  refine ⟨⟨fun b x e => ?_, by simp [r.len], r.nod, r.fre, fun j b es h1 h2 => ?_⟩, ⟨Same.refl _, List.prefix_refl _, fun b x e n => ?_, fun _ h => .inl h, fun _ _ h => .inl h, fun b x e => ?_⟩⟩
  · have : b ≠ a := fun z => by subst z; rw [r.fre b ha] at e; cases e
    rw [upd_ne this]; exact r.sub _ _ e
  · by_cases hj : j = i
    · subst hj
      rw [hi] at h1; cases h1
      have hl : j < hp.length := by rw [← r.len]; exact (List.getElem?_eq_some_iff.mp hi).1
      rw [List.getElem?_set_self hl] at h2
      cases h2
      exact ⟨vs, upd_same, hd⟩
    · rw [List.getElem?_set_ne (Ne.symm hj)] at h2
      obtain ⟨us, q1, q2⟩ := r.obj j b es h1 h2
      have : b ≠ a := fun z => by
        subst z
        obtain ⟨l1, e1⟩ := List.getElem?_eq_some_iff.mp hi
        obtain ⟨l2, e2⟩ := List.getElem?_eq_some_iff.mp h1
        exact hj ((List.getElem_inj r.nod).mp (e2.trans e1.symm))
      exact ⟨us, by rw [upd_ne this]; exact q1, q2⟩
  · have : b ≠ a := fun z => by subst z; exact n ha
    rw [upd_ne this]; exact e
  · by_cases hb : b = a
    · subst hb; exact ⟨_, upd_same⟩
    · rw [upd_ne hb]; exact ⟨x, e⟩
/-- a list that nobody else knows is never changed again from now on -/
theorem R.freeze {F0 : Hp} {m0 : List Addr} {H0 : Hp} {a : Addr} {o : HO} (r : R K F m H hp) (n : Nx F0 m0 H0 F m H) (h : H a = some o) (hm : a ∉ m) (hf : F a = none) (h0 : H0 a = none) :
    R K (upd F a o) m H hp ∧ Nx F0 m0 H0 (upd F a o) m H ∧ Same F (upd F a o) := by
  have s1 : Same F (upd F a o) := fun b x e => by rw [upd_ne (ne_of_none e hf)]; exact e
  refine ⟨⟨fun b x e => ?_, r.len, r.nod, fun b hb => ?_, fun i b ds h1 h2 => ?_⟩, ⟨n.fz.trans s1, n.pre, n.kp, n.nw, fun b x e => ?_, n.tr⟩, s1⟩
  · by_cases hb : b = a
    · subst hb; rw [upd_same] at e; cases e; exact h
    · rw [upd_ne hb] at e; exact r.sub _ _ e
  · rw [upd_ne (fun e => hm (by rw [← e]; exact hb))]; exact r.fre b hb
  · obtain ⟨vs, q1, q2⟩ := r.obj i b ds h1 h2
    exact ⟨vs, q1, q2.mono s1 (List.prefix_refl _)⟩
  · by_cases hb : b = a
    · subst hb; exact .inr h0
    · rw [upd_ne hb] at e; exact n.nf b x e
end
end MP
end

section
set_option maxRecDepth 100000
set_option maxHeartbeats 1000000
namespace MP
open PySem PySem.Spec PyProof.Rows L2

def FsR (K : PySem.W.Frag) (F : Hp) (m : List Addr) : List (Str × V) → List (Str × D) → Prop := Paired fun p q => p.1 = q.1 ∧ Dn K F m p.2 q.2
/-- the error e stands at an exception of the class c with its own dict at dd -/
def Xc (K : PySem.W.Frag) (mg : Str → Option Value) (F : Hp) (m : List Addr) (H : Hp) (e : Exc) (c : Value) (dd : Option Addr) : Prop :=
  ∃ C, mg e.cls = some (.ref C) ∧ c = .ref C ∧ ((∃ d fs, dd = some d ∧ H d = some (.xd fs) ∧ FsR K F m fs e.fs) ∨ (dd = none ∧ e.fs = []))

section
variable {ι : Type} (X : ι → Cx) (K : PySem.W.Frag) (mg : Str → Option Value) (W : WX)
/-- where an expression's outcome leads -/
def OutE (F : Hp) (m : List Addr) (σ : L2.St) (H : Hp) (hp' : EH) (Q : VK) : Res D → Prop
  | .val d => ∀ v F' m' H', Nx F m H F' m' H' → R K F' m' H' hp' → Dn K F' m' v d → Q v H'
  | .exc e => ∀ F' m' H' c dd, Nx F m H F' m' H' → R K F' m' H' hp' → Xc K mg F' m' H' e c dd → W c dd σ H'
def OutT (F : Hp) (m : List Addr) (σ : L2.St) (H : Hp) (hp' : EH) (Q : Bool → Hp → Prop) : Res Bool → Prop
  | .val b => ∀ F' m' H', Nx F m H F' m' H' → R K F' m' H' hp' → Q b H'
  | .exc e => ∀ F' m' H' c dd, Nx F m H F' m' H' → R K F' m' H' hp' → Xc K mg F' m' H' e c dd → W c dd σ H'
def OutA (F : Hp) (m : List Addr) (σ : L2.St) (H : Hp) (hp' : EH) (Q : List V → Hp → Prop) : Res (List D) → Prop
  | .val ds => ∀ vs F' m' H', Nx F m H F' m' H' → R K F' m' H' hp' → Dns K F' m' vs ds → Q vs H'
  | .exc e => ∀ F' m' H' c dd, Nx F m H F' m' H' → R K F' m' H' hp' → Xc K mg F' m' H' e c dd → W c dd σ H'
structure SE (e : Expr) (f : FE) : Prop where
  ex : ∃ t : TE, (∀ i, PE (X i) e t) ∧ ∀ σ H env hp F m, R K F m H hp → En K F m σ env → ∀ r hp', f env hp = some (r, hp') → ∀ Q, OutE K mg W F m σ H hp' Q r → t σ H Q
structure ST (e : Expr) (f : FT) : Prop where
  ex : ∃ t : TT, (∀ i, PT (X i) e t) ∧ ∀ σ H env hp F m, R K F m H hp → En K F m σ env → ∀ r hp', f env hp = some (r, hp') → ∀ Q, OutT K mg W F m σ H hp' Q r → t σ H Q
/-- a test whatever its whole is (and, or) -/
structure SW (e : Expr) (f : FT) : Prop where
  ex : ∃ t : TT, (∀ i, PW (X i) e t) ∧ ∀ σ H env hp F m, R K F m H hp → En K F m σ env → ∀ r hp', f env hp = some (r, hp') → ∀ Q, OutT K mg W F m σ H hp' Q r → t σ H Q
structure SA (es : List Expr) (f : FA) : Prop where
  ex : ∃ t : TA, (∀ i, PA (X i) es t) ∧ ∀ σ H env hp F m, R K F m H hp → En K F m σ env → ∀ r hp', f env hp = some (r, hp') → ∀ Q, OutA K mg W F m σ H hp' Q r → t σ H Q
end

/-- contexts that share what the module has written -/
structure Fam {ι : Type} (X : ι → Cx) (K : PySem.W.Frag) (mg : Str → Option Value) : Prop where
  k : ∀ j, (X j).K = K
  g : ∀ j, (X j).mg = mg
  calm : ∀ j, (X j).calm = true
  nd : ∀ j, (X j).N.Nodup

/-! ### the plain functions -/
/-- first f, then g of its value -/
def bnd {α β : Type} (f : Ev → EH → Option (Res α × EH)) (g : α → Ev → EH → Option (Res β × EH)) : Ev → EH → Option (Res β × EH) := fun env hp =>
  match f env hp with
  | none => none
  | some (.exc e, hp1) => some (.exc e, hp1)
  | some (.val a, hp1) => g a env hp1
def ret {α : Type} (a : α) : Ev → EH → Option (Res α × EH) := fun _ hp => some (.val a, hp)
def stuck {α : Type} : Ev → EH → Option (Res α × EH) := fun _ _ => none
def eVar (i : Nat) : FE := fun env hp => match env[i]? with
  | some (some d) => some (.val d, hp)
  | _ => none

section
variable {ι : Type} {X : ι → Cx} {K : PySem.W.Frag} {mg : Str → Option Value} {W : WX} {a b e : Expr} {fa fb : FE} {pos : Pos}
/-- what follows a first part follows from its outcome -/
theorem OutE.nx {F F1 : Hp} {m m1 : List Addr} {σ : L2.St} {H H1 : Hp} {hp' : EH} {Q : VK} {r : Res D} (n : Nx F m H F1 m1 H1) (h : OutE K mg W F m σ H hp' Q r) : OutE K mg W F1 m1 σ H1 hp' Q r := by
  cases r with
  | val d => exact fun v F' m' H' n2 r2 d2 => h v F' m' H' (n.trans n2) r2 d2
  | exc e => exact fun F' m' H' c dd n2 r2 d2 => h F' m' H' c dd (n.trans n2) r2 d2
theorem OutT.nx {F F1 : Hp} {m m1 : List Addr} {σ : L2.St} {H H1 : Hp} {hp' : EH} {Q : Bool → Hp → Prop} {r : Res Bool} (n : Nx F m H F1 m1 H1) (h : OutT K mg W F m σ H hp' Q r) : OutT K mg W F1 m1 σ H1 hp' Q r := by
  cases r with
  | val d => exact fun F' m' H' n2 r2 => h F' m' H' (n.trans n2) r2
  | exc e => exact fun F' m' H' c dd n2 r2 d2 => h F' m' H' c dd (n.trans n2) r2 d2
theorem OutA.nx {F F1 : Hp} {m m1 : List Addr} {σ : L2.St} {H H1 : Hp} {hp' : EH} {Q : List V → Hp → Prop} {r : Res (List D)} (n : Nx F m H F1 m1 H1) (h : OutA K mg W F m σ H hp' Q r) : OutA K mg W F1 m1 σ H1 hp' Q r := by
  cases r with
  | val d => exact fun v F' m' H' n2 r2 d2 => h v F' m' H' (n.trans n2) r2 d2
  | exc e => exact fun F' m' H' c dd n2 r2 d2 => h F' m' H' c dd (n.trans n2) r2 d2
/-- an outcome that is a value, here and now -/
theorem OutE.now {F : Hp} {m : List Addr} {σ : L2.St} {H : Hp} {hp : EH} {Q : VK} {d : D} {v : V} (h : OutE K mg W F m σ H hp Q (.val d)) (r : R K F m H hp) (q : Dn K F m v d) : Q v H := h v F m H Nx.refl r q
theorem OutT.now {F : Hp} {m : List Addr} {σ : L2.St} {H : Hp} {hp : EH} {Q : Bool → Hp → Prop} {d : Bool} (h : OutT K mg W F m σ H hp Q (.val d)) (r : R K F m H hp) : Q d H := h F m H Nx.refl r

theorem se_var {i : Nat} {x : Str} (hN : ∀ j, (X j).N[i]? = some x := by intro _; rfl) (hv : ∀ j, Vis (X j).env.scope x := by first | exact fun _ => Or.inl rfl | exact fun _ => Or.inr (Or.inl rfl) | exact fun _ => Or.inr (Or.inr rfl)) (hd : (x == ("__debug__" : Str)) = false := by decide)
    (hcd : (x == ("__classdict__" : Str)) = false := by decide) : SE X K mg W (.Name x pos) (eVar i) := ⟨⟨_, fun j => pe_var (hN j) (hv j) hd hcd, fun σ H env hp F m r n r' hp' e Q q => by
  unfold eVar at e
  split at e
  · rename_i d h
    cases e
    obtain ⟨v, h1, h2⟩ := n.get i d h
    exact ⟨v, h1, q.now r h2⟩
  · cases e⟩⟩
theorem se_int {i : Int} {j} : SE X K mg W (.Constant (.int i) j pos) (ret (.int i)) := ⟨⟨_, fun _ => pe_int, fun σ H env hp F m r n r' hp' e Q q => by cases e; exact q.now r (.int i)⟩⟩
theorem se_bl {b : Bool} {j} : SE X K mg W (.Constant (.bool b) j pos) (ret (.bl b)) := ⟨⟨_, fun _ => pe_bl, fun σ H env hp F m r n r' hp' e Q q => by cases e; exact q.now r (.bl b)⟩⟩
theorem se_non {j} : SE X K mg W (.Constant .none j pos) (ret .non) := ⟨⟨_, fun _ => pe_non, fun σ H env hp F m r n r' hp' e Q q => by cases e; exact q.now r .non⟩⟩
theorem se_str {x : Str} {j} : SE X K mg W (.Constant (.str x) j pos) (ret (.str x)) := ⟨⟨_, fun _ => pe_str, fun σ H env hp F m r n r' hp' e Q q => by cases e; exact q.now r (.str x)⟩⟩
/-- a constant of the module: a number, a text, a tuple that is written -/
theorem se_glob {x : Str} {v : V} {u : Value} {d : D} (hg : ∀ j, Gl (X j) x) (hm : ∀ j, (X j).mg x = some u) (rv : RelV v u) (hd : Dn K (fun _ => none) [] v d) (hdb : (x == ("__debug__" : Str)) = false := by decide) : SE X K mg W (.Name x pos) (ret d) :=
  ⟨⟨_, fun j => pe_glob (hg j) (hm j) rv hdb, fun σ H env hp F m r n r' hp' e Q q => by
    cases e
    exact q.now r (hd.mono (fun _ _ z => by simp at z) (List.nil_prefix))⟩⟩

/-! #### binary operators: by a function of the two values that changes nothing but may make a new thing -/
/-- how a two-place operation on values is told by a plain function g: what it answers is a value, a new tuple, a new list -/
def OpS (K : PySem.W.Frag) (r : R2) (g : D → D → EH → Option D) : Prop :=
  ∀ (F : Hp) (m : List Addr) (H : Hp) (hp : EH) (x y : V) (d e z : D), R K F m H hp → Dn K F m x d → Dn K F m y e → g d e hp = some z → ∀ Q : VK,
    (∀ v F' H', Nx F m H F' m H' → R K F' m H' hp → Dn K F' m v z → Q v H') → r x y H Q
def eBin (g : D → D → EH → Option D) (fa fb : FE) : FE := bnd fa fun x => bnd fb fun y env hp => match g x y hp with
  | some z => some (.val z, hp)
  | none => none
theorem bin_run {ta tb : TE} {r : R2} {g : D → D → EH → Option D} (ho : OpS K r g) {σ : L2.St} {H : Hp} {env : Ev} {hp : EH} {F : Hp} {m : List Addr}
    (ha : ∀ r hp', fa env hp = some (r, hp') → ∀ Q, OutE K mg W F m σ H hp' Q r → ta σ H Q)
    (hb : ∀ H1 hp1 F1 m1, R K F1 m1 H1 hp1 → En K F1 m1 σ env → ∀ r hp', fb env hp1 = some (r, hp') → ∀ Q, OutE K mg W F1 m1 σ H1 hp' Q r → tb σ H1 Q)
    (n : En K F m σ env) {r' : Res D} {hp' : EH} (e : eBin g fa fb env hp = some (r', hp')) {Q : VK} (q : OutE K mg W F m σ H hp' Q r') : tOp r ta tb σ H Q := by
  unfold eBin bnd at e
  cases hfa : fa env hp with
  | none => rw [hfa] at e; cases e
  | some p =>
    obtain ⟨ra, hp1⟩ := p
    rw [hfa] at e
    cases ra with
    | exc x =>
      cases e
      exact ha _ _ hfa _ q
    | val d =>
      refine ha _ _ hfa _ fun v F1 m1 H1 n1 r1 d1 => ?_
      simp only at e
      cases hfb : fb env hp1 with
      | none => rw [hfb] at e; cases e
      | some p =>
        obtain ⟨rb, hp2⟩ := p
        rw [hfb] at e
        cases rb with
        | exc x =>
          cases e
          exact hb _ _ _ _ r1 (n.mono n1) _ _ hfb _ (OutE.nx n1 q)
        | val d' =>
          refine hb _ _ _ _ r1 (n.mono n1) _ _ hfb _ fun u F2 m2 H2 n2 r2 d2 => ?_
          simp only at e
          split at e
          · rename_i z hz
            cases e
            refine ho F2 m2 H2 _ v u d d' z r2 (d1.mono n2.fz n2.pre) d2 hz Q fun w F' H' n3 r3 d3 => q w F' m2 H' ((n1.trans n2).trans n3) r3 d3
          · cases e
theorem se_bin {op : Operator} {r : R2} {g : D → D → EH → Option D} (ho : ∀ j, OpR (X j) (binaryOp op) r) (hs : OpS K r g) (ha : SE X K mg W a fa) (hb : SE X K mg W b fb) : SE X K mg W (.BinOp a op b pos) (eBin g fa fb) := by
  obtain ⟨ta, pa, qa⟩ := ha.ex
  obtain ⟨tb, pb, qb⟩ := hb.ex
  exact ⟨⟨_, fun j => pe_op (ho j) (pa j) (pb j), fun σ H env hp F m r1 n r' hp' e Q q => bin_run hs (qa σ H env hp F m r1 n) (fun H1 hp1 F1 m1 r1 n1 => qb σ H1 env hp1 F1 m1 r1 n1) n e q⟩⟩
theorem se_cmp {op : CmpOp} {r : R2} {g : D → D → EH → Option D} (ho : ∀ j, OpR (X j) (compareOp op) r) (hs : OpS K r g) (ha : SE X K mg W a fa) (hb : SE X K mg W b fb) (hm : behindInMarks op b = false) : SE X K mg W (.Compare a [op] [b] pos) (eBin g fa fb) := by
  obtain ⟨ta, pa, qa⟩ := ha.ex
  obtain ⟨tb, pb, qb⟩ := hb.ex
  exact ⟨⟨_, fun j => pe_cmpR (ho j) (pa j) (pb j) hm, fun σ H env hp F m r1 n r' hp' e Q q => bin_run hs (qa σ H env hp F m r1 n) (fun H1 hp1 F1 m1 r1 n1 => qb σ H1 env hp1 F1 m1 r1 n1) n e q⟩⟩
theorem se_ix {r : R2} {g : D → D → EH → Option D} (ho : ∀ j, IxR (X j) r) (hs : OpS K r g) (ha : SE X K mg W a fa) (hb : SE X K mg W b fb) (hx : PlainIx b) : SE X K mg W (.Subscript a b pos) (eBin g fa fb) := by
  obtain ⟨ta, pa, qa⟩ := ha.ex
  obtain ⟨tb, pb, qb⟩ := hb.ex
  exact ⟨⟨_, fun j => pe_ix (ho j) (pa j) (pb j) hx, fun σ H env hp F m r1 n r' hp' e Q q => bin_run hs (qa σ H env hp F m r1 n) (fun H1 hp1 F1 m1 r1 n1 => qb σ H1 env hp1 F1 m1 r1 n1) n e q⟩⟩
theorem OpS.or {r r' : R2} {g g' : D → D → EH → Option D} (h : OpS K r g) (h' : OpS K r' g') : OpS K (fun x y H Q => r x y H Q ∨ r' x y H Q) (fun x y hp => match g x y hp with | some z => some z | none => g' x y hp) := by
  intro F m H hp x y d e z r1 d1 d2 hz Q q
  cases hg : g d e hp with
  | some z' =>
    simp only [hg] at hz; cases hz
    exact .inl (h F m H hp x y d e z r1 d1 d2 hg Q q)
  | none =>
    simp only [hg] at hz
    exact .inr (h' F m H hp x y d e z r1 d1 d2 hz Q q)
/-! ##### ints -/
def iOp (C : Int → Int → Bool) (g : Int → Int → Int) : D → D → EH → Option D := fun x y _ => match x, y with
  | .int i, .int j => if C i j = true then some (.int (g i j)) else none
  | _, _ => none
def iCmp (g : Int → Int → Bool) : D → D → EH → Option D := fun x y _ => match x, y with
  | .int i, .int j => some (.bl (g i j))
  | _, _ => none
theorem ops_I {C : Int → Int → Prop} {Cb : Int → Int → Bool} {g : Int → Int → Int} (h : ∀ i j, Cb i j = true → C i j) : OpS K (rI C fun i j => .int (g i j)) (iOp Cb g) := by
  intro F m H hp x y d e z r1 d1 d2 hz Q q
  unfold iOp at hz
  split at hz
  · rename_i i j
    split at hz
    · rename_i hc
      cases hz
      cases d1; cases d2
      exact ⟨i, j, rfl, rfl, h _ _ hc, q _ F H Nx.refl r1 (.int _)⟩
    · cases hz
  · cases hz
theorem ops_I0 {g : Int → Int → Int} : OpS K (rI0 fun i j => .int (g i j)) (iOp (fun _ _ => true) g) := by
  intro F m H hp x y d e z r1 d1 d2 hz Q q
  unfold iOp at hz
  split at hz
  · rename_i i j
    rw [if_pos rfl] at hz
    cases hz
    cases d1; cases d2
    exact ⟨i, j, rfl, rfl, q _ F H Nx.refl r1 (.int _)⟩
  · cases hz
theorem ops_B0 {g : Int → Int → Bool} : OpS K (rI0 fun i j => .bl (g i j)) (iCmp g) := by
  intro F m H hp x y d e z r1 d1 d2 hz Q q
  unfold iCmp at hz
  split at hz
  · rename_i i j
    cases hz
    cases d1; cases d2
    exact ⟨i, j, rfl, rfl, q _ F H Nx.refl r1 (.bl _)⟩
  · cases hz
end
end MP
end

section
set_option maxRecDepth 100000
set_option maxHeartbeats 1000000
namespace MP
open PySem PySem.Spec PyProof.Rows L2

/-! ### data -/
mutual
def D.toP : D → Option PyData
  | .non => some .none
  | .bl b => some (.bool b)
  | .int i => some (.int i)
  | .str x => some (.str x)
  | .tup xs => match D.toPs xs with
    | some ps => some (.tuple ps)
    | none => none
  | .lst xs => match D.toPs xs with
    | some ps => some (.list ps)
    | none => none
  | .scr _ => none
  | .obj _ => none
  | .err _ _ _ => none
def D.toPs : List D → Option (List PyData)
  | [] => some []
  | x :: xs => match D.toP x, D.toPs xs with
    | some p, some ps => some (p :: ps)
    | _, _ => none
end
/-- .. a list that may change at the top -/
def toPh (hp : EH) : D → Option PyData
  | .obj i => match hp[i]? with
    | some xs => match D.toPs xs with
      | some ps => some (.list ps)
      | none => none
    | none => none
  | d => d.toP
/-- the items of a list; of a list or tuple -/
def asL (hp : EH) : D → Option (List D)
  | .lst xs => some xs
  | .obj i => hp[i]?
  | _ => none
def asQ (hp : EH) : D → Option (List D)
  | .lst xs => some xs
  | .scr xs => some xs
  | .tup xs => some xs
  | .obj i => hp[i]?
  | _ => none

section
variable {ι : Type} {X : ι → Cx} {K : PySem.W.Frag} {mg : Str → Option Value} {W : WX} {F F' : Hp} {m m' : List Addr} {H H' : Hp} {hp hp' : EH}
mutual
theorem dp_of (s : Same F H) : ∀ {d : D} {v : V} {p : PyData}, Dn K F m v d → d.toP = some p → Dp K H v p
  | .non, _, _, h, e => by cases h; simp [D.toP] at e; subst e; exact .non
  | .bl b, _, _, h, e => by cases h; simp [D.toP] at e; subst e; exact .bl b
  | .int b, _, _, h, e => by cases h; simp [D.toP] at e; subst e; exact .int b
  | .str b, _, _, h, e => by cases h; simp [D.toP] at e; subst e; exact .str b
  | .tup xs, _, _, h, e => by
    cases h with
    | tup h1 h2 =>
      simp only [D.toP] at e
      split at e
      · rename_i ps hps
        cases e
        exact .tup (SqT.mono s h1) (dps_of s h2 hps)
      · cases e
  | .lst xs, _, _, h, e => by
    cases h with
    | lst h1 h2 =>
      simp only [D.toP] at e
      split at e
      · rename_i ps hps
        cases e
        exact .lst (SqL.of (s _ _ h1)) (dps_of s h2 hps)
      · cases e
  | .scr i, _, _, h, e => by simp [D.toP] at e
  | .obj i, _, _, h, e => by simp [D.toP] at e
  | .err _ _ _, _, _, h, e => by simp [D.toP] at e
theorem dps_of (s : Same F H) : ∀ {ds : List D} {vs : List V} {ps : List PyData}, Dns K F m vs ds → D.toPs ds = some ps → DpAll K H vs ps
  | [], _, _, h, e => by cases h; simp [D.toPs] at e; subst e; exact .nil
  | d :: ds, _, _, h, e => by
    cases h with
    | cons h1 h2 =>
      simp only [D.toPs] at e
      split at e
      · rename_i p ps hp hps
        cases e
        exact .cons (dp_of s h1 hp) (dps_of s h2 hps)
      · cases e
end
theorem dph_of {d : D} {v : V} {p : PyData} (r : R K F m H hp) (h : Dn K F m v d) (e : toPh hp d = some p) : Dp K H v p := by
  cases d with
  | obj i =>
    cases h with
    | obj hi =>
      simp only [toPh] at e
      split at e
      · rename_i xs hx
        split at e
        · rename_i ps hps
          cases e
          obtain ⟨vs, q1, q2⟩ := r.obj i _ xs hi hx
          exact .lst (SqL.of q1) (dps_of r.sub q2 hps)
        · cases e
      · cases e
  | _ => exact dp_of r.sub h (by simpa [toPh] using e)
/-- a list: where it stands -/
theorem rd_of {d : D} {v : V} {xs : List D} (r : R K F m H hp) (h : Dn K F m v d) (e : asL hp d = some xs) : ∃ a vs, v = .ref a ∧ H a = some (.lst vs) ∧ Dns K F m vs xs := by
  cases d with
  | obj i =>
    cases h with
    | obj hi =>
      obtain ⟨vs, q1, q2⟩ := r.obj i _ xs hi e
      exact ⟨_, vs, rfl, q1, q2⟩
  | lst ys =>
    cases h with
    | lst h1 h2 =>
      simp [asL] at e
      subst e
      exact ⟨_, _, rfl, r.sub _ _ h1, h2⟩
  | _ => simp [asL] at e
theorem sq_of {d : D} {v : V} {xs : List D} (r : R K F m H hp) (h : Dn K F m v d) (e : asQ hp d = some xs) : ∃ a vs, v = .ref a ∧ (SqL K H a vs ∨ SqT K H a vs) ∧ Dns K F m vs xs := by
  cases d with
  | obj i =>
    obtain ⟨a, vs, q1, q2, q3⟩ := rd_of r h (by simpa [asL, asQ] using e)
    exact ⟨a, vs, q1, .inl (SqL.of q2), q3⟩
  | lst ys =>
    obtain ⟨a, vs, q1, q2, q3⟩ := rd_of r h (by simpa [asL, asQ] using e)
    exact ⟨a, vs, q1, .inl (SqL.of q2), q3⟩
  | tup ys =>
    cases h with
    | tup h1 h2 =>
      simp [asQ] at e
      subst e
      exact ⟨_, _, rfl, .inr (SqT.mono r.sub h1), h2⟩
  | scr ys =>
    cases h with
    | scr h1 h2 =>
      simp [asQ] at e
      subst e
      exact ⟨_, _, rfl, .inl (SqL.mono r.sub h1), h2⟩
  | _ => simp [asQ] at e

/-! ### what is new -/
theorem new_lst {xs : List V} {ds : List D} {σ : L2.St} (r : R K F m H hp) (hd : Dns K F m xs ds) {a : Addr} (hn : H a = none) :
    ∃ F', Nx F m H F' m (upd H a (.lst xs)) ∧ R K F' m (upd H a (.lst xs)) hp ∧ Dn K F' m (.ref a) (.lst ds) := by
  obtain ⟨r', n'⟩ := r.fresh (o := .lst xs) hn
  exact ⟨_, n', r', .lst upd_same (hd.mono n'.fz n'.pre)⟩
theorem new_tup {xs : List V} {ds : List D} {σ : L2.St} (r : R K F m H hp) (hd : Dns K F m xs ds) {a : Addr} (hn : H a = none) :
    ∃ F', Nx F m H F' m (upd H a (.tup xs)) ∧ R K F' m (upd H a (.tup xs)) hp ∧ Dn K F' m (.ref a) (.tup ds) := by
  obtain ⟨r', n'⟩ := r.fresh (o := .tup xs) hn
  exact ⟨_, n', r', .tup (SqT.of upd_same) (hd.mono n'.fz n'.pre)⟩

/-! ### + and * -/
def gCatL : D → D → EH → Option D := fun x y hp => match asL hp x, asL hp y with
  | some xs, some ys => if xs.length + ys.length ≤ 16777216 then some (.lst (xs ++ ys)) else none
  | _, _ => none
def gCatT : D → D → EH → Option D := fun x y hp => match x, y with
  | .tup xs, .tup ys => if xs.length + ys.length ≤ 16777216 then some (.tup (xs ++ ys)) else none
  | _, _ => none
theorem line16 : sizeLine = 16777216 := sizeLine_eq
theorem ops_catL : OpS K rCat gCatL := by
  intro F m H hp x y d e z r1 d1 d2 hz Q q
  unfold gCatL at hz
  split at hz
  · rename_i xs ys hx hy
    split at hz
    · rename_i hl
      cases hz
      obtain ⟨a, vs, rfl, q1, q2⟩ := rd_of r1 d1 hx
      obtain ⟨b, ws, rfl, q3, q4⟩ := rd_of r1 d2 hy
      refine ⟨a, b, vs, ws, rfl, rfl, q1, q3, by rw [q2.length, q4.length, line16]; exact hl, fun p hp' => ?_⟩
      obtain ⟨F', n', r', d'⟩ := new_lst (σ := []) r1 (q2.append q4) hp'
      exact q _ F' _ n' r' d'
    · cases hz
  · cases hz
theorem ops_catT : OpS K (rCatA K) gCatT := by
  intro F m H hp x y d e z r1 d1 d2 hz Q q
  unfold gCatT at hz
  split at hz
  · rename_i xs ys
    split at hz
    · rename_i hl
      cases hz
      cases d1 with
      | tup a1 a2 =>
        cases d2 with
        | tup b1 b2 =>
          rename_i a vs b ws
          refine ⟨a, b, vs, ws, rfl, rfl, SqT.mono r1.sub a1, SqT.mono r1.sub b1, by rw [a2.length, b2.length, line16]; exact hl, fun e => ?_, fun e1 e2 => ?_, fun _ _ p hp' => ?_⟩
          · subst e
            cases xs with
            | nil => exact q _ F H Nx.refl r1 (.tup b1 b2)
            | cons x xs => cases a2
          · subst e2
            cases ys with
            | nil => rw [List.append_nil] at q; exact q _ F H Nx.refl r1 (.tup a1 a2)
            | cons x xs => cases b2
          · obtain ⟨F', n', r', d'⟩ := new_tup (σ := []) r1 (a2.append b2) hp'
            exact q _ F' _ n' r' d'
    · cases hz
  · cases hz
def gRepL : D → D → EH → Option D := fun x y hp => match asL hp x, y with
  | some xs, .int k => if 0 ≤ k ∧ k ≤ 1000 ∧ xs.length ≤ 10000 then some (.lst (List.replicate k.toNat xs).flatten) else none
  | _, _ => none
theorem ops_repL : OpS K rRep gRepL := by
  intro F m H hp x y d e z r1 d1 d2 hz Q q
  unfold gRepL at hz
  split at hz
  · rename_i xs k hx
    split at hz
    · rename_i hl
      obtain ⟨h0, h1, h2⟩ := hl
      cases hz
      obtain ⟨a, vs, rfl, q1, q2⟩ := rd_of r1 d1 hx
      cases d2
      refine ⟨a, k, vs, rfl, rfl, q1, by omega, by omega, ?_, fun p hp' => ?_⟩
      · rw [q2.length, line16]
        have : xs.length * k.toNat ≤ 10000 * 1000 := Nat.mul_le_mul h2 (by omega)
        omega
      · obtain ⟨F', n', r', d'⟩ := new_lst (σ := []) r1 (q2.rep k.toNat) hp'
        exact q _ F' _ n' r' d'
    · cases hz
  · cases hz

/-! ### ==, !=, in, not in -/
def dEq (hp : EH) (x y : D) : Option Bool := match toPh hp x, toPh hp y with
  | some p, some q => if SeqAt.shaped p = true ∧ SeqAt.shaped q = true then some (PyData.eqv p q) else none
  | _, _ => none
def gEq : D → D → EH → Option D := fun x y hp => (dEq hp x y).map .bl
def gNe : D → D → EH → Option D := fun x y hp => (dEq hp x y).map fun b => .bl (!b)
theorem dEq_run {x y : V} {d e : D} {b : Bool} (r1 : R K F m H hp) (d1 : Dn K F m x d) (d2 : Dn K F m y e) (hz : dEq hp d e = some b) :
    ∃ p q, Dp K H x p ∧ Dp K H y q ∧ SeqAt.shaped p = true ∧ SeqAt.shaped q = true ∧ b = PyData.eqv p q := by
  unfold dEq at hz
  split at hz
  · rename_i p q hp1 hq1
    split at hz
    · rename_i hs
      cases hz
      exact ⟨p, q, dph_of r1 d1 hp1, dph_of r1 d2 hq1, hs.1, hs.2, rfl⟩
    · cases hz
  · cases hz
theorem ops_eq : OpS K (rEqD K) gEq := by
  intro F m H hp x y d e z r1 d1 d2 hz Q q
  unfold gEq at hz
  rw [Option.map_eq_some_iff] at hz
  obtain ⟨b, hb, rfl⟩ := hz
  obtain ⟨p, p', h1, h2, h3, h4, rfl⟩ := dEq_run r1 d1 d2 hb
  exact ⟨p, p', h1, h2, h3, h4, q _ F H Nx.refl r1 (.bl _)⟩
theorem ops_ne : OpS K (rNeD K) gNe := by
  intro F m H hp x y d e z r1 d1 d2 hz Q q
  unfold gNe at hz
  rw [Option.map_eq_some_iff] at hz
  obtain ⟨b, hb, rfl⟩ := hz
  obtain ⟨p, p', h1, h2, h3, h4, rfl⟩ := dEq_run r1 d1 d2 hb
  exact ⟨p, p', h1, h2, h3, h4, q _ F H Nx.refl r1 (.bl _)⟩
/-! ### x[i] -/
def gIx : D → D → EH → Option D := fun x y hp => match asQ hp x, y with
  | some xs, .int i => atI xs i
  | _, _ => none
theorem atI_get2 {xs : List D} {vs : List V} {i : Int} {d : D} (h : Dns K F m vs xs) (e : atI xs i = some d) : ∃ v, atI vs i = some v ∧ Dn K F m v d := by
  unfold atI at e ⊢
  rw [h.length]
  cases hj : ixN xs.length i with
  | none => rw [hj] at e; cases e
  | some j =>
    rw [hj] at e
    exact h.get e
theorem ops_ix : OpS K (rIx K) gIx := by
  intro F m H hp x y d e z r1 d1 d2 hz Q q
  unfold gIx at hz
  split at hz
  · rename_i xs i hx
    obtain ⟨a, vs, rfl, q1, q2⟩ := sq_of r1 d1 hx
    cases d2
    obtain ⟨w, e1, e2⟩ := atI_get2 q2 hz
    rcases q1 with q1 | q1
    · exact .inl ⟨a, vs, i, w, rfl, rfl, q1, e1, q _ F H Nx.refl r1 e2⟩
    · exact .inr (.inl ⟨a, vs, i, w, rfl, rfl, q1, e1, q _ F H Nx.refl r1 e2⟩)
  · cases hz
end
end MP
end

section
set_option maxRecDepth 100000
set_option maxHeartbeats 1000000
namespace MP
open PySem PySem.Spec PyProof.Rows L2

/-! ### argument lists, displays -/
def aNil : FA := ret []
def aCons (f : FE) (g : FA) : FA := bnd f fun d => bnd g fun ds => ret (d :: ds)
section
variable {ι : Type} {X : ι → Cx} {K : PySem.W.Frag} {mg : Str → Option Value} {W : WX} {a b c e : Expr} {es : List Expr} {fa fb fe : FE} {ga : FA} {pos : Pos} {F F' : Hp} {m m' : List Addr} {H H' : Hp} {hp hp' : EH}
/-- a first part and what comes behind it, at any kind of end -/
theorem bnd_val {α β : Type} {f : Ev → EH → Option (Res α × EH)} {g : α → Ev → EH → Option (Res β × EH)} {env : Ev} {hp hp' : EH} {r : Res β} (e : bnd f g env hp = some (r, hp')) :
    (∃ x, f env hp = some (.exc x, hp') ∧ r = .exc x) ∨ ∃ a hp1, f env hp = some (.val a, hp1) ∧ g a env hp1 = some (r, hp') := by
  unfold bnd at e
  cases hf : f env hp with
  | none => rw [hf] at e; cases e
  | some p =>
    obtain ⟨ra, hp1⟩ := p
    rw [hf] at e
    cases ra with
    | exc x => cases e; exact .inl ⟨x, rfl, rfl⟩
    | val d => exact .inr ⟨d, hp1, rfl, e⟩
theorem sa_nil : SA X K mg W [] aNil := ⟨⟨_, fun _ => pa_nil, fun σ H env hp F m r n r' hp' e Q q => by cases e; exact q _ F m H Nx.refl r .nil⟩⟩
theorem sa_cons (ha : SE X K mg W e fa) (hr : SA X K mg W es ga) (hs : ∀ j, starEach (e :: es) (X j).env = (false, eval e (X j).env) :: starEach es (X j).env := by intro _; rfl) : SA X K mg W (e :: es) (aCons fa ga) := by
  obtain ⟨ta, pa, qa⟩ := ha.ex
  obtain ⟨tr, pr, qr⟩ := hr.ex
  refine ⟨⟨_, fun j => pa_cons (pa j) (pr j) (hs j), fun σ H env hp F m r n r' hp' e Q q => ?_⟩⟩
  show ta σ H fun x H1 => tr σ H1 fun xs H2 => Q (x :: xs) H2
  rcases bnd_val e with ⟨x, h1, rfl⟩ | ⟨d, hp1, h1, h2⟩
  · exact qa σ H env hp F m r n _ _ h1 _ q
  · refine qa σ H env hp F m r n _ _ h1 _ fun v F1 m1 H1 n1 r1 d1 => ?_
    rcases bnd_val h2 with ⟨x, h3, rfl⟩ | ⟨ds, hp2, h3, h4⟩
    · exact qr σ H1 env hp1 F1 m1 r1 (n.mono n1) _ _ h3 _ (OutA.nx n1 q)
    · cases h4
      exact qr σ H1 env hp1 F1 m1 r1 (n.mono n1) _ _ h3 _ fun vs F2 m2 H2 n2 r2 d2 => q _ F2 m2 H2 (n1.trans n2) r2 (.cons (d1.mono n2.fz n2.pre) d2)
def eTup (g : FA) : FE := bnd g fun ds _ hp => if ds.length ≤ 16777216 then some (.val (.tup ds), hp) else none
/-- a list that is never changed again -/
def eLst (g : FA) : FE := bnd g fun ds _ hp => if ds.length ≤ 16777216 then some (.val (.lst ds), hp) else none
/-- a list that may change -/
def eObj (g : FA) : FE := bnd g fun ds _ hp => if ds.length ≤ 16777216 then some (.val (.obj hp.length), hp ++ [ds]) else none
theorem se_tup {x1} (h : SA X K mg W es ga) : SE X K mg W (.Tuple es x1 pos) (eTup ga) := by
  obtain ⟨t, p, q0⟩ := h.ex
  refine ⟨⟨_, fun j => pe_tup (p j), fun σ H env hp F m r n r' hp' e Q q => ?_⟩⟩
  rcases bnd_val e with ⟨x, h1, rfl⟩ | ⟨ds, hp1, h1, h2⟩
  · exact q0 σ H env hp F m r n _ _ h1 _ q
  · refine q0 σ H env hp F m r n _ _ h1 _ fun vs F1 m1 H1 n1 r1 d1 => ?_
    split at h2
    · rename_i hl
      cases h2
      refine ⟨by rw [d1.length, line16]; exact hl, fun p hp' => ?_⟩
      obtain ⟨F', n', r', d'⟩ := new_tup (σ := σ) r1 d1 hp'
      exact q _ F' m1 _ (n1.trans n') r' d'
    · cases h2
theorem se_lst (h : SA X K mg W es ga) : SE X K mg W (.List es pos) (eLst ga) := by
  obtain ⟨t, p, q0⟩ := h.ex
  refine ⟨⟨_, fun j => pe_lst (p j), fun σ H env hp F m r n r' hp' e Q q => ?_⟩⟩
  rcases bnd_val e with ⟨x, h1, rfl⟩ | ⟨ds, hp1, h1, h2⟩
  · exact q0 σ H env hp F m r n _ _ h1 _ q
  · refine q0 σ H env hp F m r n _ _ h1 _ fun vs F1 m1 H1 n1 r1 d1 => ?_
    split at h2
    · rename_i hl
      cases h2
      refine ⟨by rw [d1.length, line16]; exact hl, fun p hp' => ?_⟩
      obtain ⟨F', n', r', d'⟩ := new_lst (σ := σ) r1 d1 hp'
      exact q _ F' m1 _ (n1.trans n') r' d'
    · cases h2
theorem se_obj (h : SA X K mg W es ga) : SE X K mg W (.List es pos) (eObj ga) := by
  obtain ⟨t, p, q0⟩ := h.ex
  refine ⟨⟨_, fun j => pe_lst (p j), fun σ H env hp F m r n r' hp' e Q q => ?_⟩⟩
  rcases bnd_val e with ⟨x, h1, rfl⟩ | ⟨ds, hp1, h1, h2⟩
  · exact q0 σ H env hp F m r n _ _ h1 _ q
  · refine q0 σ H env hp F m r n _ _ h1 _ fun vs F1 m1 H1 n1 r1 d1 => ?_
    split at h2
    · rename_i hl
      cases h2
      refine ⟨by rw [d1.length, line16]; exact hl, fun p hp' => ?_⟩
      obtain ⟨r', n'⟩ := r1.newobj hp' d1
      exact q _ F1 _ _ (n1.trans n') r' (.obj (by rw [List.getElem?_append_right (by rw [r1.len]; exact Nat.le_refl _), r1.len]; simp))
    · cases h2

/-! ### calls of built-ins -/
/-- how a built-in is told by a plain function of its arguments: it changes nothing, its answer may be new -/
def CallS (K : PySem.W.Frag) (r : List V → Hp → VK → Prop) (g : List D → EH → Option D) : Prop :=
  ∀ (F : Hp) (m : List Addr) (H : Hp) (hp : EH) (vs : List V) (ds : List D) (z : D), R K F m H hp → Dns K F m vs ds → g ds hp = some z → ∀ Q : VK,
    (∀ v F' H', Nx F m H F' m H' → R K F' m H' hp → Dn K F' m v z → Q v H') → r vs H Q
def eCall (g : List D → EH → Option D) (fa : FA) : FE := bnd fa fun ds _ hp => match g ds hp with
  | some z => some (.val z, hp)
  | none => none
theorem se_callB {id : String} {r : List V → Hp → VK → Prop} {g : List D → EH → Option D} {x : Str} {p : Pos} (hc : ∀ j, CallR (X j) (.builtin id) r) (hs : CallS K r g) (hg : ∀ j, Gl (X j) x) (hm : mg x = none) (hF : Fam X K mg) (hv : bootBuiltins x = some (.builtin id)) (ha : SA X K mg W (e :: es) ga) (hn : x ≠ "__name__" := by decide) (hdb : (x == ("__debug__" : Str)) = false := by decide)
    (he : ∀ j, starEach (e :: es) (X j).env = (false, eval e (X j).env) :: starEach es (X j).env := by intro _; rfl) (hpl : ∀ j, (backTo pos (starEach es (X j).env)).any (·.1) = false := by intro _; rfl) : SE X K mg W (.Call (.Name x p) (e :: es) [] pos) (eCall g ga) := by
  obtain ⟨t, pt, q0⟩ := ha.ex
  refine ⟨⟨_, fun j => pe_callB (hc j) (hg j) (by rw [hF.g j]; exact hm) hv (pt j) hn hdb (he j) (hpl j), fun σ H env hp F m r1 n r' hp' e Q q => ?_⟩⟩
  rcases bnd_val e with ⟨x, h1, rfl⟩ | ⟨ds, hp1, h1, h2⟩
  · exact q0 σ H env hp F m r1 n _ _ h1 _ q
  · refine q0 σ H env hp F m r1 n _ _ h1 _ fun vs F1 m1 H1 n1 r2 d1 => ?_
    try simp only at h2
    split at h2
    · rename_i z hz
      cases h2
      exact hs F1 m1 H1 _ vs ds z r2 d1 hz Q fun v F' H' n' r' d' => q v F' m1 H' (n1.trans n') r' d'
    · cases h2
theorem se_callTy {T : String} {r : List V → Hp → VK → Prop} {g : List D → EH → Option D} {x : Str} {p : Pos} (hc : ∀ j, CallR (X j) (.type T) r) (hs : CallS K r g) (hg : ∀ j, Gl (X j) x) (hm : mg x = none) (hF : Fam X K mg) (hv : bootBuiltins x = some (.type T)) (ha : SA X K mg W (e :: es) ga) (hn : x ≠ "__name__" := by decide) (hdb : (x == ("__debug__" : Str)) = false := by decide)
    (he : ∀ j, starEach (e :: es) (X j).env = (false, eval e (X j).env) :: starEach es (X j).env := by intro _; rfl) (hpl : ∀ j, (backTo pos (starEach es (X j).env)).any (·.1) = false := by intro _; rfl) : SE X K mg W (.Call (.Name x p) (e :: es) [] pos) (eCall g ga) := by
  obtain ⟨t, pt, q0⟩ := ha.ex
  refine ⟨⟨_, fun j => pe_callTy (hc j) (hg j) (by rw [hF.g j]; exact hm) hv (pt j) hn hdb (he j) (hpl j), fun σ H env hp F m r1 n r' hp' e Q q => ?_⟩⟩
  rcases bnd_val e with ⟨x, h1, rfl⟩ | ⟨ds, hp1, h1, h2⟩
  · exact q0 σ H env hp F m r1 n _ _ h1 _ q
  · refine q0 σ H env hp F m r1 n _ _ h1 _ fun vs F1 m1 H1 n1 r2 d1 => ?_
    try simp only at h2
    split at h2
    · rename_i z hz
      cases h2
      exact hs F1 m1 H1 _ vs ds z r2 d1 hz Q fun v F' H' n' r' d' => q v F' m1 H' (n1.trans n') r' d'
    · cases h2
def gLen : List D → EH → Option D := fun ds hp => match ds with
  | [d] => match asQ hp d with
    | some xs => some (.int xs.length)
    | none => none
  | _ => none
theorem calls_len : CallS K (fun xs H Q => ∃ p ys, xs = [.ref p] ∧ (SqL K H p ys ∨ SqT K H p ys) ∧ Q (.int ys.length) H) gLen := by
  intro F m H hp vs ds z r1 d1 hz Q q
  unfold gLen at hz
  split at hz
  · rename_i d
    split at hz
    · rename_i xs hx
      cases hz
      cases d1 with
      | cons h1 h2 =>
        cases h2
        obtain ⟨a, ws, rfl, q1, q2⟩ := sq_of r1 h1 hx
        exact ⟨a, ws, rfl, q1, by rw [q2.length]; exact q _ F H Nx.refl r1 (.int _)⟩
    · cases hz
  · cases hz
def gList : List D → EH → Option D := fun ds hp => match ds with
  | [d] => match asQ hp d with
    | some xs => some (.lst xs)
    | none => none
  | _ => none
theorem calls_list : CallS K (fun xs H Q => ∃ p ys, xs = [.ref p] ∧ (SqL K H p ys ∨ SqT K H p ys) ∧ ∀ l, H l = none → Q (.ref l) (upd H l (.lst ys))) gList := by
  intro F m H hp vs ds z r1 d1 hz Q q
  unfold gList at hz
  split at hz
  · rename_i d
    split at hz
    · rename_i xs hx
      cases hz
      cases d1 with
      | cons h1 h2 =>
        cases h2
        obtain ⟨a, ws, rfl, q1, q2⟩ := sq_of r1 h1 hx
        refine ⟨a, ws, rfl, q1, fun l hl => ?_⟩
        obtain ⟨F', n', r', d'⟩ := new_lst (σ := []) r1 q2 hl
        exact q _ F' _ n' r' d'
    · cases hz
  · cases hz
def gTuple : List D → EH → Option D := fun ds hp => match ds with
  | [d] => match asQ hp d with
    | some xs => some (.tup xs)
    | none => none
  | _ => none
theorem calls_tuple : CallS K (fun xs H Q => ∃ p ys, xs = [.ref p] ∧ ((SqL K H p ys ∧ ∀ l, H l = none → Q (.ref l) (upd H l (.tup ys))) ∨ (SqT K H p ys ∧ Q (.ref p) H))) gTuple := by
  intro F m H hp vs ds z r1 d1 hz Q q
  unfold gTuple at hz
  split at hz
  · rename_i d
    split at hz
    · rename_i xs hx
      cases hz
      cases d1 with
      | cons h1 h2 =>
        cases h2
        cases d with
        | tup ys =>
          simp [asQ] at hx
          subst hx
          cases h1 with
          | tup h1 h2 => exact ⟨_, _, rfl, .inr ⟨SqT.mono r1.sub h1, q _ F H Nx.refl r1 (.tup h1 h2)⟩⟩
        | lst ys =>
          obtain ⟨a, ws, rfl, q1, q2⟩ := rd_of r1 h1 (by simpa [asL, asQ] using hx)
          refine ⟨a, ws, rfl, .inl ⟨SqL.of q1, fun l hl => ?_⟩⟩
          obtain ⟨F', n', r', d'⟩ := new_tup (σ := []) r1 q2 hl
          exact q _ F' _ n' r' d'
        | scr ys =>
          simp [asQ] at hx
          subst hx
          cases h1 with
          | scr h1 h2 =>
            refine ⟨_, _, rfl, .inl ⟨SqL.mono r1.sub h1, fun l hl => ?_⟩⟩
            obtain ⟨F', n', r', d'⟩ := new_tup (σ := []) r1 h2 hl
            exact q _ F' _ n' r' d'
        | obj ys =>
          obtain ⟨a, ws, rfl, q1, q2⟩ := rd_of r1 h1 (by simpa [asL, asQ] using hx)
          refine ⟨a, ws, rfl, .inl ⟨SqL.of q1, fun l hl => ?_⟩⟩
          obtain ⟨F', n', r', d'⟩ := new_tup (σ := []) r1 q2 hl
          exact q _ F' _ n' r' d'
        | _ => simp [asQ] at hx
    · cases hz
  · cases hz
def gInt : List D → EH → Option D := fun ds _ => match ds with
  | [.int i] => some (.int i)
  | [.bl b] => some (.int (if b then 1 else 0))
  | _ => none
theorem calls_int : CallS K (fun xs H Q => (∃ i, xs = [.int i] ∧ Q (.int i) H) ∨ ∃ k, xs = [.bl k] ∧ Q (.int (if k then 1 else 0)) H) gInt := by
  intro F m H hp vs ds z r1 d1 hz Q q
  unfold gInt at hz
  split at hz
  · cases hz
    cases d1 with
    | cons h1 h2 => cases h1; cases h2; exact .inl ⟨_, rfl, q _ F H Nx.refl r1 (.int _)⟩
  · cases hz
    cases d1 with
    | cons h1 h2 => cases h1; cases h2; exact .inr ⟨_, rfl, q _ F H Nx.refl r1 (.int _)⟩
  · cases hz
def gMin2 : List D → EH → Option D := fun ds _ => match ds with
  | [.int i, .int j] => some (.int (if j < i then j else i))
  | _ => none
def gMax2 : List D → EH → Option D := fun ds _ => match ds with
  | [.int i, .int j] => some (.int (if j > i then j else i))
  | _ => none
theorem calls_min2 : CallS K (fun xs H Q => ∃ i j, xs = [.int i, .int j] ∧ Q (.int (if j < i then j else i)) H) gMin2 := by
  intro F m H hp vs ds z r1 d1 hz Q q
  unfold gMin2 at hz
  split at hz
  · cases hz
    cases d1 with
    | cons h1 h2 =>
      cases h1
      cases h2 with
      | cons h2 h3 => cases h2; cases h3; exact ⟨_, _, rfl, q _ F H Nx.refl r1 (.int _)⟩
  · cases hz
theorem calls_max2 : CallS K (fun xs H Q => ∃ i j, xs = [.int i, .int j] ∧ Q (.int (if j > i then j else i)) H) gMax2 := by
  intro F m H hp vs ds z r1 d1 hz Q q
  unfold gMax2 at hz
  split at hz
  · cases hz
    cases d1 with
    | cons h1 h2 =>
      cases h1
      cases h2 with
      | cons h2 h3 => cases h2; cases h3; exact ⟨_, _, rfl, q _ F H Nx.refl r1 (.int _)⟩
  · cases hz

/-! ### tests -/
def tB (f : FE) : FT := bnd f fun d _ hp => match d with
  | .bl b => some (.val b, hp)
  | _ => none
def tNot (f : FT) : FT := bnd f fun b => ret (!b)
def tAnd (f g : FT) : FT := bnd f fun b => if b = true then g else ret false
def tOr (f g : FT) : FT := bnd f fun b => if b = true then ret true else g
def eIf (t : FT) (f g : FE) : FE := bnd t fun b => if b = true then f else g
def eNot (f : FE) : FE := bnd (tB f) fun b => ret (.bl (!b))
def eAnd (f g : FE) : FE := bnd (tB f) fun b => if b = true then g else ret (.bl false)
def eOr (f g : FE) : FE := bnd (tB f) fun b => if b = true then ret (.bl true) else g
variable {ta tb tc : FT} {rest : List Expr}
theorem tB_run {t : TE} {σ : L2.St} {env : Ev} {r : Res Bool} (ha : ∀ r hp', fa env hp = some (r, hp') → ∀ Q, OutE K mg W F m σ H hp' Q r → t σ H Q)
    (e : MP.tB fa env hp = some (r, hp')) {Q : Bool → Hp → Prop} (q : OutT K mg W F m σ H hp' Q r) : t σ H fun x H1 => ∃ c, x = .bl c ∧ Q c H1 := by
  rcases bnd_val e with ⟨x, h1, rfl⟩ | ⟨d, hp1, h1, h2⟩
  · exact ha _ _ h1 _ q
  · refine ha _ _ h1 _ fun v F1 m1 H1 n1 r1 d1 => ?_
    try simp only at h2
    split at h2
    · cases h2
      cases d1
      exact ⟨_, rfl, q F1 m1 H1 n1 r1⟩
    · cases h2
theorem st_val (h : SE X K mg W e fe) (he : ∀ j whole, isTrue e (X j).env whole = (do let v ← whole; standAt e.pos; holding [v] (truthy v)) := by intro _ _; rfl) : ST X K mg W e (MP.tB fe) := by
  obtain ⟨t, p, q0⟩ := h.ex
  exact ⟨⟨_, fun j => pt_val (p j) (he j), fun σ H env hp F m r n r' hp' e Q q => tB_run (q0 σ H env hp F m r n) e q⟩⟩
theorem st_cmp {op : CmpOp} {r : R2} {g : D → D → EH → Option D} (ho : ∀ j, OpR (X j) (compareOp op) r) (hs : OpS K r g) (ha : SE X K mg W a fa) (hb : SE X K mg W b fb) (hm : behindInMarks op b = false) : ST X K mg W (.Compare a [op] [b] pos) (MP.tB (eBin g fa fb)) := by
  obtain ⟨ta, pa, qa⟩ := ha.ex
  obtain ⟨tb, pb, qb⟩ := hb.ex
  exact ⟨⟨_, fun j => pt_cmpR (ho j) (pa j) (pb j) hm, fun σ H env hp F m r1 n r' hp' e Q q => tB_run (fa := eBin g fa fb) (fun r hp' e Q q => bin_run hs (qa σ H env hp F m r1 n) (fun H1 hp1 F1 m1 r1 n1 => qb σ H1 env hp1 F1 m1 r1 n1) n e q) e q⟩⟩
theorem SW.st (h : SW X K mg W e tc) : ST X K mg W e tc := by
  obtain ⟨t, p, q⟩ := h.ex
  exact ⟨⟨t, fun j => (p j).pt, q⟩⟩
theorem sw_and1 (ha : ST X K mg W a ta) : SW X K mg W (.BoolOp .And [a] pos) ta := by
  obtain ⟨t, p, q⟩ := ha.ex
  exact ⟨⟨t, fun j => pw_and1 (p j), q⟩⟩
theorem sw_or1 (ha : ST X K mg W a ta) : SW X K mg W (.BoolOp .Or [a] pos) ta := by
  obtain ⟨t, p, q⟩ := ha.ex
  exact ⟨⟨t, fun j => pw_or1 (p j), q⟩⟩
theorem sw_and (ha : ST X K mg W a ta) (hb : SW X K mg W (.BoolOp .And (b :: rest) pos) tb) : SW X K mg W (.BoolOp .And (a :: b :: rest) pos) (MP.tAnd ta tb) := by
  obtain ⟨t, p, q0⟩ := ha.ex
  obtain ⟨u, p2, q2⟩ := hb.ex
  refine ⟨⟨_, fun j => pw_and (p j) (p2 j), fun σ H env hp F m r n r' hp' e Q q => ?_⟩⟩
  rcases bnd_val e with ⟨x, h1, rfl⟩ | ⟨d, hp1, h1, h2⟩
  · exact q0 σ H env hp F m r n _ _ h1 _ q
  · refine q0 σ H env hp F m r n _ _ h1 _ fun F1 m1 H1 n1 r1 => ?_
    cases d with
    | true => exact q2 σ H1 env hp1 F1 m1 r1 (n.mono n1) _ _ h2 _ (OutT.nx n1 q)
    | false => cases h2; exact q F1 m1 H1 n1 r1
theorem sw_or (ha : ST X K mg W a ta) (hb : SW X K mg W (.BoolOp .Or (b :: rest) pos) tb) : SW X K mg W (.BoolOp .Or (a :: b :: rest) pos) (MP.tOr ta tb) := by
  obtain ⟨t, p, q0⟩ := ha.ex
  obtain ⟨u, p2, q2⟩ := hb.ex
  refine ⟨⟨_, fun j => pw_or (p j) (p2 j), fun σ H env hp F m r n r' hp' e Q q => ?_⟩⟩
  rcases bnd_val e with ⟨x, h1, rfl⟩ | ⟨d, hp1, h1, h2⟩
  · exact q0 σ H env hp F m r n _ _ h1 _ q
  · refine q0 σ H env hp F m r n _ _ h1 _ fun F1 m1 H1 n1 r1 => ?_
    cases d with
    | false => exact q2 σ H1 env hp1 F1 m1 r1 (n.mono n1) _ _ h2 _ (OutT.nx n1 q)
    | true => cases h2; exact q F1 m1 H1 n1 r1
theorem st_not (ha : ST X K mg W a ta) : ST X K mg W (.UnaryOp .Not a pos) (MP.tNot ta) := by
  obtain ⟨t, p, q0⟩ := ha.ex
  refine ⟨⟨_, fun j => pt_not (p j), fun σ H env hp F m r n r' hp' e Q q => ?_⟩⟩
  rcases bnd_val e with ⟨x, h1, rfl⟩ | ⟨d, hp1, h1, h2⟩
  · exact q0 σ H env hp F m r n _ _ h1 _ q
  · cases h2
    exact q0 σ H env hp F m r n _ _ h1 _ fun F1 m1 H1 n1 r1 => q F1 m1 H1 n1 r1
theorem se_if (hc : ST X K mg W c tc) (ha : SE X K mg W a fa) (hb : SE X K mg W b fb) : SE X K mg W (.IfExp c a b pos) (MP.eIf tc fa fb) := by
  obtain ⟨t, p, q0⟩ := hc.ex
  obtain ⟨ua, pa, qa⟩ := ha.ex
  obtain ⟨ub, pb, qb⟩ := hb.ex
  refine ⟨⟨_, fun j => pe_ifExp (p j) (pa j) (pb j), fun σ H env hp F m r n r' hp' e Q q => ?_⟩⟩
  rcases bnd_val e with ⟨x, h1, rfl⟩ | ⟨d, hp1, h1, h2⟩
  · exact q0 σ H env hp F m r n _ _ h1 _ q
  · refine q0 σ H env hp F m r n _ _ h1 _ fun F1 m1 H1 n1 r1 => ?_
    cases d with
    | true => exact qa σ H1 env hp1 F1 m1 r1 (n.mono n1) _ _ h2 _ (OutE.nx n1 q)
    | false => exact qb σ H1 env hp1 F1 m1 r1 (n.mono n1) _ _ h2 _ (OutE.nx n1 q)
theorem se_one {op} (h : SE X K mg W a fa) : SE X K mg W (.BoolOp op [a] pos) fa := by
  obtain ⟨t, p, q0⟩ := h.ex
  exact ⟨⟨t, fun j => pe_one (p j), q0⟩⟩
theorem se_and (ha : SE X K mg W a fa) (hb : SE X K mg W (.BoolOp .And (b :: rest) pos) fb) : SE X K mg W (.BoolOp .And (a :: b :: rest) pos) (MP.eAnd fa fb) := by
  obtain ⟨t, p, q0⟩ := ha.ex
  obtain ⟨u, p2, q2⟩ := hb.ex
  refine ⟨⟨_, fun j => pe_and (p j) (p2 j), fun σ H env hp F m r n r' hp' e Q q => ?_⟩⟩
  show t σ H fun x H1 => ∃ c, x = .bl c ∧ (if c = true then u σ H1 Q else Q (.bl false) H1)
  rcases bnd_val e with ⟨x, h1, rfl⟩ | ⟨d, hp1, h1, h2⟩
  · exact tB_run (q0 σ H env hp F m r n) h1 (r := .exc x) q
  · refine tB_run (q0 σ H env hp F m r n) h1 (r := .val d) fun F1 m1 H1 n1 r1 => ?_
    cases d with
    | true => exact q2 σ H1 env hp1 F1 m1 r1 (n.mono n1) _ _ h2 _ (OutE.nx n1 q)
    | false => cases h2; exact q _ F1 m1 H1 n1 r1 (.bl false)
theorem se_or (ha : SE X K mg W a fa) (hb : SE X K mg W (.BoolOp .Or (b :: rest) pos) fb) : SE X K mg W (.BoolOp .Or (a :: b :: rest) pos) (MP.eOr fa fb) := by
  obtain ⟨t, p, q0⟩ := ha.ex
  obtain ⟨u, p2, q2⟩ := hb.ex
  refine ⟨⟨_, fun j => pe_or (p j) (p2 j), fun σ H env hp F m r n r' hp' e Q q => ?_⟩⟩
  show t σ H fun x H1 => ∃ c, x = .bl c ∧ (if c = true then Q (.bl true) H1 else u σ H1 Q)
  rcases bnd_val e with ⟨x, h1, rfl⟩ | ⟨d, hp1, h1, h2⟩
  · exact tB_run (q0 σ H env hp F m r n) h1 (r := .exc x) q
  · refine tB_run (q0 σ H env hp F m r n) h1 (r := .val d) fun F1 m1 H1 n1 r1 => ?_
    cases d with
    | false => exact q2 σ H1 env hp1 F1 m1 r1 (n.mono n1) _ _ h2 _ (OutE.nx n1 q)
    | true => cases h2; exact q _ F1 m1 H1 n1 r1 (.bl true)
theorem se_not (ha : SE X K mg W a fa) : SE X K mg W (.UnaryOp .Not a pos) (MP.eNot fa) := by
  obtain ⟨t, p, q0⟩ := ha.ex
  refine ⟨⟨_, fun j => pe_not (p j), fun σ H env hp F m r n r' hp' e Q q => ?_⟩⟩
  show t σ H fun x H1 => ∃ c, x = .bl c ∧ Q (.bl (!c)) H1
  rcases bnd_val e with ⟨x, h1, rfl⟩ | ⟨d, hp1, h1, h2⟩
  · exact tB_run (q0 σ H env hp F m r n) h1 (r := .exc x) q
  · cases h2
    exact tB_run (q0 σ H env hp F m r n) h1 (r := .val d) fun F1 m1 H1 n1 r1 => q _ F1 m1 H1 n1 r1 (.bl _)
/-- a number's sign -/
def eNeg (f : FE) : FE := bnd f fun d _ hp => match d with
  | .int i => some (.val (.int (-i)), hp)
  | _ => none
theorem se_neg (ha : SE X K mg W a fa) : SE X K mg W (.UnaryOp .USub a pos) (MP.eNeg fa) := by
  obtain ⟨t, p, q0⟩ := ha.ex
  refine ⟨⟨_, fun j => pe_un un_neg (p j), fun σ H env hp F m r n r' hp' e Q q => ?_⟩⟩
  rcases bnd_val e with ⟨x, h1, rfl⟩ | ⟨d, hp1, h1, h2⟩
  · exact q0 σ H env hp F m r n _ _ h1 _ q
  · refine q0 σ H env hp F m r n _ _ h1 _ fun v F1 m1 H1 n1 r1 d1 => ?_
    try simp only at h2
    split at h2
    · cases h2
      cases d1
      exact ⟨_, rfl, q _ F1 m1 H1 n1 r1 (.int _)⟩
    · cases h2
/-- x is None -/
def dIsN : D → Bool
  | .non => true
  | _ => false
theorem dn_non {v : V} {d : D} (h : Dn K F m v d) : decide (v = V.non) = dIsN d := by
  cases h <;> simp [dIsN]
def eIsN (f : FE) : FE := bnd f fun d => ret (.bl (dIsN d))
def eNotN (f : FE) : FE := bnd f fun d => ret (.bl (!dIsN d))
theorem se_isN {j pos'} (ha : SE X K mg W a fa) : SE X K mg W (.Compare a [.Is] [.Constant .none j pos'] pos) (eIsN fa) := by
  obtain ⟨t, p, q0⟩ := ha.ex
  refine ⟨⟨_, fun j => pe_cmp (pc_isN (p j)), fun σ H env hp F m r n r' hp' e Q q => ?_⟩⟩
  rcases bnd_val e with ⟨x, h1, rfl⟩ | ⟨d, hp1, h1, h2⟩
  · exact q0 σ H env hp F m r n _ _ h1 _ q
  · cases h2
    refine q0 σ H env hp F m r n _ _ h1 _ fun v F1 m1 H1 n1 r1 d1 => ?_
    rw [dn_non d1]
    exact q _ F1 m1 H1 n1 r1 (.bl _)
theorem se_notN {j pos'} (ha : SE X K mg W a fa) : SE X K mg W (.Compare a [.IsNot] [.Constant .none j pos'] pos) (eNotN fa) := by
  obtain ⟨t, p, q0⟩ := ha.ex
  refine ⟨⟨_, fun j => pe_cmp (pc_notN (p j)), fun σ H env hp F m r n r' hp' e Q q => ?_⟩⟩
  rcases bnd_val e with ⟨x, h1, rfl⟩ | ⟨d, hp1, h1, h2⟩
  · exact q0 σ H env hp F m r n _ _ h1 _ q
  · cases h2
    refine q0 σ H env hp F m r n _ _ h1 _ fun v F1 m1 H1 n1 r1 d1 => ?_
    rw [dn_non d1]
    exact q _ F1 m1 H1 n1 r1 (.bl _)

/-! ### slices -/
abbrev FO := Ev → EH → Option (Res (Option Int) × EH)
def OutO (K : PySem.W.Frag) (mg : Str → Option Value) (W : WX) (F : Hp) (m : List Addr) (σ : L2.St) (H : Hp) (hp' : EH) (Q : Option Int → Hp → Prop) : Res (Option Int) → Prop
  | .val d => ∀ F' m' H', Nx F m H F' m' H' → R K F' m' H' hp' → Q d H'
  | .exc e => ∀ F' m' H' c dd, Nx F m H F' m' H' → R K F' m' H' hp' → Xc K mg F' m' H' e c dd → W c dd σ H'
theorem OutO.nx {F F1 : Hp} {m m1 : List Addr} {σ : L2.St} {H H1 : Hp} {hp' : EH} {Q : Option Int → Hp → Prop} {r : Res (Option Int)} (n : Nx F m H F1 m1 H1) (h : OutO K mg W F m σ H hp' Q r) : OutO K mg W F1 m1 σ H1 hp' Q r := by
  cases r with
  | val d => exact fun F' m' H' n2 r2 => h F' m' H' (n.trans n2) r2
  | exc e => exact fun F' m' H' c dd n2 r2 d2 => h F' m' H' c dd (n.trans n2) r2 d2
structure SO {ι : Type} (X : ι → Cx) (K : PySem.W.Frag) (mg : Str → Option Value) (W : WX) (e : Option Expr) (f : FO) : Prop where
  ex : ∃ t : TO, (∀ i, PO (X i) e t) ∧ ∀ σ H env hp F m, R K F m H hp → En K F m σ env → ∀ r hp', f env hp = some (r, hp') → ∀ Q, OutO K mg W F m σ H hp' Q r → t σ H Q
def oSome (f : FE) : FO := bnd f fun d _ hp => match d with
  | .int i => some (.val (some i), hp)
  | _ => none
theorem so_none : SO X K mg W none (ret none) := ⟨⟨_, fun _ => po_none, fun σ H env hp F m r n r' hp' e Q q => by cases e; exact q F m H Nx.refl r⟩⟩
theorem so_some (h : SE X K mg W e fe) : SO X K mg W (some e) (oSome fe) := by
  obtain ⟨t, p, q0⟩ := h.ex
  refine ⟨⟨_, fun j => po_some (p j), fun σ H env hp F m r n r' hp' e Q q => ?_⟩⟩
  show t σ H fun x H1 => ∃ i, x = .int i ∧ Q (some i) H1
  rcases bnd_val e with ⟨x, h1, rfl⟩ | ⟨d, hp1, h1, h2⟩
  · exact q0 σ H env hp F m r n _ _ h1 _ q
  · refine q0 σ H env hp F m r n _ _ h1 _ fun v F1 m1 H1 n1 r1 d1 => ?_
    try simp only at h2
    split at h2
    · cases h2
      cases d1
      exact ⟨_, rfl, q F1 m1 H1 n1 r1⟩
    · cases h2
def cutD (xs : List D) (lo hi : Option Int) : List D := (xs.drop (HT.sIx xs.length 0 lo)).take (HT.sIx xs.length xs.length hi - HT.sIx xs.length 0 lo)
theorem cut_of {vs : List V} {ds : List D} (h : Dns K F m vs ds) (lo hi : Option Int) : Dns K F m (cutV vs lo hi) (cutD ds lo hi) := by
  unfold cutV cutD
  rw [h.length]
  exact (h.drop _).take _
def gCut (d : D) (lo hi : Option Int) (hp : EH) : Option D := match d with
  | .tup xs => some (.tup (cutD xs lo hi))
  | .scr xs => some (.lst (cutD xs lo hi))
  | d => match asL hp d with
    | some xs => some (.lst (cutD xs lo hi))
    | none => none
def eCut (f : FE) (lo hi : FO) : FE := bnd f fun d => bnd lo fun l => bnd hi fun h _ hp => match gCut d l h hp with
  | some z => some (.val z, hp)
  | none => none
theorem sl_any {Y : Cx} (h : Y.K = K) : SlR Y (fun x lo hi H Q => rSlA K x lo hi H Q ∨ rSlL K x lo hi H Q) := by
  subst h
  exact sl_tupA.or sl_list
theorem cut_whole {xs : List D} {lo hi : Option Int} (h : HT.sIx xs.length 0 lo = 0 ∧ HT.sIx xs.length xs.length hi = xs.length) : cutD xs lo hi = xs := by
  unfold cutD
  rw [h.1, h.2]
  simp
theorem se_slice {lo hi : Option Expr} {fl fh : FO} {p2 : Pos} (hF : Fam X K mg) (ha : SE X K mg W e fe) (hl : SO X K mg W lo fl) (hh : SO X K mg W hi fh) : SE X K mg W (.Subscript e (.Slice lo hi none p2) pos) (eCut fe fl fh) := by
  obtain ⟨t, p, q0⟩ := ha.ex
  obtain ⟨tl, pl, ql⟩ := hl.ex
  obtain ⟨th, ph, qh⟩ := hh.ex
  refine ⟨⟨_, fun j => pe_slice (sl_any (hF.k j)) (p j) (pl j) (ph j), fun σ H env hp F m r n r' hp' e Q q => ?_⟩⟩
  rcases bnd_val e with ⟨x, h1, rfl⟩ | ⟨d, hp1, h1, h2⟩
  · exact q0 σ H env hp F m r n _ _ h1 _ q
  refine q0 σ H env hp F m r n _ _ h1 _ fun v F1 m1 H1 n1 r1 d1 => ?_
  rcases bnd_val h2 with ⟨x, h3, rfl⟩ | ⟨l, hp2, h3, h4⟩
  · exact ql σ H1 env hp1 F1 m1 r1 (n.mono n1) _ _ h3 _ (OutE.nx n1 q)
  refine ql σ H1 env hp1 F1 m1 r1 (n.mono n1) _ _ h3 _ fun F2 m2 H2 n2 r2 => ?_
  have n12 := n1.trans n2
  rcases bnd_val h4 with ⟨x, h5, rfl⟩ | ⟨h, hp3, h5, h6⟩
  · exact qh σ H2 env hp2 F2 m2 r2 (n.mono n12) _ _ h5 _ (OutE.nx n12 q)
  refine qh σ H2 env hp2 F2 m2 r2 (n.mono n12) _ _ h5 _ fun F3 m3 H3 n3 r3 => ?_
  have n13 := n12.trans n3
  have d3 := (d1.mono n2.fz n2.pre).mono n3.fz n3.pre
  try simp only at h6
  split at h6
  · rename_i z hz
    cases h6
    have list : ∀ xs, asL hp' d = some xs → z = .lst (cutD xs l h) → rSlL K v l h H3 Q := fun xs hx ez => by
      subst ez
      obtain ⟨a, vs, rfl, q1, q2⟩ := rd_of r3 d3 hx
      refine ⟨a, vs, rfl, SqL.of q1, fun p hp' => ?_⟩
      obtain ⟨F', n', r', d'⟩ := new_lst (σ := σ) r3 (cut_of q2 l h) hp'
      exact q _ F' m3 _ (n13.trans n') r' d'
    cases d with
    | tup xs =>
      simp [gCut] at hz
      subst hz
      cases d3 with
      | tup a1 a2 =>
        rename_i a vs
        have a2l := a2.length
        refine .inl ⟨a, vs, rfl, SqT.mono r3.sub a1, fun hw => ?_, fun _ p hp' => ?_⟩
        · rw [a2l] at hw
          rw [cut_whole hw] at q
          exact q _ F3 m3 H3 n13 r3 (.tup a1 a2)
        · obtain ⟨F', n', r', d'⟩ := new_tup (σ := σ) r3 (cut_of a2 l h) hp'
          exact q _ F' m3 _ (n13.trans n') r' d'
    | scr xs =>
      simp [gCut] at hz
      subst hz
      cases d3 with
      | scr a1 a2 =>
        refine .inr ⟨_, _, rfl, SqL.mono r3.sub a1, fun p hp' => ?_⟩
        obtain ⟨F', n', r', d'⟩ := new_lst (σ := σ) r3 (cut_of a2 l h) hp'
        exact q _ F' m3 _ (n13.trans n') r' d'
    | lst xs =>
      simp [gCut, asL] at hz
      exact .inr (list xs rfl hz.symm)
    | obj i =>
      simp only [gCut, asL] at hz
      split at hz
      · rename_i xs hx
        cases hz
        exact .inr (list xs hx rfl)
      · cases hz
    | _ => simp [gCut, asL] at hz
  · cases h6
end
end MP
end

section
set_option maxRecDepth 100000
set_option maxHeartbeats 1000000
namespace MP
open PySem PySem.Spec PyProof.Rows L2 RZ

theorem wipe_get (σ : L2.St) (i : Nat) : ∀ vs : List Nat, (wipe σ vs)[i]? = if i ∈ vs then (σ[i]?).map (fun _ => none) else σ[i]?
  | [] => by simp [wipe]
  | v :: vs => by
    rw [wipe, List.getElem?_set, wipe_get σ i vs, wipe_length]
    by_cases h : v = i
    · subst h
      by_cases hl : v < σ.length
      · simp [hl, List.getElem?_eq_getElem hl]
      · simp [hl, List.getElem?_eq_none (Nat.le_of_not_lt hl)]
    · have h' : ¬ i = v := fun e => h e.symm
      simp [h, h']
theorem wipe_set (σ : L2.St) (j : Nat) (x : Option V) (vs : List Nat) (hj : j ∈ vs) : wipe (σ.set j x) vs = wipe σ vs := by
  apply List.ext_getElem?
  intro i
  rw [wipe_get, wipe_get]
  by_cases h : i ∈ vs
  · simp only [h, if_true]
    rw [List.getElem?_set]
    by_cases hij : j = i
    · subst hij
      by_cases hl : j < σ.length
      · simp [hl, List.getElem?_eq_getElem hl]
      · simp [hl, List.getElem?_eq_none (Nat.le_of_not_lt hl)]
    · simp [hij]
  · simp only [h, if_false]
    rw [List.getElem?_set_ne]
    intro e
    subst e
    exact h hj
/-- the same over the known names -/
def wipeE (env : Ev) : List Nat → Ev
  | [] => env
  | v :: vs => (wipeE env vs).set v none
theorem wipeE_get (σ : Ev) (i : Nat) : ∀ vs : List Nat, (wipeE σ vs)[i]? = if i ∈ vs then (σ[i]?).map (fun _ => none) else σ[i]?
  | [] => by simp [wipeE]
  | v :: vs => by
    have hl : (wipeE σ vs).length = σ.length := by
      induction vs with
      | nil => rfl
      | cons w ws ih => simp [wipeE, ih]
    rw [wipeE, List.getElem?_set, wipeE_get σ i vs, hl]
    by_cases h : v = i
    · subst h
      by_cases hl : v < σ.length
      · simp [hl, List.getElem?_eq_getElem hl]
      · simp [hl, List.getElem?_eq_none (Nat.le_of_not_lt hl)]
    · have h' : ¬ i = v := fun e => h e.symm
      simp [h, h']
theorem wipeE_len (σ : Ev) : ∀ vs : List Nat, (wipeE σ vs).length = σ.length
  | [] => rfl
  | v :: vs => by simp [wipeE, wipeE_len σ vs]
theorem En.wipe {K : PySem.W.Frag} {F : Hp} {m : List Addr} {σ : L2.St} {env : Ev} (n : En K F m σ env) (vs : List Nat) : En K F m (L2.wipe σ vs) (wipeE env vs) := ⟨by rw [wipeE_len, wipe_length]; exact n.len, fun i d h => by
  rw [wipeE_get] at h
  by_cases hi : i ∈ vs
  · simp only [hi, if_true] at h
    cases e : env[i]? with
    | none => rw [e] at h; cases h
    | some o => rw [e] at h; cases h
  · simp only [hi, if_false] at h
    rw [wipe_get]
    simp only [hi, if_false]
    exact n.get i d h⟩

section
variable {ι : Type} {X : ι → Cx} {K : PySem.W.Frag} {mg : Str → Option Value} {W : WX} {F F' : Hp} {m m' : List Addr} {H H' : Hp} {hp hp' : EH}

/-! ### targets: a name, several names in brackets -/
structure SG {ι : Type} (X : ι → Cx) (K : PySem.W.Frag) (tg : Expr) (js : List Nat) (g : D → Ev → Option Ev) : Prop where
  ex : ∃ t : TG, (∀ j, PG (X j) tg t) ∧ ∀ v d σ H env (hp : EH) F m, R K F m H hp → En K F m σ env → Dn K F m v d → ∀ env', g d env = some env' → ∀ Q : L2.St → Hp → Prop,
    (∀ σ', En K F m σ' env' → (∀ vs : List Nat, (∀ j, j ∈ js → j ∈ vs) → wipe σ' vs = wipe σ vs) → Q σ' H) → t v σ H Q
structure SGs {ι : Type} (X : ι → Cx) (K : PySem.W.Frag) (tgs : List Expr) (js : List Nat) (g : List D → Ev → Option Ev) : Prop where
  ex : ∃ t : TGs, (∀ j, PGs (X j) tgs t) ∧ ∀ vs ds σ H env (hp : EH) F m, R K F m H hp → En K F m σ env → Dns K F m vs ds → ∀ env', g ds env = some env' → ∀ Q : L2.St → Hp → Prop,
    (∀ σ', En K F m σ' env' → (∀ vs : List Nat, (∀ j, j ∈ js → j ∈ vs) → wipe σ' vs = wipe σ vs) → Q σ' H) → t vs σ H Q
def tgN (i : Nat) : D → Ev → Option Ev := fun d env => some (env.set i (some d))
def tgNil : List D → Ev → Option Ev := fun ds env => match ds with
  | [] => some env
  | _ => none
def tgCons (g : D → Ev → Option Ev) (gs : List D → Ev → Option Ev) : List D → Ev → Option Ev := fun ds env => match ds with
  | d :: ds => match g d env with
    | some env1 => gs ds env1
    | none => none
  | [] => none
def tgT (n : Nat) (gs : List D → Ev → Option Ev) : D → Ev → Option Ev := fun d env => match d with
  | .tup ds => if ds.length = n then gs ds env else none
  | _ => none
variable {tg e : Expr} {es : List Expr} {js ks : List Nat} {g : D → Ev → Option Ev} {gs : List D → Ev → Option Ev} {pos : Pos}
theorem sg_name {i : Nat} {x : Str} (hF : Fam X K mg) (hi : ∀ j, (X j).N[i]? = some x := by intro _; rfl) (hx : ∀ j, Loc (X j).env.scope x := by first | exact fun _ => Or.inl rfl | exact fun _ => Or.inr rfl) (hf : ∀ j, (X j).fn x = true ∨ (X j).env.scope.names.lookup x = some .local := by first | exact fun _ => .inl rfl | exact fun _ => .inr rfl) : SG X K (.Name x pos) [i] (tgN i) :=
  ⟨⟨_, fun j => pg_name (hF.nd j) (hi j) (hx j) (hf j), fun v d σ H env hp F m r n dn env' e Q q => by
    cases e
    exact q _ (n.set dn) fun vs hv => wipe_set σ i _ vs (hv i (by simp))⟩⟩
theorem sgs_nil : SGs X K [] [] tgNil := ⟨⟨_, fun _ => pgs_nil, fun vs ds σ H env hp F m r n dn env' e Q q => by
  unfold tgNil at e
  split at e
  · cases e
    cases dn
    exact ⟨rfl, q _ n fun _ _ => rfl⟩
  · cases e⟩⟩
theorem sgs_cons (h1 : SG X K e js g) (h2 : SGs X K es ks gs) (hp : ∀ j t u, PG (X j) e t → PGs (X j) es u → PGs (X j) (e :: es) (gCons t u) := by intro j t u a b; exact pgs_cons a b) : SGs X K (e :: es) (js ++ ks) (tgCons g gs) := by
  obtain ⟨t, p, q0⟩ := h1.ex
  obtain ⟨u, p2, q2⟩ := h2.ex
  refine ⟨⟨_, fun j => hp j _ _ (p j) (p2 j), fun vs ds σ H env hp F m r n dn env' e Q q => ?_⟩⟩
  unfold tgCons at e
  split at e
  · rename_i d ds'
    split at e
    · rename_i env1 he
      cases dn with
      | cons d1 d2 =>
        refine ⟨_, _, rfl, q0 _ _ σ H env hp F m r n d1 env1 he _ fun σ1 n1 w1 => ?_⟩
        refine q2 _ _ σ1 H env1 hp F m r n1 d2 env' e _ fun σ2 n2 w2 => ?_
        exact q σ2 n2 fun vs hv => (w2 vs fun j hj => hv j (List.mem_append_right _ hj)).trans (w1 vs fun j hj => hv j (List.mem_append_left _ hj))
    · cases e
  · cases e
theorem sg_tup {k n : Nat} (h : SGs X K es js gs) (hp : ∀ j t, PGs (X j) es t → PG (X j) (.Tuple es k pos) (gTup (X j).K n t)) (hF : Fam X K mg) : SG X K (.Tuple es k pos) js (tgT n gs) := by
  obtain ⟨t, p, q0⟩ := h.ex
  refine ⟨⟨_, fun j => by have z := hp j _ (p j); rw [hF.k j] at z; exact z, fun v d σ H env hp F m r n dn env' e Q q => ?_⟩⟩
  unfold tgT at e
  split at e
  · split at e
    · rename_i hl
      cases dn with
      | tup a1 a2 =>
        exact ⟨_, _, rfl, SqT.mono r.sub a1, by rw [a2.length]; exact hl, q0 _ _ σ H env hp F m r n a2 env' e Q q⟩
    · cases e
  · cases e

/-! ### what is walked -/
structure ItOk (K : PySem.W.Frag) (F : Hp) (m : List Addr) (J : It) (ds : List D) (chk : EH → Bool) : Prop where
  go : ∀ i F' m' H' hp', Same F F' → m <+: m' → R K F' m' H' hp' → chk hp' = true → i < ds.length → J.go i H'
  stop : ∀ F' m' H' hp', Same F F' → m <+: m' → R K F' m' H' hp' → chk hp' = true → J.stop ds.length H'
  yld : ∀ i F' m' H' hp' v H'', Same F F' → m <+: m' → R K F' m' H' hp' → chk hp' = true → i < ds.length → J.yld i H' v H'' → ∃ d F'', ds[i]? = some d ∧ Nx F' m' H' F'' m' H'' ∧ R K F'' m' H'' hp' ∧ Dn K F'' m' v d
def OutI (K : PySem.W.Frag) (mg : Str → Option Value) (W : WX) (F : Hp) (m : List Addr) (σ : L2.St) (H : Hp) (hp' : EH) (Q : It → Hp → Prop) : Res (List D × (EH → Bool)) → Prop
  | .val p => ∀ J F' m' H', Nx F m H F' m' H' → R K F' m' H' hp' → ItOk K F' m' J p.1 p.2 → Q J H'
  | .exc e => ∀ F' m' H' c dd, Nx F m H F' m' H' → R K F' m' H' hp' → Xc K mg F' m' H' e c dd → W c dd σ H'
abbrev FI := Ev → EH → Option (Res (List D × (EH → Bool)) × EH)
structure SI {ι : Type} (X : ι → Cx) (K : PySem.W.Frag) (mg : Str → Option Value) (W : WX) (tg iter : Expr) (f : FI) : Prop where
  ex : ∃ wi : TI, (∀ j, PI (X j) tg iter wi) ∧ ∀ σ H env hp F m, R K F m H hp → En K F m σ env → ∀ r hp', f env hp = some (r, hp') → ∀ Q, OutI K mg W F m σ H hp' Q r → wi σ H Q
theorem PI.or {Y : Cx} {iter : Expr} {w1 w2 : TI} (a : PI Y tg iter w1) (b : PI Y tg iter w2) : PI Y tg iter (fun σ H R => w1 σ H R ∨ w2 σ H R) := ⟨fun pins s σ H R I h => by
  rcases h with h | h
  · exact a.run pins s σ H R I h
  · exact b.run pins s σ H R I h⟩
def yes : EH → Bool := fun _ => true
def sameObj (i : Nat) (xs : List D) : EH → Bool := fun hp => match hp[i]? with
  | some ys => D.beqs ys xs
  | none => false
theorem sameObj_eq {i : Nat} {xs : List D} {hp : EH} (h : sameObj i xs hp = true) : hp[i]? = some xs := by
  unfold sameObj at h
  split at h
  · rename_i ys hy
    rw [hy, D.beqs_eq h]
  · cases h
/-- over a list, a tuple -/
def iSeq (f : FE) : FI := bnd f fun d _ hp => match d with
  | .lst xs => some (.val (xs, yes), hp)
  | .tup xs => some (.val (xs, yes), hp)
  | .obj i => match hp[i]? with
    | some xs => some (.val (xs, sameObj i xs), hp)
    | none => none
  | _ => none
theorem it_list {a : Addr} {vs : List V} {xs : List D} {chk : EH → Bool} (h : ∀ F' m' H' hp', Same F F' → m <+: m' → R K F' m' H' hp' → chk hp' = true → ∃ vs, SqL K H' a vs ∧ Dns K F' m' vs xs)
    (inj : ∀ (H' : Hp) vs ws, SqL K H' a vs → SqL K H' a ws → vs = ws ∨ True := by intros; exact .inr trivial) : ItOk K F m (Itl K a) xs chk where
  go := fun i F' m' H' hp' s p r c hi => by
    obtain ⟨vs, h1, h2⟩ := h F' m' H' hp' s p r c
    have hl : i < vs.length := by rw [h2.length]; exact hi
    exact ⟨vs, vs[i], h1, List.getElem?_eq_getElem hl⟩
  stop := fun F' m' H' hp' s p r c => by
    obtain ⟨vs, h1, h2⟩ := h F' m' H' hp' s p r c
    exact ⟨vs, h1, by rw [h2.length]; exact Nat.le_refl _⟩
  yld := fun i F' m' H' hp' v H'' s p r c hi y => by
    obtain ⟨vs, h1, h2⟩ := h F' m' H' hp' s p r c
    obtain ⟨e, y2⟩ := y
    subst e
    obtain ⟨d, q1, q2⟩ := h2.getV (y2 vs h1)
    exact ⟨d, F', q1, Nx.refl, r, q2⟩
theorem it_tup {a : Addr} {vs : List V} {xs : List D} (h1 : SqT K F a vs) (h2 : Dns K F m vs xs) : ItOk K F m (Itt K a) xs yes where
  go := fun i F' m' H' hp' s p r c hi => by
    have hl : i < vs.length := by rw [h2.length]; exact hi
    exact ⟨vs, vs[i], SqT.mono (s.trans r.sub) h1, List.getElem?_eq_getElem hl⟩
  stop := fun F' m' H' hp' s p r c => ⟨vs, SqT.mono (s.trans r.sub) h1, by rw [h2.length]; exact Nat.le_refl _⟩
  yld := fun i F' m' H' hp' v H'' s p r c hi y => by
    obtain ⟨e, y2⟩ := y
    subst e
    obtain ⟨d, q1, q2⟩ := h2.getV (y2 vs (SqT.mono (s.trans r.sub) h1))
    exact ⟨d, F', q1, Nx.refl, r, q2.mono s p⟩
variable {iter : Expr} {fe : FE} {ga : FA}
theorem si_seq (hF : Fam X K mg) (h : SE X K mg W iter fe) : SI X K mg W tg iter (iSeq fe) := by
  obtain ⟨t, p, q0⟩ := h.ex
  refine ⟨⟨_, fun j => by have z := PI.or (tg := tg) (pi_list (p j)) (pi_tup (p j)); rw [hF.k j] at z; exact z, fun σ H env hp F m r n r' hp' e Q q => ?_⟩⟩
  rcases bnd_val e with ⟨x, h1, rfl⟩ | ⟨d, hp1, h1, h2⟩
  · exact .inl (q0 σ H env hp F m r n _ _ h1 _ q)
  · try simp only at h2
    split at h2
    · cases h2
      refine .inl (q0 σ H env hp F m r n _ _ h1 _ fun v F1 m1 H1 n1 r1 d1 => ?_)
      cases d1 with
      | lst a1 a2 =>
        rename_i a vs
        exact ⟨_, rfl, ⟨_, SqL.of (r1.sub _ _ a1)⟩, q _ F1 m1 H1 n1 r1 (it_list (vs := vs) fun F' m' H' hp' s p r c => ⟨vs, SqL.of ((s.trans r.sub) _ _ a1), a2.mono s p⟩)⟩
    · cases h2
      refine .inr (q0 σ H env hp F m r n _ _ h1 _ fun v F1 m1 H1 n1 r1 d1 => ?_)
      cases d1 with
      | tup a1 a2 => exact ⟨_, rfl, ⟨_, SqT.mono r1.sub a1⟩, q _ F1 m1 H1 n1 r1 (it_tup a1 a2)⟩
    · split at h2
      · rename_i xs hx
        cases h2
        refine .inl (q0 σ H env hp F m r n _ _ h1 _ fun v F1 m1 H1 n1 r1 d1 => ?_)
        cases d1 with
        | obj hi =>
          rename_i a
          obtain ⟨vs, w1, w2⟩ := r1.obj _ a xs hi hx
          refine ⟨a, rfl, ⟨vs, SqL.of w1⟩, q _ F1 m1 H1 n1 r1 (it_list (vs := vs) fun F' m' H' hp' s p r c => ?_)⟩
          obtain ⟨ws, z1, z2⟩ := r.obj _ a xs (pre_get p hi) (sameObj_eq c)
          exact ⟨ws, SqL.of z1, z2⟩
      · cases h2
    · cases h2
/-- over range(n), range(a, b) -/
def rangeD (lo : Int) (n : Nat) : List D := (List.range n).map fun i => .int (lo + (i : Nat))
def iRange1 (g : FA) : FI := bnd g fun ds _ hp => match ds with
  | [.int j] => if j ≤ 1000000 ∧ -1000000 ≤ j then some (.val (rangeD 0 j.toNat, yes), hp) else none
  | _ => none
def iRange2 (g : FA) : FI := bnd g fun ds _ hp => match ds with
  | [.int i, .int j] => if i ≤ 1000000 ∧ -1000000 ≤ i ∧ j ≤ 1000000 ∧ -1000000 ≤ j then some (.val (rangeD i (j - i).toNat, yes), hp) else none
  | _ => none
theorem it_range {lo : Int} {n : Nat} : ItOk K F m (Itr lo n) (rangeD lo n) yes where
  go := fun i F' m' H' hp' s p r c hi => by
    show i < n
    simpa [rangeD] using hi
  stop := fun F' m' H' hp' s p r c => by show n ≤ (rangeD lo n).length; simp [rangeD]
  yld := fun i F' m' H' hp' v H'' s p r c hi y => by
    obtain ⟨e, y2⟩ := y
    subst e; subst y2
    have hn : i < n := by simpa [rangeD] using hi
    exact ⟨.int (lo + (i : Nat)), F', by simp [rangeD, hn], Nx.refl, r, .int _⟩
theorem si_range1 {a : Expr} {p : Pos} (hF : Fam X K mg) (hg : ∀ j, Gl (X j) "range") (hm : mg "range" = none) (ha : SA X K mg W [a] ga) (hs : ∀ j, starEach [a] (X j).env = [(false, eval a (X j).env)] := by intro _; rfl) : SI X K mg W tg (.Call (.Name "range" p) [a] [] pos) (iRange1 ga) := by
  obtain ⟨t, pt, q0⟩ := ha.ex
  refine ⟨⟨_, fun j => pi_range1 (hg j) (by rw [hF.g j]; exact hm) (pt j) (hs j), fun σ H env hp F m r n r' hp' e Q q => ?_⟩⟩
  rcases bnd_val e with ⟨x, h1, rfl⟩ | ⟨ds, hp1, h1, h2⟩
  · exact q0 σ H env hp F m r n _ _ h1 _ q
  · refine q0 σ H env hp F m r n _ _ h1 _ fun vs F1 m1 H1 n1 r1 d1 => ?_
    try simp only at h2
    split at h2
    · split at h2
      · rename_i hj
        cases h2
        cases d1 with
        | cons c1 c2 =>
          cases c1; cases c2
          exact ⟨_, rfl, by omega, by omega, q _ F1 m1 H1 n1 r1 it_range⟩
      · cases h2
    · cases h2
theorem si_range2 {a b : Expr} {p : Pos} (hF : Fam X K mg) (hg : ∀ j, Gl (X j) "range") (hm : mg "range" = none) (ha : SA X K mg W [a, b] ga) (hs : ∀ j, starEach [a, b] (X j).env = [(false, eval a (X j).env), (false, eval b (X j).env)] := by intro _; rfl) (hs2 : ∀ j, starEach [b] (X j).env = [(false, eval b (X j).env)] := by intro _; rfl) : SI X K mg W tg (.Call (.Name "range" p) [a, b] [] pos) (iRange2 ga) := by
  obtain ⟨t, pt, q0⟩ := ha.ex
  refine ⟨⟨_, fun j => pi_range2 (hg j) (by rw [hF.g j]; exact hm) (pt j) (hs j) (hs2 j), fun σ H env hp F m r n r' hp' e Q q => ?_⟩⟩
  rcases bnd_val e with ⟨x, h1, rfl⟩ | ⟨ds, hp1, h1, h2⟩
  · exact q0 σ H env hp F m r n _ _ h1 _ q
  · refine q0 σ H env hp F m r n _ _ h1 _ fun vs F1 m1 H1 n1 r1 d1 => ?_
    try simp only at h2
    split at h2
    · split at h2
      · rename_i hj
        cases h2
        cases d1 with
        | cons c1 c2 =>
          cases c1
          cases c2 with
          | cons c2 c3 =>
            cases c2; cases c3
            exact ⟨_, _, rfl, by omega, q _ F1 m1 H1 n1 r1 it_range⟩
      · cases h2
    · cases h2
/-- over zip of two lists, of two tuples -/
def zipD : List D → List D → List D
  | x :: xs, y :: ys => .tup [x, y] :: zipD xs ys
  | _, _ => []
theorem zipD_get : ∀ (xs ys : List D) (i : Nat) (x y : D), xs[i]? = some x → ys[i]? = some y → (zipD xs ys)[i]? = some (.tup [x, y])
  | [], _, i, _, _, h, _ => by simp at h
  | x :: xs, [], i, _, _, _, h => by simp at h
  | x :: xs, y :: ys, 0, _, _, h1, h2 => by
    simp at h1 h2
    subst h1; subst h2
    rfl
  | x :: xs, y :: ys, i + 1, _, _, h1, h2 => zipD_get xs ys i _ _ (by simpa using h1) (by simpa using h2)
theorem zipD_len : ∀ xs ys : List D, (zipD xs ys).length = min xs.length ys.length
  | [], _ => by simp [zipD]
  | x :: xs, [] => by simp [zipD]
  | x :: xs, y :: ys => by simp [zipD, zipD_len xs ys]
def iZip (g : FA) : FI := bnd g fun ds _ hp => match ds with
  | [.lst xs, .lst ys] => some (.val (zipD xs ys, yes), hp)
  | [.tup xs, .tup ys] => some (.val (zipD xs ys, yes), hp)
  | _ => none
theorem it_zipT {a b : Addr} {vs ws : List V} {xs ys : List D} (h1 : SqT K F a vs) (h2 : Dns K F m vs xs) (k1 : SqT K F b ws) (k2 : Dns K F m ws ys) : ItOk K F m (ItzT K a b) (zipD xs ys) yes where
  go := fun i F' m' H' hp' s p r c hi => by
    rw [zipD_len] at hi
    have hl : i < vs.length := by rw [h2.length]; omega
    have hl2 : i < ws.length := by rw [k2.length]; omega
    exact ⟨vs, ws, vs[i], ws[i], SqT.mono (s.trans r.sub) h1, SqT.mono (s.trans r.sub) k1, List.getElem?_eq_getElem hl, List.getElem?_eq_getElem hl2⟩
  stop := fun F' m' H' hp' s p r c => ⟨vs, ws, SqT.mono (s.trans r.sub) h1, SqT.mono (s.trans r.sub) k1, by rw [zipD_len, h2.length, k2.length]; omega⟩
  yld := fun i F' m' H' hp' v H'' s p r c hi y => by
    obtain ⟨T, x, z, e1, nT, e2, y1, y2⟩ := y
    subst e1; subst e2
    obtain ⟨d, q1, q2⟩ := h2.getV (y1 vs (SqT.mono (s.trans r.sub) h1))
    obtain ⟨d', q3, q4⟩ := k2.getV (y2 ws (SqT.mono (s.trans r.sub) k1))
    obtain ⟨F'', n', r', d''⟩ := new_tup (σ := []) (ds := [d, d']) r (.cons (q2.mono s p) (.cons (q4.mono s p) .nil)) nT
    exact ⟨_, F'', zipD_get _ _ _ _ _ q1 q3, n', r', d''⟩
theorem it_zipL {a b : Addr} {vs ws : List V} {xs ys : List D} (h1 : F a = some (.lst vs)) (h2 : Dns K F m vs xs) (k1 : F b = some (.lst ws)) (k2 : Dns K F m ws ys) : ItOk K F m (Itz K a b) (zipD xs ys) yes where
  go := fun i F' m' H' hp' s p r c hi => by
    rw [zipD_len] at hi
    have hl : i < vs.length := by rw [h2.length]; omega
    have hl2 : i < ws.length := by rw [k2.length]; omega
    exact ⟨vs, ws, vs[i], ws[i], SqL.of ((s.trans r.sub) _ _ h1), SqL.of ((s.trans r.sub) _ _ k1), List.getElem?_eq_getElem hl, List.getElem?_eq_getElem hl2⟩
  stop := fun F' m' H' hp' s p r c => ⟨vs, ws, SqL.of ((s.trans r.sub) _ _ h1), SqL.of ((s.trans r.sub) _ _ k1), by rw [zipD_len, h2.length, k2.length]; omega⟩
  yld := fun i F' m' H' hp' v H'' s p r c hi y => by
    obtain ⟨T, x, z, e1, nT, e2, y1, y2⟩ := y
    subst e1; subst e2
    obtain ⟨d, q1, q2⟩ := h2.getV (y1 vs (SqL.of ((s.trans r.sub) _ _ h1)))
    obtain ⟨d', q3, q4⟩ := k2.getV (y2 ws (SqL.of ((s.trans r.sub) _ _ k1)))
    obtain ⟨F'', n', r', d''⟩ := new_tup (σ := []) (ds := [d, d']) r (.cons (q2.mono s p) (.cons (q4.mono s p) .nil)) nT
    exact ⟨_, F'', zipD_get _ _ _ _ _ q1 q3, n', r', d''⟩
theorem si_zip {a b : Expr} {elts : List Expr} {kk : Nat} {tpos p : Pos} (hF : Fam X K mg) (hg : ∀ j, Gl (X j) "zip") (hm : mg "zip" = none) (ha : SA X K mg W [a, b] ga)
    (hs : ∀ j, starEach [a, b] (X j).env = (false, eval a (X j).env) :: starEach [b] (X j).env := by intro _; rfl) (hpl : ∀ j, (backTo pos (starEach [b] (X j).env)).any (·.1) = false := by intro _; rfl) : SI X K mg W (.Tuple elts kk tpos) (.Call (.Name "zip" p) [a, b] [] pos) (iZip ga) := by
  obtain ⟨t, pt, q0⟩ := ha.ex
  refine ⟨⟨_, fun j => by have z := pi_zipA (elts := elts) (kk := kk) (tpos := tpos) (p := p) (pos := pos) (hg j) (by rw [hF.g j]; exact hm) (pt j) (hs j) (hpl j); rw [hF.k j] at z; exact z, fun σ H env hp F m r n r' hp' e Q q => ?_⟩⟩
  rcases bnd_val e with ⟨x, h1, rfl⟩ | ⟨ds, hp1, h1, h2⟩
  · exact q0 σ H env hp F m r n _ _ h1 _ q
  · refine q0 σ H env hp F m r n _ _ h1 _ fun vs F1 m1 H1 n1 r1 d1 => ?_
    try simp only at h2
    split at h2
    · cases h2
      cases d1 with
      | cons c1 c2 =>
        cases c2 with
        | cons c2 c3 =>
          cases c3
          cases c1 with
          | lst a1 a2 =>
            cases c2 with
            | lst b1 b2 => exact ⟨_, _, _, _, rfl, .inl ⟨SqL.of (r1.sub _ _ a1), SqL.of (r1.sub _ _ b1), q _ F1 m1 H1 n1 r1 (it_zipL a1 a2 b1 b2)⟩⟩
    · cases h2
      cases d1 with
      | cons c1 c2 =>
        cases c2 with
        | cons c2 c3 =>
          cases c3
          cases c1 with
          | tup a1 a2 =>
            cases c2 with
            | tup b1 b2 => exact ⟨_, _, _, _, rfl, .inr ⟨SqT.mono r1.sub a1, SqT.mono r1.sub b1, q _ F1 m1 H1 n1 r1 (it_zipT a1 a2 b1 b2)⟩⟩
    · cases h2

/-! ### list comprehensions (one for) -/
/-- the turns: g the target, t the tests, f the element; nothing may be raised -/
def lcRun (g : D → Ev → Option Ev) (chk : EH → Bool) (t : FT) (f : FE) (env : Ev) : List D → EH → Option (List D × EH)
  | [], hp => if chk hp = true then some ([], hp) else none
  | d :: ds, hp => if chk hp = true then match g d env with
    | none => none
    | some env1 => match t env1 hp with
      | some (.val true, hp1) => match f env1 hp1 with
        | some (.val y, hp2) => match lcRun g chk t f env ds hp2 with
          | some (ys, hp3) => some (y :: ys, hp3)
          | none => none
        | _ => none
      | some (.val false, hp1) => lcRun g chk t f env ds hp1
      | _ => none
    else none
def eLc (src : FI) (vs : List Nat) (g : D → Ev → Option Ev) (t : FT) (f : FE) : FE := bnd src fun p env hp => match lcRun g p.2 t f (wipeE env vs) p.1 hp with
  | some (ys, hp') => if ys.length ≤ 16777216 then some (.val (.lst ys), hp') else none
  | none => none
def tYesF : FT := ret true
abbrev WF : WX := fun _ _ _ _ => False
structure STs {ι : Type} (X : ι → Cx) (K : PySem.W.Frag) (mg : Str → Option Value) (W : WX) (ifs : List Expr) (f : FT) : Prop where
  ex : ∃ t : TT, (∀ j, PTs (X j) ifs t) ∧ ∀ σ H env hp F m, R K F m H hp → En K F m σ env → ∀ r hp', f env hp = some (r, hp') → ∀ Q, OutT K mg W F m σ H hp' Q r → t σ H Q
theorem sts_nil : STs X K mg W [] tYesF := ⟨⟨_, fun _ => pts_nil, fun σ H env hp F m r n r' hp' e Q q => by cases e; exact q F m H Nx.refl r⟩⟩
theorem sts_one {c : Expr} {f : FT} (h : ST X K mg W c f) : STs X K mg W [c] f := by
  obtain ⟨t, p, q0⟩ := h.ex
  exact ⟨⟨_, fun j => pts_one (p j), q0⟩⟩
/-- the turns of a comprehension -/
theorem lc_turns {J : It} {tgt : TG} {tt : TT} {te : TE} {g : D → Ev → Option Ev} {t : FT} {f : FE} {vs : List Nat} {js : List Nat} {ds : List D} {chk : EH → Bool} {σ : L2.St} {env : Ev} {Dl : Addr} {ys : List D}
    (hjs : ∀ j, j ∈ js → j ∈ vs)
    (qg : ∀ v d σ H env (hp : EH) F m, R K F m H hp → En K F m σ env → Dn K F m v d → ∀ env', g d env = some env' → ∀ Q : L2.St → Hp → Prop, (∀ σ', En K F m σ' env' → (∀ vs : List Nat, (∀ j, j ∈ js → j ∈ vs) → wipe σ' vs = wipe σ vs) → Q σ' H) → tgt v σ H Q)
    (qt : ∀ σ H env hp F m, R K F m H hp → En K F m σ env → ∀ r hp', t env hp = some (r, hp') → ∀ Q, OutT K mg WF F m σ H hp' Q r → tt σ H Q)
    (qe : ∀ σ H env hp F m, R K F m H hp → En K F m σ env → ∀ r hp', f env hp = some (r, hp') → ∀ Q, OutE K mg WF F m σ H hp' Q r → te σ H Q)
    (ok : ItOk K F m J ds chk) (r : R K F m H hp) (n : En K F m σ env) (nD : H Dl = none)
    (e : lcRun g chk t f (wipeE env vs) ds hp = some (ys, hp')) (hl : ys.length ≤ 16777216) {Q : Hp → Prop}
    (q : ∀ ws F' m' H', Nx F m H F' m' H' → R K F' m' H' hp' → Dns K F' m' ws ys → H' Dl = some (.lst ws) → Dl ∉ m' → F' Dl = none → Q H') :
    ∃ Wx : Nat → Nat → Hp → Prop, (∃ k, Wx 0 k (upd H Dl (.lst []))) ∧ ∀ i k H, Wx i k H → (J.stop i H ∧ Q H) ∨ (J.go i H ∧ ∃ Nxt : Hp → Prop, (∀ H', Nxt H' → ∃ k', k' < k ∧ Wx (i + 1) k' H') ∧
      ∀ x H', J.yld i H x H' → tgt x (wipe σ vs) H' fun σ2 H2 => wipe σ2 vs = wipe σ vs ∧ tt σ2 H2 fun b H3 => if b = true then te σ2 H3 fun y H4 => ∃ acc, H4 Dl = some (.lst acc) ∧ acc.length < sizeLine ∧ Nxt (upd H4 Dl (.lst (acc ++ [y]))) else Nxt H3) := by
  have ww : wipe (wipe σ vs) vs = wipe σ vs := by
    apply List.ext_getElem?
    intro i
    rw [wipe_get, wipe_get]
    by_cases h : i ∈ vs
    · simp only [h, if_true]
      cases σ[i]? <;> rfl
    · simp only [h, if_false]
  -- the list at Dl: not known to the plain world
  let S : Hp → List Addr → Hp → EH → List V → Prop := fun F1 m1 H1 hp1 ws => R K F1 m1 H1 hp1 ∧ Nx F m H F1 m1 H1 ∧ H1 Dl = some (.lst ws) ∧ Dl ∉ m1 ∧ F1 Dl = none
  have mv : ∀ {F1 m1 H1 hp1 F2 m2 H2 hp2} {ws : List V}, S F1 m1 H1 hp1 ws → Nx F1 m1 H1 F2 m2 H2 → R K F2 m2 H2 hp2 → S F2 m2 H2 hp2 ws := by
    intro F1 m1 H1 hp1 F2 m2 H2 hp2 ws hS n2 r2
    obtain ⟨a1, a2, a3, a4, a5⟩ := hS
    have b1 : Dl ∉ m2 := fun hm => by
      rcases n2.nw Dl hm with z | z
      · exact a4 z
      · rw [a3] at z; cases z
    have b2 : F2 Dl = none := by
      cases z : F2 Dl with
      | none => rfl
      | some o =>
        rcases n2.nf Dl o z with z | z
        · rw [a5] at z; cases z
        · rw [a3] at z; cases z
    exact ⟨r2, a2.trans n2, n2.kp _ _ a3 a4, b1, b2⟩
  obtain ⟨r0, n0⟩ := r.loose (o := .lst []) nD
  have nm : Dl ∉ m := fun hm => by
    obtain ⟨_, z⟩ := r.there hm
    rw [nD] at z; cases z
  refine ⟨fun i k H1 => k = ds.length - i ∧ i ≤ ds.length ∧ ∃ F1 m1 hp1 ws zs rest, S F1 m1 H1 hp1 ws ∧ Dns K F1 m1 ws zs ∧ lcRun g chk t f (wipeE env vs) (ds.drop i) hp1 = some (rest, hp') ∧ zs ++ rest = ys,
    ⟨ds.length, by simp, Nat.zero_le _, F, m, hp, [], [], ys, ⟨r0, n0, upd_same, nm, r.sub.free nD⟩, .nil, e, rfl⟩, ?_⟩
  rintro i k H1 ⟨rfl, hi, F1, m1, hp1, ws, zs, rest, hS, dz, er, ez⟩
  obtain ⟨r1, n1, hD1, hm1, hf1⟩ := id hS
  by_cases hlt : i < ds.length
  · right
    rw [List.drop_eq_getElem_cons hlt] at er
    have ck : chk hp1 = true := by
      unfold lcRun at er
      by_cases c : chk hp1 = true
      · exact c
      · rw [if_neg c] at er; cases er
    refine ⟨ok.go i F1 m1 H1 hp1 n1.fz n1.pre r1 ck hlt, ?_⟩
    unfold lcRun at er
    rw [if_pos ck] at er
    refine ⟨fun H2 => ∃ F2 m2 hp2 ws2 zs2 rest2, S F2 m2 H2 hp2 ws2 ∧ Dns K F2 m2 ws2 zs2 ∧ lcRun g chk t f (wipeE env vs) (ds.drop (i + 1)) hp2 = some (rest2, hp') ∧ zs2 ++ rest2 = ys,
      fun H2 h2 => ⟨ds.length - (i + 1), by omega, rfl, hlt, h2⟩, fun x H2 y => ?_⟩
    obtain ⟨d, F2, hd, n2, r2, dd⟩ := ok.yld i F1 m1 H1 hp1 x H2 n1.fz n1.pre r1 ck hlt y
    have hd' : ds[i] = d := by
      rw [List.getElem?_eq_getElem hlt] at hd
      exact Option.some.inj hd
    rw [hd'] at er
    have S2 := mv hS n2 r2
    split at er
    · cases er
    · rename_i env1 hg
      refine qg x d (wipe σ vs) H2 (wipeE env vs) hp1 F2 m1 r2 ((n.wipe vs).mono (n1.trans n2)) dd env1 hg _ fun σ2 e2 w2 => ?_
      refine ⟨(w2 vs hjs).trans ww, ?_⟩
      cases ht : t env1 hp1 with
      | none => rw [ht] at er; cases er
      | some p =>
        obtain ⟨rb, hp2⟩ := p
        rw [ht] at er
        cases rb with
        | exc x => cases er
        | val b =>
          refine qt σ2 H2 env1 hp1 F2 m1 r2 e2 _ _ ht _ fun F3 m3 H3 n3 r3 => ?_
          have S3 := mv S2 n3 r3
          cases b with
          | false =>
            simp only [Bool.false_eq_true, if_false]
            exact ⟨F3, m3, hp2, ws, zs, rest, S3, (dz.mono n2.fz n2.pre).mono n3.fz n3.pre, er, ez⟩
          | true =>
            simp only [if_true]
            simp only at er
            cases hf : f env1 hp2 with
            | none => rw [hf] at er; cases er
            | some p =>
              obtain ⟨ry, hp3⟩ := p
              rw [hf] at er
              cases ry with
              | exc x => cases er
              | val y =>
                simp only at er
                refine qe σ2 H3 env1 hp2 F3 m3 r3 (e2.mono n3) _ _ hf _ fun yv F4 m4 H4 n4 r4 dy => ?_
                have S4 := mv S3 n4 r4
                cases hr : lcRun g chk t f (wipeE env vs) (ds.drop (i + 1)) hp3 with
                | none => rw [hr] at er; cases er
                | some p =>
                  obtain ⟨rest2, hp4⟩ := p
                  rw [hr] at er
                  cases er
                  have dz4 := (((dz.mono n2.fz n2.pre).mono n3.fz n3.pre).mono n4.fz n4.pre)
                  have hlen : ws.length < sizeLine := by
                    have h1 := congrArg List.length ez
                    simp at h1
                    rw [dz.length, line16]
                    omega
                  obtain ⟨a1, a2, a3, a4, a5⟩ := S4
                  refine ⟨ws, a3, hlen, F4, m4, hp3, ws ++ [yv], zs ++ [y], rest2, ⟨⟨fun b o q => ?_, a1.len, a1.nod, a1.fre, fun j b es q1 q2 => ?_⟩, ⟨a2.fz, a2.pre, fun b o q qn => ?_, a2.nw, a2.nf, fun b o q => ?_⟩, upd_same, a4, a5⟩, dz4.append (.cons dy .nil), hr, by rw [← ez]; simp⟩
                  · rw [upd_ne (fun z => by rw [z] at q; rw [a5] at q; cases q)]; exact a1.sub _ _ q
                  · obtain ⟨us, q3, q4⟩ := a1.obj j b es q1 q2
                    exact ⟨us, by rw [upd_ne (fun z => a4 (by rw [← z]; exact List.mem_of_getElem? q1))]; exact q3, q4⟩
                  · rw [upd_ne (fun z => by rw [z] at q; rw [nD] at q; cases q)]; exact a2.kp _ _ q qn
                  · rw [upd_ne (fun z => by rw [z] at q; rw [nD] at q; cases q)]; exact a2.tr _ _ q
  · left
    have ei : i = ds.length := by omega
    subst ei
    rw [List.drop_length] at er
    unfold lcRun at er
    by_cases ck : chk hp1 = true
    · rw [if_pos ck] at er
      cases er
      rw [List.append_nil] at ez
      subst ez
      exact ⟨ok.stop F1 m1 H1 _ n1.fz n1.pre r1 ck, q ws F1 m1 H1 n1 r1 dz hD1 hm1 hf1⟩
    · rw [if_neg ck] at er; cases er

variable {elt : Expr} {ifs : List Expr} {scope : Scope} {own : List (Str × Nat)} {src : FI} {ft : FT} {f : FE}
/-- the reading of a comprehension -/
theorem lc_read {wi : TI} {tgt : TG} {tt : TT} {te : TE} {vs : List Nat} (hjs : ∀ j, j ∈ js → j ∈ vs)
    (qi : ∀ σ H env hp F m, R K F m H hp → En K F m σ env → ∀ r hp', src env hp = some (r, hp') → ∀ Q, OutI K mg W F m σ H hp' Q r → wi σ H Q)
    (qg : ∀ v d σ H env (hp : EH) F m, R K F m H hp → En K F m σ env → Dn K F m v d → ∀ env', g d env = some env' → ∀ Q : L2.St → Hp → Prop, (∀ σ', En K F m σ' env' → (∀ vs : List Nat, (∀ j, j ∈ js → j ∈ vs) → wipe σ' vs = wipe σ vs) → Q σ' H) → tgt v σ H Q)
    (qt : ∀ σ H env hp F m, R K F m H hp → En K F m σ env → ∀ r hp', ft env hp = some (r, hp') → ∀ Q, OutT K mg WF F m σ H hp' Q r → tt σ H Q)
    (qe : ∀ σ H env hp F m, R K F m H hp → En K F m σ env → ∀ r hp', f env hp = some (r, hp') → ∀ Q, OutE K mg WF F m σ H hp' Q r → te σ H Q)
    {σ : L2.St} {env : Ev} (r : R K F m H hp) (n : En K F m σ env) {r' : Res D} (e : eLc src vs g ft f env hp = some (r', hp')) {Q : VK} (q : OutE K mg W F m σ H hp' Q r') : tLc wi tgt tt te vs σ H Q := by
  show wi σ H fun J H1 => _
  rcases bnd_val e with ⟨x, h1, rfl⟩ | ⟨p, hp1, h1, h2⟩
  · exact qi σ H env hp F m r n _ _ h1 _ q
  · refine qi σ H env hp F m r n _ _ h1 _ fun J F1 m1 H1 n1 r1 ok => ?_
    intro Dl nD
    cases hr : lcRun g p.2 ft f (wipeE env vs) p.1 hp1 with
    | none => rw [hr] at h2; cases h2
    | some w =>
      obtain ⟨ys, hp2⟩ := w
      rw [hr] at h2
      simp only at h2
      split at h2
      · rename_i hl
        cases h2
        refine lc_turns (js := js) hjs qg qt qe ok r1 (n.mono n1) nD hr hl fun ws F2 m2 H2 n2 r2 d2 hD hm hf => ?_
        obtain ⟨r3, n3, s3⟩ := r2.freeze n2 hD hm hf nD
        exact q _ _ m2 H2 (n1.trans n3) r3 (.lst upd_same (d2.mono s3 (List.prefix_refl _)))
      · cases h2
abbrev BI (ι : Type) := ι × Shared × Hp × Addr × List (Str × Addr) × List Addr
/-- the contexts of a comprehension's own block -/
@[reducible] def blkF {ι : Type} (X : ι → Cx) (scope : Scope) : BI ι → Cx := fun p => (X p.1).blk p.2.1 p.2.2.1 scope (compEnvC scope p.2.2.2.2.1 p.2.2.2.1 (X p.1).env) p.2.2.2.2.2
theorem Fam.blk (hF : Fam X K mg) (scope : Scope) : Fam (blkF X scope) K mg := ⟨fun p => hF.k p.1, fun p => hF.g p.1, fun p => hF.calm p.1, fun p => hF.nd p.1⟩
theorem se_lc (hF : Fam X K mg) (hi : SI X K mg W tg iter src) (ok : ∀ j, BlkOk (X j).N (X j).env.scope scope own) (hjs : ∀ j, j ∈ js → j ∈ own.map (·.2))
    (hg : SG (blkF X scope) K tg js g) (ht : STs (blkF X scope) K mg WF ifs ft) (he : SE (blkF X scope) K mg WF elt f) (hs : ∀ j x, foldedSetIterable iter (X j).env x = pure x := by intro _ _; rfl) :
    SE X K mg W (.ListComp elt [⟨tg, iter, ifs, 0⟩] scope pos) (eLc src (own.map (·.2)) g ft f) := by
  obtain ⟨wi, pi, qi⟩ := hi.ex
  obtain ⟨tgt, pg, qg⟩ := hg.ex
  obtain ⟨tt, pt, qt⟩ := ht.ex
  obtain ⟨te, pe, qe⟩ := he.ex
  exact ⟨⟨_, fun j => pe_lc (hF.calm j) (hF.nd j) (pi j) (ok j) (fun s H C cl fp => pg (j, s, H, C, cl, fp)) (fun s H C cl fp => pt (j, s, H, C, cl, fp)) (fun s H C cl fp => pe (j, s, H, C, cl, fp)) (hs j),
    fun σ H env hp F m r n r' hp' e Q q => lc_read hjs qi qg qt qe r n e q⟩⟩
end
end MP
end

section
set_option maxRecDepth 100000
set_option maxHeartbeats 1000000
namespace MP
open PySem PySem.Spec PyProof.Rows L2

/-- where a statement's outcome leads -/
def OutS (K : PySem.W.Frag) (mg : Str → Option Value) (W : WX) (F : Hp) (m : List Addr) (H : Hp) (env' : Ev) (hp' : EH) (Dd : Ends) : Fl → Prop
  | .nxt => ∀ σ' F' m' H', Nx F m H F' m' H' → R K F' m' H' hp' → En K F' m' σ' env' → Dd.nx σ' H'
  | .brk => ∀ σ' F' m' H', Nx F m H F' m' H' → R K F' m' H' hp' → En K F' m' σ' env' → Dd.bk σ' H'
  | .cnt => ∀ σ' F' m' H', Nx F m H F' m' H' → R K F' m' H' hp' → En K F' m' σ' env' → Dd.ct σ' H'
  | .ret d => ∀ v F' m' H', Nx F m H F' m' H' → R K F' m' H' hp' → Dn K F' m' v d → Dd.rt v H'
  | .exc e => ∀ σ' F' m' H' c dd, Nx F m H F' m' H' → R K F' m' H' hp' → En K F' m' σ' env' → Xc K mg F' m' H' e c dd → W c dd σ' H'
structure SS {ι : Type} (X : ι → Cx) (K : PySem.W.Frag) (mg : Str → Option Value) (W : WX) (st : Stmt) (f : FS) : Prop where
  ex : ∃ t : TS, (∀ j, PS (X j) st t) ∧ ∀ σ H env hp F m, R K F m H hp → En K F m σ env → ∀ fl env' hp', f env hp = some (fl, env', hp') → ∀ Dd, OutS K mg W F m H env' hp' Dd fl → t Dd σ H
structure SB {ι : Type} (X : ι → Cx) (K : PySem.W.Frag) (mg : Str → Option Value) (W : WX) (st : List Stmt) (f : FS) : Prop where
  ex : ∃ t : TS, (∀ j, PSs (X j) st t) ∧ ∀ σ H env hp F m, R K F m H hp → En K F m σ env → ∀ fl env' hp', f env hp = some (fl, env', hp') → ∀ Dd, OutS K mg W F m H env' hp' Dd fl → t Dd σ H

/-! ### the plain functions -/
/-- first an expression, then g of its value -/
def fE {α : Type} (f : Ev → EH → Option (Res α × EH)) (g : α → FS) : FS := fun env hp => match f env hp with
  | none => none
  | some (.exc e, hp1) => some (.exc e, env, hp1)
  | some (.val a, hp1) => g a env hp1
def fNext : FS := fun env hp => some (.nxt, env, hp)
def fSeq (f g : FS) : FS := fun env hp => match f env hp with
  | some (.nxt, env1, hp1) => g env1 hp1
  | r => r
def fBrk : FS := fun env hp => some (.brk, env, hp)
def fCnt : FS := fun env hp => some (.cnt, env, hp)
def fRet (f : FE) : FS := fE f fun d env hp => some (.ret d, env, hp)
def fRetN : FS := fun env hp => some (.ret .non, env, hp)
def fDrop (f : FE) : FS := fE f fun _ => fNext
def fAsg (f : FE) (g : D → Ev → Option Ev) : FS := fE f fun d env hp => match g d env with
  | some env' => some (.nxt, env', hp)
  | none => none
def fPar (f : FA) (i j : Nat) : FS := fE f fun ds env hp => match ds with
  | [a, b] => some (.nxt, (env.set i (some a)).set j (some b), hp)
  | _ => none
def fIf (t : FT) (f g : FS) : FS := fE t fun b => if b = true then f else g
/-- o[i] = e -/
def fSto (f fo fi : FE) : FS := fE f fun v => fE fo fun o => fE fi fun i env hp => match o, i with
  | .obj k, .int n => match hp[k]? with
    | some xs => match ixN xs.length n with
      | some j => some (.nxt, env, hp.set k (xs.set j v))
      | none => none
    | none => none
  | _, _ => none
/-- a for's turns -/
def fTurns (g : D → Ev → Option Ev) (chk : EH → Bool) (body : FS) : List D → FS
  | [], env, hp => if chk hp = true then some (.nxt, env, hp) else none
  | d :: ds, env, hp => if chk hp = true then match g d env with
    | none => none
    | some env1 => match body env1 hp with
      | none => none
      | some (.nxt, env2, hp2) => fTurns g chk body ds env2 hp2
      | some (.cnt, env2, hp2) => fTurns g chk body ds env2 hp2
      | some (.brk, env2, hp2) => some (.nxt, env2, hp2)
      | some (fl, env2, hp2) => some (fl, env2, hp2)
    else none
def fFor (src : FI) (g : D → Ev → Option Ev) (body : FS) : FS := fE src fun p => fTurns g p.2 body p.1
/-- a while's turns, at most n -/
def fWhile (t : FT) (body : FS) : Nat → FS
  | 0, _, _ => none
  | n + 1, env, hp => match t env hp with
    | none => none
    | some (.exc e, hp1) => some (.exc e, env, hp1)
    | some (.val false, hp1) => some (.nxt, env, hp1)
    | some (.val true, hp1) => match body env hp1 with
      | none => none
      | some (.nxt, env2, hp2) => fWhile t body n env2 hp2
      | some (.cnt, env2, hp2) => fWhile t body n env2 hp2
      | some (.brk, env2, hp2) => some (.nxt, env2, hp2)
      | some (fl, env2, hp2) => some (fl, env2, hp2)

section
variable {ι : Type} {X : ι → Cx} {K : PySem.W.Frag} {mg : Str → Option Value} {W : WX} {F F' F1 : Hp} {m m' m1 : List Addr} {H H' H1 : Hp} {hp hp' hp1 : EH} {st : Stmt} {sts : List Stmt} {e c : Expr} {fe : FE} {f g : FS} {tc : FT} {pos : Pos} {env env' : Ev} {Dd : Ends} {fl : Fl}
theorem OutS.nx (n : Nx F m H F1 m1 H1) (h : OutS K mg W F m H env' hp' Dd fl) : OutS K mg W F1 m1 H1 env' hp' Dd fl := by
  cases fl with
  | nxt => exact fun σ' F' m' H' n2 r2 e2 => h σ' F' m' H' (n.trans n2) r2 e2
  | brk => exact fun σ' F' m' H' n2 r2 e2 => h σ' F' m' H' (n.trans n2) r2 e2
  | cnt => exact fun σ' F' m' H' n2 r2 e2 => h σ' F' m' H' (n.trans n2) r2 e2
  | ret d => exact fun v F' m' H' n2 r2 e2 => h v F' m' H' (n.trans n2) r2 e2
  | exc e => exact fun σ' F' m' H' c dd n2 r2 e2 x2 => h σ' F' m' H' c dd (n.trans n2) r2 e2 x2
theorem fE_val {α : Type} {f : Ev → EH → Option (Res α × EH)} {g : α → FS} (e : fE f g env hp = some (fl, env', hp')) :
    (∃ x, f env hp = some (.exc x, hp') ∧ fl = .exc x ∧ env' = env) ∨ ∃ a hp1, f env hp = some (.val a, hp1) ∧ g a env hp1 = some (fl, env', hp') := by
  unfold fE at e
  cases hf : f env hp with
  | none => rw [hf] at e; cases e
  | some p =>
    obtain ⟨ra, hp1⟩ := p
    rw [hf] at e
    cases ra with
    | exc x => cases e; exact .inl ⟨x, rfl, rfl, rfl⟩
    | val d => exact .inr ⟨d, hp1, rfl, e⟩
/-- an expression's error as a statement's -/
theorem OutS.exc {σ : L2.St} {x : Exc} {Q : VK} (n : En K F m σ env) (h : OutS K mg W F m H env hp' Dd (.exc x)) : OutE K mg W F m σ H hp' Q (.exc x) :=
  fun F' m' H' c dd n2 r2 d2 => h σ F' m' H' c dd n2 r2 (n.mono n2) d2
theorem OutS.excT {σ : L2.St} {x : Exc} {Q : Bool → Hp → Prop} (n : En K F m σ env) (h : OutS K mg W F m H env hp' Dd (.exc x)) : OutT K mg W F m σ H hp' Q (.exc x) :=
  fun F' m' H' c dd n2 r2 d2 => h σ F' m' H' c dd n2 r2 (n.mono n2) d2
theorem OutS.excA {σ : L2.St} {x : Exc} {Q : List V → Hp → Prop} (n : En K F m σ env) (h : OutS K mg W F m H env hp' Dd (.exc x)) : OutA K mg W F m σ H hp' Q (.exc x) :=
  fun F' m' H' c dd n2 r2 d2 => h σ F' m' H' c dd n2 r2 (n.mono n2) d2
theorem OutS.excI {σ : L2.St} {x : Exc} {Q : It → Hp → Prop} (n : En K F m σ env) (h : OutS K mg W F m H env hp' Dd (.exc x)) : OutI K mg W F m σ H hp' Q (.exc x) :=
  fun F' m' H' c dd n2 r2 d2 => h σ F' m' H' c dd n2 r2 (n.mono n2) d2

theorem sb_nil : SB X K mg W [] fNext := ⟨⟨_, fun _ => pss_nil, fun σ H env hp F m r n fl env' hp' e Dd q => by cases e; exact q σ F m H Nx.refl r n⟩⟩
theorem sb_cons (h1 : SS X K mg W st f) (h2 : SB X K mg W sts g) : SB X K mg W (st :: sts) (fSeq f g) := by
  obtain ⟨t, p, q0⟩ := h1.ex
  obtain ⟨u, p2, q2⟩ := h2.ex
  refine ⟨⟨_, fun j => pss_cons (p j) (p2 j), fun σ H env hp F m r n fl env' hp' e Dd q => ?_⟩⟩
  show t { Dd with nx := u Dd } σ H
  unfold fSeq at e
  cases hf : f env hp with
  | none => rw [hf] at e; cases e
  | some p =>
    obtain ⟨fl1, env1, hp1⟩ := p
    rw [hf] at e
    cases fl1 with
    | nxt => exact q0 σ H env hp F m r n _ _ _ hf _ fun σ1 F1 m1 H1 n1 r1 e1 => q2 σ1 H1 env1 hp1 F1 m1 r1 e1 _ _ _ e _ (OutS.nx n1 q)
    | brk => cases e; exact q0 σ H env hp F m r n _ _ _ hf _ q
    | cnt => cases e; exact q0 σ H env hp F m r n _ _ _ hf _ q
    | ret d => cases e; exact q0 σ H env hp F m r n _ _ _ hf _ q
    | exc x => cases e; exact q0 σ H env hp F m r n _ _ _ hf _ q
theorem sb_one (h1 : SS X K mg W st f) : SB X K mg W [st] f := by
  obtain ⟨t, p, q0⟩ := h1.ex
  exact ⟨⟨t, fun j => pss_one (p j), q0⟩⟩
theorem ss_pass : SS X K mg W (.Pass pos) fNext := ⟨⟨_, fun _ => ps_pass, fun σ H env hp F m r n fl env' hp' e Dd q => by cases e; exact q σ F m H Nx.refl r n⟩⟩
theorem ss_brk : SS X K mg W (.Break pos) fBrk := ⟨⟨_, fun _ => ps_break, fun σ H env hp F m r n fl env' hp' e Dd q => by cases e; exact q σ F m H Nx.refl r n⟩⟩
theorem ss_cnt : SS X K mg W (.Continue pos) fCnt := ⟨⟨_, fun _ => ps_continue, fun σ H env hp F m r n fl env' hp' e Dd q => by cases e; exact q σ F m H Nx.refl r n⟩⟩
theorem ss_doc {x j pos'} : SS X K mg W (.Expr (.Constant (.str x) j pos) pos') fNext := ⟨⟨_, fun _ => ps_doc, fun σ H env hp F m r n fl env' hp' e Dd q => by cases e; exact q σ F m H Nx.refl r n⟩⟩
theorem ss_ret (h : SE X K mg W e fe) : SS X K mg W (.Return (some e) pos) (fRet fe) := by
  obtain ⟨t, p, q0⟩ := h.ex
  refine ⟨⟨_, fun j => ps_ret (p j), fun σ H env hp F m r n fl env' hp' e Dd q => ?_⟩⟩
  show t σ H Dd.rt
  rcases fE_val e with ⟨x, h1, rfl, rfl⟩ | ⟨d, hp1, h1, h2⟩
  · exact q0 σ H env' hp F m r n _ _ h1 _ (OutS.exc n q)
  · cases h2
    exact q0 σ H _ hp F m r n _ _ h1 _ fun v F1 m1 H1 n1 r1 d1 => q v F1 m1 H1 n1 r1 d1
theorem ss_retN : SS X K mg W (.Return none pos) fRetN := ⟨⟨_, fun _ => ps_retN, fun σ H env hp F m r n fl env' hp' e Dd q => by cases e; exact q _ F m H Nx.refl r .non⟩⟩
theorem ss_expr (h : SE X K mg W e fe) (hs : ∀ j, swapsWith e none pos.line (X j).env = pure false := by intro _; rfl) : SS X K mg W (.Expr e pos) (fDrop fe) := by
  obtain ⟨t, p, q0⟩ := h.ex
  refine ⟨⟨_, fun j => ps_expr (p j) (hs j), fun σ H env hp F m r n fl env' hp' e Dd q => ?_⟩⟩
  show t σ H fun _ H1 => Dd.nx σ H1
  rcases fE_val e with ⟨x, h1, rfl, rfl⟩ | ⟨d, hp1, h1, h2⟩
  · exact q0 σ H env' hp F m r n _ _ h1 _ (OutS.exc n q)
  · cases h2
    exact q0 σ H _ hp F m r n _ _ h1 _ fun v F1 m1 H1 n1 r1 d1 => q σ F1 m1 H1 n1 r1 (n.mono n1)
theorem ss_set {i : Nat} {x : Str} {p2 : Pos} (hF : Fam X K mg) (h : SE X K mg W e fe) (hi : ∀ j, (X j).N[i]? = some x := by intro _; rfl) (hx : ∀ j, Loc (X j).env.scope x := by first | exact fun _ => Or.inl rfl | exact fun _ => Or.inr rfl)
    (hs : ∀ j, swapsWith e (some (.Name x p2)) pos.line (X j).env = pure false := by intro _; rfl) (hf : ∀ j, (X j).fn x = true ∨ (X j).env.scope.names.lookup x = some .local := by first | exact fun _ => .inl rfl | exact fun _ => .inr rfl) :
    SS X K mg W (.Assign [.Name x p2] e pos) (fAsg fe (tgN i)) := by
  obtain ⟨t, p, q0⟩ := h.ex
  refine ⟨⟨_, fun j => ps_set (hF.nd j) (hi j) (hx j) (p j) (hs j) (hf j), fun σ H env hp F m r n fl env' hp' e Dd q => ?_⟩⟩
  show t σ H fun x H1 => Dd.nx (σ.set i (some x)) H1
  rcases fE_val e with ⟨x, h1, rfl, rfl⟩ | ⟨d, hp1, h1, h2⟩
  · exact q0 σ H env' hp F m r n _ _ h1 _ (OutS.exc n q)
  · cases h2
    exact q0 σ H _ hp F m r n _ _ h1 _ fun v F1 m1 H1 n1 r1 d1 => q _ F1 m1 H1 n1 r1 ((n.mono n1).set d1)
/-- several names at once -/
theorem ss_asg {tg : Expr} {js : List Nat} {gg : D → Ev → Option Ev} (h : SE X K mg W e fe) (hg : SG X K tg js gg) (hs : ∀ j, swapsWithSole [tg] e pos.line (X j).env = pure false := by intro _; rfl) (hw : ∀ j, swappedStores [tg] e (X j).env = pure none := by intro _; rfl)
    (h1 : ∀ j, (assignEach [tg] (X j).env).map (·.2) = [assign tg (X j).env] := by intro _; rfl) (h2 : ∀ j, (assignEach [tg] (X j).env).findIdx? (·.1) = none := by intro _; rfl) :
    SS X K mg W (.Assign [tg] e pos) (fAsg fe gg) := by
  obtain ⟨t, p, q0⟩ := h.ex
  obtain ⟨u, p2, q2⟩ := hg.ex
  refine ⟨⟨_, fun j => ps_asg (p j) (p2 j) (hs j) (hw j) (h1 j), fun σ H env hp F m r n fl env' hp' e Dd q => ?_⟩⟩
  show t σ H fun x H1 => u x σ H1 Dd.nx
  rcases fE_val e with ⟨x, h1, rfl, rfl⟩ | ⟨d, hp1, h1, h2⟩
  · exact q0 σ H env' hp F m r n _ _ h1 _ (OutS.exc n q)
  · try simp only at h2
    split at h2
    · rename_i env1 hg1
      cases h2
      exact q0 σ H _ hp F m r n _ _ h1 _ fun v F1 m1 H1 n1 r1 d1 => q2 v d σ H1 env _ F1 m1 r1 (n.mono n1) d1 _ hg1 _ fun σ' e' _ => q σ' F1 m1 H1 n1 r1 e'
    · cases h2
theorem ss_par {i j : Nat} {x y : Str} {a b : Expr} {fa : FA} {px py pt : Pos} {kt k2 pt2} (hF : Fam X K mg) (ha : SA X K mg W [a, b] fa) (hi : ∀ k, (X k).N[i]? = some x := by intro _; rfl) (hj : ∀ k, (X k).N[j]? = some y := by intro _; rfl) (hij : i ≠ j := by decide)
    (hx : ∀ k, (X k).env.scope.names.lookup x = some .local := by intro _; rfl) (hy : ∀ k, (X k).env.scope.names.lookup y = some .local := by intro _; rfl)
    (hw : ∀ k, swappedStores [.Tuple [.Name x px, .Name y py] kt pt] (.Tuple [a, b] k2 pt2) (X k).env = pure (some [x, y]) := by intro _; rfl)
    (hs : ∀ k, swapsWithSole [.Tuple [.Name x px, .Name y py] kt pt] (.Tuple [a, b] k2 pt2) pos.line (X k).env = pure false := by intro _; rfl) :
    SS X K mg W (.Assign [.Tuple [.Name x px, .Name y py] kt pt] (.Tuple [a, b] k2 pt2) pos) (fPar fa i j) := by
  obtain ⟨t, p, q0⟩ := ha.ex
  refine ⟨⟨_, fun k => ps_par (hF.calm k) (hF.nd k) (hi k) (hj k) hij (hx k) (hy k) (p k) (hw k) (hs k), fun σ H env hp F m r n fl env' hp' e Dd q => ?_⟩⟩
  show t σ H fun vs H1 => ∃ v w, vs = [v, w] ∧ Dd.nx ((σ.set i (some v)).set j (some w)) H1
  rcases fE_val e with ⟨x, h1, rfl, rfl⟩ | ⟨d, hp1, h1, h2⟩
  · exact q0 σ H env' hp F m r n _ _ h1 _ (OutS.excA n q)
  · try simp only at h2
    split at h2
    · cases h2
      refine q0 σ H _ hp F m r n _ _ h1 _ fun vs F1 m1 H1 n1 r1 d1 => ?_
      cases d1 with
      | cons d1 d2 =>
        cases d2 with
        | cons d2 d3 =>
          cases d3
          exact ⟨_, _, rfl, q _ F1 m1 H1 n1 r1 (((n.mono n1).set d1).set d2)⟩
    · cases h2
theorem ss_if {a b : List Stmt} (hc : ST X K mg W c tc) (ha : SB X K mg W a f) (hb : SB X K mg W b g) : SS X K mg W (.If c a b pos) (fIf tc f g) := by
  obtain ⟨t, p, q0⟩ := hc.ex
  obtain ⟨ua, pa, qa⟩ := ha.ex
  obtain ⟨ub, pb, qb⟩ := hb.ex
  refine ⟨⟨_, fun j => ps_if (p j) (pa j) (pb j), fun σ H env hp F m r n fl env' hp' e Dd q => ?_⟩⟩
  show t σ H fun b H1 => if b = true then ua Dd σ H1 else ub Dd σ H1
  rcases fE_val e with ⟨x, h1, rfl, rfl⟩ | ⟨d, hp1, h1, h2⟩
  · exact q0 σ H env' hp F m r n _ _ h1 _ (OutS.excT n q)
  · refine q0 σ H _ hp F m r n _ _ h1 _ fun F1 m1 H1 n1 r1 => ?_
    cases d with
    | true => exact qa σ H1 _ hp1 F1 m1 r1 (n.mono n1) _ _ _ h2 _ (OutS.nx n1 q)
    | false => exact qb σ H1 _ hp1 F1 m1 r1 (n.mono n1) _ _ _ h2 _ (OutS.nx n1 q)
theorem ss_sto {o i : Expr} {fo fi : FE} {p2 : Pos} (hF : Fam X K mg) (h : SE X K mg W e fe) (ho : SE X K mg W o fo) (hi : SE X K mg W i fi)
    (ha : ∀ j v, assign (.Subscript o i p2) (X j).env v = (do
      let ov ← holding [v] (eval o (X j).env)
      let iv ← holding [v, ov] (eval i (X j).env)
      standAt p2
      holding [v, ov, iv] (setItem ov iv v)
      release [v, ov, iv] []) := by intro _ _; rfl)
    (hs : ∀ j, swapsWithSole [.Subscript o i p2] e pos.line (X j).env = pure false := by intro _; rfl) (hw : ∀ j, swappedStores [.Subscript o i p2] e (X j).env = pure none := by intro _; rfl) :
    SS X K mg W (.Assign [.Subscript o i p2] e pos) (fSto fe fo fi) := by
  obtain ⟨t, p, q0⟩ := h.ex
  obtain ⟨uo, po, qo⟩ := ho.ex
  obtain ⟨ui, pi, qi⟩ := hi.ex
  refine ⟨⟨_, fun j => ps_asg (p j) (pg_sub (po j) (pi j) set_list (ha j)) (hs j) (hw j), fun σ H env hp F m r n fl env' hp' e Dd q => ?_⟩⟩
  show t σ H fun x H1 => uo σ H1 fun o H1 => ui σ H1 fun i H2 => rSetL o i x H2 fun H3 => Dd.nx σ H3
  rcases fE_val e with ⟨x, h1, rfl, rfl⟩ | ⟨d, hp1, h1, h2⟩
  · exact q0 σ H env' hp F m r n _ _ h1 _ (OutS.exc n q)
  refine q0 σ H _ hp F m r n _ _ h1 _ fun v F1 m1 H1 n1 r1 d1 => ?_
  rcases fE_val h2 with ⟨x, h3, rfl, rfl⟩ | ⟨d2, hp2, h3, h4⟩
  · exact qo σ H1 env' hp1 F1 m1 r1 (n.mono n1) _ _ h3 _ (OutS.exc (n.mono n1) (OutS.nx n1 q))
  refine qo σ H1 _ hp1 F1 m1 r1 (n.mono n1) _ _ h3 _ fun v2 F2 m2 H2 n2 r2 e2 => ?_
  have n12 := n1.trans n2
  rcases fE_val h4 with ⟨x, h5, rfl, rfl⟩ | ⟨d3, hp3, h5, h6⟩
  · exact qi σ H2 env' hp2 F2 m2 r2 (n.mono n12) _ _ h5 _ (OutS.exc (n.mono n12) (OutS.nx n12 q))
  refine qi σ H2 _ hp2 F2 m2 r2 (n.mono n12) _ _ h5 _ fun v3 F3 m3 H3 n3 r3 e3 => ?_
  have n13 := n12.trans n3
  try simp only at h6
  split at h6
  · rename_i k z
    split at h6
    · rename_i xs hx
      split at h6
      · rename_i jx hjx
        cases h6
        cases e2.mono n3.fz n3.pre with
        | obj hk =>
          rename_i ad
          cases e3
          obtain ⟨vs, w1, w2⟩ := r3.obj k ad xs hk hx
          obtain ⟨r4, n4⟩ := r3.write hk (w2.set jx ((d1.mono n2.fz n2.pre).mono n3.fz n3.pre))
          exact ⟨ad, vs, z, jx, rfl, rfl, w1, by rw [w2.length]; exact hjx, q σ F3 m3 _ (n13.trans n4) r4 (n.mono (n13.trans n4))⟩
      · cases h6
    · cases h6
  · cases h6

/-! ### loops -/
/-- what the turns of a for are asked -/
theorem turns_read {J : It} {tgt : TG} {tb : TS} {gg : D → Ev → Option Ev} {js : List Nat} {ds : List D} {chk : EH → Bool} {σ : L2.St}
    (qg : ∀ v d σ H env (hp : EH) F m, R K F m H hp → En K F m σ env → Dn K F m v d → ∀ env', gg d env = some env' → ∀ Q : L2.St → Hp → Prop, (∀ σ', En K F m σ' env' → (∀ vs : List Nat, (∀ j, j ∈ js → j ∈ vs) → wipe σ' vs = wipe σ vs) → Q σ' H) → tgt v σ H Q)
    (qb : ∀ σ H env hp F m, R K F m H hp → En K F m σ env → ∀ fl env' hp', f env hp = some (fl, env', hp') → ∀ Dd, OutS K mg W F m H env' hp' Dd fl → tb Dd σ H)
    (ok : ItOk K F m J ds chk) (r : R K F m H hp) (n : En K F m σ env) (e : fTurns gg chk f ds env hp = some (fl, env', hp')) (q : OutS K mg W F m H env' hp' Dd fl) :
    ∃ Wx : Nat → Nat → L2.St → Hp → Prop, (∃ k, Wx 0 k σ H) ∧ ∀ i k σ H, Wx i k σ H → (J.stop i H ∧ Dd.nx σ H) ∨ (J.go i H ∧ ∃ Nxt : L2.St → Hp → Prop, (∀ σ' H', Nxt σ' H' → ∃ k', k' < k ∧ Wx (i + 1) k' σ' H') ∧
      ∀ x H', J.yld i H x H' → tgt x σ H' fun σ2 H2 => tb { Dd with nx := Nxt, ct := Nxt, bk := Dd.nx } σ2 H2) := by
  refine ⟨fun i k σ1 H1 => k = ds.length - i ∧ i ≤ ds.length ∧ ∃ F1 m1 env1 hp1, R K F1 m1 H1 hp1 ∧ Nx F m H F1 m1 H1 ∧ En K F1 m1 σ1 env1 ∧ fTurns gg chk f (ds.drop i) env1 hp1 = some (fl, env', hp'),
    ⟨ds.length, by simp, Nat.zero_le _, F, m, env, hp, r, Nx.refl, n, e⟩, ?_⟩
  rintro i k σ1 H1 ⟨rfl, hi, F1, m1, env1, hp1, r1, n1, e1, er⟩
  by_cases hlt : i < ds.length
  · right
    rw [List.drop_eq_getElem_cons hlt] at er
    unfold fTurns at er
    by_cases ck : chk hp1 = true
    · rw [if_pos ck] at er
      refine ⟨ok.go i F1 m1 H1 hp1 n1.fz n1.pre r1 ck hlt, fun σ2 H2 => ∃ F2 m2 env2 hp2, R K F2 m2 H2 hp2 ∧ Nx F m H F2 m2 H2 ∧ En K F2 m2 σ2 env2 ∧ fTurns gg chk f (ds.drop (i + 1)) env2 hp2 = some (fl, env', hp'),
        fun σ2 H2 h2 => ⟨ds.length - (i + 1), by omega, rfl, hlt, h2⟩, fun x H2 y => ?_⟩
      obtain ⟨d, F2, hd, n2, r2, dd⟩ := ok.yld i F1 m1 H1 hp1 x H2 n1.fz n1.pre r1 ck hlt y
      have hd' : ds[i] = d := by
        rw [List.getElem?_eq_getElem hlt] at hd
        exact Option.some.inj hd
      rw [hd'] at er
      have n12 := n1.trans n2
      split at er
      · cases er
      · rename_i env2 hg
        refine qg x d σ1 H2 env1 hp1 F2 m1 r2 (e1.mono n2) dd env2 hg _ fun σ2 e2 _ => ?_
        cases hb : f env2 hp1 with
        | none => rw [hb] at er; cases er
        | some p =>
          obtain ⟨fl3, env3, hp3⟩ := p
          rw [hb] at er
          refine qb σ2 H2 env2 hp1 F2 m1 r2 e2 _ _ _ hb _ ?_
          cases fl3 with
          | nxt => exact fun σ' F' m' H' n3 r3 e3 => ⟨F', m', env3, hp3, r3, n12.trans n3, e3, er⟩
          | cnt => exact fun σ' F' m' H' n3 r3 e3 => ⟨F', m', env3, hp3, r3, n12.trans n3, e3, er⟩
          | brk => cases er; exact fun σ' F' m' H' n3 r3 e3 => q σ' F' m' H' (n12.trans n3) r3 e3
          | ret d => cases er; exact fun v F' m' H' n3 r3 e3 => q v F' m' H' (n12.trans n3) r3 e3
          | exc x => cases er; exact fun σ' F' m' H' c dd n3 r3 e3 x3 => q σ' F' m' H' c dd (n12.trans n3) r3 e3 x3
    · rw [if_neg ck] at er; cases er
  · left
    have ei : i = ds.length := by omega
    subst ei
    rw [List.drop_length] at er
    unfold fTurns at er
    by_cases ck : chk hp1 = true
    · rw [if_pos ck] at er
      cases er
      exact ⟨ok.stop F1 m1 H1 _ n1.fz n1.pre r1 ck, q σ1 F1 m1 H1 n1 r1 e1⟩
    · rw [if_neg ck] at er; cases er
variable {tg iter : Expr} {src : FI} {js : List Nat} {gg : D → Ev → Option Ev} {body : List Stmt}
theorem ss_for (hF : Fam X K mg) (hP : ∀ j, PassesOwn (model (X j).prog (X j).w) (X j).A (X j).env (X j).xe) (hi : SI X K mg W tg iter src) (hg : SG X K tg js gg) (hb : SB X K mg W body f)
    (hs : ∀ j x, foldedSetIterable iter (X j).env x = pure x := by intro _ _; rfl) : SS X K mg W (.For tg iter body [] pos) (fFor src gg f) := by
  obtain ⟨wi, pi, qi⟩ := hi.ex
  obtain ⟨tgt, pg, qg⟩ := hg.ex
  obtain ⟨tb, pb, qb⟩ := hb.ex
  refine ⟨⟨_, fun j => ps_for (hP j) (hF.calm j) (pi j) (pg j) (pb j) (hs j), fun σ H env hp F m r n fl env' hp' e Dd q => ?_⟩⟩
  show wi σ H fun J H1 => _
  rcases fE_val e with ⟨x, h1, rfl, rfl⟩ | ⟨p, hp1, h1, h2⟩
  · exact qi σ H env' hp F m r n _ _ h1 _ (OutS.excI n q)
  · exact qi σ H _ hp F m r n _ _ h1 _ fun J F1 m1 H1 n1 r1 ok => turns_read qg qb ok r1 (n.mono n1) h2 (OutS.nx n1 q)
theorem ss_while (N : Nat) (hP : ∀ j, PassesOwn (model (X j).prog (X j).w) (X j).A (X j).env (X j).xe) (hc : ST X K mg W c tc) (hb : SB X K mg W body f) : SS X K mg W (.While c body [] pos) (fWhile tc f N) := by
  obtain ⟨t, p, q0⟩ := hc.ex
  obtain ⟨tb, pb, qb⟩ := hb.ex
  refine ⟨⟨_, fun j => ps_while (hP j) (p j) (pb j), fun σ H env hp F m r n fl env' hp' e Dd q => ?_⟩⟩
  refine ⟨fun k σ1 H1 => ∃ F1 m1 env1 hp1, R K F1 m1 H1 hp1 ∧ Nx F m H F1 m1 H1 ∧ En K F1 m1 σ1 env1 ∧ fWhile tc f k env1 hp1 = some (fl, env', hp'), ⟨N, F, m, env, hp, r, Nx.refl, n, e⟩, ?_⟩
  rintro k σ1 H1 ⟨F1, m1, env1, hp1, r1, n1, e1, er⟩
  cases k with
  | zero => unfold fWhile at er; cases er
  | succ k =>
    unfold fWhile at er
    cases ht : tc env1 hp1 with
    | none => rw [ht] at er; cases er
    | some p =>
      obtain ⟨rb, hp2⟩ := p
      rw [ht] at er
      cases rb with
      | exc x =>
        cases er
        exact q0 σ1 H1 _ hp1 F1 m1 r1 e1 _ _ ht _ (OutS.excT e1 (OutS.nx n1 q))
      | val b =>
        refine q0 σ1 H1 env1 hp1 F1 m1 r1 e1 _ _ ht _ fun F2 m2 H2 n2 r2 => ?_
        have n12 := n1.trans n2
        cases b with
        | false =>
          cases er
          simp only [Bool.false_eq_true, if_false]
          exact q σ1 F2 m2 H2 n12 r2 (e1.mono n2)
        | true =>
          simp only [if_true]
          refine ⟨fun σ' H' => ∃ F1 m1 env1 hp1, R K F1 m1 H' hp1 ∧ Nx F m H F1 m1 H' ∧ En K F1 m1 σ' env1 ∧ fWhile tc f k env1 hp1 = some (fl, env', hp'), fun σ' H' h' => ⟨k, Nat.lt_succ_self _, h'⟩, ?_⟩
          cases hb : f env1 hp2 with
          | none => simp only [hb] at er; cases er
          | some p =>
            obtain ⟨fl3, env3, hp3⟩ := p
            simp only [hb] at er
            refine qb σ1 H2 env1 hp2 F2 m2 r2 (e1.mono n2) _ _ _ hb _ ?_
            cases fl3 with
            | nxt => exact fun σ' F' m' H' n3 r3 e3 => ⟨F', m', env3, hp3, r3, n12.trans n3, e3, er⟩
            | cnt => exact fun σ' F' m' H' n3 r3 e3 => ⟨F', m', env3, hp3, r3, n12.trans n3, e3, er⟩
            | brk => cases er; exact fun σ' F' m' H' n3 r3 e3 => q σ' F' m' H' (n12.trans n3) r3 e3
            | ret d => cases er; exact fun v F' m' H' n3 r3 e3 => q v F' m' H' (n12.trans n3) r3 e3
            | exc x => cases er; exact fun σ' F' m' H' c dd n3 r3 e3 x3 => q σ' F' m' H' c dd (n12.trans n3) r3 e3 x3
/-- y = [..] on one line -/
theorem ss_setLc {i : Nat} {y : Str} {py pos2 : Pos} {elt : Expr} {ifs : List Expr} {scope : Scope} {own : List (Str × Nat)} {ft : FT} {fx : FE} (hF : Fam X K mg) (hy : ∀ j, (X j).N[i]? = some y := by intro _; rfl) (hyl : ∀ j, (X j).env.scope.names.lookup y = some .local := by intro _; rfl)
    (hsw : ∀ j, swapsWith (.ListComp elt [⟨tg, iter, ifs, 0⟩] scope pos) (some (.Name y py)) pos2.line (X j).env = pure true)
    (hi : SI X K mg W tg iter src) (ok : ∀ j, BlkOk (X j).N (X j).env.scope scope own) (hjs : ∀ j, j ∈ js → j ∈ own.map (·.2))
    (hg : SG (blkF X scope) K tg js gg) (ht : STs (blkF X scope) K mg WF ifs ft) (he : SE (blkF X scope) K mg WF elt fx) (hs : ∀ j x, foldedSetIterable iter (X j).env x = pure x := by intro _ _; rfl) :
    SS X K mg W (.Assign [.Name y py] (.ListComp elt [⟨tg, iter, ifs, 0⟩] scope pos) pos2) (fAsg (eLc src (own.map (·.2)) gg ft fx) (tgN i)) := by
  obtain ⟨wi, pi, qi⟩ := hi.ex
  obtain ⟨tgt, pg, qg⟩ := hg.ex
  obtain ⟨tt, pt, qt⟩ := ht.ex
  obtain ⟨te, pe, qe⟩ := he.ex
  refine ⟨⟨_, fun j => ps_setLc (hF.calm j) (hF.nd j) (hy j) (hyl j) (hsw j) (pi j) (ok j) (fun s H C cl fp => pg (j, s, H, C, cl, fp)) (fun s H C cl fp => pt (j, s, H, C, cl, fp)) (fun s H C cl fp => pe (j, s, H, C, cl, fp)) (hs j),
    fun σ H env hp F m r n fl env' hp' e Dd q => ?_⟩⟩
  show tLc wi tgt tt te (own.map (·.2)) σ H fun x H1 => Dd.nx (σ.set i (some x)) H1
  rcases fE_val e with ⟨x, h1, rfl, rfl⟩ | ⟨d, hp1, h1, h2⟩
  · exact lc_read hjs qi qg qt qe r n h1 (OutS.exc n q)
  · cases h2
    exact lc_read hjs qi qg qt qe r n h1 fun v F1 m1 H1 n1 r1 d1 => q _ F1 m1 H1 n1 r1 ((n.mono n1).set d1)
end
end MP
end

section
set_option maxRecDepth 100000
set_option maxHeartbeats 1000000
namespace MP
open PySem PySem.Spec PyProof.Rows L2

section
variable {ι : Type} {X : ι → Cx} {K : PySem.W.Frag} {mg : Str → Option Value} {W : WX} {F F' F1 : Hp} {m m' m1 : List Addr} {H H' H1 : Hp} {hp hp' hp1 : EH} {o e : Expr} {es : List Expr} {fo fe : FE} {fa : FA} {pos apos cpos : Pos}

/-! ### methods of lists that may change -/
/-- o is a list that may change; then the argument -/
def eObjArg (fo : FE) (fa : FA) (g : Nat → List D → FE) : FE := bnd fo fun o env hp => match o with
  | .obj k => if k < hp.length then bnd fa (g k) env hp else none
  | _ => none
/-- o.append(e) -/
def gApp (k : Nat) (ds : List D) : FE := fun _ hp => match ds, hp[k]? with
  | [d], some xs => if xs.length < 16777216 then some (.val .non, hp.set k (xs ++ [d])) else none
  | _, _ => none
/-- the items of a list, a tuple of our own -/
def asX (hp : EH) : D → Option (List D)
  | .lst xs => some xs
  | .tup xs => some xs
  | .obj i => hp[i]?
  | _ => none
/-- o.extend(e) -/
def gExt (k : Nat) (ds : List D) : FE := fun _ hp => match ds, hp[k]? with
  | [d], some xs => match asX hp d with
    | some ys => if xs.length + ys.length ≤ 16777216 then some (.val .non, hp.set k (xs ++ ys)) else none
    | none => none
  | _, _ => none
/-- extend by a tuple, whatever else the tuple's object bears -/
theorem ext_any (l b : Addr) (xs ys : Array Value) (n n2 : Nat) (dd : Option Addr) (sl : Array (Option Value)) (h0 : ¬(!xs.isEmpty && Builtin.List.listTooLong (xs.size + ys.size)) = true) (h1 : xs.size ≤ sizeLine) (h2 : xs.size + ys.size ≤ sizeLine + 1) :
    Meets (Builtin.«list.extend» ⟨[.ref l, .ref b], []⟩) (fun _ R s => s.heap.get? l = some { cls := .type "list", data := .seq xs n } ∧ s.heap.get? b = some { cls := .type "tuple", dict := dd, data := .seq ys n2, slots := sl } ∧
      R (.ok (.ret Value.none)) { s with heap := s.heap.update l (Obj.mapSeq fun x => x ++ ys), toks := s.toks }) :=
  .of_wp fun prog w A R s hh => by
    obtain ⟨hp, g, d, tk, os⟩ := s
    obtain ⟨hl, hb, hh⟩ := hh
    have f1 := AutoSeq1.idx_int
    have f2 := AutoSeq1.sub_tuple_tuple
    have f3 := AutoSeq1.sub_list_list
    have f4 := AutoSeq1.sub_tuple_list
    have f5 := AutoSeq1.sub_list_tuple
    have tot : (xs ++ ys).size ≤ sizeLine + 1 := by
      rw [Array.size_append]
      exact h2
    wp_walk using (wpAny_updateSeq hl rfl (hz := h1) (_hz' := tot)), wpAny_loadPart' hl, wpAny_loadPart' hb
    exact ⟨_, rfl, hh⟩
/-- extend by a list, by a tuple -/
def rExtT (K : PySem.W.Frag) : V → List V → Hp → VK → Prop := fun x vs H Q => ∃ l b xs zs, x = .ref l ∧ vs = [.ref b] ∧ H l = some (.lst xs) ∧ SqT K H b zs ∧ xs.length + zs.length ≤ sizeLine ∧ Q .non (upd H l (.lst (xs ++ zs)))
theorem mt_extT {Y : Cx} : MtM Y "list.extend" (rExtT Y.K) := by
  intro pins s σ H x vs v us Q I rx rv hh
  obtain ⟨l, b, xs, zs, rfl, rfl, h1, h2, hz, hq⟩ := hh
  cases rx
  obtain ⟨u, rfl, ru⟩ := rv.one
  cases ru
  obtain ⟨_, its, n, w1, hl, e1⟩ := I.lstM h1
  obtain ⟨jts, w2, ⟨⟨c2, dd2, da2, sl2⟩, ho, hc, n2, hd⟩, _⟩ := I.tuple h2
  simp only at hc hd
  subst hc hd
  have hl2 := w2.length
  have tot : its.toArray.size + jts.toArray.size ≤ sizeLine := by
    rw [List.size_toArray, List.size_toArray]
    omega
  have short : ¬ (!its.toArray.isEmpty && Builtin.List.listTooLong (its.toArray.size + jts.toArray.size)) = true := by
    rw [notLongL tot]
    simp
  refine call_meets F.slot_list_extend ⟨_, e1, rfl⟩ F.entry_list_extend (F.args_list_extend_2 _ _) (ext_any l b its.toArray jts.toArray n n2 dd2 sl2 short (by rw [List.size_toArray]; omega) (by omega)) ⟨e1, ho, ?_⟩
  exact ⟨.non, _, I.lset (its' := its ++ jts) h1 e1 (by simp) (w1.append w2) (by rw [List.length_append]; omega), rfl, hq⟩
theorem MtM.or {Y : Cx} {id : String} {r r' : V → List V → Hp → VK → Prop} (h : MtM Y id r) (h' : MtM Y id r') : MtM Y id (fun x xs H Q => r x xs H Q ∨ r' x xs H Q) := by
  intro pins s σ H x xs v us Q I rx rxs hh
  rcases hh with z | z
  · exact h pins s σ H x xs v us Q I rx rxs z
  · exact h' pins s σ H x xs v us Q I rx rxs z
/-- a method of a list that may change -/
theorem se_objm {nm : Str} {rr : V → List V → Hp → VK → Prop} {g : Nat → List D → FE} (hF : Fam X K mg) (ho : SE X K mg W o fo) (ha : SA X K mg W es fa)
    (h : ∀ j to ta, PE (X j) o to → PA (X j) es ta → PE (X j) (.Call (.Attribute o nm apos) es [] cpos) (tBM (X j).K "list" rr to ta))
    (hr : ∀ (F : Hp) (m : List Addr) (H : Hp) (hp : EH) (k : Nat) (a : Addr) (vs : List V) (ds : List D) (env : Ev) (z : Res D) (hp' : EH), R K F m H hp → m[k]? = some a → Dns K F m vs ds → g k ds env hp = some (z, hp') → ∃ d, z = .val d ∧ ∀ Q : VK,
      (∀ v H', Nx F m H F m H' → R K F m H' hp' → Dn K F m v d → Q v H') → rr (.ref a) vs H Q) :
    SE X K mg W (.Call (.Attribute o nm apos) es [] cpos) (eObjArg fo fa g) := by
  obtain ⟨t, p, q0⟩ := ho.ex
  obtain ⟨u, p2, q2⟩ := ha.ex
  refine ⟨⟨_, fun j => by have z := h j _ _ (p j) (p2 j); rw [hF.k j] at z; exact z, fun σ H env hp F m r n r' hp' e Q q => ?_⟩⟩
  show t σ H fun x H1 => tyV K "list" x H1 ∧ u σ H1 fun xs H2 => rr x xs H2 Q
  rcases bnd_val e with ⟨x, h1, rfl⟩ | ⟨d, hp1, h1, h2⟩
  · exact q0 σ H env hp F m r n _ _ h1 _ q
  refine q0 σ H env hp F m r n _ _ h1 _ fun v F1 m1 H1 n1 r1 d1 => ?_
  try simp only at h2
  split at h2
  · rename_i k
    split at h2
    · rename_i hk
      cases d1 with
      | obj hi =>
        rename_i a
        obtain ⟨vs, w1, w2⟩ := r1.obj k a _ hi (List.getElem?_eq_getElem hk)
        refine ⟨.inl ⟨rfl, _, SqL.of w1⟩, ?_⟩
        rcases bnd_val h2 with ⟨x, h3, rfl⟩ | ⟨ds, hp2, h3, h4⟩
        · exact q2 σ H1 env hp1 F1 m1 r1 (n.mono n1) _ _ h3 _ (OutE.nx n1 q)
        · refine q2 σ H1 env hp1 F1 m1 r1 (n.mono n1) _ _ h3 _ fun ws F2 m2 H2 n2 r2 d2 => ?_
          obtain ⟨d, rfl, hq⟩ := hr F2 m2 H2 hp2 k a ws ds env r' hp' r2 (pre_get n2.pre hi) d2 h4
          exact hq Q fun v H' n3 r3 d3 => q v F2 m2 H' ((n1.trans n2).trans n3) r3 d3
    · cases h2
  · cases h2
theorem se_app (hF : Fam X K mg) (ho : SE X K mg W o fo) (ha : SA X K mg W [e] fa)
    (h : ∀ j to ta, PE (X j) o to → PA (X j) [e] ta → PE (X j) (.Call (.Attribute o "append" apos) [e] [] cpos) (tBM (X j).K "list" rAppend to ta)) :
    SE X K mg W (.Call (.Attribute o "append" apos) [e] [] cpos) (eObjArg fo fa gApp) :=
  se_objm hF ho ha h fun F m H hp k a vs ds env z hp' r hk hd e => by
    unfold gApp at e
    split at e
    · rename_i d xs hx
      split at e
      · rename_i hl
        cases e
        refine ⟨_, rfl, fun Q q => ?_⟩
        obtain ⟨ws, w1, w2⟩ := r.obj k a xs hk hx
        cases hd with
        | cons d1 d2 =>
          cases d2
          obtain ⟨r', n'⟩ := r.write hk (w2.append (.cons d1 .nil))
          exact ⟨a, ws, _, rfl, rfl, w1, by rw [w2.length, line16]; exact hl, q _ _ n' r' .non⟩
      · cases e
    · cases e
theorem se_ext (hF : Fam X K mg) (ho : SE X K mg W o fo) (ha : SA X K mg W [e] fa)
    (h : ∀ j to ta, PE (X j) o to → PA (X j) [e] ta → PE (X j) (.Call (.Attribute o "extend" apos) [e] [] cpos) (tBM (X j).K "list" (fun x xs H Q => rExtend x xs H Q ∨ rExtT (X j).K x xs H Q) to ta)) :
    SE X K mg W (.Call (.Attribute o "extend" apos) [e] [] cpos) (eObjArg fo fa gExt) :=
  se_objm (rr := fun x xs H Q => rExtend x xs H Q ∨ rExtT K x xs H Q) hF ho ha (fun j to ta a b => by have z := h j to ta a b; rw [hF.k j] at z ⊢; exact z) fun F m H hp k a vs ds env z hp' r hk hd e => by
    unfold gExt at e
    split at e
    · rename_i d xs hx
      split at e
      · rename_i ys hy
        split at e
        · rename_i hl
          cases e
          refine ⟨_, rfl, fun Q q => ?_⟩
          obtain ⟨ws, w1, w2⟩ := r.obj k a xs hk hx
          cases hd with
          | cons d1 d2 =>
            cases d2
            rename_i v0
            have list : asL hp d = some ys → rExtend (.ref a) [v0] H Q := fun hl2 => by
              obtain ⟨b, us, rfl, u1, u2⟩ := rd_of r d1 hl2
              obtain ⟨r', n'⟩ := r.write hk (w2.append u2)
              exact ⟨a, b, ws, us, rfl, rfl, w1, u1, by rw [w2.length, u2.length, line16]; exact hl, q _ _ n' r' .non⟩
            cases d with
            | tup zs =>
              simp [asX] at hy
              subst hy
              cases d1 with
              | tup a1 a2 =>
                obtain ⟨r', n'⟩ := r.write hk (w2.append a2)
                exact .inr ⟨a, _, ws, _, rfl, rfl, w1, SqT.mono r.sub a1, by rw [w2.length, a2.length, line16]; exact hl, q _ _ n' r' .non⟩
            | lst zs => exact .inl (list (by simpa [asL, asX] using hy))
            | obj zs => exact .inl (list (by simpa [asL, asX] using hy))
            | _ => simp [asX] at hy
        · cases e
      · cases e
    · cases e
end
end MP
end

section
set_option maxRecDepth 100000
set_option maxHeartbeats 1000000
namespace MP
open PySem PySem.Spec PyProof.Rows L2

/-- the promise of a def that does what f does -/
def spM (K : PySem.W.Frag) (mg : Str → Option Value) (np : Nat) (f : FF) : Sp := fun vs H Q E => vs.length = np ∧ ∃ F m ds hp r hp', R K F m H hp ∧ Dns K F m vs ds ∧ f ds hp = some (r, hp') ∧
  match r with
  | .val d => ∀ v F' m' H', Nx F m H F' m' H' → R K F' m' H' hp' → Dn K F' m' v d → Q v H'
  | .exc e => ∀ F' m' H' c dd, Nx F m H F' m' H' → R K F' m' H' hp' → Xc K mg F' m' H' e c dd → E c dd H'
/-- the def of this name, of np parameters, does what f does -/
structure DefOk (P : Program) (w : World) (K : PySem.W.Frag) (mg : Str → Option Value) (base : Heap) (k : Nat) (nm : Str) (np : Nat) (f : FF) : Prop where
  ex : ∃ a fd ps, ps.length = np ∧ FnOk P w K mg base (L2.CX P w) k a fd ps (spM K mg np f) ∧ mg nm = some (.ref a) ∧ PySem.W.keepIn K (.ref a) = true ∧ Binds K fd ps []
  len : ∀ ds hp z, f ds hp = some z → ds.length = np
theorem DefOk.mono {P : Program} {w : World} {K : PySem.W.Frag} {mg : Str → Option Value} {base : Heap} {k k' np : Nat} {nm : Str} {f : FF} (h : DefOk P w K mg base k nm np f) (hk : k ≤ k') : DefOk P w K mg base k' nm np f := by
  obtain ⟨a, fd, ps, h0, h1, h2⟩ := h.ex
  exact ⟨⟨a, fd, ps, h0, h1.mono hk, h2⟩, h.len⟩
/-- where calls may be made -/
structure Cal {ι : Type} (X : ι → Cx) (P : Program) (w : World) (base : Heap) (k : Nat) (W : WX) : Prop where
  p : ∀ j, (X j).prog = P
  w : ∀ j, (X j).w = w
  b : ∀ j, (X j).base = base
  r : ∀ j, Room k (X j).A
  t : ∀ j, Takes (X j) W
theorem Cal.blk {ι : Type} {X : ι → Cx} {P : Program} {w : World} {base : Heap} {k : Nat} {W : WX} (h : Cal X P w base k W) (scope : Scope) : Cal (blkF X scope) P w base k WF :=
  ⟨fun q => h.p q.1, fun q => h.w q.1, fun q => h.b q.1, fun q => h.r q.1, fun _ => takes0⟩
def eFn (f : FF) (fa : FA) : FE := bnd fa fun ds _ hp => f ds hp

section
variable {ι : Type} {X : ι → Cx} {K : PySem.W.Frag} {mg : Str → Option Value} {W : WX} {F F' : Hp} {m m' : List Addr} {H H' : Hp} {hp hp' : EH} {e : Expr} {es : List Expr} {fa : FA} {pos p : Pos} {P : Program} {w : World} {base : Heap} {k kk : Nat} {nm : Str} {f : FF}
theorem call_read {ta : TA} {σ : L2.St} {env : Ev} {np : Nat} (qa : ∀ r hp', fa env hp = some (r, hp') → ∀ Q, OutA K mg W F m σ H hp' Q r → ta σ H Q) (hlen : ∀ ds hp z, f ds hp = some z → ds.length = np)
    {r' : Res D} (e : eFn f fa env hp = some (r', hp')) {Q : VK} (q : OutE K mg W F m σ H hp' Q r') : tCallS (spM K mg np f) (WE W) ta σ H Q := by
  show ta σ H fun vs H1 => spM K mg np f vs H1 Q (WE W σ)
  rcases bnd_val e with ⟨x, h1, rfl⟩ | ⟨ds, hp1, h1, h2⟩
  · exact qa _ _ h1 _ q
  · refine qa _ _ h1 _ fun vs F1 m1 H1 n1 r1 d1 => ⟨by rw [d1.length]; exact hlen _ _ _ h2, F1, m1, ds, hp1, r', hp', r1, d1, h2, ?_⟩
    cases r' with
    | val d => exact fun v F' m' H' n2 r2 d2 => q v F' m' H' (n1.trans n2) r2 d2
    | exc x => exact fun F' m' H' c dd n2 r2 d2 => q F' m' H' c dd (n1.trans n2) r2 d2
theorem se_call {np : Nat} (hF : Fam X K mg) (hC : Cal X P w base kk W) (Dk : DefOk P w K mg base k nm np f) (hk : k ≤ kk) (hg : ∀ j, Gl (X j) nm) (ha : SA X K mg W (e :: es) fa)
    (hdb : (nm == ("__debug__" : Str)) = false := by decide) (he : ∀ j, starEach (e :: es) (X j).env = (false, eval e (X j).env) :: starEach es (X j).env := by intro _; rfl) (hpl : ∀ j, (backTo pos (starEach es (X j).env)).any (·.1) = false := by intro _; rfl) :
    SE X K mg W (.Call (.Name nm p) (e :: es) [] pos) (eFn f fa) := by
  obtain ⟨t, pt, q0⟩ := ha.ex
  obtain ⟨a, fd, ps, h0, h1, h2, h3, h4⟩ := Dk.ex
  refine ⟨⟨tCallS (spM K mg np f) (WE W) t, fun j => ?_, fun σ H env hp F m r n r' hp' e Q q => call_read (q0 σ H env hp F m r n) Dk.len e q⟩⟩
  refine pe_callS (k := k) (f := a) (fd := fd) (ps := ps) ?_ ((hC.r j).mono hk) (hg j) ?_ ?_ ?_ (fun σ => passAt (hC.t j) σ) (pt j) hdb (he j) (hpl j)
  · rw [hC.p j, hC.w j, hC.b j, hF.k j, hF.g j]; exact h1
  · rw [hF.g j]; exact h2
  · rw [hF.k j]; exact h3
  · rw [hF.k j]; exact h4
/-- a call without arguments -/
theorem pe_callS0 {Y : Cx} {CXx : CXT} {a : Addr} {fd : FuncData} {ps : List Str} {sp : Sp} {E : L2.St → XK} (G : FnOk Y.prog Y.w Y.K Y.mg Y.base CXx k a fd ps sp) (hr : Room k Y.A) (hg : Gl Y nm) (hm : Y.mg nm = some (.ref a)) (hk : PySem.W.keepIn Y.K (.ref a) = true) (hb : Binds Y.K fd ps [])
    (hx : ∀ σ, PassesAt CXx Y σ (E σ)) (hdb : (nm == ("__debug__" : Str)) = false) : PE Y (.Call (.Name nm p) [] [] pos) (tCallS sp E tNil) := by
  refine ⟨fun pins s σ H Q I h => ?_⟩
  refine wpAny_Call_Name_kw (ld_glob I hg hm ?_ hdb)
  exact PySem.W.callWith_K0 I.kIn hk (run_fnS (us := []) G hr hb (hx σ) I .nil h)
theorem se_call0 (hF : Fam X K mg) (hC : Cal X P w base kk W) (Dk : DefOk P w K mg base k nm 0 f) (hk : k ≤ kk) (hg : ∀ j, Gl (X j) nm) (hdb : (nm == ("__debug__" : Str)) = false := by decide) :
    SE X K mg W (.Call (.Name nm p) [] [] pos) (eFn f aNil) := by
  obtain ⟨a, fd, ps, h0, h1, h2, h3, h4⟩ := Dk.ex
  refine ⟨⟨tCallS (spM K mg 0 f) (WE W) tNil, fun j => ?_, fun σ H env hp F m r n r' hp' e Q q => call_read (ta := tNil) (fa := aNil) (fun r hp' e Q q => by cases e; exact q [] F m H Nx.refl (by assumption) .nil) Dk.len e q⟩⟩
  refine pe_callS0 (k := k) (a := a) (fd := fd) (ps := ps) ?_ ((hC.r j).mono hk) (hg j) ?_ ?_ ?_ (fun σ => passAt (hC.t j) σ) hdb
  · rw [hC.p j, hC.w j, hC.b j, hF.k j, hF.g j]; exact h1
  · rw [hF.g j]; exact h2
  · rw [hF.k j]; exact h3
  · rw [hF.k j]; exact h4

/-! ### a def by its body -/
mutual
/-- speaks of no list that may change but the first n -/
def oldD (n : Nat) : D → Bool
  | .tup xs => oldDs n xs
  | .lst xs => oldDs n xs
  | .scr xs => oldDs n xs
  | .obj i => decide (i < n)
  | .err _ _ xs => oldDs n xs
  | .non => true
  | .bl _ => true
  | .int _ => true
  | .str _ => true
def oldDs (n : Nat) : List D → Bool
  | [] => true
  | x :: xs => oldD n x && oldDs n xs
end
/-- the first n lists are as they were, or speak of no newer one -/
def keptTo (n : Nat) (h h' : EH) : Bool := (List.range n).all fun i => match h[i]?, h'[i]? with
  | some xs, some ys => D.beqs xs ys || oldDs n ys
  | _, _ => false
/-- the answer: a new list is handed over for good -/
def handed (n : Nat) (hp' : EH) : D → Option D
  | .obj i => if i < n then some (.obj i) else match hp'[i]? with
    | some xs => if oldDs n xs = true then some (.lst xs) else none
    | none => none
  | d => if oldD n d = true then some d else none
/-- a def that leaves no new list that may change -/
def runDef (N np : Nat) (body : FS) : FF := fun ds hp => if ds.length = np then match body (ds.map some ++ List.replicate (N - np) none) hp with
  | some (.nxt, _, hp') => if keptTo hp.length hp hp' = true then some (.val .non, hp'.take hp.length) else none
  | some (.ret d, _, hp') => if keptTo hp.length hp hp' = true then match handed hp.length hp' d with
    | some d' => some (.val d', hp'.take hp.length)
    | none => none
    else none
  | some (.exc e, _, hp') => some (.exc e, hp')
  | _ => none else none
/-- a def whose new lists go on -/
def runDefO (N np : Nat) (body : FS) : FF := fun ds hp => if ds.length = np then match body (ds.map some ++ List.replicate (N - np) none) hp with
  | some (.nxt, _, hp') => some (.val .non, hp')
  | some (.ret d, _, hp') => some (.val d, hp')
  | some (.exc e, _, hp') => some (.exc e, hp')
  | _ => none else none
mutual
theorem dn_old {n : Nat} (e : Same F F') (p : m' <+: m) (hn : n = m'.length) : ∀ {d : D} {v : V}, Dn K F m v d → oldD n d = true → Dn K F' m' v d
  | .non, _, h, _ => by cases h; exact .non
  | .bl b, _, h, _ => by cases h; exact .bl b
  | .int i, _, h, _ => by cases h; exact .int i
  | .str i, _, h, _ => by cases h; exact .str i
  | .tup ds, _, h, o => by
    cases h with
    | tup h1 h2 => exact .tup (SqT.mono e h1) (dns_old e p hn h2 (by simpa [oldD] using o))
  | .lst ds, _, h, o => by
    cases h with
    | lst h1 h2 => exact .lst (e _ _ h1) (dns_old e p hn h2 (by simpa [oldD] using o))
  | .scr ds, _, h, o => by
    cases h with
    | scr h1 h2 => exact .scr (SqL.mono e h1) (dns_old e p hn h2 (by simpa [oldD] using o))
  | .obj i, _, h, o => by
    cases h with
    | obj h1 =>
      have hi : i < m'.length := by
        have q : i < n := by simpa [oldD] using o
        omega
      obtain ⟨t, rfl⟩ := p
      rw [List.getElem?_append_left hi] at h1
      exact .obj h1
  | .err c ns ds, _, h, o => by
    cases h with
    | err h1 h2 h3 h4 h5 => exact .err (e _ _ h1) (e _ _ h2) h3 h4 (dns_old e p hn h5 (by simpa [oldD] using o))
    | er0 h1 h2 => exact .er0 (e _ _ h1) h2
theorem dns_old {n : Nat} (e : Same F F') (p : m' <+: m) (hn : n = m'.length) : ∀ {ds : List D} {vs : List V}, Dns K F m vs ds → oldDs n ds = true → Dns K F' m' vs ds
  | [], _, h, _ => by cases h; exact .nil
  | d :: ds, _, h, o => by
    cases h with
    | cons h1 h2 =>
      have o' : oldD n d = true ∧ oldDs n ds = true := by simpa [oldDs] using o
      exact .cons (dn_old e p hn h1 o'.1) (dns_old e p hn h2 o'.2)
end
mutual
theorem old_of : ∀ {d : D} {v : V}, Dn K F m v d → oldD m.length d = true
  | .non, _, _ => by simp [oldD]
  | .bl b, _, _ => by simp [oldD]
  | .int i, _, _ => by simp [oldD]
  | .str i, _, _ => by simp [oldD]
  | .tup ds, _, h => by
    cases h with
    | tup h1 h2 => simp only [oldD]; exact olds_of h2
  | .lst ds, _, h => by
    cases h with
    | lst h1 h2 => simp only [oldD]; exact olds_of h2
  | .scr ds, _, h => by
    cases h with
    | scr h1 h2 => simp only [oldD]; exact olds_of h2
  | .obj i, _, h => by
    cases h with
    | obj h1 => simp only [oldD]; exact decide_eq_true (List.getElem?_eq_some_iff.mp h1).1
  | .err c ns ds, _, h => by
    cases h with
    | err h1 h2 h3 h4 h5 => simp only [oldD]; exact olds_of h5
    | er0 h1 h2 => simp [oldD, oldDs]
theorem olds_of : ∀ {ds : List D} {vs : List V}, Dns K F m vs ds → oldDs m.length ds = true
  | [], _, _ => by simp [oldDs]
  | d :: ds, _, h => by
    cases h with
    | cons h1 h2 => simp only [oldDs, Bool.and_eq_true]; exact ⟨old_of h1, olds_of h2⟩
end
open Classical in
/-- the new lists are handed over: what may change is what it was -/
theorem hand_over {F1 : Hp} {m1 : List Addr} {H1 : Hp} {hp1 : EH} (r : R K F m H hp) (n1 : Nx F m H F1 m1 H1) (r1 : R K F1 m1 H1 hp1) (ok : keptTo hp.length hp hp1 = true) :
    ∃ F2, Same F1 F2 ∧ Nx F m H F2 m H1 ∧ R K F2 m H1 (hp1.take hp.length) ∧ ∀ v d d', Dn K F1 m1 v d → handed hp.length hp1 d = some d' → Dn K F2 m v d' := by
  let F2 : Hp := fun a => if a ∈ m1 ∧ a ∉ m then H1 a else F1 a
  have hnew : ∀ a, a ∈ m1 → a ∉ m → F2 a = H1 a := fun a h1 h2 => if_pos ⟨h1, h2⟩
  have hold : ∀ a, ¬ (a ∈ m1 ∧ a ∉ m) → F2 a = F1 a := fun a h => if_neg h
  have s12 : Same F1 F2 := fun a o e => by
    have hm : a ∉ m1 := fun z => by rw [r1.fre a z] at e; cases e
    rw [hold a fun z => hm z.1]; exact e
  have ln : hp.length = m.length := r.len.symm
  have ll : m.length ≤ m1.length := by
    obtain ⟨t, rfl⟩ := n1.pre
    simp
  have mem : ∀ a, a ∈ m → a ∈ m1 := fun a h => pre_mem n1.pre h
  have at_ : ∀ (i : Nat) (ys : List D), i < m.length → hp1[i]? = some ys → oldDs m.length ys = true := fun i ys hi hy => by
    have q := List.all_eq_true.mp ok i (List.mem_range.mpr (by omega))
    have h0 : i < hp.length := by omega
    have ex : hp[i]? = some hp[i] := List.getElem?_eq_getElem h0
    rw [ex, hy] at q
    simp only [Bool.or_eq_true] at q
    rcases q with q | q
    · have e := D.beqs_eq q
      rw [e] at ex
      obtain ⟨vs, _, w⟩ := r.obj i _ ys (List.getElem?_eq_getElem hi) ex
      exact olds_of w
    · rw [← ln]; exact q
  have R2 : R K F2 m H1 (hp1.take hp.length) := by
    refine ⟨fun a o e => ?_, ?_, r.nod, fun a ha => ?_, fun i a ds h1 h2 => ?_⟩
    · by_cases c : a ∈ m1 ∧ a ∉ m
      · rw [hnew a c.1 c.2] at e; exact e
      · rw [hold a c] at e; exact r1.sub a o e
    · rw [List.length_take, ← r1.len]; omega
    · rw [hold a fun z => z.2 ha]; exact r1.fre a (mem a ha)
    · have hi : i < m.length := (List.getElem?_eq_some_iff.mp h1).1
      rw [List.getElem?_take_of_lt (by omega)] at h2
      obtain ⟨vs, w1, w2⟩ := r1.obj i a ds (pre_get n1.pre h1) h2
      exact ⟨vs, w1, dns_old s12 n1.pre rfl w2 (at_ i ds hi h2)⟩
  refine ⟨F2, s12, ⟨n1.fz.trans s12, List.prefix_refl _, n1.kp, fun _ h => .inl h, fun a o e => ?_, n1.tr⟩, R2, fun v d d' hd hh => ?_⟩
  · by_cases c : a ∈ m1 ∧ a ∉ m
    · rcases n1.nw a c.1 with z | z
      · exact absurd z c.2
      · exact .inr z
    · rw [hold a c] at e; exact n1.nf a o e
  · have plain : handed hp.length hp1 d = (if oldD hp.length d = true then some d else none) → Dn K F2 m v d' := fun q => by
      rw [q] at hh
      split at hh
      · rename_i o
        cases hh
        exact dn_old s12 n1.pre ln hd o
      · cases hh
    cases d with
    | obj i =>
      cases hd with
      | obj h1 =>
        rename_i a
        simp only [handed] at hh
        split at hh
        · rename_i hi
          cases hh
          have hi' : i < m.length := by omega
          obtain ⟨t, ht⟩ := n1.pre
          rw [← ht, List.getElem?_append_left hi'] at h1
          exact .obj h1
        · rename_i hi
          split at hh
          · rename_i xs hx
            split at hh
            · rename_i o
              cases hh
              obtain ⟨vs, w1, w2⟩ := r1.obj i a xs h1 hx
              have am : a ∉ m := fun z => by
                obtain ⟨j, hj, e⟩ := List.mem_iff_getElem.mp z
                have h2 : m1[j]? = some a := pre_get n1.pre (by rw [List.getElem?_eq_getElem hj, e])
                obtain ⟨l1, e1⟩ := List.getElem?_eq_some_iff.mp h1
                obtain ⟨l2, e2⟩ := List.getElem?_eq_some_iff.mp h2
                have : i = j := (List.getElem_inj r1.nod).mp (e1.trans e2.symm)
                omega
              exact .lst (by rw [hnew a (List.mem_of_getElem? h1) am]; exact w1) (dns_old s12 n1.pre ln w2 o)
            · cases hh
          · cases hh
    | tup xs => exact plain rfl
    | lst xs => exact plain rfl
    | scr xs => exact plain rfl
    | non => exact plain rfl
    | bl b => exact plain rfl
    | int i => exact plain rfl
    | str x => exact plain rfl
    | err c ns xs => exact plain rfl
end

section
variable {P : Program} {w : World} {K : PySem.W.Frag} {mg : Str → Option Value} {base : Heap}
/-- the context of a def's body -/
abbrev cxD (P : Program) (w : World) (K : PySem.W.Frag) (mg : Str → Option Value) (base : Heap) (N : List Str) (qual : Str) (sc : Scope) (a : Addr) (cdv : Value) (A : Around) (outer : List Env) (s : Shared) (H : Hp) (E : XK) : Unit → Cx := fun _ => cxOf (L2.CX P w) P w K mg base N qual sc a cdv A outer s H E
abbrev wOf (E : XK) : WX := fun c d _ H => E c d H
theorem cxD_fam {N : List Str} {qual : Str} {sc : Scope} {a : Addr} {cdv : Value} {A : Around} {outer : List Env} {s : Shared} {H : Hp} {E : XK} (hN : N.Nodup) : Fam (cxD P w K mg base N qual sc a cdv A outer s H E) K mg := ⟨fun _ => rfl, fun _ => rfl, fun _ => rfl, fun _ => hN⟩
theorem cxD_cal {N : List Str} {qual : Str} {sc : Scope} {a : Addr} {cdv : Value} {A : Around} {outer : List Env} {s : Shared} {H : Hp} {E : XK} {k : Nat} (hr : Room k (A.deeper (envOfC qual sc s.heap.objs.size a cdv))) : Cal (cxD P w K mg base N qual sc a cdv A outer s H E) P w base k (wOf E) :=
  ⟨fun _ => rfl, fun _ => rfl, fun _ => rfl, fun _ => hr, fun _ => takes_of rfl rfl rfl rfl⟩
/-- what an error meets that leaves the frame -/
abbrev Own {ι : Type} (X : ι → Cx) : Prop := ∀ j, PassesOwn (model (X j).prog (X j).w) (X j).A (X j).env (X j).xe
theorem cxD_own {N : List Str} {qual : Str} {sc : Scope} {a : Addr} {cdv : Value} {A : Around} {outer : List Env} {s : Shared} {H : Hp} {E : XK} (j : Unit) : PassesOwn (model (cxD P w K mg base N qual sc a cdv A outer s H E j).prog (cxD P w K mg base N qual sc a cdv A outer s H E j).w) (cxD P w K mg base N qual sc a cdv A outer s H E j).A (cxD P w K mg base N qual sc a cdv A outer s H E j).env (cxD P w K mg base N qual sc a cdv A outer s H E j).xe := passes_of rfl
theorem en_start {F : Hp} {m : List Addr} {vs : List V} {ds : List D} {n : Nat} (N : List Str) (h : Dns K F m vs ds) (hn : n = N.length) (hl : ds.length ≤ N.length) : En K F m (start N vs) (ds.map some ++ List.replicate (n - ds.length) none) := by
  subst hn
  refine ⟨by simp [L2.start, h.length], fun i d e => ?_⟩
  by_cases hi : i < ds.length
  · rw [List.getElem?_append_left (by simpa using hi), List.getElem?_map] at e
    cases q : ds[i]? with
    | none => rw [q] at e; cases e
    | some d' =>
      rw [q] at e
      cases e
      obtain ⟨v, q1, q2⟩ := h.get q
      refine ⟨v, ?_, q2⟩
      unfold L2.start
      rw [List.getElem?_append_left (by simpa [h.length] using hi), List.getElem?_map, q1]
      rfl
  · rw [List.getElem?_append_right (by simpa using Nat.le_of_not_lt hi), List.getElem?_replicate] at e
    split at e <;> cases e
theorem def_body {N ps : List Str} {qual : Str} {sc : Scope} {a : Addr} {cdv : Value} {A : Around} {outer : List Env} {s : Shared} {H : Hp} {E : XK} {body : List Stmt} {fb : FS} {vs : List V} {Q : VK} {g : FF}
    (hb : SB (cxD P w K mg base N qual sc a cdv A outer s H E) K mg (wOf E) body fb) (hpl : ps.length ≤ N.length) (hg : g = runDef N.length ps.length fb ∨ g = runDefO N.length ps.length fb) (hs : spM K mg ps.length g vs H Q E) :
    ∃ t, PSs (cxOf (L2.CX P w) P w K mg base N qual sc a cdv A outer s H E) body t ∧ t { nx := fun _ H' => Q .non H', rt := Q } (start N vs) H := by
  obtain ⟨t, p, q0⟩ := hb.ex
  refine ⟨t, p (), ?_⟩
  obtain ⟨hl, F, m, ds, hp, r, hp', r0, d0, e0, k0⟩ := hs
  have hdl : ds.length = ps.length := by rw [← d0.length]; exact hl
  have n0 := en_start (n := N.length) N d0 rfl (by omega)
  rw [hdl] at n0
  rcases hg with rfl | rfl
  · unfold runDef at e0
    rw [if_pos hdl] at e0
    cases hbd : fb (ds.map some ++ List.replicate (N.length - ps.length) none) hp with
    | none => rw [hbd] at e0; cases e0
    | some x =>
      obtain ⟨fl, env', hp1⟩ := x
      rw [hbd] at e0
      refine q0 _ H _ hp F m r0 n0 _ _ _ hbd _ ?_
      cases fl with
      | nxt =>
        simp only at e0
        split at e0
        · rename_i ok
          cases e0
          intro σ' F1 m1 H1 n1 r1 _
          obtain ⟨F2, _, n2, r2, _⟩ := hand_over r0 n1 r1 ok
          exact k0 _ F2 m H1 n2 r2 .non
        · cases e0
      | ret d =>
        simp only at e0
        split at e0
        · rename_i ok
          split at e0
          · rename_i d' hd'
            cases e0
            intro v F1 m1 H1 n1 r1 dv
            obtain ⟨F2, _, n2, r2, hh⟩ := hand_over r0 n1 r1 ok
            exact k0 _ F2 m H1 n2 r2 (hh v d d' dv hd')
          · cases e0
        · cases e0
      | exc x =>
        cases e0
        exact fun σ' F1 m1 H1 c dd n1 r1 _ x1 => k0 F1 m1 H1 c dd n1 r1 x1
      | brk => cases e0
      | cnt => cases e0
  · unfold runDefO at e0
    rw [if_pos hdl] at e0
    cases hbd : fb (ds.map some ++ List.replicate (N.length - ps.length) none) hp with
    | none => rw [hbd] at e0; cases e0
    | some x =>
      obtain ⟨fl, env', hp1⟩ := x
      rw [hbd] at e0
      refine q0 _ H _ hp F m r0 n0 _ _ _ hbd _ ?_
      cases fl with
      | nxt => cases e0; exact fun σ' F1 m1 H1 n1 r1 _ => k0 _ F1 m1 H1 n1 r1 .non
      | ret d => cases e0; exact fun v F1 m1 H1 n1 r1 dv => k0 _ F1 m1 H1 n1 r1 dv
      | exc x => cases e0; exact fun σ' F1 m1 H1 c dd n1 r1 _ x1 => k0 F1 m1 H1 c dd n1 r1 x1
      | brk => cases e0
      | cnt => cases e0
/-- THE RULE of a def -/
theorem def_ok {x qual : Str} {st : Stmt} {a : Addr} {fd : FuncData} {N ps : List Str} {k : Nat} {fb : FS} {g : FF} {nm : Str} (T : Fun K x qual st a fd) (S : FnScope N ps (defScope st)) (hg : g = runDef N.length ps.length fb ∨ g = runDefO N.length ps.length fb) (hm : mg nm = some (.ref a)) (hbi : Binds K fd ps [])
    (hb : ∀ (cdv : Value) (A : Around) (outer : List Env) (s : Shared) (H : Hp) (E : XK), Fam (cxD P w K mg base N qual (defScope st) a cdv A outer s H E) K mg → Cal (cxD P w K mg base N qual (defScope st) a cdv A outer s H E) P w base k (wOf E) → Own (cxD P w K mg base N qual (defScope st) a cdv A outer s H E) →
      SB (cxD P w K mg base N qual (defScope st) a cdv A outer s H E) K mg (wOf E) (defBody st) fb) :
    DefOk P w K mg base (k + 1) nm ps.length g := by
  have hpl : ps.length ≤ N.length := by
    have z := congrArg List.length S.pre
    rw [List.length_take] at z
    omega
  refine ⟨⟨a, fd, ps, rfl, T.okX S (fun vs H Q E h => h.1) (fun cdv A outer s H vs Q E hr hs => def_body (hb cdv A outer s H E (cxD_fam S.nd) (cxD_cal hr) cxD_own) hpl hg hs), hm, T.kp, hbi⟩, fun ds hp z e => ?_⟩
  rcases hg with rfl | rfl
  · unfold runDef at e
    split at e
    · assumption
    · cases e
  · unfold runDefO at e
    split at e
    · assumption
    · cases e
end
end MP
end

section
set_option maxRecDepth 100000
set_option maxHeartbeats 1000000
namespace MP
open PySem PySem.Spec PyProof.Rows L2

/-! ### the operators by their signs -/
def gAdd : D → D → EH → Option D := fun x y hp => match x, y with
  | .int i, .int j => some (.int (i + j))
  | .tup xs, .tup ys => if xs.length + ys.length ≤ 16777216 then some (.tup (xs ++ ys)) else none
  | x, y => gCatL x y hp
def gSub : D → D → EH → Option D := iOp (fun _ _ => true) (· - ·)
def small64 (i : Int) : Bool := decide (-(2 ^ 64) < i ∧ i < 2 ^ 64)
def gMul : D → D → EH → Option D := fun x y hp => match x, y with
  | .int i, .int j => if (small64 i || small64 j) = true then some (.int (i * j)) else none
  | .tup xs, .int k => if 2 ≤ k ∧ k ≤ 1000 ∧ xs.length ≤ 1000 ∧ 0 < xs.length then some (.tup (List.replicate k.toNat xs).flatten) else none
  | x, y => gRepL x y hp
def gDiv : D → D → EH → Option D := iOp (fun _ j => decide (0 < j ∧ j < 1073741824)) (· / ·)
def gMod : D → D → EH → Option D := iOp (fun _ j => decide (0 < j)) (· % ·)
def gPow : D → D → EH → Option D := iOp (fun i j => decide (0 ≤ j ∧ j ≤ 1000000 ∧ i.natAbs < 2 ^ 64)) (fun i j => i ^ j.toNat)
section
variable {ι : Type} {X : ι → Cx} {K : PySem.W.Frag} {mg : Str → Option Value} {W : WX} {a b e : Expr} {es : List Expr} {fa fb : FE} {ga : FA} {pos p : Pos} {P : Program} {w : World} {base : Heap} {kk : Nat}
theorem ops_add : OpS K (fun x y H Q => rI0 (fun i j => .int (i + j)) x y H Q ∨ (rCatA K x y H Q ∨ rCat x y H Q)) gAdd := by
  intro F m H hp x y d e z r1 d1 d2 hz Q q
  unfold gAdd at hz
  split at hz
  · exact .inl (ops_I0 F m H hp x y _ _ z r1 d1 d2 (by simp only [iOp, if_true]; exact hz) Q q)
  · exact .inr (.inl (ops_catT F m H hp x y _ _ z r1 d1 d2 hz Q q))
  · exact .inr (.inr (ops_catL F m H hp x y _ _ z r1 d1 d2 hz Q q))
theorem ops_mul : OpS K (fun x y H Q => rI CMul (fun i j => .int (i * j)) x y H Q ∨ (rRepT K x y H Q ∨ rRep x y H Q)) gMul := by
  intro F m H hp x y d e z r1 d1 d2 hz Q q
  unfold gMul at hz
  split at hz
  · split at hz
    · rename_i i j hc
      cases hz
      cases d1; cases d2
      refine .inl ⟨i, j, rfl, rfl, ?_, q _ F H Nx.refl r1 (.int _)⟩
      simp only [small64, Bool.or_eq_true, decide_eq_true_eq] at hc
      exact hc
    · cases hz
  · split at hz
    · rename_i xs k hc
      obtain ⟨c1, c2, c3, c4⟩ := hc
      cases hz
      cases d2
      cases d1 with
      | tup a1 a2 =>
        rename_i a vs
        refine .inr (.inl ⟨a, k, vs, rfl, rfl, SqT.mono r1.sub a1, fun e => ?_, c1, c2, by rw [a2.length]; exact c3, fun p hp' => ?_⟩)
        · subst e
          have := a2.length
          simp at this
          omega
        · obtain ⟨F', n', r', d'⟩ := new_tup (σ := []) r1 (a2.rep k.toNat) hp'
          exact q _ F' _ n' r' d'
    · cases hz
  · exact .inr (.inr (ops_repL F m H hp x y _ _ z r1 d1 d2 hz Q q))
theorem se_add (hF : Fam X K mg) (ha : SE X K mg W a fa) (hb : SE X K mg W b fb) : SE X K mg W (.BinOp a .Add b pos) (eBin gAdd fa fb) :=
  se_bin (fun j => by rw [← hF.k j]; exact op_add.or (op_catA.or op_cat)) ops_add ha hb
theorem se_sub (ha : SE X K mg W a fa) (hb : SE X K mg W b fb) : SE X K mg W (.BinOp a .Sub b pos) (eBin gSub fa fb) := se_bin (fun _ => op_sub) ops_I0 ha hb
theorem se_mul (hF : Fam X K mg) (ha : SE X K mg W a fa) (hb : SE X K mg W b fb) : SE X K mg W (.BinOp a .Mult b pos) (eBin gMul fa fb) :=
  se_bin (fun j => by rw [← hF.k j]; exact op_mul.or (op_repT.or op_rep)) ops_mul ha hb
theorem se_fdiv (ha : SE X K mg W a fa) (hb : SE X K mg W b fb) : SE X K mg W (.BinOp a .FloorDiv b pos) (eBin gDiv fa fb) := se_bin (fun _ => op_fdiv) (ops_I fun i j h => show 0 < j ∧ j < 1073741824 from of_decide_eq_true h) ha hb
theorem se_mod (ha : SE X K mg W a fa) (hb : SE X K mg W b fb) : SE X K mg W (.BinOp a .Mod b pos) (eBin gMod fa fb) := se_bin (fun _ => op_mod) (ops_I fun i j h => of_decide_eq_true h) ha hb
theorem se_pow (ha : SE X K mg W a fa) (hb : SE X K mg W b fb) : SE X K mg W (.BinOp a .Pow b pos) (eBin gPow fa fb) := se_bin (fun _ => op_pow) (ops_I fun i j h => show 0 ≤ j ∧ j ≤ 1000000 ∧ i.natAbs < 2 ^ 64 from of_decide_eq_true h) ha hb
def gLt : D → D → EH → Option D := iCmp fun i j => decide (i < j)
def gLe : D → D → EH → Option D := iCmp fun i j => decide (i ≤ j)
def gGt : D → D → EH → Option D := iCmp fun i j => decide (j < i)
def gGe : D → D → EH → Option D := iCmp fun i j => decide (j ≤ i)
theorem se_lt (ha : SE X K mg W a fa) (hb : SE X K mg W b fb) : SE X K mg W (.Compare a [.Lt] [b] pos) (eBin gLt fa fb) := se_cmp (fun _ => op_lt) ops_B0 ha hb (nomark _)
theorem se_le (ha : SE X K mg W a fa) (hb : SE X K mg W b fb) : SE X K mg W (.Compare a [.LtE] [b] pos) (eBin gLe fa fb) := se_cmp (fun _ => op_le) ops_B0 ha hb (nomark _)
theorem se_gt (ha : SE X K mg W a fa) (hb : SE X K mg W b fb) : SE X K mg W (.Compare a [.Gt] [b] pos) (eBin gGt fa fb) := se_cmp (fun _ => op_gt) ops_B0 ha hb (nomark _)
theorem se_ge (ha : SE X K mg W a fa) (hb : SE X K mg W b fb) : SE X K mg W (.Compare a [.GtE] [b] pos) (eBin gGe fa fb) := se_cmp (fun _ => op_ge) ops_B0 ha hb (nomark _)
theorem st_lt (ha : SE X K mg W a fa) (hb : SE X K mg W b fb) : ST X K mg W (.Compare a [.Lt] [b] pos) (tB (eBin gLt fa fb)) := st_cmp (fun _ => op_lt) ops_B0 ha hb (nomark _)
theorem st_le (ha : SE X K mg W a fa) (hb : SE X K mg W b fb) : ST X K mg W (.Compare a [.LtE] [b] pos) (tB (eBin gLe fa fb)) := st_cmp (fun _ => op_le) ops_B0 ha hb (nomark _)
theorem st_gt (ha : SE X K mg W a fa) (hb : SE X K mg W b fb) : ST X K mg W (.Compare a [.Gt] [b] pos) (tB (eBin gGt fa fb)) := st_cmp (fun _ => op_gt) ops_B0 ha hb (nomark _)
theorem st_ge (ha : SE X K mg W a fa) (hb : SE X K mg W b fb) : ST X K mg W (.Compare a [.GtE] [b] pos) (tB (eBin gGe fa fb)) := st_cmp (fun _ => op_ge) ops_B0 ha hb (nomark _)
theorem se_eq (hF : Fam X K mg) (hC : Cal X P w base kk W) (ha : SE X K mg W a fa) (hb : SE X K mg W b fb) : SE X K mg W (.Compare a [.Eq] [b] pos) (eBin gEq fa fb) :=
  se_cmp (fun j => by rw [← hF.k j]; exact op_eqD (hC.r j).units) ops_eq ha hb (nomark _)
theorem se_ne (hF : Fam X K mg) (hC : Cal X P w base kk W) (ha : SE X K mg W a fa) (hb : SE X K mg W b fb) : SE X K mg W (.Compare a [.NotEq] [b] pos) (eBin gNe fa fb) :=
  se_cmp (fun j => by rw [← hF.k j]; exact op_neD (hC.r j).units) ops_ne ha hb (nomark _)
theorem st_eq (hF : Fam X K mg) (hC : Cal X P w base kk W) (ha : SE X K mg W a fa) (hb : SE X K mg W b fb) : ST X K mg W (.Compare a [.Eq] [b] pos) (tB (eBin gEq fa fb)) :=
  st_cmp (fun j => by rw [← hF.k j]; exact op_eqD (hC.r j).units) ops_eq ha hb (nomark _)
theorem st_ne (hF : Fam X K mg) (hC : Cal X P w base kk W) (ha : SE X K mg W a fa) (hb : SE X K mg W b fb) : ST X K mg W (.Compare a [.NotEq] [b] pos) (tB (eBin gNe fa fb)) :=
  st_cmp (fun j => by rw [← hF.k j]; exact op_neD (hC.r j).units) ops_ne ha hb (nomark _)
theorem se_item (hF : Fam X K mg) (ha : SE X K mg W a fa) (hb : SE X K mg W b fb) (hx : PlainIx b) : SE X K mg W (.Subscript a b pos) (eBin gIx fa fb) :=
  se_ix (fun j => by rw [← hF.k j]; exact ix_seq) ops_ix ha hb hx
/-! ### x in xs -/
def dIn (hp : EH) (x y : D) : Option Bool := match toPh hp x, toPh hp y with
  | some p, some (.list ds) => if SeqAt.shaped p = true ∧ SeqAt.shaped (.list ds) = true then some (ds.any fun z => PyData.eqv z p) else none
  | some p, some (.tuple ds) => if SeqAt.shaped p = true ∧ SeqAt.shaped (.tuple ds) = true then some (ds.any fun z => PyData.eqv z p) else none
  | _, _ => none
/-! ### built-ins by their names -/
theorem se_len (hF : Fam X K mg) (hm : mg "len" = none) (hg : ∀ j, Gl (X j) "len") (ha : SA X K mg W [e] ga) (he : ∀ j, starEach [e] (X j).env = (false, eval e (X j).env) :: starEach [] (X j).env := by intro _; rfl) (hpl : ∀ j, (backTo pos (starEach [] (X j).env)).any (·.1) = false := by intro _; rfl) :
    SE X K mg W (.Call (.Name "len" p) [e] [] pos) (eCall gLen ga) := se_callB (fun j => by rw [← hF.k j]; exact call_len_seq) calls_len hg hm hF PySem.boot_len ha (by decide) (by decide) he hpl
theorem se_list (hF : Fam X K mg) (hm : mg "list" = none) (hg : ∀ j, Gl (X j) "list") (ha : SA X K mg W [e] ga) (he : ∀ j, starEach [e] (X j).env = (false, eval e (X j).env) :: starEach [] (X j).env := by intro _; rfl) (hpl : ∀ j, (backTo pos (starEach [] (X j).env)).any (·.1) = false := by intro _; rfl) :
    SE X K mg W (.Call (.Name "list" p) [e] [] pos) (eCall gList ga) := se_callTy (fun j => by rw [← hF.k j]; exact call_list_of) calls_list hg hm hF (by decide +kernel) ha (by decide) (by decide) he hpl
theorem se_tuple (hF : Fam X K mg) (hm : mg "tuple" = none) (hg : ∀ j, Gl (X j) "tuple") (ha : SA X K mg W [e] ga) (he : ∀ j, starEach [e] (X j).env = (false, eval e (X j).env) :: starEach [] (X j).env := by intro _; rfl) (hpl : ∀ j, (backTo pos (starEach [] (X j).env)).any (·.1) = false := by intro _; rfl) :
    SE X K mg W (.Call (.Name "tuple" p) [e] [] pos) (eCall gTuple ga) := se_callTy (fun j => by rw [← hF.k j]; exact call_tuple_of) calls_tuple hg hm hF (by decide +kernel) ha (by decide) (by decide) he hpl
theorem se_int1 (hF : Fam X K mg) (hm : mg "int" = none) (hg : ∀ j, Gl (X j) "int") (ha : SA X K mg W [e] ga) (he : ∀ j, starEach [e] (X j).env = (false, eval e (X j).env) :: starEach [] (X j).env := by intro _; rfl) (hpl : ∀ j, (backTo pos (starEach [] (X j).env)).any (·.1) = false := by intro _; rfl) :
    SE X K mg W (.Call (.Name "int" p) [e] [] pos) (eCall gInt ga) := se_callTy (fun j => call_int1) calls_int hg hm hF (by decide +kernel) ha (by decide) (by decide) he hpl
theorem se_min2 (hF : Fam X K mg) (hm : mg "min" = none) (hg : ∀ j, Gl (X j) "min") (ha : SA X K mg W [e, b] ga) (he : ∀ j, starEach [e, b] (X j).env = (false, eval e (X j).env) :: starEach [b] (X j).env := by intro _; rfl) (hpl : ∀ j, (backTo pos (starEach [b] (X j).env)).any (·.1) = false := by intro _; rfl) :
    SE X K mg W (.Call (.Name "min" p) [e, b] [] pos) (eCall gMin2 ga) := se_callB (fun j => call_min2 (hF.calm j)) calls_min2 hg hm hF (by decide +kernel) ha (by decide) (by decide) he hpl
theorem se_max2 (hF : Fam X K mg) (hm : mg "max" = none) (hg : ∀ j, Gl (X j) "max") (ha : SA X K mg W [e, b] ga) (he : ∀ j, starEach [e, b] (X j).env = (false, eval e (X j).env) :: starEach [b] (X j).env := by intro _; rfl) (hpl : ∀ j, (backTo pos (starEach [b] (X j).env)).any (·.1) = false := by intro _; rfl) :
    SE X K mg W (.Call (.Name "max" p) [e, b] [] pos) (eCall gMax2 ga) := se_callB (fun j => call_max2 (hF.calm j)) calls_max2 hg hm hF (by decide +kernel) ha (by decide) (by decide) he hpl
end
end MP
end

section
set_option maxRecDepth 100000
set_option maxHeartbeats 1000000
namespace MP
open PySem PySem.Spec PyProof.Rows L2

/-! ### the law's own run: its surroundings are known -/
abbrev noE : XK := fun _ _ _ => False
section
variable {P : Program} {w : World} {K : PySem.W.Frag} {mg : Str → Option Value} {base : Heap}
/-- one def, run in the caller's surroundings -/
theorem run_law {x qual : Str} {st : Stmt} {fa a : Addr} {fd : FuncData} {N : List Str} {y : Str} {fb : FS} {s : Shared} {H : Hp} {ds : List Int} {hpE : EH} (T : Fun K x qual st fa fd) (S : FnScope N [y] (defScope st)) (hbi : ∀ (s : Shared) (u : Value), BindsTo s fd ⟨[u], []⟩ [(y, u)])
    (e0 : Env0 P w K mg base callerA [] s H) (hS : SqL K H a (ds.map V.int))
    (hb : ∀ (cdv : Value), Fam (cxD P w K mg base N qual (defScope st) fa cdv callerA [] s H noE) K mg → Own (cxD P w K mg base N qual (defScope st) fa cdv callerA [] s H noE) →
      SB (cxD P w K mg base N qual (defScope st) fa cdv callerA [] s H noE) K mg (wOf noE) (defBody st) fb)
    (hm : runDefO N.length 1 fb [.scr (ds.map .int)] [] = some (.val (.bl true), hpE)) :
    codeAny (model P w) callerA (.call (.ref fa) ⟨[.ref a], []⟩) (CR (L2.CX P w) [] P w H s (fun v _ => v = .bl true) noE) s := by
  obtain ⟨oc, od, kV, doc, pm, an, cdv, ct, osl, rfl, lk, hcd⟩ := T.ex
  have KX : K.In s.heap := e0.mod.kin.keeps fun b o e => (e0.bs b o e).1
  have lim : s.heap.NoLimit := e0.mod.nolimit.keeps fun b o e => (e0.bs b o e).1
  have hdep : callerA.depth < recursionLimit := by decide
  have kinds : ∀ z ∈ [(y, Value.ref a)], (defScope st).names.lookup z.1 = some .local ∨ ((defScope st).names.lookup z.1 = some .cell ∧ ((cellsFrom (s.heap.objs.size + 1) (defScope st).names []).lookup z.1).isSome = true) := fun z hz => by
    have e : z = (y, Value.ref a) := by simpa using hz
    subst e
    rcases S.par y (by simp) with q | q
    · exact .inl q
    · exact .inr ⟨q, PySem.W.cellsFrom_some _ _ _ (.inl q)⟩
  refine codeAny_call_function hdep (KX _ _ lk) rfl S.co S.gen rfl (PySem.W.codeRec_of KX hcd) (hbi s (.ref a) _ _ _ _ ?_)
  refine wpAny_newFunctionEnv_cells S.kind kinds fun env he s1 x1 => ?_
  subst he
  refine ⟨lim.keeps x1.toInCall.keep, codeAny_func ?_⟩
  have hcal : callerA.handled = none := rfl
  have I : L2.Inv (cxOf (L2.CX P w) P w K mg base N qual (defScope st) fa cdv callerA [] s H noE) [] (L2.start N [.ref a]) H s1 := inv_start (us := [.ref a]) (ps := [y]) S hcal e0 rfl (.cons rfl .nil) x1
  obtain ⟨t, p, q0⟩ := (hb cdv (cxD_fam S.nd) cxD_own).ex
  have hpl : 1 ≤ N.length := by
    have z := congrArg List.length S.pre
    rw [List.length_take] at z
    simp at z
    omega
  -- the plain world at the entry: the script alone
  have d0 : Dns K H [] [.ref a] [.scr (ds.map .int)] := .cons (.scr hS (by
    have : ∀ l : List Int, Dns K H [] (l.map V.int) (l.map D.int) := fun l => by
      induction l with
      | nil => exact .nil
      | cons i l ih => exact .cons (.int i) ih
    exact this ds)) .nil
  have r0 : R K H [] H [] := ⟨Same.refl _, rfl, List.nodup_nil, fun _ h => (by simp at h), fun i a ds h _ => by simp at h⟩
  have n0 := en_start (n := N.length) N d0 rfl (by simpa using hpl)
  unfold runDefO at hm
  rw [if_pos (show [D.scr (ds.map .int)].length = 1 from rfl)] at hm
  refine wpAny_mono ((p ()).run [] s1 (L2.start N [.ref a]) H { nx := fun _ _ => False, rt := fun v _ => v = .bl true } I ?_) (fun fl s' hs => ?_) fun e s' hs => hs
  · cases hbd : fb ([D.scr (ds.map .int)].map some ++ List.replicate (N.length - 1) none) [] with
    | none => rw [hbd] at hm; cases hm
    | some z =>
      obtain ⟨fl, env', hp1⟩ := z
      rw [hbd] at hm
      refine q0 _ H _ [] H [] r0 n0 _ _ _ hbd _ ?_
      cases fl with
      | nxt => cases hm
      | brk => cases hm
      | cnt => cases hm
      | exc e => cases hm
      | ret d =>
        cases hm
        intro v F1 m1 H1 n1 r1 dv
        cases dv
        rfl
  · cases fl with
    | ret u =>
      obtain ⟨v, σ', H', J, rv, q⟩ := hs
      exact ⟨v, H', J.os, J.bare, J.base, J.hok, rv, q⟩
    | next =>
      obtain ⟨_, _, _, q⟩ := hs
      exact q.elim
    | brk =>
      obtain ⟨_, _, _, q⟩ := hs
      exact q.elim
    | cont =>
      obtain ⟨_, _, _, q⟩ := hs
      exact q.elim
/-- only the script is known ahead of the law -/
theorem law_at {x qual : Str} {st : Stmt} {fa a : Addr} {fd : FuncData} {N : List Str} {y : Str} {fb : FS} {s : Shared} {mb : Str → Option Value} {vs : List Value} {ns : List Int} {hpE : EH}
    (KX : K.In s.heap) (hns : s.heap.Ns mainGlobals mg) (hbl : s.heap.Ns builtinsNs mb) (hbb : ∀ x : Str, x ≠ "__name__" → mb x = bootBuiltins x) (hlim : s.heap.NoLimit) (hg : s.gens = #[])
    (ha : s.heap.get? a = some { cls := .type "list", data := .seq vs.toArray }) (hi : IntsAre vs ns) (hl : ns.length ≤ sizeLine)
    (T : Fun K x qual st fa fd) (S : FnScope N [y] (defScope st)) (hbi : ∀ (s : Shared) (u : Value), BindsTo s fd ⟨[u], []⟩ [(y, u)])
    (hb : ∀ (base : Heap) (H : Hp) (cdv : Value), K.In base → base.Ns mainGlobals mg → Fam (cxD P w K mg base N qual (defScope st) fa cdv callerA [] s H noE) K mg → Own (cxD P w K mg base N qual (defScope st) fa cdv callerA [] s H noE) →
      SB (cxD P w K mg base N qual (defScope st) fa cdv callerA [] s H noE) K mg (wOf noE) (defBody st) fb)
    (hm : runDefO N.length 1 fb [.scr (ns.map .int)] [] = some (.val (.bl true), hpE)) :
    codeAny (model P w) callerA (.call (.ref fa) ⟨[.ref a], []⟩) (fun r s' => r = .ok (.ret (.bool true)) ∧ OldK s.heap s'.heap ∧ s'.os = s.os ∧ AllBare s'.gens) s := by
  have rv := vals_of_ints hi
  -- H: the script locked as it is, or one of the module's own
  have core : ∀ H : Hp, Only H → SqL K H a (ns.map V.int) → HOk P w H s.heap → (∀ b, H b ≠ none → b = a ∧ K.lookup a = none) →
      codeAny (model P w) callerA (.call (.ref fa) ⟨[.ref a], []⟩) (fun r s' => r = .ok (.ret (.bool true)) ∧ OldK s.heap s'.heap ∧ s'.os = s.os ∧ AllBare s'.gens) s := by
    intro H hO hS hok hA
    have other : ∀ b, (K.lookup b).isSome = true → H b = none := fun b hb => by
      cases q : H b with
      | none => rfl
      | some u =>
        obtain ⟨e, k⟩ := hA b (by rw [q]; simp)
        rw [e, k] at hb
        simp at hb
    have dictFree : ∀ {b : Addr} {o : Obj} {es : Array DictEntry} {ep : Nat}, s.heap.get? b = some o → o.data = .dict es ep → H b = none := fun {b o es ep} e d => by
      cases q : H b with
      | none => rfl
      | some u =>
        obtain ⟨e', _⟩ := hA b (by rw [q]; simp)
        rw [e', ha] at e
        cases e
        cases d
    have ns_ : ∀ {b : Addr} {m : Str → Option Value}, s.heap.Ns b m → (hidT s.heap H).Ns b m := fun {b m} ⟨o, es, ep, e, d, r⟩ => ⟨o, es, ep, hidT_get e (dictFree e d), d, r⟩
    have kb : K.In (hidT s.heap H) := fun b o e => hidT_get (KX b o e) (other b (by rw [e]; rfl))
    have e0 : Env0 P w K mg (hidT s.heap H) callerA [] s H := ⟨rfl, ⟨kb, ns_ hns, ⟨mb, ns_ hbl, hbb⟩, let ⟨mc, h1, h2⟩ := hlim; ⟨mc, ns_ h1, h2⟩⟩, fun b o e => of_hidT e, Nat.le_of_eq (hidT_size _ _), trivial, fun b z => by simp [frs] at z, hok, .of_eq hg⟩
    refine codeAny_mono (run_law T S hbi e0 hS (hb _ H · kb (ns_ hns)) hm) fun r s' hq => ?_
    cases r with
    | error e =>
      obtain ⟨_, _, _, _, _, _, _, _, _, _, _, _, z⟩ := hq
      exact z.elim
    | ok fl =>
      cases fl with
      | next => exact False.elim hq
      | brk => exact False.elim hq
      | cont => exact False.elim hq
      | ret u =>
        obtain ⟨v, H', os, bare, un, hok', r', q⟩ := hq
        have q' : v = .bl true := q
        subst q'
        obtain rfl : u = Value.bool true := r'
        refine ⟨rfl, OldK.of_keep fun b o e => ?_, os, bare⟩
        rcases hO b with z | ⟨ob, xs, z⟩
        · exact un.keep b o e z (by simp [frs]) (by simp)
        · obtain ⟨e1, _⟩ := hok b _ z
          obtain ⟨e2, _⟩ := hok' b _ (un.frzs b ob _ z)
          rw [e] at e1
          cases e1
          exact e2
  cases hk : K.lookup a with
  | some o =>
    have e := KX a o hk
    rw [ha] at e
    cases e
    exact core (fun _ => none) (fun _ => .inl rfl) (.inr ⟨_, vs.toArray, _, hk, rfl, rfl, rfl, by rw [List.size_toArray, hi.length]; exact hl, by simpa using rv⟩) (fun b u z => by simp at z) (fun b z => by simp at z)
  | none =>
    refine core (fun b => if b = a then some (.frz { cls := .type "list", data := .seq vs.toArray } (.lst (ns.map V.int))) else none) (fun b => ?_) (.inl (.inr ⟨{ cls := .type "list", data := .seq vs.toArray }, if_pos rfl⟩)) (fun b u z => ?_) (fun b z => ?_)
    · by_cases hb : b = a
      · exact .inr ⟨_, _, if_pos hb⟩
      · exact .inl (if_neg hb)
    · by_cases hb : b = a
      · have z' := (if_pos hb).symm.trans z
        cases z'
        subst hb
        exact ⟨ha, by rw [List.length_map]; exact hl, vs, _, rv, ha⟩
      · have z' := (if_neg hb).symm.trans z
        cases z'
    · by_cases hb : b = a
      · exact ⟨hb, hk⟩
      · exact absurd (if_neg hb) z
end
/-- the goal that k_head leaves (case hc) -/
theorem walkM {l : PySem.W.OpenLaw} {n : Nat} {q : Program} {loose : List Str} {XP : (Str → Option Value) → Heap → Prop} {YP : World → Heap → Prop} {d : DefRec} {K : Params → PySem.W.Frag} {y : Str} {st : Stmt} {N : List Str} {fb : FS} {x qual : Str}
    (hn : l.most = some n) (hn2 : n ≤ sizeLine) (hdf : d.params.defaults = []) (hY : ∀ (w : World) (h : Heap), YP w h → (K w.params).In h) (S : FnScope N [y] (defScope st))
    (G : ∀ (w : World) (mg : Str → Option Value) (fa : Addr) (h : Heap), (K w.params).In h → h.Ns mainGlobals mg → mg d.name = some (.ref fa) → ∃ fd : FuncData, Fun (K w.params) x qual st fa fd ∧ (∀ (s : Shared) (u : Value), BindsTo s fd ⟨[u], []⟩ [(y, u)]) ∧
      ∀ (base : Heap) (s : Shared) (H : Hp) (cdv : Value), (K w.params).In base → base.Ns mainGlobals mg → Fam (cxD l.prog w (K w.params) mg base N qual (defScope st) fa cdv callerA [] s H noE) (K w.params) mg → Own (cxD l.prog w (K w.params) mg base N qual (defScope st) fa cdv callerA [] s H noE) →
        SB (cxD l.prog w (K w.params) mg base N qual (defScope st) fa cdv callerA [] s H noE) (K w.params) mg (wOf noE) (defBody st) fb)
    (hm : ∀ ns : List Int, ns.length ≤ n → ∃ hpE, runDefO N.length 1 fb [.scr (ns.map .int)] [] = some (.val (.bl true), hpE)) :
    PySem.W.WalkO q loose XP YP l.row.toRowW d [] (fun f vs => PySem.call f vs) := by
  refine Att.attach_call hn hdf fun w s₀ s₁ mg mb fa o pm cd doc a vs ns Gd Y ho hd hcd hmg hobj hints hlen hg => ?_
  have KX := hY w _ Y
  obtain ⟨fd, T, hbi, hb⟩ := G w mg fa _ KX Gd.T.g hmg
  obtain ⟨hpE, e⟩ := hm ns hlen
  exact law_at KX Gd.T.g Gd.T.b Gd.T.builtins Gd.T.nolimit hg hobj hints (Nat.le_trans hlen hn2) T S hbi (fun base H cdv h1 h2 => hb base s₁ H cdv h1 h2) e

/-! ### repr -/
section
variable {ι : Type} {X : ι → Cx} {K : PySem.W.Frag} {mg : Str → Option Value} {W : WX} {F F' : Hp} {m m' : List Addr} {H H' : Hp} {hp hp' : EH} {e : Expr} {ga : FA} {pos p : Pos} {P : Program} {w : World} {base : Heap} {kk : Nat}
def rReprD (K : PySem.W.Frag) : List V → Hp → VK → Prop := fun xs H Q => ∃ x d, xs = [x] ∧ Dp K H x d ∧ d.showable = true ∧ d.hasDict = false ∧ d.depth ≤ 64 ∧ d.shown.length ≤ sizeLine ∧ Q (.str d.shown) H
theorem call_reprD {Y : Cx} (hg : Y.A.guards = some []) (hu : Y.A.units + 128 < cLine) : CallR Y (.builtin "repr") (rReprD Y.K) := by
  intro pins s σ H xs us Q I r h
  obtain ⟨x, d, rfl, hd, h1, h2, h3, h4, q⟩ := h
  obtain ⟨u, rfl, ru⟩ := vals1 r
  obtain ⟨as, rd⟩ := Dp.reads I d x u hd ru
  cases hd with
  | non => cases ru; exact PySem.P.repr_of_none ⟨.str _, H, I.tok _, ⟨_, rfl⟩, by simpa [PyData.shown] using q⟩
  | bl b => cases ru; exact PySem.P.repr_of_bool ⟨.str _, H, I.tok _, ⟨_, rfl⟩, by simpa [PyData.shown] using q⟩
  | int i =>
    obtain ⟨t, rfl⟩ := ru
    exact PySem.P.repr_of_int (by simpa [PyData.showable] using h1) ⟨.str _, H, I.tok _, ⟨_, rfl⟩, by simpa [PyData.shown] using q⟩
  | str z =>
    obtain ⟨t, rfl⟩ := ru
    exact PySem.P.repr_of_str ⟨.str _, H, I.tok _, ⟨_, rfl⟩, by simpa [PyData.shown] using q⟩ (by simpa [PyData.shown] using h4)
  | lst a1 a2 =>
    cases ru
    exact repr_of_reads' rd h1 (PyData.noDict_hsm h2) hg (by omega) (fun _ _ z => z) (fun h' u tk hk => ⟨.str _, H, I.kept hk, ⟨_, rfl⟩, q⟩) h4
  | tup a1 a2 =>
    cases ru
    exact repr_of_reads' rd h1 (PyData.noDict_hsm h2) hg (by omega) (fun _ _ z => z) (fun h' u tk hk => ⟨.str _, H, I.kept hk, ⟨_, rfl⟩, q⟩) h4
def gRepr : List D → EH → Option D := fun ds hp => match ds with
  | [d] => match toPh hp d with
    | some p => if p.showable = true ∧ p.hasDict = false ∧ p.depth ≤ 64 ∧ p.shown.length ≤ 16777216 then some (.str p.shown) else none
    | none => none
  | _ => none
theorem calls_repr : CallS K (rReprD K) gRepr := by
  intro F m H hp vs ds z r1 d1 hz Q q
  unfold gRepr at hz
  split at hz
  · split at hz
    · rename_i p hp1
      split at hz
      · rename_i h
        obtain ⟨h1, h2, h3, h4⟩ := h
        cases hz
        cases d1 with
        | cons c1 c2 =>
          cases c2
          exact ⟨_, p, rfl, dph_of r1 c1 hp1, h1, h2, h3, by rw [line16]; exact h4, q _ F H Nx.refl r1 (.str _)⟩
      · cases hz
    · cases hz
  · cases hz
theorem se_repr (hF : Fam X K mg) (hgd : ∀ j, (X j).A.guards = some []) (hu : ∀ j, (X j).A.units + 128 < cLine) (hm : mg "repr" = none) (hg : ∀ j, Gl (X j) "repr") (ha : SA X K mg W [e] ga) (he : ∀ j, starEach [e] (X j).env = (false, eval e (X j).env) :: starEach [] (X j).env := by intro _; rfl) (hpl : ∀ j, (backTo pos (starEach [] (X j).env)).any (·.1) = false := by intro _; rfl) :
    SE X K mg W (.Call (.Name "repr" p) [e] [] pos) (eCall gRepr ga) := se_callB (fun j => by rw [← hF.k j]; exact call_reprD (hgd j) (hu j)) calls_repr hg hm hF (by decide +kernel) ha (by decide) (by decide) he hpl
end
end MP
end

section
set_option maxRecDepth 100000
set_option maxHeartbeats 1000000
namespace MP
open PySem PySem.Spec PyProof.Rows L2

section
variable {ι : Type} {X : ι → Cx} {K : PySem.W.Frag} {mg : Str → Option Value} {W : WX} {F F' : Hp} {m m' : List Addr} {H H' : Hp} {hp hp' : EH} {a b c e : Expr} {fa fb fc fe : FE} {ga : FA} {pos p p2 : Pos} {P : Program} {w : World} {base : Heap} {kk : Nat} {tg : Expr}
/-! ### a <= b <= c of ints -/
def eChain (g g' : D → D → EH → Option D) (fa fb fc : FE) : FE := bnd fa fun x => bnd fb fun y env hp => match g x y hp with
  | some (.bl true) => match fc env hp with
    | some (.val z, hp2) => match g' y z hp2 with
      | some d => some (.val d, hp2)
      | none => none
    | some (.exc x, hp2) => some (.exc x, hp2)
    | none => none
  | some (.bl false) => some (.val (.bl false), hp)
  | _ => none
theorem chain_read {ta tb tc : TE} {r r' : R2} {g g' : D → D → EH → Option D} (hs : OpS K r g) (hs' : OpS K r' g') {σ : L2.St} {env : Ev} (n : En K F m σ env)
    (qa : ∀ r hp', fa env hp = some (r, hp') → ∀ Q, OutE K mg W F m σ H hp' Q r → ta σ H Q)
    (qb : ∀ σ H env hp F m, R K F m H hp → En K F m σ env → ∀ r hp', fb env hp = some (r, hp') → ∀ Q, OutE K mg W F m σ H hp' Q r → tb σ H Q)
    (qc : ∀ σ H env hp F m, R K F m H hp → En K F m σ env → ∀ r hp', fc env hp = some (r, hp') → ∀ Q, OutE K mg W F m σ H hp' Q r → tc σ H Q)
    {rr : Res D} (e : eChain g g' fa fb fc env hp = some (rr, hp')) {Q : VK} (q : OutE K mg W F m σ H hp' Q rr) : tChain r r' ta tb tc σ H Q := by
  show ta σ H fun x H1 => tb σ H1 fun y H2 => r x y H2 fun z H3 => ∃ k, z = .bl k ∧ (if k = true then tc σ H3 fun w' H4 => r' y w' H4 Q else Q (.bl false) H3)
  rcases bnd_val e with ⟨x, h1, rfl⟩ | ⟨d, hp1, h1, h2⟩
  · exact qa _ _ h1 _ q
  refine qa _ _ h1 _ fun v F1 m1 H1 n1 r1 d1 => ?_
  rcases bnd_val h2 with ⟨x, h3, rfl⟩ | ⟨d2, hp2, h3, h4⟩
  · exact qb σ H1 env hp1 F1 m1 r1 (n.mono n1) _ _ h3 _ (OutE.nx n1 q)
  refine qb σ H1 env hp1 F1 m1 r1 (n.mono n1) _ _ h3 _ fun v2 F2 m2 H2 n2 r2 e2 => ?_
  have n12 := n1.trans n2
  try simp only at h4
  split at h4
  · rename_i hg
    refine hs F2 m2 H2 hp2 v v2 d d2 _ r2 (d1.mono n2.fz n2.pre) e2 hg _ fun z F3 H3 n3 r3 d3 => ?_
    cases d3
    refine ⟨true, rfl, ?_⟩
    rw [if_pos rfl]
    have n13 := n12.trans n3
    split at h4
    · rename_i z hp3 hz
      split at h4
      · rename_i dz hg'
        cases h4
        exact qc σ H3 env hp2 F3 m2 r3 (n.mono n13) _ _ hz _ fun u F4 m4 H4 n4 r4 d4 => hs' F4 m4 H4 hp' v2 u d2 z dz r4 ((e2.mono n3.fz n3.pre).mono n4.fz n4.pre) d4 hg' _ fun y F5 H5 n5 r5 d5 => q y F5 m4 H5 ((n13.trans n4).trans n5) r5 d5
      · cases h4
    · rename_i x hp3 hz
      cases h4
      exact qc σ H3 env hp2 F3 m2 r3 (n.mono n13) _ _ hz _ (OutE.nx n13 q)
    · cases h4
  · rename_i hg
    cases h4
    refine hs F2 m2 H2 _ v v2 d d2 _ r2 (d1.mono n2.fz n2.pre) e2 hg _ fun z F3 H3 n3 r3 d3 => ?_
    cases d3
    refine ⟨false, rfl, ?_⟩
    rw [if_neg Bool.false_ne_true]
    exact q _ F3 m2 H3 (n12.trans n3) r3 (.bl false)
  · cases h4
theorem se_chain {op op' : CmpOp} {r r' : R2} {g g' : D → D → EH → Option D} (ho : ∀ j, OpR (X j) (compareOp op) r) (ho' : ∀ j, OpR (X j) (compareOp op') r') (hs : OpS K r g) (hs' : OpS K r' g') (ha : SE X K mg W a fa) (hb : SE X K mg W b fb) (hc : SE X K mg W c fc)
    (hm : lastMarks [op, op'] [b, c] = false) : SE X K mg W (.Compare a [op, op'] [b, c] pos) (eChain g g' fa fb fc) := by
  obtain ⟨ta, pa, qa⟩ := ha.ex
  obtain ⟨tb, pb, qb⟩ := hb.ex
  obtain ⟨tc, pc, qc⟩ := hc.ex
  exact ⟨⟨_, fun j => pe_chain (ho j) (ho' j) (pa j) (pb j) (pc j) hm, fun σ H env hp F m r1 n r' hp' e Q q => chain_read hs hs' n (qa σ H env hp F m r1 n) qb qc e q⟩⟩
theorem st_chain {op op' : CmpOp} {r r' : R2} {g g' : D → D → EH → Option D} (ho : ∀ j, OpR (X j) (compareOp op) r) (ho' : ∀ j, OpR (X j) (compareOp op') r') (hs : OpS K r g) (hs' : OpS K r' g') (ha : SE X K mg W a fa) (hb : SE X K mg W b fb) (hc : SE X K mg W c fc)
    (hm : lastMarks [op, op'] [b, c] = false) : ST X K mg W (.Compare a [op, op'] [b, c] pos) (MP.tB (eChain g g' fa fb fc)) := by
  obtain ⟨ta, pa, qa⟩ := ha.ex
  obtain ⟨tb, pb, qb⟩ := hb.ex
  obtain ⟨tc, pc, qc⟩ := hc.ex
  exact ⟨⟨_, fun j => pt_chain (ho j) (ho' j) (pa j) (pb j) (pc j) hm, fun σ H env hp F m r1 n r' hp' e Q q => tB_run (fa := eChain g g' fa fb fc) (fun r hp' e Q q => chain_read hs hs' n (qa σ H env hp F m r1 n) qb qc e q) e q⟩⟩

/-! ### isinstance with a built-in class -/
def D.tyN : D → Option String
  | .non => some "NoneType"
  | .bl _ => some "bool"
  | .int _ => some "int"
  | .str _ => some "str"
  | .tup _ => some "tuple"
  | .lst _ => some "list"
  | .obj _ => some "list"
  | .scr _ => none
  | .err _ _ _ => none
def gIsi (T : String) : List D → EH → Option D := fun ds _ => match ds with
  | [d] => match d.tyN with
    | some t => match kitB t T with
      | some b => some (.bl b)
      | none => none
    | none => none
  | _ => none
theorem tyx_of {d : D} {v : V} {t : String} (r : R K F m H hp) (h : Dn K F m v d) (e : d.tyN = some t) : TyX K H v (.type t) := by
  cases h with
  | non => cases e; exact .base .non
  | bl b => cases e; exact .base (.bl b)
  | int i => cases e; exact .base (.int i)
  | str x => cases e; exact .base (.str x)
  | lst h1 h2 => cases e; exact .base (.lst (r.sub _ _ h1))
  | scr h1 h2 => cases e
  | err h1 h2 h3 h4 h5 => cases e
  | er0 h1 h2 => cases e
  | obj h1 =>
    cases e
    obtain ⟨vs, q⟩ := r.there (List.mem_of_getElem? h1)
    exact .base (.lst q)
  | tup h1 h2 =>
    cases e
    rcases SqT.mono r.sub h1 with (z | ⟨o, z⟩) | ⟨o, its, n, z1, z2, _⟩
    · exact .base (.tup z)
    · exact .fTuple z
    · exact .kTuple z1 z2
theorem se_isi {T : String} {x : Str} (hF : Fam X K mg) (hm : mg "isinstance" = none) (hm2 : mg x = none) (hv : bootBuiltins x = some (.type T)) (hg : ∀ j, Gl (X j) "isinstance") (hg2 : ∀ j, Gl (X j) x) (ha : SE X K mg W e fe) (hK : ClsV (.ty T) (.type T))
    (hn : x ≠ "__name__" := by decide) (hdb : (x == ("__debug__" : Str)) = false := by decide)
    (h1 : ∀ j, starEach [e, .Name x p2] (X j).env = (false, eval e (X j).env) :: starEach [.Name x p2] (X j).env := by intro _; rfl) (h2 : ∀ j, starEach [.Name x p2] (X j).env = (false, eval (.Name x p2) (X j).env) :: starEach [] (X j).env := by intro _; rfl)
    (h3 : ∀ j, (backTo pos (starEach [.Name x p2] (X j).env)).any (·.1) = false := by intro _; rfl) :
    SE X K mg W (.Call (.Name "isinstance" p) [e, .Name x p2] [] pos) (bnd fe fun d _ hp => match gIsi T [d] hp with
      | some z => some (.val z, hp)
      | none => none) := by
  obtain ⟨t, pt, q0⟩ := ha.ex
  refine ⟨⟨tCB (rIsi K) (tCons t (tCons (tC (.ty T)) tNil)), fun j => ?_, fun σ H env hp F m r n r' hp' e Q q => ?_⟩⟩
  · refine pe_callB (by rw [← hF.k j]; exact call_isi) (hg j) (by rw [hF.g j]; exact hm) (by decide +kernel) (pa_cons (pt j) (pa_cons (pe_bltn (hg2 j) (by rw [hF.g j]; exact hm2) hv rfl hn hdb) pa_nil (h2 j)) (h1 j)) (by decide) (by decide) (h1 j) (h3 j)
  · show t σ H fun x H1 => rIsi K [x, .ty T] H1 Q
    rcases bnd_val e with ⟨x, k1, rfl⟩ | ⟨d, hp1, k1, k2⟩
    · exact q0 σ H env hp F m r n _ _ k1 _ q
    · refine q0 σ H env hp F m r n _ _ k1 _ fun v F1 m1 H1 n1 r1 d1 => ?_
      simp only [gIsi] at k2
      cases ht : d.tyN with
      | none => simp only [ht] at k2; cases k2
      | some ty =>
        simp only [ht] at k2
        cases hk : kitB ty T with
        | none => simp only [hk] at k2; cases k2
        | some bb =>
          simp only [hk] at k2
          cases k2
          exact ⟨v, .ty T, .type ty, .type T, bb, rfl, hK, tyx_of r1 d1 ht, kit_ty hk, q _ F1 m1 H1 n1 r1 (.bl bb)⟩

/-! ### all, any of a list of bools -/
def asB : List D → Option (List Bool)
  | [] => some []
  | .bl b :: xs => match asB xs with
    | some bs => some (b :: bs)
    | none => none
  | _ :: _ => none
theorem asB_of : ∀ {xs : List D} {bs : List Bool} {vs : List V}, asB xs = some bs → Dns K F m vs xs → vs = bs.map V.bl
  | [], bs, vs, e, h => by
    cases h
    simp [asB] at e
    subst e
    rfl
  | x :: xs, bs, vs, e, h => by
    cases h with
    | cons h1 h2 =>
      cases x with
      | bl b =>
        simp only [asB] at e
        cases hx : asB xs with
        | none => rw [hx] at e; cases e
        | some cs =>
          rw [hx] at e
          cases e
          cases h1
          rw [asB_of hx h2]
          rfl
      | _ => simp [asB] at e
def gAll : List D → EH → Option D := fun ds hp => match ds with
  | [d] => match asL hp d with
    | some xs => match asB xs with
      | some bs => some (.bl (bs.all id))
      | none => none
    | none => none
  | _ => none
def gAny : List D → EH → Option D := fun ds hp => match ds with
  | [d] => match asL hp d with
    | some xs => match asB xs with
      | some bs => some (.bl (bs.any id))
      | none => none
    | none => none
  | _ => none
theorem calls_all : CallS K (rAll K) gAll := by
  intro F m H hp vs ds z r1 d1 hz Q q
  unfold gAll at hz
  split at hz
  · split at hz
    · rename_i xs hx
      split at hz
      · rename_i bs hb
        cases hz
        cases d1 with
        | cons c1 c2 =>
          cases c2
          obtain ⟨a, ws, rfl, q1, q2⟩ := rd_of r1 c1 hx
          have e := asB_of hb q2
          subst e
          exact ⟨a, bs, rfl, SqL.of q1, q _ F H Nx.refl r1 (.bl _)⟩
      · cases hz
    · cases hz
  · cases hz
theorem calls_any : CallS K (rAny K) gAny := by
  intro F m H hp vs ds z r1 d1 hz Q q
  unfold gAny at hz
  split at hz
  · split at hz
    · rename_i xs hx
      split at hz
      · rename_i bs hb
        cases hz
        cases d1 with
        | cons c1 c2 =>
          cases c2
          obtain ⟨a, ws, rfl, q1, q2⟩ := rd_of r1 c1 hx
          have e := asB_of hb q2
          subst e
          exact ⟨a, bs, rfl, SqL.of q1, q _ F H Nx.refl r1 (.bl _)⟩
      · cases hz
    · cases hz
  · cases hz
theorem se_all (hF : Fam X K mg) (hm : mg "all" = none) (hg : ∀ j, Gl (X j) "all") (ha : SA X K mg W [e] ga) (he : ∀ j, starEach [e] (X j).env = (false, eval e (X j).env) :: starEach [] (X j).env := by intro _; rfl) (hpl : ∀ j, (backTo pos (starEach [] (X j).env)).any (·.1) = false := by intro _; rfl) :
    SE X K mg W (.Call (.Name "all" p) [e] [] pos) (eCall gAll ga) := se_callB (fun j => by rw [← hF.k j]; exact cr_all (hF.calm j)) calls_all hg hm hF (by decide +kernel) ha (by decide) (by decide) he hpl
theorem se_any (hF : Fam X K mg) (hm : mg "any" = none) (hg : ∀ j, Gl (X j) "any") (ha : SA X K mg W [e] ga) (he : ∀ j, starEach [e] (X j).env = (false, eval e (X j).env) :: starEach [] (X j).env := by intro _; rfl) (hpl : ∀ j, (backTo pos (starEach [] (X j).env)).any (·.1) = false := by intro _; rfl) :
    SE X K mg W (.Call (.Name "any" p) [e] [] pos) (eCall gAny ga) := se_callB (fun j => by rw [← hF.k j]; exact cr_any (hF.calm j)) calls_any hg hm hF (by decide +kernel) ha (by decide) (by decide) he hpl

/-! ### enumerate of a list -/
def enumD : Nat → List D → List D
  | _, [] => []
  | i, x :: xs => .tup [.int i, x] :: enumD (i + 1) xs
theorem enumD_len : ∀ (xs : List D) (k : Nat), (enumD k xs).length = xs.length
  | [], _ => rfl
  | x :: xs, k => by simp [enumD, enumD_len xs]
theorem enumD_get : ∀ (xs : List D) (k i : Nat) (x : D), xs[i]? = some x → (enumD k xs)[i]? = some (.tup [.int ((k + i : Nat) : Int), x])
  | [], _, i, _, h => by simp at h
  | x :: xs, k, 0, _, h => by
    simp at h
    subst h
    rfl
  | x :: xs, k, i + 1, _, h => by
    have e := enumD_get xs (k + 1) i _ (by simpa using h)
    have e2 : k + 1 + i = k + (i + 1) := by omega
    rw [e2] at e
    exact e
def iEnum (g : FA) : FI := bnd g fun ds _ hp => match ds with
  | [.lst xs] => some (.val (enumD 0 xs, yes), hp)
  | [.obj i] => match hp[i]? with
    | some xs => some (.val (enumD 0 xs, sameObj i xs), hp)
    | none => none
  | _ => none
theorem it_enum {a : Addr} {xs : List D} {chk : EH → Bool} (h : ∀ F' m' H' hp', Same F F' → m <+: m' → R K F' m' H' hp' → chk hp' = true → ∃ vs, SqL K H' a vs ∧ Dns K F' m' vs xs) : ItOk K F m (Ite K a) (enumD 0 xs) chk where
  go := fun i F' m' H' hp' s p r c hi => by
    obtain ⟨vs, h1, h2⟩ := h F' m' H' hp' s p r c
    rw [enumD_len] at hi
    have hl : i < vs.length := by rw [h2.length]; exact hi
    exact ⟨vs, vs[i], h1, List.getElem?_eq_getElem hl⟩
  stop := fun F' m' H' hp' s p r c => by
    obtain ⟨vs, h1, h2⟩ := h F' m' H' hp' s p r c
    exact ⟨vs, h1, by rw [enumD_len, h2.length]; exact Nat.le_refl _⟩
  yld := fun i F' m' H' hp' v H'' s p r c hi y => by
    obtain ⟨vs, h1, h2⟩ := h F' m' H' hp' s p r c
    obtain ⟨T, x, e1, nT, e2, y2⟩ := y
    subst e1; subst e2
    obtain ⟨d, q1, q2⟩ := h2.getV (y2 vs h1)
    obtain ⟨F'', n', r', d''⟩ := new_tup (σ := []) (ds := [.int (i : Nat), d]) r (.cons (.int _) (.cons q2 .nil)) nT
    have e0 := enumD_get xs 0 i d q1
    rw [Nat.zero_add] at e0
    exact ⟨_, F'', e0, n', r', d''⟩
theorem si_enum {elts : List Expr} {k2 : Nat} {tpos : Pos} (hF : Fam X K mg) (hg : ∀ j, Gl (X j) "enumerate") (hm : mg "enumerate" = none) (ha : SA X K mg W [e] ga) (hs : ∀ j, starEach [e] (X j).env = [(false, eval e (X j).env)] := by intro _; rfl) :
    SI X K mg W (.Tuple elts k2 tpos) (.Call (.Name "enumerate" p) [e] [] pos) (MP.iEnum ga) := by
  obtain ⟨t, pt, q0⟩ := ha.ex
  refine ⟨⟨_, fun j => by have z := pi_enum (elts := elts) (kk := k2) (tpos := tpos) (p := p) (pos := pos) (hg j) (by rw [hF.g j]; exact hm) (pt j) (hs j); rw [hF.k j] at z; exact z, fun σ H env hp F m r n r' hp' e Q q => ?_⟩⟩
  rcases bnd_val e with ⟨x, h1, rfl⟩ | ⟨ds, hp1, h1, h2⟩
  · exact q0 σ H env hp F m r n _ _ h1 _ q
  · refine q0 σ H env hp F m r n _ _ h1 _ fun vs F1 m1 H1 n1 r1 d1 => ?_
    try simp only at h2
    split at h2
    · cases h2
      cases d1 with
      | cons c1 c2 =>
        cases c2
        cases c1 with
        | lst a1 a2 =>
          rename_i a vs
          exact ⟨_, _, rfl, SqL.of (r1.sub _ _ a1), q _ F1 m1 H1 n1 r1 (it_enum fun F' m' H' hp' s p r c => ⟨vs, SqL.of ((s.trans r.sub) _ _ a1), a2.mono s p⟩)⟩
    · split at h2
      · rename_i xs hx
        cases h2
        cases d1 with
        | cons c1 c2 =>
          cases c2
          cases c1 with
          | obj hi =>
            rename_i a
            obtain ⟨vs, w1, w2⟩ := r1.obj _ a xs hi hx
            refine ⟨a, vs, rfl, SqL.of w1, q _ F1 m1 H1 n1 r1 (it_enum fun F' m' H' hp' s p r c => ?_)⟩
            obtain ⟨ws, z1, z2⟩ := r.obj _ a xs (pre_get p hi) (sameObj_eq c)
            exact ⟨ws, SqL.of z1, z2⟩
      · cases h2
    · cases h2

/-! ### x in xs, x not in xs -/
def gIn : D → D → EH → Option D := fun x y hp => match toPh hp x, toPh hp y with
  | some p, some (.list ds) => if SeqAt.shaped p = true ∧ SeqAt.shaped (.list ds) = true then some (.bl (ds.any fun z => PyData.eqv z p)) else none
  | _, _ => none
def gNin : D → D → EH → Option D := fun x y hp => match toPh hp x, toPh hp y with
  | some p, some (.list ds) => if SeqAt.shaped p = true ∧ SeqAt.shaped (.list ds) = true then some (.bl (!ds.any fun z => PyData.eqv z p)) else none
  | _, _ => none
theorem ops_in : OpS K (rInD K) gIn := by
  intro F m H hp x y d e z r1 d1 d2 hz Q q
  unfold gIn at hz
  split at hz
  · rename_i p ds hp1 hq1
    split at hz
    · rename_i h
      cases hz
      exact ⟨p, ds, dph_of r1 d1 hp1, dph_of r1 d2 hq1, h.1, h.2, q _ F H Nx.refl r1 (.bl _)⟩
    · cases hz
  · cases hz
theorem ops_nin : OpS K (rNotInD K) gNin := by
  intro F m H hp x y d e z r1 d1 d2 hz Q q
  unfold gNin at hz
  split at hz
  · rename_i p ds hp1 hq1
    split at hz
    · rename_i h
      cases hz
      exact ⟨p, ds, dph_of r1 d1 hp1, dph_of r1 d2 hq1, h.1, h.2, q _ F H Nx.refl r1 (.bl _)⟩
    · cases hz
  · cases hz
end
end MP
end

section
set_option maxRecDepth 100000
set_option maxHeartbeats 1000000
/-! MP11: errors as values: C(..), C(f = ..), C(), e.f, isinstance(e, T). -/
namespace MP
open PySem PySem.Spec PyProof.Rows L2 MX

section
variable {ι : Type} (X : ι → Cx) (K : PySem.W.Frag) (mg : Str → Option Value) (W : WX)
/-- the keywords of a call -/
structure SK (kws : List Keyword) (f : FA) : Prop where
  ex : ∃ t : TA, (∀ i, PK (X i) kws t) ∧ ∀ σ H env hp F m, R K F m H hp → En K F m σ env → ∀ r hp', f env hp = some (r, hp') → ∀ Q, OutA K mg W F m σ H hp' Q r → t σ H Q
end
/-- a class of errors: nm at C; the parameters stored as the fields fs; the keywords ks of a call, put in order by pm -/
structure ErrOk (P : Program) (w : World) (K : PySem.W.Frag) (mg : Str → Option Value) (base : Heap) (k : Nat) (nm : Str) (C : Addr) (fs : List Str) (ks : List Str) (pm : {α : Type} → List α → List α) : Prop where
  glob : mg nm = some (.ref C)
  ec : EC K C
  flds : ∀ f ∈ fs, PySem.W.findIn K (.ref C) f = some none
  few : fs.length ≤ 900
  ex : ∃ (fI : Addr) (fd : FuncData) (ps : List Str), PySem.W.findIn K (.ref C) "__init__" = some (some (.ref fI)) ∧ PySem.W.typeIn K (.ref fI) = some (.type "function") ∧ FnOk P w K mg base (L2.CX P w) k fI fd ps (spE (fs.length + 1) fs K) ∧
    KBn K fd ps (fs.length + 1) [] (fun us _ => us) (fun vs _ => vs) ∧ KBn K fd ps (0 + 1) ks (fun us ws => us ++ pm ws) (fun vs zs => vs ++ pm zs)
  perm : ∀ {α : Type} (l : List α), l.length = ks.length → (pm l).length = fs.length
  rel : ∀ {K F m} {vs : List V} {ds : List D}, Dns K F m vs ds → ds.length = ks.length → Dns K F m (pm vs) (pm ds)
def eMk (C : Addr) (fs : List Str) (fa : FA) : FE := bnd fa fun ds _ hp => if ds.length = fs.length then some (.val (.err C fs.reverse ds.reverse), hp) else none
def eMkK (C : Addr) (fs : List Str) (nk : Nat) (pm : {α : Type} → List α → List α) (fa : FA) : FE := bnd fa fun ds _ hp => if ds.length = nk then some (.val (.err C fs.reverse (pm ds).reverse), hp) else none
/-- e.f -/
def fldOf (f : Str) : List Str → List D → Option D
  | n :: ns, d :: ds => if f = n then some d else fldOf f ns ds
  | _, _ => none
def eFld (f : Str) (fe : FE) : FE := bnd fe fun d _ hp => match d with
  | .err _ ns ds => match fldOf f ns ds with
    | some z => some (.val z, hp)
    | none => none
  | _ => none
/-- isinstance(e, T): by a table of classes -/
def lookA (c : Nat) : List (Nat × Bool) → Option Bool
  | [] => none
  | (a, b) :: l => if a = c then some b else lookA c l
def eIsX (tb : List (Nat × Bool)) (fe : FE) : FE := bnd fe fun d _ hp => match d with
  | .err c _ _ => match lookA c tb with
    | some b => some (.val (.bl b), hp)
    | none => none
  | _ => none

section
variable {ι : Type} {X : ι → Cx} {K : PySem.W.Frag} {mg : Str → Option Value} {W : WX} {F F' : Hp} {m m' : List Addr} {H H' : Hp} {hp hp' : EH} {e : Expr} {es : List Expr} {fe : FE} {fa ga : FA} {pos p p2 kpos : Pos} {P : Program} {w : World} {base : Heap} {k kk : Nat} {nm : Str} {C : Addr} {fs ks : List Str} {pm : {α : Type} → List α → List α} {kws : List Keyword} {nk : Option Str}
theorem sk_nil : SK X K mg W [] aNil := ⟨⟨_, fun _ => pk_nil, fun σ H env hp F m r n r' hp' e Q q => by cases e; exact q _ F m H Nx.refl r .nil⟩⟩
theorem sk_cons (ha : SE X K mg W e fe) (hr : SK X K mg W kws ga) : SK X K mg W (⟨nk, e, kpos⟩ :: kws) (aCons fe ga) := by
  obtain ⟨ta, pa, qa⟩ := ha.ex
  obtain ⟨tr, pr, qr⟩ := hr.ex
  refine ⟨⟨_, fun j => pk_cons (pa j) (pr j), fun σ H env hp F m r n r' hp' e Q q => ?_⟩⟩
  show ta σ H fun x H1 => tr σ H1 fun xs H2 => Q (x :: xs) H2
  rcases bnd_val e with ⟨x, h1, rfl⟩ | ⟨d, hp1, h1, h2⟩
  · exact qa σ H env hp F m r n _ _ h1 _ q
  refine qa σ H env hp F m r n _ _ h1 _ fun v F1 m1 H1 n1 r1 d1 => ?_
  rcases bnd_val h2 with ⟨x, h3, rfl⟩ | ⟨ds, hp2, h3, h4⟩
  · exact qr σ H1 env hp1 F1 m1 r1 (n.mono n1) _ _ h3 _ (OutA.nx n1 q)
  cases h4
  exact qr σ H1 env hp1 F1 m1 r1 (n.mono n1) _ _ h3 _ fun vs F2 m2 H2 n2 r2 d2 => q _ F2 m2 H2 (n1.trans n2) r2 (.cons (d1.mono n2.fz n2.pre) d2)

theorem upd_over {a dx : Addr} {o u v : HO} (h : dx ≠ a) : upd (upd (upd H a o) dx u) a v = upd (upd H dx u) a v := by
  funext b
  by_cases h1 : b = a
  · subst h1; rw [upd_same, upd_same]
  · rw [upd_ne h1, upd_ne h1]
    by_cases h2 : b = dx
    · subst h2; rw [upd_same, upd_same]
    · rw [upd_ne h2, upd_ne h2, upd_ne h1]
/-- a new error stands -/
theorem new_err {a dx : Addr} {ws : List V} {ds : List D} (r : R K F m H hp) (T : EC K C) (hfs : ∀ f ∈ fs, PySem.W.findIn K (.ref C) f = some none) (h1 : H a = none) (h2 : H dx = none) (h3 : dx ≠ a) (hd : Dns K F m ws ds) (hl : ds.length = fs.length) :
    ∃ F', Nx F m H F' m (upd (upd (upd H a (exo a C none)) dx (exd dx (mkF fs ws))) a (exo a C (some dx))) ∧ R K F' m (upd (upd (upd H a (exo a C none)) dx (exd dx (mkF fs ws))) a (exo a C (some dx))) hp ∧ Dn K F' m (.ref a) (.err C fs.reverse ds.reverse) := by
  rw [upd_over h3]
  obtain ⟨r1, n1⟩ := r.fresh (o := exd dx (mkF fs ws)) h2
  have h4 : upd H dx (exd dx (mkF fs ws)) a = none := by rw [upd_ne (Ne.symm h3)]; exact h1
  obtain ⟨r2, n2⟩ := r1.fresh (o := exo a C (some dx)) h4
  have lw : ws.length = fs.length := by rw [hd.length]; exact hl
  refine ⟨_, n1.trans n2, r2, .err upd_same (by rw [upd_ne h3, upd_same]) ⟨T, fun g hg => hfs g (List.mem_reverse.mp hg)⟩ ?_ ?_⟩
  · unfold mkF
    rw [List.map_reverse, List.map_fst_zip (by omega)]
  · unfold mkF
    rw [List.map_reverse, List.map_snd_zip (by omega)]
    exact ((hd.mono n1.fz n1.pre).mono n2.fz n2.pre).reverse
theorem se_mk (hF : Fam X K mg) (hC : Cal X P w base kk W) (T : ErrOk P w K mg base k nm C fs ks pm) (hk : k + 1 ≤ kk) (hg : ∀ j, Gl (X j) nm) (ha : SA X K mg W (e :: es) fa) (hdb : (nm == ("__debug__" : Str)) = false := by decide)
    (he : ∀ j, starEach (e :: es) (X j).env = (false, eval e (X j).env) :: starEach es (X j).env := by intro _; rfl) (hpl : ∀ j, (backTo pos (starEach es (X j).env)).any (·.1) = false := by intro _; rfl) :
    SE X K mg W (.Call (.Name nm p) (e :: es) [] pos) (eMk C fs fa) := by
  obtain ⟨t, pt, q0⟩ := ha.ex
  obtain ⟨fI, fd, ps, h1, h2, h3, h4, h5⟩ := T.ex
  refine ⟨⟨tMkE C fs.length 0 fs (fun vs _ => vs) t tNil, fun j => ?_, fun σ H env hp F m r n r' hp' e Q q => ?_⟩⟩
  · refine pe_mkE (k := k) (fI := fI) (fd := fd) (ps := ps) (np := fs.length + 1) (g := fun us _ => us) (gV := fun vs _ => vs) ?_ ?_ ?_ ?_ ?_ ((hC.r j).mono hk) ?_ (fun a vs zs l1 _ => ⟨rfl, by rw [l1]⟩) (hg j) ?_ (pt j) hdb (he j) (hpl j)
    · rw [hF.k j]; exact T.ec
    · rw [hF.k j]; exact h1
    · rw [hF.k j]; exact h2
    · rw [hF.k j]; exact T.flds
    · rw [hC.p j, hC.w j, hC.b j, hF.k j, hF.g j]; exact h3
    · rw [hF.k j]; exact h4
    · rw [hF.g j]; exact T.glob
  · show t σ H fun vs H1 => vs.length = fs.length ∧ 0 = 0 ∧ fs.length ≤ 1000 ∧ _
    rcases bnd_val e with ⟨x, k1, rfl⟩ | ⟨ds, hp1, k1, k2⟩
    · exact q0 σ H env hp F m r n _ _ k1 _ q
    refine q0 σ H env hp F m r n _ _ k1 _ fun vs F1 m1 H1 n1 r1 d1 => ?_
    try simp only at k2
    split at k2
    · rename_i hl
      cases k2
      refine ⟨by rw [d1.length]; exact hl, rfl, by have := T.few; omega, fun a dx z1 z2 z3 => ?_⟩
      obtain ⟨F2, n2, r2, d2⟩ := new_err (fs := fs) r1 T.ec T.flds z1 z2 z3 d1 hl
      exact q _ F2 m1 _ (n1.trans n2) r2 d2
    · cases k2
theorem se_mkK (hF : Fam X K mg) (hC : Cal X P w base kk W) (T : ErrOk P w K mg base k nm C fs ks pm) (hk : k + 1 ≤ kk) (hg : ∀ j, Gl (X j) nm) (ha : SK X K mg W kws fa) (hdb : (nm == ("__debug__" : Str)) = false := by decide)
    (hall : ∀ j, (backToKw pos (keywordEach kws (X j).env)).all (·.1.isSome) = true := by intro _; rfl) (hks : ∀ j, (backToKw pos (keywordEach kws (X j).env)).filterMap (·.1) = ks := by intro _; rfl) (hpl : ∀ j, ((backTo pos (starEach [] (X j).env)).any (·.1) || (backToKw pos (keywordEach kws (X j).env)).any (·.1.isNone)) = false := by intro _; rfl) :
    SE X K mg W (.Call (.Name nm p) [] kws pos) (eMkK C fs ks.length pm fa) := by
  obtain ⟨t, pt, q0⟩ := ha.ex
  obtain ⟨fI, fd, ps, h1, h2, h3, h4, h5⟩ := T.ex
  refine ⟨⟨tMkE C 0 ks.length fs (fun vs zs => vs ++ pm zs) tNil t, fun j => ?_, fun σ H env hp F m r n r' hp' e Q q => ?_⟩⟩
  · refine pe_mkEK (k := k) (fI := fI) (fd := fd) (ps := ps) (np := fs.length + 1) (g := fun us ws => us ++ pm ws) (gV := fun vs zs => vs ++ pm zs) ?_ ?_ ?_ ?_ ?_ ((hC.r j).mono hk) ?_ (fun a vs zs l1 l2 => ⟨rfl, ?_⟩) (hg j) ?_ (pt j) (hall j) (hks j) hdb (hpl j)
    · rw [hF.k j]; exact T.ec
    · rw [hF.k j]; exact h1
    · rw [hF.k j]; exact h2
    · rw [hF.k j]; exact T.flds
    · rw [hC.p j, hC.w j, hC.b j, hF.k j, hF.g j]; exact h3
    · rw [hF.k j]; exact h5
    · rw [List.length_append, l1, T.perm zs l2]; omega
    · rw [hF.g j]; exact T.glob
  · show t σ H fun zs H1 => [].length = 0 ∧ zs.length = ks.length ∧ 0 ≤ 1000 ∧ _
    rcases bnd_val e with ⟨x, k1, rfl⟩ | ⟨ds, hp1, k1, k2⟩
    · exact q0 σ H env hp F m r n _ _ k1 _ q
    refine q0 σ H env hp F m r n _ _ k1 _ fun vs F1 m1 H1 n1 r1 d1 => ?_
    try simp only at k2
    split at k2
    · rename_i hl
      cases k2
      refine ⟨rfl, by rw [d1.length]; exact hl, Nat.zero_le _, fun a dx z1 z2 z3 => ?_⟩
      obtain ⟨F2, n2, r2, d2⟩ := new_err (fs := fs) r1 T.ec T.flds z1 z2 z3 (T.rel d1 hl) (T.perm ds hl)
      exact q _ F2 m1 _ (n1.trans n2) r2 d2
    · cases k2
theorem se_mk0 (hF : Fam X K mg) (T : E0 K C) (TX : ExcC K C) (hm : mg nm = some (.ref C)) (hg : ∀ j, Gl (X j) nm) (hdb : (nm == ("__debug__" : Str)) = false := by decide) : SE X K mg W (.Call (.Name nm p) [] [] pos) (ret (.err C [] [])) := by
  refine ⟨⟨tMk0 C, fun j => pe_mk0 (by rw [hF.k j]; exact T) (hg j) (by rw [hF.g j]; exact hm) hdb, fun σ H env hp F m r n r' hp' e Q q => ?_⟩⟩
  cases e
  intro a ha
  obtain ⟨r1, n1⟩ := r.fresh (o := exo a C none) ha
  exact q _ _ m _ n1 r1 (.er0 upd_same TX)
theorem fld_get {f : Str} : ∀ {gs : List (Str × V)} {ns : List Str} {ds : List D} {z : D}, gs.map (·.1) = ns → Dns K F m (gs.map (·.2)) ds → fldOf f ns ds = some z → ∃ v, gs.lookup f = some v ∧ Dn K F m v z := by
  intro gs
  induction gs with
  | nil =>
    intro ns ds z e h q
    subst e
    simp [fldOf] at q
  | cons g gs ih =>
    intro ns ds z e h q
    obtain ⟨g1, g2⟩ := g
    subst e
    cases h with
    | cons h1 h2 =>
      rw [lookup_put]
      simp only [List.map_cons, fldOf] at q
      by_cases hf : f = g1
      · rw [if_pos hf] at q ⊢
        cases q
        exact ⟨_, rfl, h1⟩
      · rw [if_neg hf] at q ⊢
        exact ih rfl h2 q
theorem fld_in {f : Str} : ∀ {ns : List Str} {ds : List D} {z : D}, fldOf f ns ds = some z → f ∈ ns := by
  intro ns
  induction ns with
  | nil => intro ds z q; simp [fldOf] at q
  | cons n ns ih =>
    intro ds z q
    cases ds with
    | nil => simp [fldOf] at q
    | cons d ds =>
      simp only [fldOf] at q
      by_cases hf : f = n
      · rw [hf]; exact List.mem_cons_self ..
      · rw [if_neg hf] at q
        exact List.mem_cons_of_mem _ (ih q)
theorem se_fld {f : Str} (hF : Fam X K mg) (he : SE X K mg W e fe)
    (hb : ∀ j, attributeBase e f (X j).env (eval e (X j).env) = eval e (X j).env := by intro _; rfl) : SE X K mg W (.Attribute e f pos) (eFld f fe) := by
  obtain ⟨t, pt, q0⟩ := he.ex
  refine ⟨⟨tFld f K t, fun j => by rw [← hF.k j]; exact pe_fld (pt j) (hb j), fun σ H env hp F m r n r' hp' e Q q => ?_⟩⟩
  show t σ H fun x H1 => _
  rcases bnd_val e with ⟨x, k1, rfl⟩ | ⟨d, hp1, k1, k2⟩
  · exact q0 σ H env hp F m r n _ _ k1 _ q
  refine q0 σ H env hp F m r n _ _ k1 _ fun v F1 m1 H1 n1 r1 d1 => ?_
  try simp only at k2
  split at k2
  · split at k2
    · rename_i z hz
      cases k2
      cases d1 with
      | err h1 h2 h3 h4 h5 =>
        obtain ⟨v, l, dv⟩ := fld_get h4 h5 hz
        exact ⟨_, _, _, _, v, rfl, r1.sub _ _ h1, r1.sub _ _ h2, h3.1, h3.2 f (fld_in hz), l, q _ F1 m1 H1 n1 r1 dv⟩
      | er0 h1 h2 => simp [fldOf] at hz
    · cases k2
  · cases k2
theorem lookA_mem {c : Nat} {b : Bool} : ∀ {l : List (Nat × Bool)}, lookA c l = some b → (c, b) ∈ l := by
  intro l
  induction l with
  | nil => intro h; cases h
  | cons x l ih =>
    intro h
    obtain ⟨a, b'⟩ := x
    unfold lookA at h
    split at h
    · rename_i e
      cases h
      subst e
      exact List.mem_cons_self ..
    · exact List.mem_cons_of_mem _ (ih h)
/-- what is common to the two ways that the class is named -/
theorem isX_read {t : TE} {tb : List (Nat × Bool)} {c : V} {cv : Value} {σ : L2.St} {env : Ev} (q0 : ∀ r hp', fe env hp = some (r, hp') → ∀ Q, OutE K mg W F m σ H hp' Q r → t σ H Q) (hcv : ∀ u, RelV c u → u = cv) (ht : ∀ x ∈ tb, PySem.W.kitOne K (.ref x.1) cv = some x.2)
    {r' : Res D} (e : eIsX tb fe env hp = some (r', hp')) {Q : VK} (q : OutE K mg W F m σ H hp' Q r') : t σ H fun x H1 => rIsX K [x, c] H1 Q := by
  rcases bnd_val e with ⟨x, k1, rfl⟩ | ⟨d, hp1, k1, k2⟩
  · exact q0 _ _ k1 _ q
  refine q0 _ _ k1 _ fun v F1 m1 H1 n1 r1 d1 => ?_
  try simp only at k2
  split at k2
  · split at k2
    · rename_i b hb
      cases k2
      have ht' := ht _ (lookA_mem hb)
      cases d1 with
      | err h1 h2 h3 h4 h5 => exact ⟨_, _, c, cv, b, rfl, .inr ⟨_, _, r1.sub _ _ h1, r1.sub _ _ h2⟩, h3.1.is, hcv, ht', q _ F1 m1 H1 n1 r1 (.bl b)⟩
      | er0 h1 h2 => exact ⟨_, _, c, cv, b, rfl, .inl (r1.sub _ _ h1), h2, hcv, ht', q _ F1 m1 H1 n1 r1 (.bl b)⟩
    · cases k2
  · cases k2
/-- T a built-in class -/
theorem se_isXT {T : String} {x : Str} {tb : List (Nat × Bool)} (hF : Fam X K mg) (hm : mg "isinstance" = none) (hm2 : mg x = none) (hv : bootBuiltins x = some (.type T)) (hg : ∀ j, Gl (X j) "isinstance") (hg2 : ∀ j, Gl (X j) x) (ha : SE X K mg W e fe) (ht : ∀ y ∈ tb, PySem.W.kitOne K (.ref y.1) (.type T) = some y.2)
    (hn : x ≠ "__name__" := by decide) (hdb : (x == ("__debug__" : Str)) = false := by decide)
    (h1 : ∀ j, starEach [e, .Name x p2] (X j).env = (false, eval e (X j).env) :: starEach [.Name x p2] (X j).env := by intro _; rfl) (h2 : ∀ j, starEach [.Name x p2] (X j).env = (false, eval (.Name x p2) (X j).env) :: starEach [] (X j).env := by intro _; rfl)
    (h3 : ∀ j, (backTo pos (starEach [.Name x p2] (X j).env)).any (·.1) = false := by intro _; rfl) :
    SE X K mg W (.Call (.Name "isinstance" p) [e, .Name x p2] [] pos) (eIsX tb fe) := by
  obtain ⟨t, pt, q0⟩ := ha.ex
  refine ⟨⟨tCB (rIsX K) (tCons t (tCons (tC (.ty T)) tNil)), fun j => ?_, fun σ H env hp F m r n r' hp' e Q q => ?_⟩⟩
  · exact pe_callB (by rw [← hF.k j]; exact call_isX) (hg j) (by rw [hF.g j]; exact hm) (by decide +kernel) (pa_cons (pt j) (pa_cons (pe_bltn (hg2 j) (by rw [hF.g j]; exact hm2) hv rfl hn hdb) pa_nil (h2 j)) (h1 j)) (by decide) (by decide) (h1 j) (h3 j)
  · exact isX_read (c := .ty T) (q0 σ H env hp F m r n) (fun u z => z) ht e q
/-- T an own class -/
theorem se_isXC {x : Str} {C' : Addr} {tb : List (Nat × Bool)} (hF : Fam X K mg) (hm : mg "isinstance" = none) (hm2 : mg x = some (.ref C')) (hg : ∀ j, Gl (X j) "isinstance") (hg2 : ∀ j, Gl (X j) x) (ha : SE X K mg W e fe) (ht : ∀ y ∈ tb, PySem.W.kitOne K (.ref y.1) (.ref C') = some y.2)
    (hdb : (x == ("__debug__" : Str)) = false := by decide)
    (h1 : ∀ j, starEach [e, .Name x p2] (X j).env = (false, eval e (X j).env) :: starEach [.Name x p2] (X j).env := by intro _; rfl) (h2 : ∀ j, starEach [.Name x p2] (X j).env = (false, eval (.Name x p2) (X j).env) :: starEach [] (X j).env := by intro _; rfl)
    (h3 : ∀ j, (backTo pos (starEach [.Name x p2] (X j).env)).any (·.1) = false := by intro _; rfl) :
    SE X K mg W (.Call (.Name "isinstance" p) [e, .Name x p2] [] pos) (eIsX tb fe) := by
  obtain ⟨t, pt, q0⟩ := ha.ex
  refine ⟨⟨tCB (rIsX K) (tCons t (tCons (tC (.ref C')) tNil)), fun j => ?_, fun σ H env hp F m r n r' hp' e Q q => ?_⟩⟩
  · exact pe_callB (by rw [← hF.k j]; exact call_isX) (hg j) (by rw [hF.g j]; exact hm) (by decide +kernel) (pa_cons (pt j) (pa_cons (pe_glob (hg2 j) (by rw [hF.g j]; exact hm2) rfl hdb) pa_nil (h2 j)) (h1 j)) (by decide) (by decide) (h1 j) (h3 j)
  · exact isX_read (c := .ref C') (q0 σ H env hp F m r n) (fun u z => z) ht e q
end
end MP
end

section
set_option maxRecDepth 100000
set_option maxHeartbeats 1000000
/-! MP12: what the written part says, by one look each; the law's own surroundings. -/
namespace MP
open PySem PySem.Spec PyProof.Rows L2 MX

/-- the def nm, the i-th statement of the text -/
structure FnAt (K : PySem.W.Frag) (nm : Str) (st : Stmt) : Prop where
  ex : ∃ (f : Addr) (oc : Value) (od : Option Addr) (kV doc pm : Value) (an : Option Addr) (cdv ct : Value) (osl : Array (Option Value)), PySem.W.nsIn K mainGlobals nm = some (some (.ref f)) ∧
    K.lookup f = some ⟨oc, od, .func (PySem.W.fnOf nm nm (defArgs st) (defBody st) (defScope st) .none kV doc pm an cdv ct), osl⟩ ∧ PySem.W.codeIn K cdv nm = true ∧ PySem.W.keepIn K (.ref f) = true
theorem fnAt_mk {K : PySem.W.Frag} {nm : Str} {st : Stmt} {f : Addr} {oc : Value} {od an : Option Addr} {osl : Array (Option Value)} {kV doc pm cdv ct : Value} (a : PySem.W.nsIn K mainGlobals nm = some (some (.ref f)))
    (l : K.lookup f = some ⟨oc, od, .func (PySem.W.fnOf nm nm (defArgs st) (defBody st) (defScope st) .none kV doc pm an cdv ct), osl⟩) (c : PySem.W.codeIn K cdv nm = true) (k : PySem.W.keepIn K (.ref f) = true) : FnAt K nm st := ⟨⟨f, oc, od, kV, doc, pm, an, cdv, ct, osl, a, l, c, k⟩⟩
/-- the __init__ of the class at C -/
structure InitAt (K : PySem.W.Frag) (C : Addr) (qual : Str) (st : Stmt) : Prop where
  ex : ∃ (f : Addr) (oc : Value) (od : Option Addr) (kV doc pm : Value) (an : Option Addr) (cdv ct : Value) (osl : Array (Option Value)), PySem.W.findIn K (.ref C) "__init__" = some (some (.ref f)) ∧ PySem.W.typeIn K (.ref f) = some (.type "function") ∧
    K.lookup f = some ⟨oc, od, .func (PySem.W.fnOf "__init__" qual (defArgs st) (defBody st) (defScope st) .none kV doc pm an cdv ct), osl⟩ ∧ PySem.W.codeIn K cdv qual = true ∧ PySem.W.keepIn K (.ref f) = true
theorem initAt_mk {K : PySem.W.Frag} {C : Addr} {qual : Str} {st : Stmt} {f : Addr} {oc : Value} {od an : Option Addr} {osl : Array (Option Value)} {kV doc pm cdv ct : Value} (a : PySem.W.findIn K (.ref C) "__init__" = some (some (.ref f))) (t : PySem.W.typeIn K (.ref f) = some (.type "function"))
    (l : K.lookup f = some ⟨oc, od, .func (PySem.W.fnOf "__init__" qual (defArgs st) (defBody st) (defScope st) .none kV doc pm an cdv ct), osl⟩) (c : PySem.W.codeIn K cdv qual = true) (k : PySem.W.keepIn K (.ref f) = true) : InitAt K C qual st := ⟨⟨f, oc, od, kV, doc, pm, an, cdv, ct, osl, a, t, l, c, k⟩⟩
/-- isinstance may ask the instances of the class at C -/
def isB (K : PySem.W.Frag) (C : Addr) : Bool := decide (PySem.W.findIn K (.ref C) "__getattribute__" = some (some (.builtin "BaseException.__getattribute__"))) && (decide (PySem.W.findIn K (.ref C) "__getattr__" = some none) && (decide (PySem.W.subIn K (.ref C) (.type "BaseException") = some true) &&
  (PySem.W.hasDictIn K C && (decide (PySem.W.findIn K (.ref C) "__class__" = some (some (.builtin "object.__class__"))) && (decide (PySem.W.specialIn K (.builtin "object.__class__") "__get__" = some (some (.builtin "getset_descriptor.__get__"))) && (decide (PySem.W.takesIn K (.builtin "object.__class__") = some true) && decide (PySem.W.mroIn K C (.type "object") = some true)))))))
theorem isB_ok {K : PySem.W.Frag} {C : Addr} (h : isB K C = true) : ExcC K C := by
  unfold isB at h
  simp only [Bool.and_eq_true, decide_eq_true_eq] at h
  obtain ⟨h1, h2, h3, h4, h5, h6, h7, h8⟩ := h
  exact ⟨h1, h2, h3, h4, h5, h6, h7, h8⟩
/-- the built-in class that an own error stands over -/
inductive Bs where
  | value | runtime | lookup | overflow
def Bs.chain : Bs → List Value
  | .value => [.type "ValueError", .type "Exception", .type "BaseException", .type "object"]
  | .runtime => [.type "RuntimeError", .type "Exception", .type "BaseException", .type "object"]
  | .lookup => [.type "LookupError", .type "Exception", .type "BaseException", .type "object"]
  | .overflow => [.type "OverflowError", .type "ArithmeticError", .type "Exception", .type "BaseException", .type "object"]
def Bs.newId : Bs → String
  | .value => "ValueError.__new__"
  | .runtime => "RuntimeError.__new__"
  | .lookup => "LookupError.__new__"
  | .overflow => "OverflowError.__new__"
theorem Bs.facts : ∀ b : Bs, ∃ B initId, ExcBaseFacts B b.newId initId b.chain ∧ StoreFacts B b.chain "object.__setattr__" "object"
  | .value => ⟨_, _, F.excBase_ValueError, F.store_ValueError⟩
  | .runtime => ⟨_, _, F.excBase_RuntimeError, F.store_RuntimeError⟩
  | .lookup => ⟨_, _, F.excBase_LookupError, F.store_LookupError⟩
  | .overflow => ⟨_, _, F.excBase_OverflowError, F.store_OverflowError⟩
/-- an own error class with its own __init__ that stores the fields fs -/
def ecB (K : PySem.W.Frag) (C : Addr) (b : Bs) (fs : List Str) : Bool := PySem.W.excInitIn K C b.chain b.newId && (PySem.W.excOver K C b.chain && (decide (PySem.W.findIn K (.ref C) "__setattr__" = some (some (.builtin "object.__setattr__"))) && (PySem.W.keepIn K (.ref C) && (isB K C && fs.all fun f => decide (PySem.W.findIn K (.ref C) f = some none)))))
theorem ecB_ok {K : PySem.W.Frag} {C : Addr} {b : Bs} {fs : List Str} (h : ecB K C b fs = true) : EC K C ∧ ∀ f ∈ fs, PySem.W.findIn K (.ref C) f = some none := by
  unfold ecB at h
  simp only [Bool.and_eq_true, decide_eq_true_eq, List.all_eq_true] at h
  obtain ⟨h1, h2, h3, h4, h5, h6⟩ := h
  obtain ⟨B, i, f1, f2⟩ := b.facts
  exact ⟨⟨⟨B, _, i, _, f1, f2, h1, h2⟩, h3, h4, isB_ok h5⟩, h6⟩
/-- .. without an own __init__ -/
def e0B (K : PySem.W.Frag) (C : Addr) (b : Bs) : Bool := PySem.W.excIn K C b.chain b.newId && (PySem.W.keepIn K (.ref C) && isB K C)
theorem e0B_ok {K : PySem.W.Frag} {C : Addr} {b : Bs} (h : e0B K C b = true) : E0 K C ∧ ExcC K C := by
  unfold e0B at h
  simp only [Bool.and_eq_true] at h
  obtain ⟨h1, h2, h3⟩ := h
  obtain ⟨B, i, f1, f2⟩ := b.facts
  exact ⟨⟨⟨B, _, i, _, f1, h1⟩, h2⟩, isB_ok h3⟩
/-- a table of isinstance's answers -/
def isTab (K : PySem.W.Frag) (cv : Value) (tb : List (Nat × Bool)) : Bool := tb.all fun x => decide (PySem.W.kitOne K (.ref x.1) cv = some x.2)
theorem isTab_ok {K : PySem.W.Frag} {cv : Value} {tb : List (Nat × Bool)} (h : isTab K cv tb = true) : ∀ x ∈ tb, PySem.W.kitOne K (.ref x.1) cv = some x.2 := by
  unfold isTab at h
  simp only [List.all_eq_true, decide_eq_true_eq] at h
  exact h
end MP
namespace MP
open PySem PySem.Spec PyProof.Rows L2 MX
section
variable {P : Program} {w : World} {K : PySem.W.Frag} {mg : Str → Option Value} {base : Heap}
theorem kbn_of {fd : FuncData} {ps : List Str} {n : Nat} {ks : List Str} {g : List Value → List Value → List Value} {gV : List V → List V → List V} (h : ∀ us ws : List Value, us.length = n → ws.length = ks.length → bindArgs fd ⟨us, ks.zip ws⟩ = pure (ps.zip (g us ws)))
    (r : ∀ {vs : List V} {us : List Value} {zs : List V} {ws : List Value}, Vals vs us → Vals zs ws → Vals (gV vs zs) (g us ws)) : KBn K fd ps n ks g gV := ⟨fun s us ws _ l1 l2 => .of_eq (h us ws l1 l2), r⟩
/-- class nm: def __init__(self, y): self.f = y -/
theorem errOk_one {nm qual self y f : Str} {st : Stmt} {C : Addr} {b : Bs} {p1 p2 p3 p4 : Pos} (g : mg nm = some (.ref C)) (q : ecB K C b [f] = true) (I : InitAt K C qual st) (S : FnScope [self, y] [self, y] (defScope st)) (hb : defBody st = [.Assign [.Attribute (.Name self p1) f p2] (.Name y p3) p4])
    (v0 : Vis (defScope st) self) (v1 : Vis (defScope st) y)
    (bp : ∀ (kV doc pm : Value) (an : Option Addr) (cdv ct u v : Value), bindArgs (PySem.W.fnOf "__init__" qual (defArgs st) (defBody st) (defScope st) .none kV doc pm an cdv ct) ⟨[u, v], []⟩ = pure [(self, u), (y, v)])
    (bk : ∀ (kV doc pm : Value) (an : Option Addr) (cdv ct u v : Value), bindArgs (PySem.W.fnOf "__init__" qual (defArgs st) (defBody st) (defScope st) .none kV doc pm an cdv ct) ⟨[u], [(y, v)]⟩ = pure [(self, u), (y, v)])
    (d0 : (self == ("__debug__" : Str)) = false := by decide) (d1 : (y == ("__debug__" : Str)) = false := by decide) (c0 : (self == ("__classdict__" : Str)) = false := by decide) (c1 : (y == ("__classdict__" : Str)) = false := by decide) :
    ErrOk P w K mg base 1 nm C [f] [y] (fun l => l) := by
  obtain ⟨e1, e2⟩ := ecB_ok q
  obtain ⟨fI, oc, od, kV, doc, pm, an, cdv, ct, osl, h1, h2, h3, h4, h5⟩ := I.ex
  refine ⟨g, e1, e2, by simp, ⟨fI, _, [self, y], h1, h2, init_one (fun_mk h3 h4 h5) S hb v0 v1 d0 d1 c0 c1, kbn_of (fun us ws l1 l2 => ?_) (fun r _ => r), kbn_of (fun us ws l1 l2 => ?_) (fun r r' => r.append r')⟩, fun l h => h, fun h _ => h⟩
  · match us, ws, l1, l2 with
    | [u, v], [], _, _ => exact bp kV doc pm an cdv ct u v
  · match us, ws, l1, l2 with
    | [u], [v], _, _ => exact bk kV doc pm an cdv ct u v
/-- class nm: def __init__(self, y, z): self.f = y; self.g = z; its keywords the other way round -/
theorem errOk_two {nm qual self y z f f' : Str} {st : Stmt} {C : Addr} {b : Bs} {p1 p2 p3 p4 q1 q2 q3 q4 : Pos} (g : mg nm = some (.ref C)) (q : ecB K C b [f, f'] = true) (I : InitAt K C qual st) (S : FnScope [self, y, z] [self, y, z] (defScope st))
    (hb : defBody st = [.Assign [.Attribute (.Name self p1) f p2] (.Name y p3) p4, .Assign [.Attribute (.Name self q1) f' q2] (.Name z q3) q4]) (v0 : Vis (defScope st) self) (v1 : Vis (defScope st) y) (v2 : Vis (defScope st) z)
    (bp : ∀ (kV doc pm : Value) (an : Option Addr) (cdv ct u v v' : Value), bindArgs (PySem.W.fnOf "__init__" qual (defArgs st) (defBody st) (defScope st) .none kV doc pm an cdv ct) ⟨[u, v, v'], []⟩ = pure [(self, u), (y, v), (z, v')])
    (bk : ∀ (kV doc pm : Value) (an : Option Addr) (cdv ct u v v' : Value), bindArgs (PySem.W.fnOf "__init__" qual (defArgs st) (defBody st) (defScope st) .none kV doc pm an cdv ct) ⟨[u], [(z, v'), (y, v)]⟩ = pure [(self, u), (y, v), (z, v')])
    (d0 : (self == ("__debug__" : Str)) = false := by decide) (d1 : (y == ("__debug__" : Str)) = false := by decide) (d2 : (z == ("__debug__" : Str)) = false := by decide) (c0 : (self == ("__classdict__" : Str)) = false := by decide) (c1 : (y == ("__classdict__" : Str)) = false := by decide) (c2 : (z == ("__classdict__" : Str)) = false := by decide) :
    ErrOk P w K mg base 1 nm C [f, f'] [z, y] List.reverse := by
  obtain ⟨e1, e2⟩ := ecB_ok q
  obtain ⟨fI, oc, od, kV, doc, pm, an, cdv, ct, osl, h1, h2, h3, h4, h5⟩ := I.ex
  refine ⟨g, e1, e2, by simp, ⟨fI, _, [self, y, z], h1, h2, init_two (fun_mk h3 h4 h5) S hb v0 v1 v2 d0 d1 d2 c0 c1 c2, kbn_of (fun us ws l1 l2 => ?_) (fun r _ => r), kbn_of (g := fun us ws => us ++ ws.reverse) (gV := fun vs zs => vs ++ zs.reverse) (fun us ws l1 l2 => ?_) (fun r r' => r.append r'.reverse)⟩, fun l h => ?_, fun h _ => h.reverse⟩
  · match us, ws, l1, l2 with
    | [u, v, v'], [], _, _ => exact bp kV doc pm an cdv ct u v v'
  · match us, ws, l1, l2 with
    | [u], [v', v], _, _ => exact bk kV doc pm an cdv ct u v v'
  · rw [List.length_reverse]; exact h
theorem fnAt_ok {nm : Str} {st : Stmt} {hh : Heap} (h : FnAt K nm st) (X : K.In hh) (G : hh.Ns mainGlobals mg) : ∃ (a : Addr) (fd : FuncData), Fun K nm nm st a fd ∧ mg nm = some (.ref a) ∧
    ∀ ps : List Str, (∀ (kV doc pm : Value) (an : Option Addr) (cdv ct : Value) (us : List Value), us.length = ps.length → bindArgs (PySem.W.fnOf nm nm (defArgs st) (defBody st) (defScope st) .none kV doc pm an cdv ct) ⟨us, []⟩ = pure (ps.zip us)) → Binds K fd ps [] := by
  obtain ⟨f, oc, od, kV, doc, pm, an, cdv, ct, osl, h1, h2, h3, h4⟩ := h.ex
  exact ⟨f, _, fun_mk h2 h3 h4, PySem.W.mg_of X G h1, fun ps z => .all (z kV doc pm an cdv ct)⟩
theorem room_law {k : Nat} (h : k ≤ 60) (env : Env) : Room k (callerA.deeper env) := Room.mono (Room.deeper (k := 60) ⟨rfl, by decide, by decide⟩ env) h
theorem units_law (env : Env) : (callerA.deeper env).units + 128 < cLine := by
  have h := (room_law (k := 1) (by decide) env).un
  omega
end
end MP
end

section
set_option maxRecDepth 100000
set_option maxHeartbeats 1000000
/-! MP13: the plain functions by themselves. -/
namespace MP
open PySem PySem.Spec
theorem toPs_ints : ∀ xs : List Int, D.toPs (xs.map .int) = some (xs.map .int)
  | [] => by simp [D.toPs]
  | x :: xs => by simp [D.toPs, D.toP, toPs_ints xs]
theorem canLay_ints : ∀ xs : List Int, PyData.canLayAll0 (xs.map .int) = true
  | [] => by simp [PyData.canLayAll0]
  | x :: xs => by simp [PyData.canLayAll0, PyData.canLay0, canLay_ints xs]
theorem depth_ints : ∀ xs : List Int, PyData.depthAll (xs.map .int) = 0
  | [] => by simp [PyData.depthAll]
  | x :: xs => by simp [PyData.depthAll, PyData.depth, depth_ints xs]
theorem shaped_ints (xs : List Int) : SeqAt.shaped (.list (xs.map .int)) = true := by
  unfold SeqAt.shaped
  simp [PyData.canLay0, canLay_ints, PyData.depth, depth_ints]
theorem olds_ints (n : Nat) : ∀ xs : List Int, oldDs n (xs.map .int) = true
  | [] => by simp [oldDs]
  | x :: xs => by simp [oldDs, oldD, olds_ints n xs]
theorem keptTo_refl (h : EH) : keptTo h.length h h = true := by
  unfold keptTo
  rw [List.all_eq_true]
  intro i hi
  have hl : i < h.length := List.mem_range.mp hi
  rw [List.getElem?_eq_getElem hl]
  simp [D.beqs_refl]
theorem keptTo_set {h : EH} {p : Nat} {ys : List D} (o : oldDs h.length ys = true) : keptTo h.length h (h.set p ys) = true := by
  unfold keptTo
  rw [List.all_eq_true]
  intro i hi
  have hl : i < h.length := List.mem_range.mp hi
  rw [List.getElem?_eq_getElem hl, List.getElem?_set]
  by_cases e : p = i
  · subst e
    simp [hl, o]
  · simp [e, List.getElem?_eq_getElem hl, D.beqs_refl]
/-- a def that tells an old value and changes nothing, or one list -/
theorem runDef_ret {N np : Nat} {body : FS} {ds : List D} {hp hp' : EH} {d d' : D} {env : Ev} (hl : ds.length = np) (hb : body (ds.map some ++ List.replicate (N - np) none) hp = some (.ret d, env, hp')) (k : keptTo hp.length hp hp' = true) (hd : handed hp.length hp' d = some d') (ht : hp'.take hp.length = hp') :
    runDef N np body ds hp = some (.val d', hp') := by
  unfold runDef
  rw [if_pos hl, hb]
  simp only
  rw [if_pos k, hd, ht]
theorem handed_int (n : Nat) (h : EH) (i : Int) : handed n h (.int i) = some (.int i) := by simp [handed, oldD]
theorem handed_bl (n : Nat) (h : EH) (i : Bool) : handed n h (.bl i) = some (.bl i) := by simp [handed, oldD]
theorem handed_old {n : Nat} {h : EH} {d : D} (o : oldD n d = true) : handed n h d = some d := by
  cases d with
  | obj i =>
    have hi : i < n := by simpa [oldD] using o
    simp [handed, hi]
  | _ => simp [handed, o]
theorem olds_mem {n : Nat} : ∀ {ds : List D} {d : D}, oldDs n ds = true → d ∈ ds → oldD n d = true
  | x :: xs, d, o, h => by
    have o' : oldD n x = true ∧ oldDs n xs = true := by simpa [oldDs] using o
    rcases List.mem_cons.mp h with rfl | h
    · exact o'.1
    · exact olds_mem o'.2 h
theorem atI_mem {ds : List D} {i : Int} (h0 : 0 ≤ i) (h1 : i < ds.length) : ∃ d, d ∈ ds ∧ L2.atI ds i = some d := by
  unfold L2.atI L2.ixN
  rw [if_pos h0, if_pos h1]
  have hl : i.toNat < ds.length := by omega
  exact ⟨ds[i.toNat], List.getElem_mem hl, by simp [List.getElem?_eq_getElem hl]⟩
/-- no change -/
theorem runDef_same {N np : Nat} {body : FS} {ds : List D} {hp : EH} {d d' : D} {env : Ev} (hl : ds.length = np) (hb : body (ds.map some ++ List.replicate (N - np) none) hp = some (.ret d, env, hp)) (hd : handed hp.length hp d = some d') :
    runDef N np body ds hp = some (.val d', hp) := runDef_ret hl hb (keptTo_refl hp) hd (List.take_length ..)
theorem turns_nil {g : D → Ev → Option Ev} {body : FS} {env : Ev} {hp : EH} : fTurns g yes body [] env hp = some (.nxt, env, hp) := by
  unfold fTurns
  rfl
theorem turns_cons {g : D → Ev → Option Ev} {body : FS} {d : D} {ds : List D} {env env1 env2 : Ev} {hp hp2 : EH} (h1 : g d env = some env1) (h2 : body env1 hp = some (.nxt, env2, hp2)) : fTurns g yes body (d :: ds) env hp = fTurns g yes body ds env2 hp2 := by
  simp [fTurns, yes, h1, h2]
theorem atI_ints {xs : List Int} {i : Int} (h0 : 0 ≤ i) (h1 : i < xs.length) : ∃ c : Int, L2.atI (xs.map D.int) i = some (.int c) := by
  unfold L2.atI L2.ixN
  rw [if_pos h0, List.length_map, if_pos h1]
  refine ⟨xs[i.toNat]'(by omega), ?_⟩
  simp only [Option.bind_some]
  rw [List.getElem?_map, List.getElem?_eq_getElem (by omega)]
  rfl
theorem char_lt (c : Char) : c.toNat < 1114112 := by
  have h := c.valid
  have : c.val.toNat < 1114112 := by
    rcases h with h | ⟨_, h⟩
    · omega
    · exact h
  exact this
theorem strOk_of (s : String) : PyData.strOk (Str.ofString s) = true := by
  rw [Str.ofString_eq_toList]
  unfold PyData.strOk
  simp only [List.all_toArray, List.all_eq_true, List.mem_map, decide_eq_true_eq]
  rintro x ⟨c, _, rfl⟩
  exact char_lt c
theorem strOk_app {a b : Str} (ha : PyData.strOk a = true) (hb : PyData.strOk b = true) : PyData.strOk (a ++ b) = true := by
  unfold PyData.strOk at *
  rw [Str.cps_append, Array.all_append, ha, hb]
  rfl
theorem shown_int_len {c : Int} (h0 : 0 ≤ c) (h1 : c < 10000000000) : (PyData.shown (.int c)).length ≤ 10 := by
  obtain ⟨n, rfl⟩ := Int.eq_ofNat_of_zero_le h0
  have e : (PyData.shown (.int (n : Int))) = Str.ofString (toString ((n : Nat) : Int)) := by simp only [PyData.shown]
  rw [e]
  show (Str.ofString (toString ((n : Nat) : Int))).cps.size ≤ 10
  rw [← Array.length_toList, PySem.W.KIN.signs_num, List.length_map]
  exact toDigits_len_pow (by decide) (by decide) (by omega)
theorem shown_int_ok (c : Int) : PyData.strOk (PyData.shown (.int c)) = true := by
  have e : (PyData.shown (.int c)) = Str.ofString (toString c) := by simp only [PyData.shown]
  rw [e]
  exact strOk_of _
/-- what repr tells of p may be asked -/
def rg (p : PyData) : Bool := p.showable && (!p.hasDict && (decide (p.depth ≤ 64) && (decide (p.shown.length ≤ 16777216) && SeqAt.shaped (.str p.shown))))
theorem rg_pair {c : Int} {q : PyData} (h0 : 0 ≤ c) (h1 : c < 10000000000) (q1 : q.showable = true) (q2 : q.hasDict = false) (q3 : q.depth ≤ 63) (q4 : q.shown.length ≤ 1000) (q5 : PyData.strOk q.shown = true) : rg (.list [.int c, q]) = true := by
  have e : PyData.shown (.list [.int c, q]) = ("[" : Str) ++ (("" : String) : Str) ++ PyData.shown (.int c) ++ ((", " : String) : Str) ++ q.shown ++ ("]" : Str) := by
    simp only [PyData.shown, PyData.shownAll]
    rfl
  have lg : c.natAbs.log2 < 1920 := by
    by_cases z : c.natAbs = 0
    · rw [z]; decide
    · rw [Nat.log2_lt z]
      exact Nat.lt_of_lt_of_le (show c.natAbs < 2 ^ 64 by omega) (Nat.pow_le_pow_right (by decide) (by decide))
  have l1 := shown_int_len h0 h1
  have s1 : (("[" : Str)).length = 1 := by decide +kernel
  have s2 : ((("" : String) : Str)).length = 0 := by decide +kernel
  have s3 : (((", " : String) : Str)).length = 2 := by decide +kernel
  have s4 : (("]" : Str)).length = 1 := by decide +kernel
  have len : (PyData.shown (.list [.int c, q])).length ≤ 16777216 := by
    rw [e]
    simp only [Str.length_append]
    omega
  have ok : SeqAt.shaped (.str (PyData.shown (.list [.int c, q]))) = true := by
    unfold SeqAt.shaped
    rw [Bool.and_eq_true]
    refine ⟨?_, by simp [PyData.depth]⟩
    show PyData.strOk _ = true
    rw [e]
    exact strOk_app (strOk_app (strOk_app (strOk_app (strOk_app (strOk_of _) (strOk_of _)) (shown_int_ok c)) (strOk_of _)) q5) (strOk_of _)
  unfold rg
  simp [PyData.showable, PyData.showableAll, PyData.hasDict, PyData.hasDictAll, PyData.depth, PyData.depthAll, lg, q1, q2, len, ok]
  omega
theorem repr_ok {d : D} {p : PyData} (hp : EH) (h : toPh hp d = some p) (g : rg p = true) : ∃ S, gRepr [d] hp = some (.str S) ∧ gEq (.str S) (.str S) hp = some (.bl true) := by
  unfold rg at g
  simp only [Bool.and_eq_true, Bool.not_eq_true', decide_eq_true_eq] at g
  obtain ⟨g1, g2, g3, g4, g5⟩ := g
  refine ⟨p.shown, ?_, ?_⟩
  · simp [gRepr, h, g1, g2, g3, g4]
  · simp [gEq, dEq, toPh, D.toP, g5, PyData.eqv]
end MP
end

section
set_option maxRecDepth 100000
set_option maxHeartbeats 2000000
namespace Law
open PySem PySem.Spec PyProof.Rows L2 MP MX
def topS (i : Nat) : Stmt := PySem.Challenge.pw_leadalike_k86_errors_required.main.body.getD i (.Pass ⟨0, 0, 0, 0⟩)
section
variable {P : Program} {w : World} {K : PySem.W.Frag} {mg : Str → Option Value} {base : Heap}
def b__law_pen : FS :=
  (fRet (eObj (aCons (eCall gList (aCons (eCut (eVar 0) (ret none) (oSome (ret (.int 63)))) aNil)) (aCons (ret (.int 0)) (aCons (ret (.int 0)) aNil)))))
theorem sc__law_pen : FnScope ["script"] ["script"] (defScope (topS 15)) := ⟨rfl, rfl, rfl, by decide +kernel, rfl, by decide +kernel, by decide +kernel⟩
def m__law_pen : FF := runDefO 1 1 b__law_pen
theorem ok__law_pen {a : Addr} {fd : FuncData} (T : Fun K "_law_pen" "_law_pen" (topS 15) a fd) (hm : mg "_law_pen" = some (.ref a)) (hbi : Binds K fd ["script"] []) (b_list : mg "list" = none) : DefOk P w K mg base 1 "_law_pen" 1 m__law_pen :=
  def_ok (k := 0) (N := ["script"]) (ps := ["script"]) T sc__law_pen (.inr rfl) hm hbi fun cdv A outer s H E hF hC hO =>
  (show SB _ K mg _ (defBody (topS 15)) b__law_pen from
  (sb_one (ss_ret (se_obj (sa_cons (se_list hF b_list (fun _ => rfl) (sa_cons (se_slice hF (se_var (i := 0)) so_none (so_some se_int)) sa_nil)) (sa_cons se_int (sa_cons se_int sa_nil)))))))
def b__law_fresh : FS :=
  (fSeq (fPar (aCons (eBin gIx (eVar 0) (ret (.int 1))) (aCons (eBin gIx (eVar 0) (ret (.int 0))) aNil)) 1 2) (fSeq (fSto (eBin gAdd (eVar 1) (ret (.int 1))) (eVar 0) (ret (.int 1))) (fSeq (fAsg (eIf (MP.tB (eBin gNe (eVar 2) (eLst aNil))) (eBin gIx (eVar 2) (eBin gMod (eCall gInt (aCons (eVar 1) aNil)) (eCall gLen (aCons (eVar 2) aNil)))) (ret (.int 0))) (tgN 3)) (fSeq (fIf (MP.tAnd (MP.tB (eBin gLt (eVar 1) (eCall gLen (aCons (eVar 2) aNil)))) (MP.tB (eBin gGe (eVar 3) (eBin gPow (ret (.int 10)) (ret (.int 18)))))) (fRet (eBin gSub (eVar 3) (eBin gPow (ret (.int 10)) (ret (.int 18))))) fNext) (fSeq (fAsg (ret (.int 2305843009213693951)) (tgN 4)) (fSeq (fAsg (eBin gMod (eCall gInt (aCons (eBin gAdd (eBin gAdd (eBin gMul (eVar 3) (ret (.int 48271))) (eBin gMul (ret (.int 60013)) (eVar 1))) (ret (.int 31))) aNil)) (eVar 4)) (tgN 5)) (fSeq (fAsg (eVar 5) (tgN 6)) (fSeq (fFor (iRange1 (aCons (ret (.int 6)) aNil)) (tgN 7) (fSeq (fAsg (eBin gMod (eCall gInt (aCons (eBin gAdd (eBin gAdd (eBin gMul (eVar 5) (eVar 5)) (eBin gMul (eBin gMul (ret (.int 70139)) (eBin gAdd (eVar 7) (ret (.int 5)))) (eBin gAdd (eVar 1) (ret (.int 1))))) (eVar 3)) aNil)) (eVar 4)) (tgN 5)) (fAsg (eBin gAdd (eBin gMul (eVar 6) (eVar 4)) (eVar 5)) (tgN 6)))) (fRet (eVar 6))))))))))
theorem sc__law_fresh : FnScope ["pen", "seat", "given", "cell", "prime", "state", "found", "lap"] ["pen"] (defScope (topS 16)) := ⟨rfl, rfl, rfl, by decide +kernel, rfl, by decide +kernel, by decide +kernel⟩
def m__law_fresh : FF := runDef 8 1 b__law_fresh
theorem ok__law_fresh {a : Addr} {fd : FuncData} (T : Fun K "_law_fresh" "_law_fresh" (topS 16) a fd) (hm : mg "_law_fresh" = some (.ref a)) (hbi : Binds K fd ["pen"] []) (b_int : mg "int" = none) (b_len : mg "len" = none) (b_range : mg "range" = none) : DefOk P w K mg base 1 "_law_fresh" 1 m__law_fresh :=
  def_ok (k := 0) (N := ["pen", "seat", "given", "cell", "prime", "state", "found", "lap"]) (ps := ["pen"]) T sc__law_fresh (.inl rfl) hm hbi fun cdv A outer s H E hF hC hO =>
  (show SB _ K mg _ (defBody (topS 16)) b__law_fresh from
  (sb_cons (ss_par (i := 1) (j := 2) hF (sa_cons (se_item hF (se_var (i := 0)) se_int (fun _ _ => rfl)) (sa_cons (se_item hF (se_var (i := 0)) se_int (fun _ _ => rfl)) sa_nil)))
  (sb_cons (ss_sto hF (se_add hF (se_var (i := 1)) se_int) (se_var (i := 0)) se_int)
  (sb_cons (ss_set (i := 3) hF (se_if (st_ne hF hC (se_var (i := 2)) (se_lst sa_nil)) (se_item hF (se_var (i := 2)) (se_mod (se_int1 hF b_int (fun _ => rfl) (sa_cons (se_var (i := 1)) sa_nil)) (se_len hF b_len (fun _ => rfl) (sa_cons (se_var (i := 2)) sa_nil))) (fun _ _ => rfl)) se_int))
  (sb_cons (ss_if (SW.st (sw_and (st_lt (se_var (i := 1)) (se_len hF b_len (fun _ => rfl) (sa_cons (se_var (i := 2)) sa_nil))) (sw_and1 (st_ge (se_var (i := 3)) (se_pow se_int se_int))))) (sb_one (ss_ret (se_sub (se_var (i := 3)) (se_pow se_int se_int)))) sb_nil)
  (sb_cons (ss_set (i := 4) hF se_int)
  (sb_cons (ss_set (i := 5) hF (se_mod (se_int1 hF b_int (fun _ => rfl) (sa_cons (se_add hF (se_add hF (se_mul hF (se_var (i := 3)) se_int) (se_mul hF se_int (se_var (i := 1)))) se_int) sa_nil)) (se_var (i := 4))))
  (sb_cons (ss_set (i := 6) hF (se_var (i := 5)))
  (sb_cons (ss_for hF hO (si_range1 hF (fun _ => rfl) b_range (sa_cons se_int sa_nil)) (sg_name (i := 7) hF) (sb_cons (ss_set (i := 5) hF (se_mod (se_int1 hF b_int (fun _ => rfl) (sa_cons (se_add hF (se_add hF (se_mul hF (se_var (i := 5)) (se_var (i := 5))) (se_mul hF (se_mul hF se_int (se_add hF (se_var (i := 7)) se_int)) (se_add hF (se_var (i := 1)) se_int))) (se_var (i := 3))) sa_nil)) (se_var (i := 4))))
  (sb_one (ss_set (i := 6) hF (se_add hF (se_mul hF (se_var (i := 6)) (se_var (i := 4))) (se_var (i := 5)))))))
  (sb_one (ss_ret (se_var (i := 6)))))))))))))
def b__law_draw : FS :=
  (fSeq (fIf (MP.tB (eBin gLt (eBin gIx (eVar 0) (ret (.int 2))) (eVar 1))) (fSto (eFn m__law_fresh (aCons (eVar 0) aNil)) (eVar 0) (ret (.int 2))) fNext) (fSeq (fAsg (eBin gMod (eCall gInt (aCons (eBin gIx (eVar 0) (ret (.int 2))) aNil)) (eVar 1)) (tgN 2)) (fSeq (fSto (eBin gDiv (eCall gInt (aCons (eBin gIx (eVar 0) (ret (.int 2))) aNil)) (eVar 1)) (eVar 0) (ret (.int 2))) (fRet (eVar 2)))))
theorem sc__law_draw : FnScope ["pen", "bound", "digit"] ["pen", "bound"] (defScope (topS 17)) := ⟨rfl, rfl, rfl, by decide +kernel, rfl, by decide +kernel, by decide +kernel⟩
def m__law_draw : FF := runDef 3 2 b__law_draw
theorem ok__law_draw {a : Addr} {fd : FuncData} (T : Fun K "_law_draw" "_law_draw" (topS 17) a fd) (hm : mg "_law_draw" = some (.ref a)) (hbi : Binds K fd ["pen", "bound"] []) (d__law_fresh : DefOk P w K mg base 1 "_law_fresh" 1 m__law_fresh) (b_int : mg "int" = none) : DefOk P w K mg base 2 "_law_draw" 2 m__law_draw :=
  def_ok (k := 1) (N := ["pen", "bound", "digit"]) (ps := ["pen", "bound"]) T sc__law_draw (.inl rfl) hm hbi fun cdv A outer s H E hF hC hO =>
  (show SB _ K mg _ (defBody (topS 17)) b__law_draw from
  (sb_cons (ss_if (st_lt (se_item hF (se_var (i := 0)) se_int (fun _ _ => rfl)) (se_var (i := 1))) (sb_one (ss_sto hF (se_call hF hC d__law_fresh (by decide) (fun _ => rfl) (sa_cons (se_var (i := 0)) sa_nil)) (se_var (i := 0)) se_int)) sb_nil)
  (sb_cons (ss_set (i := 2) hF (se_mod (se_int1 hF b_int (fun _ => rfl) (sa_cons (se_item hF (se_var (i := 0)) se_int (fun _ _ => rfl)) sa_nil)) (se_var (i := 1))))
  (sb_cons (ss_sto hF (se_fdiv (se_int1 hF b_int (fun _ => rfl) (sa_cons (se_item hF (se_var (i := 0)) se_int (fun _ _ => rfl)) sa_nil)) (se_var (i := 1))) (se_var (i := 0)) se_int)
  (sb_one (ss_ret (se_var (i := 2))))))))
def b__law_one_of : FS :=
  (fRet (eBin gIx (eVar 1) (eFn m__law_draw (aCons (eVar 0) (aCons (eCall gLen (aCons (eVar 1) aNil)) aNil)))))
theorem sc__law_one_of : FnScope ["pen", "some"] ["pen", "some"] (defScope (topS 18)) := ⟨rfl, rfl, rfl, by decide +kernel, rfl, by decide +kernel, by decide +kernel⟩
def m__law_one_of : FF := runDef 2 2 b__law_one_of
theorem ok__law_one_of {a : Addr} {fd : FuncData} (T : Fun K "_law_one_of" "_law_one_of" (topS 18) a fd) (hm : mg "_law_one_of" = some (.ref a)) (hbi : Binds K fd ["pen", "some"] []) (d__law_draw : DefOk P w K mg base 2 "_law_draw" 2 m__law_draw) (b_len : mg "len" = none) : DefOk P w K mg base 3 "_law_one_of" 2 m__law_one_of :=
  def_ok (k := 2) (N := ["pen", "some"]) (ps := ["pen", "some"]) T sc__law_one_of (.inl rfl) hm hbi fun cdv A outer s H E hF hC hO =>
  (show SB _ K mg _ (defBody (topS 18)) b__law_one_of from
  (sb_one (ss_ret (se_item hF (se_var (i := 1)) (se_call hF hC d__law_draw (by decide) (fun _ => rfl) (sa_cons (se_var (i := 0)) (sa_cons (se_len hF b_len (fun _ => rfl) (sa_cons (se_var (i := 1)) sa_nil)) sa_nil))) (fun _ _ => rfl)))))
def tb_InvalidProgram : List (Nat × Bool) := [(31, true), (51, false), (71, false), (91, false), (111, false), (131, false), (144, false), (157, false), (170, false), (190, false), (210, false), (223, false), (243, false)]
def tb_InvalidFacts : List (Nat × Bool) := [(31, false), (51, true), (71, false), (91, false), (111, false), (131, false), (144, false), (157, false), (170, false), (190, false), (210, false), (223, false), (243, false)]
def tb_InvalidWishes : List (Nat × Bool) := [(31, false), (51, false), (71, true), (91, false), (111, false), (131, false), (144, false), (157, false), (170, false), (190, false), (210, false), (223, false), (243, false)]
def tb_InvalidOptions : List (Nat × Bool) := [(31, false), (51, false), (71, false), (91, true), (111, false), (131, false), (144, false), (157, false), (170, false), (190, false), (210, false), (223, false), (243, false)]
def tb_InvalidClaim : List (Nat × Bool) := [(31, false), (51, false), (71, false), (91, false), (111, true), (131, false), (144, false), (157, false), (170, false), (190, false), (210, false), (223, false), (243, false)]
def tb_ParseError : List (Nat × Bool) := [(31, false), (51, false), (71, false), (91, false), (111, false), (131, true), (144, false), (157, false), (170, false), (190, false), (210, false), (223, false), (243, false)]
def tb_NotThere : List (Nat × Bool) := [(31, false), (51, false), (71, false), (91, false), (111, false), (131, false), (144, true), (157, false), (170, false), (190, false), (210, false), (223, false), (243, false)]
def tb_AlreadyThere : List (Nat × Bool) := [(31, false), (51, false), (71, false), (91, false), (111, false), (131, false), (144, false), (157, true), (170, false), (190, false), (210, false), (223, false), (243, false)]
def tb_Full : List (Nat × Bool) := [(31, false), (51, false), (71, false), (91, false), (111, false), (131, false), (144, false), (157, false), (170, true), (190, false), (210, false), (223, false), (243, false)]
def tb_Unkept : List (Nat × Bool) := [(31, false), (51, false), (71, false), (91, false), (111, false), (131, false), (144, false), (157, false), (170, false), (190, true), (210, false), (223, false), (243, false)]
def tb_Refused : List (Nat × Bool) := [(31, false), (51, false), (71, false), (91, false), (111, false), (131, false), (144, false), (157, false), (170, false), (190, false), (210, true), (223, false), (243, false)]
def tb_NothingDone : List (Nat × Bool) := [(31, false), (51, false), (71, false), (91, false), (111, false), (131, false), (144, false), (157, false), (170, false), (190, false), (210, false), (223, true), (243, false)]
def tb_LimitExceeded : List (Nat × Bool) := [(31, false), (51, false), (71, false), (91, false), (111, false), (131, false), (144, false), (157, false), (170, false), (190, false), (210, false), (223, false), (243, true)]
def b__law_sort : FS :=
  (fSeq (fAsg (eLst (aCons (eIsX tb_InvalidProgram (eVar 0)) (aCons (eIsX tb_InvalidFacts (eVar 0)) (aCons (eIsX tb_InvalidWishes (eVar 0)) aNil)))) (tgN 1)) (fSeq (fAsg (eBin gAdd (eVar 1) (eLst (aCons (eIsX tb_InvalidOptions (eVar 0)) (aCons (eIsX tb_InvalidClaim (eVar 0)) (aCons (eIsX tb_ParseError (eVar 0)) aNil))))) (tgN 1)) (fSeq (fAsg (eBin gAdd (eVar 1) (eLst (aCons (eIsX tb_NotThere (eVar 0)) (aCons (eIsX tb_AlreadyThere (eVar 0)) (aCons (eIsX tb_Full (eVar 0)) aNil))))) (tgN 1)) (fSeq (fAsg (eBin gAdd (eVar 1) (eLst (aCons (eIsX tb_Unkept (eVar 0)) (aCons (eIsX tb_Refused (eVar 0)) (aCons (eIsX tb_NothingDone (eVar 0)) aNil))))) (tgN 1)) (fRet (eBin gAdd (eVar 1) (eLst (aCons (eIsX tb_LimitExceeded (eVar 0)) aNil))))))))
theorem sc__law_sort : FnScope ["e", "found"] ["e"] (defScope (topS 19)) := ⟨rfl, rfl, rfl, by decide +kernel, rfl, by decide +kernel, by decide +kernel⟩
def m__law_sort : FF := runDef 2 1 b__law_sort
theorem ok__law_sort {a : Addr} {fd : FuncData} (T : Fun K "_law_sort" "_law_sort" (topS 19) a fd) (hm : mg "_law_sort" = some (.ref a)) (hbi : Binds K fd ["e"] []) (b_isinstance : mg "isinstance" = none) (g_InvalidProgram : mg "InvalidProgram" = some (.ref 31)) (g_InvalidFacts : mg "InvalidFacts" = some (.ref 51)) (g_InvalidWishes : mg "InvalidWishes" = some (.ref 71)) (g_InvalidOptions : mg "InvalidOptions" = some (.ref 91)) (g_InvalidClaim : mg "InvalidClaim" = some (.ref 111)) (g_ParseError : mg "ParseError" = some (.ref 131)) (g_NotThere : mg "NotThere" = some (.ref 144)) (g_AlreadyThere : mg "AlreadyThere" = some (.ref 157)) (g_Full : mg "Full" = some (.ref 170)) (g_Unkept : mg "Unkept" = some (.ref 190)) (g_Refused : mg "Refused" = some (.ref 210)) (g_NothingDone : mg "NothingDone" = some (.ref 223)) (g_LimitExceeded : mg "LimitExceeded" = some (.ref 243)) (t_InvalidProgram : isTab K (.ref 31) tb_InvalidProgram = true) (t_InvalidFacts : isTab K (.ref 51) tb_InvalidFacts = true) (t_InvalidWishes : isTab K (.ref 71) tb_InvalidWishes = true) (t_InvalidOptions : isTab K (.ref 91) tb_InvalidOptions = true) (t_InvalidClaim : isTab K (.ref 111) tb_InvalidClaim = true) (t_ParseError : isTab K (.ref 131) tb_ParseError = true) (t_NotThere : isTab K (.ref 144) tb_NotThere = true) (t_AlreadyThere : isTab K (.ref 157) tb_AlreadyThere = true) (t_Full : isTab K (.ref 170) tb_Full = true) (t_Unkept : isTab K (.ref 190) tb_Unkept = true) (t_Refused : isTab K (.ref 210) tb_Refused = true) (t_NothingDone : isTab K (.ref 223) tb_NothingDone = true) (t_LimitExceeded : isTab K (.ref 243) tb_LimitExceeded = true) : DefOk P w K mg base 1 "_law_sort" 1 m__law_sort :=
  def_ok (k := 0) (N := ["e", "found"]) (ps := ["e"]) T sc__law_sort (.inl rfl) hm hbi fun cdv A outer s H E hF hC hO =>
  (show SB _ K mg _ (defBody (topS 19)) b__law_sort from
  (sb_cons (ss_set (i := 1) hF (se_lst (sa_cons (se_isXC hF b_isinstance g_InvalidProgram (fun _ => rfl) (fun _ => rfl) (se_var (i := 0)) (isTab_ok t_InvalidProgram)) (sa_cons (se_isXC hF b_isinstance g_InvalidFacts (fun _ => rfl) (fun _ => rfl) (se_var (i := 0)) (isTab_ok t_InvalidFacts)) (sa_cons (se_isXC hF b_isinstance g_InvalidWishes (fun _ => rfl) (fun _ => rfl) (se_var (i := 0)) (isTab_ok t_InvalidWishes)) sa_nil)))))
  (sb_cons (ss_set (i := 1) hF (se_add hF (se_var (i := 1)) (se_lst (sa_cons (se_isXC hF b_isinstance g_InvalidOptions (fun _ => rfl) (fun _ => rfl) (se_var (i := 0)) (isTab_ok t_InvalidOptions)) (sa_cons (se_isXC hF b_isinstance g_InvalidClaim (fun _ => rfl) (fun _ => rfl) (se_var (i := 0)) (isTab_ok t_InvalidClaim)) (sa_cons (se_isXC hF b_isinstance g_ParseError (fun _ => rfl) (fun _ => rfl) (se_var (i := 0)) (isTab_ok t_ParseError)) sa_nil))))))
  (sb_cons (ss_set (i := 1) hF (se_add hF (se_var (i := 1)) (se_lst (sa_cons (se_isXC hF b_isinstance g_NotThere (fun _ => rfl) (fun _ => rfl) (se_var (i := 0)) (isTab_ok t_NotThere)) (sa_cons (se_isXC hF b_isinstance g_AlreadyThere (fun _ => rfl) (fun _ => rfl) (se_var (i := 0)) (isTab_ok t_AlreadyThere)) (sa_cons (se_isXC hF b_isinstance g_Full (fun _ => rfl) (fun _ => rfl) (se_var (i := 0)) (isTab_ok t_Full)) sa_nil))))))
  (sb_cons (ss_set (i := 1) hF (se_add hF (se_var (i := 1)) (se_lst (sa_cons (se_isXC hF b_isinstance g_Unkept (fun _ => rfl) (fun _ => rfl) (se_var (i := 0)) (isTab_ok t_Unkept)) (sa_cons (se_isXC hF b_isinstance g_Refused (fun _ => rfl) (fun _ => rfl) (se_var (i := 0)) (isTab_ok t_Refused)) (sa_cons (se_isXC hF b_isinstance g_NothingDone (fun _ => rfl) (fun _ => rfl) (se_var (i := 0)) (isTab_ok t_NothingDone)) sa_nil))))))
  (sb_one (ss_ret (se_add hF (se_var (i := 1)) (se_lst (sa_cons (se_isXC hF b_isinstance g_LimitExceeded (fun _ => rfl) (fun _ => rfl) (se_var (i := 0)) (isTab_ok t_LimitExceeded)) sa_nil))))))))))
def tb_ValueError : List (Nat × Bool) := [(31, true), (51, true), (71, true), (91, true), (111, true), (131, true), (144, false), (157, false), (170, false), (190, false), (210, false), (223, false), (243, false)]
def tb_RuntimeError : List (Nat × Bool) := [(31, false), (51, false), (71, false), (91, false), (111, false), (131, false), (144, false), (157, true), (170, true), (190, true), (210, true), (223, true), (243, false)]
def tb_OverflowError : List (Nat × Bool) := [(31, false), (51, false), (71, false), (91, false), (111, false), (131, false), (144, false), (157, false), (170, false), (190, false), (210, false), (223, false), (243, true)]
def tb_LookupError : List (Nat × Bool) := [(31, false), (51, false), (71, false), (91, false), (111, false), (131, false), (144, true), (157, false), (170, false), (190, false), (210, false), (223, false), (243, false)]
def tb_TypeError : List (Nat × Bool) := [(31, false), (51, false), (71, false), (91, false), (111, false), (131, false), (144, false), (157, false), (170, false), (190, false), (210, false), (223, false), (243, false)]
def tb_KeyError : List (Nat × Bool) := [(31, false), (51, false), (71, false), (91, false), (111, false), (131, false), (144, false), (157, false), (170, false), (190, false), (210, false), (223, false), (243, false)]
def tb_IndexError : List (Nat × Bool) := [(31, false), (51, false), (71, false), (91, false), (111, false), (131, false), (144, false), (157, false), (170, false), (190, false), (210, false), (223, false), (243, false)]
def tb_NotImplementedError : List (Nat × Bool) := [(31, false), (51, false), (71, false), (91, false), (111, false), (131, false), (144, false), (157, false), (170, false), (190, false), (210, false), (223, false), (243, false)]
def b__law_built : FS :=
  (fSeq (fAsg (eLst (aCons (eIsX tb_ValueError (eVar 0)) (aCons (eIsX tb_RuntimeError (eVar 0)) (aCons (eIsX tb_OverflowError (eVar 0)) aNil)))) (tgN 1)) (fSeq (fAsg (eBin gAdd (eVar 1) (eLst (aCons (eIsX tb_LookupError (eVar 0)) (aCons (eIsX tb_TypeError (eVar 0)) (aCons (eIsX tb_KeyError (eVar 0)) aNil))))) (tgN 1)) (fRet (eBin gAdd (eVar 1) (eLst (aCons (eIsX tb_IndexError (eVar 0)) (aCons (eIsX tb_NotImplementedError (eVar 0)) aNil)))))))
theorem sc__law_built : FnScope ["e", "found"] ["e"] (defScope (topS 20)) := ⟨rfl, rfl, rfl, by decide +kernel, rfl, by decide +kernel, by decide +kernel⟩
def m__law_built : FF := runDef 2 1 b__law_built
theorem ok__law_built {a : Addr} {fd : FuncData} (T : Fun K "_law_built" "_law_built" (topS 20) a fd) (hm : mg "_law_built" = some (.ref a)) (hbi : Binds K fd ["e"] []) (b_isinstance : mg "isinstance" = none) (b_ValueError : mg "ValueError" = none) (b_RuntimeError : mg "RuntimeError" = none) (b_OverflowError : mg "OverflowError" = none) (b_LookupError : mg "LookupError" = none) (b_TypeError : mg "TypeError" = none) (b_KeyError : mg "KeyError" = none) (b_IndexError : mg "IndexError" = none) (b_NotImplementedError : mg "NotImplementedError" = none) (t_ValueError : isTab K (.type "ValueError") tb_ValueError = true) (t_RuntimeError : isTab K (.type "RuntimeError") tb_RuntimeError = true) (t_OverflowError : isTab K (.type "OverflowError") tb_OverflowError = true) (t_LookupError : isTab K (.type "LookupError") tb_LookupError = true) (t_TypeError : isTab K (.type "TypeError") tb_TypeError = true) (t_KeyError : isTab K (.type "KeyError") tb_KeyError = true) (t_IndexError : isTab K (.type "IndexError") tb_IndexError = true) (t_NotImplementedError : isTab K (.type "NotImplementedError") tb_NotImplementedError = true) : DefOk P w K mg base 1 "_law_built" 1 m__law_built :=
  def_ok (k := 0) (N := ["e", "found"]) (ps := ["e"]) T sc__law_built (.inl rfl) hm hbi fun cdv A outer s H E hF hC hO =>
  (show SB _ K mg _ (defBody (topS 20)) b__law_built from
  (sb_cons (ss_set (i := 1) hF (se_lst (sa_cons (se_isXT hF b_isinstance b_ValueError (by kernel_rfl) (fun _ => rfl) (fun _ => rfl) (se_var (i := 0)) (isTab_ok t_ValueError)) (sa_cons (se_isXT hF b_isinstance b_RuntimeError (by kernel_rfl) (fun _ => rfl) (fun _ => rfl) (se_var (i := 0)) (isTab_ok t_RuntimeError)) (sa_cons (se_isXT hF b_isinstance b_OverflowError (by kernel_rfl) (fun _ => rfl) (fun _ => rfl) (se_var (i := 0)) (isTab_ok t_OverflowError)) sa_nil)))))
  (sb_cons (ss_set (i := 1) hF (se_add hF (se_var (i := 1)) (se_lst (sa_cons (se_isXT hF b_isinstance b_LookupError (by kernel_rfl) (fun _ => rfl) (fun _ => rfl) (se_var (i := 0)) (isTab_ok t_LookupError)) (sa_cons (se_isXT hF b_isinstance b_TypeError (by kernel_rfl) (fun _ => rfl) (fun _ => rfl) (se_var (i := 0)) (isTab_ok t_TypeError)) (sa_cons (se_isXT hF b_isinstance b_KeyError (by kernel_rfl) (fun _ => rfl) (fun _ => rfl) (se_var (i := 0)) (isTab_ok t_KeyError)) sa_nil))))))
  (sb_one (ss_ret (se_add hF (se_var (i := 1)) (se_lst (sa_cons (se_isXT hF b_isinstance b_IndexError (by kernel_rfl) (fun _ => rfl) (fun _ => rfl) (se_var (i := 0)) (isTab_ok t_IndexError)) (sa_cons (se_isXT hF b_isinstance b_NotImplementedError (by kernel_rfl) (fun _ => rfl) (fun _ => rfl) (se_var (i := 0)) (isTab_ok t_NotImplementedError)) sa_nil)))))))))
def b__law_right : FS :=
  (fSeq (fFor (iSeq (eVar 2)) (tgN 3) (fSeq (fIf (MP.tB (eBin gNe (eFn m__law_sort (aCons (eVar 3) aNil)) (eLc (iRange1 (aCons (ret (.int 13)) aNil)) [4] (tgN 4) tYesF (eBin gEq (eVar 4) (eVar 0))))) (fRet (ret (.bl false))) fNext) (fIf (MP.tB (eBin gNe (eFn m__law_built (aCons (eVar 3) aNil)) (eLc (iRange1 (aCons (ret (.int 8)) aNil)) [4] (tgN 4) tYesF (eBin gEq (eVar 4) (eVar 1))))) (fRet (ret (.bl false))) fNext))) (fRet (ret (.bl true))))
theorem sc__law_right : FnScope ["at", "kind", "errors", "e", "place"] ["at", "kind", "errors"] (defScope (topS 21)) := ⟨rfl, rfl, rfl, by decide +kernel, rfl, by decide +kernel, by decide +kernel⟩
def m__law_right : FF := runDef 5 3 b__law_right
theorem ok__law_right {a : Addr} {fd : FuncData} (T : Fun K "_law_right" "_law_right" (topS 21) a fd) (hm : mg "_law_right" = some (.ref a)) (hbi : Binds K fd ["at", "kind", "errors"] []) (d__law_sort : DefOk P w K mg base 1 "_law_sort" 1 m__law_sort) (d__law_built : DefOk P w K mg base 1 "_law_built" 1 m__law_built) (b_range : mg "range" = none) : DefOk P w K mg base 2 "_law_right" 3 m__law_right :=
  def_ok (k := 1) (N := ["at", "kind", "errors", "e", "place"]) (ps := ["at", "kind", "errors"]) T sc__law_right (.inl rfl) hm hbi fun cdv A outer s H E hF hC hO =>
  (show SB _ K mg _ (defBody (topS 21)) b__law_right from
  (sb_cons (ss_for hF hO (si_seq hF (se_var (i := 2))) (sg_name (i := 3) hF) (sb_cons (ss_if (st_ne hF hC (se_call hF hC d__law_sort (by decide) (fun _ => rfl) (sa_cons (se_var (i := 3)) sa_nil)) (se_lc (own := [("place", 4)]) hF (si_range1 hF (fun _ => rfl) b_range (sa_cons se_int sa_nil)) (fun _ => blkOk_by rfl) (by decide) (sg_name (i := 4) (hF.blk _)) sts_nil (se_eq (hF.blk _) (hC.blk _) (se_var (i := 4)) (se_var (i := 0))))) (sb_one (ss_ret se_bl)) sb_nil)
  (sb_one (ss_if (st_ne hF hC (se_call hF hC d__law_built (by decide) (fun _ => rfl) (sa_cons (se_var (i := 3)) sa_nil)) (se_lc (own := [("place", 4)]) hF (si_range1 hF (fun _ => rfl) b_range (sa_cons se_int sa_nil)) (fun _ => blkOk_by rfl) (by decide) (sg_name (i := 4) (hF.blk _)) sts_nil (se_eq (hF.blk _) (hC.blk _) (se_var (i := 4)) (se_var (i := 1))))) (sb_one (ss_ret se_bl)) sb_nil))))
  (sb_one (ss_ret se_bl))))
def b__law_plain_right : FS :=
  (fSeq (fIf (MP.tOr (MP.tNot (MP.tB (eFn m__law_right (aCons (ret (.int 6)) (aCons (ret (.int 3)) (aCons (eLst (aCons (ret (.err 144 [] [])) aNil)) aNil)))))) (MP.tNot (MP.tB (eFn m__law_right (aCons (ret (.int 7)) (aCons (ret (.int 1)) (aCons (eLst (aCons (ret (.err 157 [] [])) aNil)) aNil))))))) (fRet (ret (.bl false))) fNext) (fRet (eAnd (eFn m__law_right (aCons (ret (.int 8)) (aCons (ret (.int 1)) (aCons (eLst (aCons (ret (.err 170 [] [])) aNil)) aNil)))) (eFn m__law_right (aCons (ret (.int 11)) (aCons (ret (.int 1)) (aCons (eLst (aCons (ret (.err 223 [] [])) aNil)) aNil)))))))
theorem sc__law_plain_right : FnScope [] [] (defScope (topS 22)) := ⟨rfl, rfl, rfl, by decide +kernel, rfl, by decide +kernel, by decide +kernel⟩
def m__law_plain_right : FF := runDef 0 0 b__law_plain_right
theorem ok__law_plain_right {a : Addr} {fd : FuncData} (T : Fun K "_law_plain_right" "_law_plain_right" (topS 22) a fd) (hm : mg "_law_plain_right" = some (.ref a)) (hbi : Binds K fd [] []) (d__law_right : DefOk P w K mg base 2 "_law_right" 3 m__law_right) (e_NotThere : E0 K 144 ∧ ExcC K 144) (e_AlreadyThere : E0 K 157 ∧ ExcC K 157) (e_Full : E0 K 170 ∧ ExcC K 170) (e_NothingDone : E0 K 223 ∧ ExcC K 223) (g_NotThere : mg "NotThere" = some (.ref 144)) (g_AlreadyThere : mg "AlreadyThere" = some (.ref 157)) (g_Full : mg "Full" = some (.ref 170)) (g_NothingDone : mg "NothingDone" = some (.ref 223)) : DefOk P w K mg base 3 "_law_plain_right" 0 m__law_plain_right :=
  def_ok (k := 2) (N := []) (ps := []) T sc__law_plain_right (.inl rfl) hm hbi fun cdv A outer s H E hF hC hO =>
  (show SB _ K mg _ (defBody (topS 22)) b__law_plain_right from
  (sb_cons (ss_if (SW.st (sw_or (st_not (st_val (se_call hF hC d__law_right (by decide) (fun _ => rfl) (sa_cons se_int (sa_cons se_int (sa_cons (se_lst (sa_cons (se_mk0 hF e_NotThere.1 e_NotThere.2 g_NotThere (fun _ => rfl)) sa_nil)) sa_nil)))))) (sw_or1 (st_not (st_val (se_call hF hC d__law_right (by decide) (fun _ => rfl) (sa_cons se_int (sa_cons se_int (sa_cons (se_lst (sa_cons (se_mk0 hF e_AlreadyThere.1 e_AlreadyThere.2 g_AlreadyThere (fun _ => rfl)) sa_nil)) sa_nil))))))))) (sb_one (ss_ret se_bl)) sb_nil)
  (sb_one (ss_ret (se_and (se_call hF hC d__law_right (by decide) (fun _ => rfl) (sa_cons se_int (sa_cons se_int (sa_cons (se_lst (sa_cons (se_mk0 hF e_Full.1 e_Full.2 g_Full (fun _ => rfl)) sa_nil)) sa_nil)))) (se_one (se_call hF hC d__law_right (by decide) (fun _ => rfl) (sa_cons se_int (sa_cons se_int (sa_cons (se_lst (sa_cons (se_mk0 hF e_NothingDone.1 e_NothingDone.2 g_NothingDone (fun _ => rfl)) sa_nil)) sa_nil))))))))))
def b_law : FS :=
  (fSeq (fAsg (eFn m__law_pen (aCons (eVar 0) aNil)) (tgN 1)) (fSeq (fAsg (eFn m__law_one_of (aCons (eVar 1) (aCons (eLst (aCons (ret (.int 0)) (aCons (ret (.int 1)) (aCons (ret (.int 17)) (aCons (eFn m__law_draw (aCons (eVar 1) (aCons (ret (.int 5400)) aNil))) aNil))))) aNil))) (tgN 2)) (fSeq (fAsg (eFn m__law_one_of (aCons (eVar 1) (aCons (eLst (aCons (ret .non) (aCons (ret (.str "kinds")) (aCons (ret (.str "rules")) (aCons (ret (.int 0)) (aCons (ret (.int 5)) aNil)))))) aNil))) (tgN 3)) (fSeq (fPar (aCons (eMk 31 ["part"] (aCons (eVar 3) aNil)) (aCons (eMkK 31 ["part"] 1 (fun l => l) (aCons (ret (.str "kinds")) aNil)) aNil)) 4 5) (fSeq (fAsg (eAnd (eFn m__law_right (aCons (ret (.int 0)) (aCons (ret (.int 0)) (aCons (eLst (aCons (eVar 4) (aCons (eVar 5) aNil))) aNil)))) (eBin gEq (eCall gRepr (aCons (eLst (aCons (eFld "part" (eVar 4)) (aCons (eFld "part" (eVar 5)) aNil))) aNil)) (eCall gRepr (aCons (eLst (aCons (eVar 3) (aCons (ret (.str "kinds")) aNil))) aNil)))) (tgN 6)) (fSeq (fPar (aCons (eMk 51 ["index"] (aCons (eVar 2) aNil)) (aCons (eMkK 51 ["index"] 1 (fun l => l) (aCons (ret .non) aNil)) aNil)) 4 5) (fSeq (fAsg (eAnd (eVar 6) (eAnd (eFn m__law_right (aCons (ret (.int 1)) (aCons (ret (.int 0)) (aCons (eLst (aCons (eVar 4) (aCons (eVar 5) aNil))) aNil)))) (eBin gEq (eCall gRepr (aCons (eLst (aCons (eFld "index" (eVar 4)) (aCons (eFld "index" (eVar 5)) aNil))) aNil)) (eCall gRepr (aCons (eLst (aCons (eVar 2) (aCons (ret .non) aNil))) aNil))))) (tgN 6)) (fSeq (fPar (aCons (eMk 71 ["index"] (aCons (ret (.int 2)) aNil)) (aCons (eMkK 71 ["index"] 1 (fun l => l) (aCons (ret .non) aNil)) aNil)) 4 5) (fSeq (fAsg (eAnd (eVar 6) (eAnd (eFn m__law_right (aCons (ret (.int 2)) (aCons (ret (.int 0)) (aCons (eLst (aCons (eVar 4) (aCons (eVar 5) aNil))) aNil)))) (eBin gEq (eCall gRepr (aCons (eLst (aCons (eFld "index" (eVar 4)) (aCons (eFld "index" (eVar 5)) aNil))) aNil)) (eCall gRepr (aCons (eLst (aCons (ret (.int 2)) (aCons (ret .non) aNil))) aNil))))) (tgN 6)) (fSeq (fPar (aCons (eMk 91 ["index"] (aCons (ret (.int 0)) aNil)) (aCons (eMkK 91 ["index"] 1 (fun l => l) (aCons (ret (.int 1)) aNil)) aNil)) 4 5) (fSeq (fAsg (eAnd (eVar 6) (eAnd (eFn m__law_right (aCons (ret (.int 3)) (aCons (ret (.int 0)) (aCons (eLst (aCons (eVar 4) (aCons (eVar 5) aNil))) aNil)))) (eBin gEq (eCall gRepr (aCons (eLst (aCons (eFld "index" (eVar 4)) (aCons (eFld "index" (eVar 5)) aNil))) aNil)) (eCall gRepr (aCons (eLst (aCons (ret (.int 0)) (aCons (ret (.int 1)) aNil))) aNil))))) (tgN 6)) (fSeq (fPar (aCons (eMk 111 ["part"] (aCons (ret (.str "n")) aNil)) (aCons (eMkK 111 ["part"] 1 (fun l => l) (aCons (ret (.str "kind")) aNil)) aNil)) 4 5) (fSeq (fAsg (eAnd (eVar 6) (eAnd (eFn m__law_right (aCons (ret (.int 4)) (aCons (ret (.int 0)) (aCons (eLst (aCons (eVar 4) (aCons (eVar 5) aNil))) aNil)))) (eBin gEq (eCall gRepr (aCons (eLst (aCons (eFld "part" (eVar 4)) (aCons (eFld "part" (eVar 5)) aNil))) aNil)) (eCall gRepr (aCons (eLst (aCons (ret (.str "n")) (aCons (ret (.str "kind")) aNil))) aNil))))) (tgN 6)) (fSeq (fPar (aCons (eMk 131 ["line"] (aCons (eVar 2) aNil)) (aCons (eMkK 131 ["line"] 1 (fun l => l) (aCons (ret (.int 8)) aNil)) aNil)) 4 5) (fSeq (fAsg (eAnd (eVar 6) (eAnd (eFn m__law_right (aCons (ret (.int 5)) (aCons (ret (.int 0)) (aCons (eLst (aCons (eVar 4) (aCons (eVar 5) aNil))) aNil)))) (eBin gEq (eCall gRepr (aCons (eLst (aCons (eFld "line" (eVar 4)) (aCons (eFld "line" (eVar 5)) aNil))) aNil)) (eCall gRepr (aCons (eLst (aCons (eVar 2) (aCons (ret (.int 8)) aNil))) aNil))))) (tgN 6)) (fSeq (fPar (aCons (eMk 190 ["index"] (aCons (eVar 2) aNil)) (aCons (eMkK 190 ["index"] 1 (fun l => l) (aCons (ret (.int 2)) aNil)) aNil)) 4 5) (fSeq (fAsg (eAnd (eVar 6) (eAnd (eFn m__law_right (aCons (ret (.int 9)) (aCons (ret (.int 1)) (aCons (eLst (aCons (eVar 4) (aCons (eVar 5) aNil))) aNil)))) (eBin gEq (eCall gRepr (aCons (eLst (aCons (eFld "index" (eVar 4)) (aCons (eFld "index" (eVar 5)) aNil))) aNil)) (eCall gRepr (aCons (eLst (aCons (eVar 2) (aCons (ret (.int 2)) aNil))) aNil))))) (tgN 6)) (fSeq (fPar (aCons (eMk 210 ["index", "reason"] (aCons (eVar 2) (aCons (ret (.str "Full")) aNil))) (aCons (eMkK 210 ["index", "reason"] 2 List.reverse (aCons (ret .non) (aCons (eNeg (ret (.int 1))) aNil))) aNil)) 4 5) (fSeq (fAsg (eAnd (eVar 6) (eAnd (eFn m__law_right (aCons (ret (.int 10)) (aCons (ret (.int 1)) (aCons (eLst (aCons (eVar 4) (aCons (eVar 5) aNil))) aNil)))) (eBin gEq (eCall gRepr (aCons (eLst (aCons (eFld "index" (eVar 4)) (aCons (eFld "reason" (eVar 4)) aNil))) aNil)) (eCall gRepr (aCons (eLst (aCons (eVar 2) (aCons (ret (.str "Full")) aNil))) aNil))))) (tgN 6)) (fSeq (fAsg (eAnd (eVar 6) (eAnd (eBin gEq (eCall gRepr (aCons (eLst (aCons (eFld "index" (eVar 5)) (aCons (eFld "reason" (eVar 5)) aNil))) aNil)) (eCall gRepr (aCons (eLst (aCons (eNeg (ret (.int 1))) (aCons (ret .non) aNil))) aNil))) (eFn m__law_plain_right aNil))) (tgN 6)) (fSeq (fPar (aCons (eMk 243 ["limit"] (aCons (eVar 2) aNil)) (aCons (eMkK 243 ["limit"] 1 (fun l => l) (aCons (ret (.int 300)) aNil)) aNil)) 4 5) (fRet (eAnd (eVar 6) (eAnd (eFn m__law_right (aCons (ret (.int 12)) (aCons (ret (.int 2)) (aCons (eLst (aCons (eVar 4) (aCons (eVar 5) aNil))) aNil)))) (eBin gEq (eCall gRepr (aCons (eLst (aCons (eFld "limit" (eVar 4)) (aCons (eFld "limit" (eVar 5)) aNil))) aNil)) (eCall gRepr (aCons (eLst (aCons (eVar 2) (aCons (ret (.int 300)) aNil))) aNil)))))))))))))))))))))))))))
theorem sc_law : FnScope ["script", "pen", "count", "piece", "a", "b", "good"] ["script"] (defScope (topS 23)) := ⟨rfl, rfl, rfl, by decide +kernel, rfl, by decide +kernel, by decide +kernel⟩
theorem lb_law {fa : Addr} {s : Shared} {H : Hp} {cdv : Value} (d__law_pen : DefOk P w K mg base 1 "_law_pen" 1 m__law_pen) (d__law_draw : DefOk P w K mg base 2 "_law_draw" 2 m__law_draw) (d__law_one_of : DefOk P w K mg base 3 "_law_one_of" 2 m__law_one_of) (d__law_right : DefOk P w K mg base 2 "_law_right" 3 m__law_right) (d__law_plain_right : DefOk P w K mg base 3 "_law_plain_right" 0 m__law_plain_right) (b_repr : mg "repr" = none) (e_InvalidProgram : ErrOk P w K mg base 1 "InvalidProgram" 31 ["part"] ["part"] (fun l => l)) (e_InvalidFacts : ErrOk P w K mg base 1 "InvalidFacts" 51 ["index"] ["index"] (fun l => l)) (e_InvalidWishes : ErrOk P w K mg base 1 "InvalidWishes" 71 ["index"] ["index"] (fun l => l)) (e_InvalidOptions : ErrOk P w K mg base 1 "InvalidOptions" 91 ["index"] ["index"] (fun l => l)) (e_InvalidClaim : ErrOk P w K mg base 1 "InvalidClaim" 111 ["part"] ["part"] (fun l => l)) (e_ParseError : ErrOk P w K mg base 1 "ParseError" 131 ["line"] ["line"] (fun l => l)) (e_Unkept : ErrOk P w K mg base 1 "Unkept" 190 ["index"] ["index"] (fun l => l)) (e_Refused : ErrOk P w K mg base 1 "Refused" 210 ["index", "reason"] ["reason", "index"] List.reverse) (e_LimitExceeded : ErrOk P w K mg base 1 "LimitExceeded" 243 ["limit"] ["limit"] (fun l => l)) (hF : Fam (cxD P w K mg base ["script", "pen", "count", "piece", "a", "b", "good"] "law" (defScope (topS 23)) fa cdv callerA [] s H noE) K mg) (hO : Own (cxD P w K mg base ["script", "pen", "count", "piece", "a", "b", "good"] "law" (defScope (topS 23)) fa cdv callerA [] s H noE)) :
  SB (cxD P w K mg base ["script", "pen", "count", "piece", "a", "b", "good"] "law" (defScope (topS 23)) fa cdv callerA [] s H noE) K mg (wOf noE) (defBody (topS 23)) b_law :=
  have hC : Cal (cxD P w K mg base ["script", "pen", "count", "piece", "a", "b", "good"] "law" (defScope (topS 23)) fa cdv callerA [] s H noE) P w base 60 (wOf noE) := cxD_cal (room_law (by decide) _)
  (show SB _ K mg _ (defBody (topS 23)) b_law from
  (sb_cons (ss_set (i := 1) hF (se_call hF hC d__law_pen (by decide) (fun _ => rfl) (sa_cons (se_var (i := 0)) sa_nil)))
  (sb_cons (ss_set (i := 2) hF (se_call hF hC d__law_one_of (by decide) (fun _ => rfl) (sa_cons (se_var (i := 1)) (sa_cons (se_lst (sa_cons se_int (sa_cons se_int (sa_cons se_int (sa_cons (se_call hF hC d__law_draw (by decide) (fun _ => rfl) (sa_cons (se_var (i := 1)) (sa_cons se_int sa_nil))) sa_nil))))) sa_nil))))
  (sb_cons (ss_set (i := 3) hF (se_call hF hC d__law_one_of (by decide) (fun _ => rfl) (sa_cons (se_var (i := 1)) (sa_cons (se_lst (sa_cons se_non (sa_cons se_str (sa_cons se_str (sa_cons se_int (sa_cons se_int sa_nil)))))) sa_nil))))
  (sb_cons (ss_par (i := 4) (j := 5) hF (sa_cons (se_mk hF hC e_InvalidProgram (by decide) (fun _ => rfl) (sa_cons (se_var (i := 3)) sa_nil)) (sa_cons (se_mkK hF hC e_InvalidProgram (by decide) (fun _ => rfl) (sk_cons se_str sk_nil)) sa_nil)))
  (sb_cons (ss_set (i := 6) hF (se_and (se_call hF hC d__law_right (by decide) (fun _ => rfl) (sa_cons se_int (sa_cons se_int (sa_cons (se_lst (sa_cons (se_var (i := 4)) (sa_cons (se_var (i := 5)) sa_nil))) sa_nil)))) (se_one (se_eq hF hC (se_repr hF (fun _ => rfl) (fun _ => units_law _) b_repr (fun _ => rfl) (sa_cons (se_lst (sa_cons (se_fld hF (se_var (i := 4))) (sa_cons (se_fld hF (se_var (i := 5))) sa_nil))) sa_nil)) (se_repr hF (fun _ => rfl) (fun _ => units_law _) b_repr (fun _ => rfl) (sa_cons (se_lst (sa_cons (se_var (i := 3)) (sa_cons se_str sa_nil))) sa_nil))))))
  (sb_cons (ss_par (i := 4) (j := 5) hF (sa_cons (se_mk hF hC e_InvalidFacts (by decide) (fun _ => rfl) (sa_cons (se_var (i := 2)) sa_nil)) (sa_cons (se_mkK hF hC e_InvalidFacts (by decide) (fun _ => rfl) (sk_cons se_non sk_nil)) sa_nil)))
  (sb_cons (ss_set (i := 6) hF (se_and (se_var (i := 6)) (se_and (se_call hF hC d__law_right (by decide) (fun _ => rfl) (sa_cons se_int (sa_cons se_int (sa_cons (se_lst (sa_cons (se_var (i := 4)) (sa_cons (se_var (i := 5)) sa_nil))) sa_nil)))) (se_one (se_eq hF hC (se_repr hF (fun _ => rfl) (fun _ => units_law _) b_repr (fun _ => rfl) (sa_cons (se_lst (sa_cons (se_fld hF (se_var (i := 4))) (sa_cons (se_fld hF (se_var (i := 5))) sa_nil))) sa_nil)) (se_repr hF (fun _ => rfl) (fun _ => units_law _) b_repr (fun _ => rfl) (sa_cons (se_lst (sa_cons (se_var (i := 2)) (sa_cons se_non sa_nil))) sa_nil)))))))
  (sb_cons (ss_par (i := 4) (j := 5) hF (sa_cons (se_mk hF hC e_InvalidWishes (by decide) (fun _ => rfl) (sa_cons se_int sa_nil)) (sa_cons (se_mkK hF hC e_InvalidWishes (by decide) (fun _ => rfl) (sk_cons se_non sk_nil)) sa_nil)))
  (sb_cons (ss_set (i := 6) hF (se_and (se_var (i := 6)) (se_and (se_call hF hC d__law_right (by decide) (fun _ => rfl) (sa_cons se_int (sa_cons se_int (sa_cons (se_lst (sa_cons (se_var (i := 4)) (sa_cons (se_var (i := 5)) sa_nil))) sa_nil)))) (se_one (se_eq hF hC (se_repr hF (fun _ => rfl) (fun _ => units_law _) b_repr (fun _ => rfl) (sa_cons (se_lst (sa_cons (se_fld hF (se_var (i := 4))) (sa_cons (se_fld hF (se_var (i := 5))) sa_nil))) sa_nil)) (se_repr hF (fun _ => rfl) (fun _ => units_law _) b_repr (fun _ => rfl) (sa_cons (se_lst (sa_cons se_int (sa_cons se_non sa_nil))) sa_nil)))))))
  (sb_cons (ss_par (i := 4) (j := 5) hF (sa_cons (se_mk hF hC e_InvalidOptions (by decide) (fun _ => rfl) (sa_cons se_int sa_nil)) (sa_cons (se_mkK hF hC e_InvalidOptions (by decide) (fun _ => rfl) (sk_cons se_int sk_nil)) sa_nil)))
  (sb_cons (ss_set (i := 6) hF (se_and (se_var (i := 6)) (se_and (se_call hF hC d__law_right (by decide) (fun _ => rfl) (sa_cons se_int (sa_cons se_int (sa_cons (se_lst (sa_cons (se_var (i := 4)) (sa_cons (se_var (i := 5)) sa_nil))) sa_nil)))) (se_one (se_eq hF hC (se_repr hF (fun _ => rfl) (fun _ => units_law _) b_repr (fun _ => rfl) (sa_cons (se_lst (sa_cons (se_fld hF (se_var (i := 4))) (sa_cons (se_fld hF (se_var (i := 5))) sa_nil))) sa_nil)) (se_repr hF (fun _ => rfl) (fun _ => units_law _) b_repr (fun _ => rfl) (sa_cons (se_lst (sa_cons se_int (sa_cons se_int sa_nil))) sa_nil)))))))
  (sb_cons (ss_par (i := 4) (j := 5) hF (sa_cons (se_mk hF hC e_InvalidClaim (by decide) (fun _ => rfl) (sa_cons se_str sa_nil)) (sa_cons (se_mkK hF hC e_InvalidClaim (by decide) (fun _ => rfl) (sk_cons se_str sk_nil)) sa_nil)))
  (sb_cons (ss_set (i := 6) hF (se_and (se_var (i := 6)) (se_and (se_call hF hC d__law_right (by decide) (fun _ => rfl) (sa_cons se_int (sa_cons se_int (sa_cons (se_lst (sa_cons (se_var (i := 4)) (sa_cons (se_var (i := 5)) sa_nil))) sa_nil)))) (se_one (se_eq hF hC (se_repr hF (fun _ => rfl) (fun _ => units_law _) b_repr (fun _ => rfl) (sa_cons (se_lst (sa_cons (se_fld hF (se_var (i := 4))) (sa_cons (se_fld hF (se_var (i := 5))) sa_nil))) sa_nil)) (se_repr hF (fun _ => rfl) (fun _ => units_law _) b_repr (fun _ => rfl) (sa_cons (se_lst (sa_cons se_str (sa_cons se_str sa_nil))) sa_nil)))))))
  (sb_cons (ss_par (i := 4) (j := 5) hF (sa_cons (se_mk hF hC e_ParseError (by decide) (fun _ => rfl) (sa_cons (se_var (i := 2)) sa_nil)) (sa_cons (se_mkK hF hC e_ParseError (by decide) (fun _ => rfl) (sk_cons se_int sk_nil)) sa_nil)))
  (sb_cons (ss_set (i := 6) hF (se_and (se_var (i := 6)) (se_and (se_call hF hC d__law_right (by decide) (fun _ => rfl) (sa_cons se_int (sa_cons se_int (sa_cons (se_lst (sa_cons (se_var (i := 4)) (sa_cons (se_var (i := 5)) sa_nil))) sa_nil)))) (se_one (se_eq hF hC (se_repr hF (fun _ => rfl) (fun _ => units_law _) b_repr (fun _ => rfl) (sa_cons (se_lst (sa_cons (se_fld hF (se_var (i := 4))) (sa_cons (se_fld hF (se_var (i := 5))) sa_nil))) sa_nil)) (se_repr hF (fun _ => rfl) (fun _ => units_law _) b_repr (fun _ => rfl) (sa_cons (se_lst (sa_cons (se_var (i := 2)) (sa_cons se_int sa_nil))) sa_nil)))))))
  (sb_cons (ss_par (i := 4) (j := 5) hF (sa_cons (se_mk hF hC e_Unkept (by decide) (fun _ => rfl) (sa_cons (se_var (i := 2)) sa_nil)) (sa_cons (se_mkK hF hC e_Unkept (by decide) (fun _ => rfl) (sk_cons se_int sk_nil)) sa_nil)))
  (sb_cons (ss_set (i := 6) hF (se_and (se_var (i := 6)) (se_and (se_call hF hC d__law_right (by decide) (fun _ => rfl) (sa_cons se_int (sa_cons se_int (sa_cons (se_lst (sa_cons (se_var (i := 4)) (sa_cons (se_var (i := 5)) sa_nil))) sa_nil)))) (se_one (se_eq hF hC (se_repr hF (fun _ => rfl) (fun _ => units_law _) b_repr (fun _ => rfl) (sa_cons (se_lst (sa_cons (se_fld hF (se_var (i := 4))) (sa_cons (se_fld hF (se_var (i := 5))) sa_nil))) sa_nil)) (se_repr hF (fun _ => rfl) (fun _ => units_law _) b_repr (fun _ => rfl) (sa_cons (se_lst (sa_cons (se_var (i := 2)) (sa_cons se_int sa_nil))) sa_nil)))))))
  (sb_cons (ss_par (i := 4) (j := 5) hF (sa_cons (se_mk hF hC e_Refused (by decide) (fun _ => rfl) (sa_cons (se_var (i := 2)) (sa_cons se_str sa_nil))) (sa_cons (se_mkK hF hC e_Refused (by decide) (fun _ => rfl) (sk_cons se_non (sk_cons (se_neg se_int) sk_nil))) sa_nil)))
  (sb_cons (ss_set (i := 6) hF (se_and (se_var (i := 6)) (se_and (se_call hF hC d__law_right (by decide) (fun _ => rfl) (sa_cons se_int (sa_cons se_int (sa_cons (se_lst (sa_cons (se_var (i := 4)) (sa_cons (se_var (i := 5)) sa_nil))) sa_nil)))) (se_one (se_eq hF hC (se_repr hF (fun _ => rfl) (fun _ => units_law _) b_repr (fun _ => rfl) (sa_cons (se_lst (sa_cons (se_fld hF (se_var (i := 4))) (sa_cons (se_fld hF (se_var (i := 4))) sa_nil))) sa_nil)) (se_repr hF (fun _ => rfl) (fun _ => units_law _) b_repr (fun _ => rfl) (sa_cons (se_lst (sa_cons (se_var (i := 2)) (sa_cons se_str sa_nil))) sa_nil)))))))
  (sb_cons (ss_set (i := 6) hF (se_and (se_var (i := 6)) (se_and (se_eq hF hC (se_repr hF (fun _ => rfl) (fun _ => units_law _) b_repr (fun _ => rfl) (sa_cons (se_lst (sa_cons (se_fld hF (se_var (i := 5))) (sa_cons (se_fld hF (se_var (i := 5))) sa_nil))) sa_nil)) (se_repr hF (fun _ => rfl) (fun _ => units_law _) b_repr (fun _ => rfl) (sa_cons (se_lst (sa_cons (se_neg se_int) (sa_cons se_non sa_nil))) sa_nil))) (se_one (se_call0 hF hC d__law_plain_right (by decide) (fun _ => rfl))))))
  (sb_cons (ss_par (i := 4) (j := 5) hF (sa_cons (se_mk hF hC e_LimitExceeded (by decide) (fun _ => rfl) (sa_cons (se_var (i := 2)) sa_nil)) (sa_cons (se_mkK hF hC e_LimitExceeded (by decide) (fun _ => rfl) (sk_cons se_int sk_nil)) sa_nil)))
  (sb_one (ss_ret (se_and (se_var (i := 6)) (se_and (se_call hF hC d__law_right (by decide) (fun _ => rfl) (sa_cons se_int (sa_cons se_int (sa_cons (se_lst (sa_cons (se_var (i := 4)) (sa_cons (se_var (i := 5)) sa_nil))) sa_nil)))) (se_one (se_eq hF hC (se_repr hF (fun _ => rfl) (fun _ => units_law _) b_repr (fun _ => rfl) (sa_cons (se_lst (sa_cons (se_fld hF (se_var (i := 4))) (sa_cons (se_fld hF (se_var (i := 5))) sa_nil))) sa_nil)) (se_repr hF (fun _ => rfl) (fun _ => units_law _) b_repr (fun _ => rfl) (sa_cons (se_lst (sa_cons (se_var (i := 2)) (sa_cons se_int sa_nil))) sa_nil))))))))))))))))))))))))))))))
end
end Law
end

section
set_option maxRecDepth 100000
set_option maxHeartbeats 4000000
namespace Law
open PySem PySem.Spec L2 MP
/-- the pen at p: what is given, the next one's seat, what is left -/
def penAt (hp : EH) (p : Nat) (xs : List Int) (s l : Int) : Prop := hp[p]? = some [.lst (xs.map .int), .int s, .int l]
abbrev penOf (xs : List Int) (s l : Int) : List D := [.lst (xs.map .int), .int s, .int l]
abbrev prime : Int := 2305843009213693951
def freshBody : FS := (fSeq (fAsg (eBin gMod (eCall gInt (aCons (eBin gAdd (eBin gAdd (eBin gMul (eVar 5) (eVar 5)) (eBin gMul (eBin gMul (ret (.int 70139)) (eBin gAdd (eVar 7) (ret (.int 5)))) (eBin gAdd (eVar 1) (ret (.int 1))))) (eVar 3)) aNil)) (eVar 4)) (tgN 5)) (fAsg (eBin gAdd (eBin gMul (eVar 6) (eVar 4)) (eVar 5)) (tgN 6)))
theorem fresh_turn (o x : Option D) (s c st f lap : Int) (hp : EH) (h1 : 0 ≤ lap) (h2 : lap ≤ 5) (h3 : 0 ≤ st) (h4 : st < prime) :
    freshBody [o, some (.int s), x, some (.int c), some (.int prime), some (.int st), some (.int f), some (.int lap)] hp =
      some (.nxt, [o, some (.int s), x, some (.int c), some (.int prime), some (.int ((st * st + 70139 * (lap + 5) * (s + 1) + c) % prime)), some (.int (f * prime + (st * st + 70139 * (lap + 5) * (s + 1) + c) % prime)), some (.int lap)], hp) := by
  have e1 : MP.small64 st = true := by unfold MP.small64; rw [decide_eq_true_eq]; unfold prime at h4; omega
  have e2 : MP.small64 70139 = true := by decide
  have e3 : MP.small64 (70139 * (lap + 5)) = true := by unfold MP.small64; rw [decide_eq_true_eq]; omega
  have e4 : MP.small64 prime = true := by decide
  have e5 : (0 : Int) < prime := by decide
  simp [freshBody, fSeq, fAsg, fE, eBin, bnd, eVar, MP.ret, eCall, aCons, aNil, gInt, gAdd, gMul, gMod, iOp, tgN, e1, e2, e3, e4, e5]
theorem fresh_turns (o x : Option D) (s c : Int) (hp : EH) : ∀ (laps : List Int) (st f : Int) (lap0 : Option D), (∀ l ∈ laps, 0 ≤ l ∧ l ≤ 5) → 0 ≤ st → st < prime → 0 ≤ f →
    ∃ st' f' lap', fTurns (tgN 7) yes freshBody (laps.map .int) [o, some (.int s), x, some (.int c), some (.int prime), some (.int st), some (.int f), lap0] hp =
      some (.nxt, [o, some (.int s), x, some (.int c), some (.int prime), some (.int st'), some (.int f'), lap'], hp) ∧ 0 ≤ f' := by
  intro laps
  induction laps with
  | nil => intro st f lap0 _ _ _ hf; exact ⟨st, f, lap0, by simp [fTurns, yes], hf⟩
  | cons l laps ih =>
    intro st f lap0 hl h0 h1 hf
    obtain ⟨a, b⟩ := hl l (by simp)
    have p0 : (0 : Int) ≤ (st * st + 70139 * (l + 5) * (s + 1) + c) % prime := Int.emod_nonneg _ (by decide)
    have p1 : (st * st + 70139 * (l + 5) * (s + 1) + c) % prime < prime := Int.emod_lt_of_pos _ (by decide)
    obtain ⟨st', f', lap', e, q⟩ := ih ((st * st + 70139 * (l + 5) * (s + 1) + c) % prime) (f * prime + (st * st + 70139 * (l + 5) * (s + 1) + c) % prime) (some (.int l)) (fun z hz => hl z (by simp [hz])) p0 p1 (by unfold prime at *; omega)
    refine ⟨st', f', lap', ?_, q⟩
    rw [← e, List.map_cons]
    have t := fresh_turn o x s c st f l hp a b h0 h1
    exact turns_cons (by simp [tgN]) t
theorem gNe_nil (xs : List Int) (hp : EH) : gNe (.lst (xs.map .int)) (.lst []) hp = some (.bl (!xs.isEmpty)) := by
  have q : toPh hp (.lst (xs.map D.int)) = some (.list (xs.map .int)) := by simp [toPh, D.toP, toPs_ints]
  have q0 : toPh hp (.lst []) = some (.list []) := by simp [toPh, D.toP, D.toPs]
  have z0 : SeqAt.shaped (.list []) = true := by decide
  unfold gNe dEq
  rw [q, q0]
  simp only [shaped_ints, z0, and_self, if_true, Option.map_some]
  cases xs <;> simp [PyData.eqv, PyData.eqvAll]
theorem fresh_ok {hp : EH} {p : Nat} {xs : List Int} {s l : Int} (h : penAt hp p xs s l) (h0 : 0 ≤ s) : ∃ v : Int, 0 ≤ v ∧ m__law_fresh [.obj p] hp = some (.val (.int v), hp.set p (penOf xs (s + 1) l)) := by
  unfold penAt at h
  have hp0 : p < hp.length := (List.getElem?_eq_some_iff.mp h).1
  have kt : keptTo hp.length hp (hp.set p (penOf xs (s + 1) l)) = true := keptTo_set (by simp [oldDs, oldD, olds_ints])
  have tk : (hp.set p (penOf xs (s + 1) l)).take hp.length = hp.set p (penOf xs (s + 1) l) := by
    rw [List.take_of_length_le]; simp
  have fin : ∀ (v : Int) (env : Ev), b__law_fresh ([D.obj p].map some ++ List.replicate (8 - 1) none) hp = some (.ret (.int v), env, hp.set p (penOf xs (s + 1) l)) → m__law_fresh [.obj p] hp = some (.val (.int v), hp.set p (penOf xs (s + 1) l)) := fun v env e =>
    runDef_ret rfl e kt (handed_int _ _ _) tk
  have cell : ∃ c : Int, (eIf (MP.tB (eBin gNe (eVar 2) (eLst aNil))) (eBin gIx (eVar 2) (eBin gMod (eCall gInt (aCons (eVar 1) aNil)) (eCall gLen (aCons (eVar 2) aNil)))) (MP.ret (.int 0)))
      [some (.obj p), some (.int s), some (.lst (xs.map .int)), none, none, none, none, none] (hp.set p (penOf xs (s + 1) l)) = some (.val (.int c), hp.set p (penOf xs (s + 1) l)) := by
    cases xs with
    | nil => 
      have q : gNe (.lst []) (.lst []) (hp.set p (penOf [] (s + 1) l)) = some (.bl false) := gNe_nil [] _
      exact ⟨0, by simp [eIf, MP.tB, eBin, bnd, eVar, eLst, aNil, MP.ret, q]⟩
    | cons x xs =>
      have q := gNe_nil (x :: xs)
      obtain ⟨c, hc⟩ := atI_ints (xs := x :: xs) (i := s % ((x :: xs).length : Int)) (Int.emod_nonneg _ (by simp; omega)) (Int.emod_lt_of_pos _ (by simp))
      have pos : (0 : Int) < ((x :: xs).length : Int) := by simp
      refine ⟨c, ?_⟩
      simp only [List.map_cons] at q hc ⊢
      simp [eIf, MP.tB, eBin, bnd, eVar, eLst, aNil, aCons, MP.ret, q, eCall, gInt, gLen, asQ, gMod, iOp, gIx]
      simp at hc pos
      simp [hc, pos]
  obtain ⟨c, hc⟩ := cell
  let env0 : Ev := [some (.obj p), some (.int s), some (.lst (xs.map .int)), none, none, none, none, none]
  have first : (fPar (aCons (eBin gIx (eVar 0) (MP.ret (.int 1))) (aCons (eBin gIx (eVar 0) (MP.ret (.int 0))) aNil)) 1 2) ([D.obj p].map some ++ List.replicate (8 - 1) none) hp = some (.nxt, env0, hp) := by
    simp [fPar, fE, aCons, aNil, bnd, eBin, eVar, MP.ret, gIx, asQ, h, L2.atI, L2.ixN, List.replicate, env0]
  have second : (fSto (eBin gAdd (eVar 1) (MP.ret (.int 1))) (eVar 0) (MP.ret (.int 1))) env0 hp = some (.nxt, env0, hp.set p (penOf xs (s + 1) l)) := by
    simp [fSto, fE, bnd, eBin, eVar, MP.ret, gAdd, env0, h, L2.ixN]
  have third : (fAsg (eIf (MP.tB (eBin gNe (eVar 2) (eLst aNil))) (eBin gIx (eVar 2) (eBin gMod (eCall gInt (aCons (eVar 1) aNil)) (eCall gLen (aCons (eVar 2) aNil)))) (MP.ret (.int 0))) (tgN 3)) env0 (hp.set p (penOf xs (s + 1) l)) =
      some (.nxt, [some (.obj p), some (.int s), some (.lst (xs.map .int)), some (.int c), none, none, none, none], hp.set p (penOf xs (s + 1) l)) := by
    unfold fAsg fE
    rw [hc]
    simp [tgN, env0]
  by_cases big : s < xs.length ∧ 10 ^ 18 ≤ c
  · have b2 : (1000000000000000000 : Int) ≤ c := by have := big.2; omega
    refine ⟨c - 10 ^ 18, by omega, fin _ [some (.obj p), some (.int s), some (.lst (xs.map .int)), some (.int c), none, none, none, none] ?_⟩
    unfold b__law_fresh
    rw [fSeq, first]
    simp only
    rw [fSeq, second]
    simp only
    rw [fSeq, third]
    simp only
    rw [fSeq]
    simp [fIf, fE, MP.tAnd, MP.tB, bnd, eBin, eVar, MP.ret, eCall, aCons, aNil, gLen, asQ, gLt, gGe, iCmp, gPow, iOp, MP.gSub, fRet, big.1, b2]
  · have e5 : (0 : Int) < prime := by decide
    have fourth : (fIf (MP.tAnd (MP.tB (eBin gLt (eVar 1) (eCall gLen (aCons (eVar 2) aNil)))) (MP.tB (eBin gGe (eVar 3) (eBin gPow (MP.ret (.int 10)) (MP.ret (.int 18)))))) (fRet (eBin MP.gSub (eVar 3) (eBin gPow (MP.ret (.int 10)) (MP.ret (.int 18))))) fNext)
        [some (.obj p), some (.int s), some (.lst (xs.map .int)), some (.int c), none, none, none, none] (hp.set p (penOf xs (s + 1) l)) = some (.nxt, [some (.obj p), some (.int s), some (.lst (xs.map .int)), some (.int c), none, none, none, none], hp.set p (penOf xs (s + 1) l)) := by
      by_cases b1 : s < xs.length
      · have b2 : ¬ (1000000000000000000 : Int) ≤ c := fun z => big ⟨b1, by omega⟩
        simp [fIf, fE, MP.tAnd, MP.tB, bnd, eBin, eVar, MP.ret, eCall, aCons, aNil, gLen, asQ, gLt, gGe, iCmp, gPow, iOp, MP.gSub, fRet, fNext, b1, b2]
      · simp [fIf, fE, MP.tAnd, MP.tB, bnd, eBin, eVar, MP.ret, eCall, aCons, aNil, gLen, asQ, gLt, iCmp, fNext, b1]
    have p0 : (0 : Int) ≤ (c * 48271 + 60013 * s + 31) % prime := Int.emod_nonneg _ (by decide)
    have p1 : (c * 48271 + 60013 * s + 31) % prime < prime := Int.emod_lt_of_pos _ e5
    obtain ⟨st', f', lap', et, q⟩ := fresh_turns (some (.obj p)) (some (.lst (xs.map .int))) s c (hp.set p (penOf xs (s + 1) l)) [0, 1, 2, 3, 4, 5] ((c * 48271 + 60013 * s + 31) % prime) ((c * 48271 + 60013 * s + 31) % prime) none (by decide) p0 p1 p0
    have rg : rangeD 0 6 = ([0, 1, 2, 3, 4, 5] : List Int).map .int := by rfl
    have loop : (fFor (iRange1 (aCons (MP.ret (.int 6)) aNil)) (tgN 7) freshBody) [some (.obj p), some (.int s), some (.lst (xs.map .int)), some (.int c), some (.int prime), some (.int ((c * 48271 + 60013 * s + 31) % prime)), some (.int ((c * 48271 + 60013 * s + 31) % prime)), none] (hp.set p (penOf xs (s + 1) l)) =
        some (.nxt, [some (.obj p), some (.int s), some (.lst (xs.map .int)), some (.int c), some (.int prime), some (.int st'), some (.int f'), lap'], hp.set p (penOf xs (s + 1) l)) := by
      rw [← et, ← rg]
      simp [fFor, fE, iRange1, bnd, aCons, aNil, MP.ret]
    refine ⟨f', q, fin f' [some (.obj p), some (.int s), some (.lst (xs.map .int)), some (.int c), some (.int prime), some (.int st'), some (.int f'), lap'] ?_⟩
    have e1 : MP.small64 48271 = true := by decide
    have e2 : MP.small64 60013 = true := by decide
    unfold b__law_fresh
    rw [fSeq, first]
    simp only
    rw [fSeq, second]
    simp only
    rw [fSeq, third]
    simp only
    rw [fSeq, fourth]
    simp only
    have fifth : (fAsg (MP.ret (.int 2305843009213693951)) (tgN 4)) [some (.obj p), some (.int s), some (.lst (xs.map .int)), some (.int c), none, none, none, none] (hp.set p (penOf xs (s + 1) l)) = some (.nxt, [some (.obj p), some (.int s), some (.lst (xs.map .int)), some (.int c), some (.int prime), none, none, none], hp.set p (penOf xs (s + 1) l)) := by
      simp [fAsg, fE, MP.ret, tgN]
    rw [fSeq, fifth]
    simp only
    have sixth : (fAsg (eBin gMod (eCall gInt (aCons (eBin gAdd (eBin gAdd (eBin gMul (eVar 3) (MP.ret (.int 48271))) (eBin gMul (MP.ret (.int 60013)) (eVar 1))) (MP.ret (.int 31))) aNil)) (eVar 4)) (tgN 5)) [some (.obj p), some (.int s), some (.lst (xs.map .int)), some (.int c), some (.int prime), none, none, none] (hp.set p (penOf xs (s + 1) l)) =
        some (.nxt, [some (.obj p), some (.int s), some (.lst (xs.map .int)), some (.int c), some (.int prime), some (.int ((c * 48271 + 60013 * s + 31) % prime)), none, none], hp.set p (penOf xs (s + 1) l)) := by
      simp [fAsg, fE, eBin, bnd, eVar, MP.ret, eCall, aCons, aNil, gInt, gAdd, gMul, gMod, iOp, tgN, e1, e2, e5]
    rw [fSeq, sixth]
    simp only
    have seventh : (fAsg (eVar 5) (tgN 6)) [some (.obj p), some (.int s), some (.lst (xs.map .int)), some (.int c), some (.int prime), some (.int ((c * 48271 + 60013 * s + 31) % prime)), none, none] (hp.set p (penOf xs (s + 1) l)) =
        some (.nxt, [some (.obj p), some (.int s), some (.lst (xs.map .int)), some (.int c), some (.int prime), some (.int ((c * 48271 + 60013 * s + 31) % prime)), some (.int ((c * 48271 + 60013 * s + 31) % prime)), none], hp.set p (penOf xs (s + 1) l)) := by
      simp [fAsg, fE, eVar, tgN]
    rw [fSeq, seventh]
    simp only
    show fSeq (fFor (iRange1 (aCons (MP.ret (.int 6)) aNil)) (tgN 7) freshBody) (fRet (eVar 6)) _ _ = _
    rw [fSeq, loop]
    simp [fRet, fE, eVar]
theorem penAt_set {hp : EH} {p : Nat} {xs : List Int} {s l s' l' : Int} (h : penAt hp p xs s l) : penAt (hp.set p (penOf xs s' l')) p xs s' l' := by
  have hl : p < hp.length := (List.getElem?_eq_some_iff.mp h).1
  unfold penAt
  rw [List.getElem?_set_self hl]
theorem set_set {hp : EH} {p : Nat} {a b : List D} : (hp.set p a).set p b = hp.set p b := by simp
/-- a pen that may be drawn from: the heap but for its own place is h0's -/
structure Pen (h0 : EH) (hp : EH) (p : Nat) (xs : List Int) : Prop where
  ex : ∃ s l : Int, 0 ≤ s ∧ 0 ≤ l ∧ hp = h0.set p (penOf xs s l) ∧ p < h0.length
theorem draw_ok {h0 hp : EH} {p : Nat} {xs : List Int} (h : Pen h0 hp p xs) {b : Int} (b0 : 0 < b) (b1 : b < 1073741824) : ∃ (v : Int) (hp' : EH), 0 ≤ v ∧ v < b ∧ Pen h0 hp' p xs ∧ m__law_draw [.obj p, .int b] hp = some (.val (.int v), hp') := by
  obtain ⟨s, l, s0, l0, rfl, hl⟩ := h.ex
  have hl2 : p < (h0.set p (penOf xs s l)).length := by simpa using hl
  have pa : penAt (h0.set p (penOf xs s l)) p xs s l := by
    unfold penAt
    rw [List.getElem?_set_self hl]
  -- the first statement
  have one : ∃ s' l' : Int, 0 ≤ s' ∧ 0 ≤ l' ∧ (fIf (MP.tB (eBin gLt (eBin gIx (eVar 0) (MP.ret (.int 2))) (eVar 1))) (fSto (eFn m__law_fresh (aCons (eVar 0) aNil)) (eVar 0) (MP.ret (.int 2))) fNext) [some (.obj p), some (.int b), none] (h0.set p (penOf xs s l)) =
      some (.nxt, [some (.obj p), some (.int b), none], h0.set p (penOf xs s' l')) := by
    have g2 : (h0.set p (penOf xs s l))[p]? = some (penOf xs s l) := List.getElem?_set_self hl
    by_cases c : l < b
    · obtain ⟨v, v0, e⟩ := fresh_ok pa s0
      refine ⟨s + 1, v, by omega, v0, ?_⟩
      rw [set_set] at e
      simp [fIf, fE, MP.tB, bnd, eBin, eVar, MP.ret, gIx, asQ, g2, L2.atI, L2.ixN, gLt, iCmp, c, fSto, eFn, aCons, aNil, e, hl]
    · refine ⟨s, l, s0, l0, ?_⟩
      simp [fIf, fE, MP.tB, bnd, eBin, eVar, MP.ret, gIx, asQ, g2, L2.atI, L2.ixN, gLt, iCmp, c, fNext]
  obtain ⟨s', l', s0', l0', e1⟩ := one
  have g3 : (h0.set p (penOf xs s' l'))[p]? = some (penOf xs s' l') := List.getElem?_set_self hl
  refine ⟨l' % b, h0.set p (penOf xs s' (l' / b)), Int.emod_nonneg _ (by omega), Int.emod_lt_of_pos _ b0, ⟨⟨s', l' / b, s0', Int.ediv_nonneg l0' (by omega), rfl, hl⟩⟩, ?_⟩
  have body : b__law_draw ([D.obj p, D.int b].map some ++ List.replicate (3 - 2) none) (h0.set p (penOf xs s l)) = some (.ret (.int (l' % b)), [some (.obj p), some (.int b), some (.int (l' % b))], h0.set p (penOf xs s' (l' / b))) := by
    show b__law_draw [some (.obj p), some (.int b), none] (h0.set p (penOf xs s l)) = _
    unfold b__law_draw
    rw [fSeq, e1]
    simp [fSeq, fAsg, fSto, fRet, fE, bnd, eBin, eVar, MP.ret, gIx, asQ, g3, L2.atI, L2.ixN, eCall, aCons, aNil, gInt, gMod, gDiv, iOp, tgN, b0, b1, hl]
  refine runDef_ret rfl body ?_ (handed_int _ _ _) ?_
  · have := keptTo_set (h := h0.set p (penOf xs s l)) (p := p) (ys := penOf xs s' (l' / b)) (by simp [oldDs, oldD, olds_ints])
    rwa [set_set] at this
  · rw [List.take_of_length_le]; simp
theorem one_of_ok {h0 hp : EH} {p : Nat} {xs : List Int} (h : Pen h0 hp p xs) {ds : List D} (hn : ds ≠ []) (hl : ds.length < 1073741824) (ho : oldDs h0.length ds = true) :
    ∃ (d : D) (hp' : EH), d ∈ ds ∧ Pen h0 hp' p xs ∧ m__law_one_of [.obj p, .lst ds] hp = some (.val d, hp') := by
  have pos : (0 : Int) < ds.length := by
    cases ds with
    | nil => exact absurd rfl hn
    | cons x xs => simp
  obtain ⟨v, hp', v0, v1, h', e⟩ := draw_ok h pos (by omega)
  obtain ⟨d, hd, ed⟩ := atI_mem v0 v1
  obtain ⟨s, l, _, _, e1, hl1⟩ := h.ex
  obtain ⟨s', l', _, _, e2, _⟩ := h'.ex
  have body : b__law_one_of ([D.obj p, D.lst ds].map some ++ List.replicate (2 - 2) none) hp = some (.ret d, [some (.obj p), some (.lst ds)], hp') := by
    show b__law_one_of [some (.obj p), some (.lst ds)] hp = _
    simp [b__law_one_of, fRet, fE, bnd, eBin, eVar, eFn, aCons, aNil, MP.ret, eCall, gLen, asQ, e, gIx, ed]
  have hlen : hp.length = h0.length := by rw [e1]; simp
  refine ⟨d, hp', hd, h', runDef_ret rfl body ?_ (handed_old (by rw [hlen]; exact olds_mem ho hd)) ?_⟩
  · have := keptTo_set (h := hp) (p := p) (ys := penOf xs s' l') (by simp [oldDs, oldD, olds_ints])
    rw [e1, set_set] at this
    rw [e1, e2]; exact this
  · rw [List.take_of_length_le]; rw [e2, hlen]; simp
theorem pen_ok (xs : List Int) (hp : EH) : m__law_pen [.scr (xs.map .int)] hp = some (.val (.obj hp.length), hp ++ [penOf (xs.take 63) 0 0]) := by
  have c : cutD (xs.map D.int) none (some 63) = (xs.take 63).map .int := by
    unfold cutD HT.sIx
    simp
  unfold m__law_pen runDefO
  simp [b__law_pen, fRet, fE, bnd, eObj, aCons, aNil, MP.ret, eCall, eCut, eVar, oSome, gCut, gList, asQ, c]
end Law
end

section
set_option maxRecDepth 100000
set_option maxHeartbeats 4000000
namespace Law
open PySem PySem.Spec L2 MP
/-- place == k for the places -/
def row (n k : Nat) : List D := (List.range n).map fun i => .bl (decide (i = k))
/-- the class at c is the k-th error, over the j-th built-in one -/
structure Kind (c k j : Nat) : Prop where
  srt : ∀ (ns : List Str) (xs : List D) (hp : EH), m__law_sort [.err c ns xs] hp = some (.val (.lst (row 13 k)), hp)
  blt : ∀ (ns : List Str) (xs : List D) (hp : EH), m__law_built [.err c ns xs] hp = some (.val (.lst (row 8 j)), hp)
theorem k31 : Kind 31 0 0 := ⟨fun ns xs hp => runDef_same rfl (show b__law_sort _ hp = some (.ret (.lst (row 13 0)), _, hp) from rfl) rfl, fun ns xs hp => runDef_same rfl (show b__law_built _ hp = some (.ret (.lst (row 8 0)), _, hp) from rfl) rfl⟩
theorem k51 : Kind 51 1 0 := ⟨fun ns xs hp => runDef_same rfl (show b__law_sort _ hp = some (.ret (.lst (row 13 1)), _, hp) from rfl) rfl, fun ns xs hp => runDef_same rfl (show b__law_built _ hp = some (.ret (.lst (row 8 0)), _, hp) from rfl) rfl⟩
theorem k71 : Kind 71 2 0 := ⟨fun ns xs hp => runDef_same rfl (show b__law_sort _ hp = some (.ret (.lst (row 13 2)), _, hp) from rfl) rfl, fun ns xs hp => runDef_same rfl (show b__law_built _ hp = some (.ret (.lst (row 8 0)), _, hp) from rfl) rfl⟩
theorem k91 : Kind 91 3 0 := ⟨fun ns xs hp => runDef_same rfl (show b__law_sort _ hp = some (.ret (.lst (row 13 3)), _, hp) from rfl) rfl, fun ns xs hp => runDef_same rfl (show b__law_built _ hp = some (.ret (.lst (row 8 0)), _, hp) from rfl) rfl⟩
theorem k111 : Kind 111 4 0 := ⟨fun ns xs hp => runDef_same rfl (show b__law_sort _ hp = some (.ret (.lst (row 13 4)), _, hp) from rfl) rfl, fun ns xs hp => runDef_same rfl (show b__law_built _ hp = some (.ret (.lst (row 8 0)), _, hp) from rfl) rfl⟩
theorem k131 : Kind 131 5 0 := ⟨fun ns xs hp => runDef_same rfl (show b__law_sort _ hp = some (.ret (.lst (row 13 5)), _, hp) from rfl) rfl, fun ns xs hp => runDef_same rfl (show b__law_built _ hp = some (.ret (.lst (row 8 0)), _, hp) from rfl) rfl⟩
theorem k144 : Kind 144 6 3 := ⟨fun ns xs hp => runDef_same rfl (show b__law_sort _ hp = some (.ret (.lst (row 13 6)), _, hp) from rfl) rfl, fun ns xs hp => runDef_same rfl (show b__law_built _ hp = some (.ret (.lst (row 8 3)), _, hp) from rfl) rfl⟩
theorem k157 : Kind 157 7 1 := ⟨fun ns xs hp => runDef_same rfl (show b__law_sort _ hp = some (.ret (.lst (row 13 7)), _, hp) from rfl) rfl, fun ns xs hp => runDef_same rfl (show b__law_built _ hp = some (.ret (.lst (row 8 1)), _, hp) from rfl) rfl⟩
theorem k170 : Kind 170 8 1 := ⟨fun ns xs hp => runDef_same rfl (show b__law_sort _ hp = some (.ret (.lst (row 13 8)), _, hp) from rfl) rfl, fun ns xs hp => runDef_same rfl (show b__law_built _ hp = some (.ret (.lst (row 8 1)), _, hp) from rfl) rfl⟩
theorem k190 : Kind 190 9 1 := ⟨fun ns xs hp => runDef_same rfl (show b__law_sort _ hp = some (.ret (.lst (row 13 9)), _, hp) from rfl) rfl, fun ns xs hp => runDef_same rfl (show b__law_built _ hp = some (.ret (.lst (row 8 1)), _, hp) from rfl) rfl⟩
theorem k210 : Kind 210 10 1 := ⟨fun ns xs hp => runDef_same rfl (show b__law_sort _ hp = some (.ret (.lst (row 13 10)), _, hp) from rfl) rfl, fun ns xs hp => runDef_same rfl (show b__law_built _ hp = some (.ret (.lst (row 8 1)), _, hp) from rfl) rfl⟩
theorem k223 : Kind 223 11 1 := ⟨fun ns xs hp => runDef_same rfl (show b__law_sort _ hp = some (.ret (.lst (row 13 11)), _, hp) from rfl) rfl, fun ns xs hp => runDef_same rfl (show b__law_built _ hp = some (.ret (.lst (row 8 1)), _, hp) from rfl) rfl⟩
theorem k243 : Kind 243 12 2 := ⟨fun ns xs hp => runDef_same rfl (show b__law_sort _ hp = some (.ret (.lst (row 13 12)), _, hp) from rfl) rfl, fun ns xs hp => runDef_same rfl (show b__law_built _ hp = some (.ret (.lst (row 8 2)), _, hp) from rfl) rfl⟩
abbrev lcRow (n slot : Nat) : FE := eLc (iRange1 (aCons (MP.ret (.int n)) aNil)) [4] (tgN 4) tYesF (eBin gEq (eVar 4) (eVar slot))
/-- the places are told rightly -/
structure Places (k j : Nat) : Prop where
  srt : ∀ (L e x : Option D) (hp : EH), lcRow 13 0 [some (.int k), some (.int j), L, e, x] hp = some (.val (.lst (row 13 k)), hp)
  blt : ∀ (L e x : Option D) (hp : EH), lcRow 8 1 [some (.int k), some (.int j), L, e, x] hp = some (.val (.lst (row 8 j)), hp)
  n1 : ∀ hp : EH, gNe (.lst (row 13 k)) (.lst (row 13 k)) hp = some (.bl false)
  n2 : ∀ hp : EH, gNe (.lst (row 8 j)) (.lst (row 8 j)) hp = some (.bl false)
theorem pl0 : Places 0 0 := ⟨fun L e x hp => rfl, fun L e x hp => rfl, fun hp => rfl, fun hp => rfl⟩
theorem pl1 : Places 1 0 := ⟨fun L e x hp => rfl, fun L e x hp => rfl, fun hp => rfl, fun hp => rfl⟩
theorem pl2 : Places 2 0 := ⟨fun L e x hp => rfl, fun L e x hp => rfl, fun hp => rfl, fun hp => rfl⟩
theorem pl3 : Places 3 0 := ⟨fun L e x hp => rfl, fun L e x hp => rfl, fun hp => rfl, fun hp => rfl⟩
theorem pl4 : Places 4 0 := ⟨fun L e x hp => rfl, fun L e x hp => rfl, fun hp => rfl, fun hp => rfl⟩
theorem pl5 : Places 5 0 := ⟨fun L e x hp => rfl, fun L e x hp => rfl, fun hp => rfl, fun hp => rfl⟩
theorem pl6 : Places 6 3 := ⟨fun L e x hp => rfl, fun L e x hp => rfl, fun hp => rfl, fun hp => rfl⟩
theorem pl7 : Places 7 1 := ⟨fun L e x hp => rfl, fun L e x hp => rfl, fun hp => rfl, fun hp => rfl⟩
theorem pl8 : Places 8 1 := ⟨fun L e x hp => rfl, fun L e x hp => rfl, fun hp => rfl, fun hp => rfl⟩
theorem pl9 : Places 9 1 := ⟨fun L e x hp => rfl, fun L e x hp => rfl, fun hp => rfl, fun hp => rfl⟩
theorem pl10 : Places 10 1 := ⟨fun L e x hp => rfl, fun L e x hp => rfl, fun hp => rfl, fun hp => rfl⟩
theorem pl11 : Places 11 1 := ⟨fun L e x hp => rfl, fun L e x hp => rfl, fun hp => rfl, fun hp => rfl⟩
theorem pl12 : Places 12 2 := ⟨fun L e x hp => rfl, fun L e x hp => rfl, fun hp => rfl, fun hp => rfl⟩
abbrev rightBody : FS := (fSeq (fIf (MP.tB (eBin gNe (eFn m__law_sort (aCons (eVar 3) aNil)) (lcRow 13 0))) (fRet (MP.ret (.bl false))) fNext) (fIf (MP.tB (eBin gNe (eFn m__law_built (aCons (eVar 3) aNil)) (lcRow 8 1))) (fRet (MP.ret (.bl false))) fNext))
theorem right_turn {k j c : Nat} (P : Places k j) (Q : Kind c k j) (L x : Option D) (ns : List Str) (xs : List D) (hp : EH) :
    rightBody [some (.int k), some (.int j), L, some (.err c ns xs), x] hp = some (.nxt, [some (.int k), some (.int j), L, some (.err c ns xs), x], hp) := by
  simp only [rightBody, fSeq, fIf, fE, MP.tB, eBin, bnd, eFn, aCons, aNil, eVar, MP.ret, List.getElem?_cons_succ, List.getElem?_cons_zero, Q.srt, Q.blt, P.srt, P.blt, P.n1, P.n2]
  simp only [fNext, if_neg Bool.false_ne_true, Q.blt, P.blt, P.n2, List.getElem?_cons_succ, List.getElem?_cons_zero]
theorem right_turns {k j c : Nat} (P : Places k j) (Q : Kind c k j) (L x : Option D) (hp : EH) : ∀ (es : List (List Str × List D)) (e0 : Option D), ∃ e1, fTurns (tgN 3) yes rightBody (es.map fun e => .err c e.1 e.2) [some (.int k), some (.int j), L, e0, x] hp = some (.nxt, [some (.int k), some (.int j), L, e1, x], hp) := by
  intro es
  induction es with
  | nil => intro e0; exact ⟨e0, turns_nil⟩
  | cons e es ih =>
    intro e0
    obtain ⟨e1, h⟩ := ih (some (.err c e.1 e.2))
    refine ⟨e1, ?_⟩
    rw [List.map_cons, ← h]
    exact turns_cons (by simp [tgN]) (right_turn P Q L x e.1 e.2 hp)
theorem right_ok {k j c : Nat} (P : Places k j) (Q : Kind c k j) (es : List (List Str × List D)) (hp : EH) : m__law_right [.int k, .int j, .lst (es.map fun e => .err c e.1 e.2)] hp = some (.val (.bl true), hp) := by
  obtain ⟨e1, h⟩ := right_turns P Q (some (.lst (es.map fun e => .err c e.1 e.2))) none hp es none
  refine runDef_same (env := [some (.int k), some (.int j), some (.lst (es.map fun e => .err c e.1 e.2)), e1, none]) rfl ?_ (handed_bl _ _ _)
  show b__law_right [some (.int k), some (.int j), some (.lst (es.map fun e => .err c e.1 e.2)), none, none] hp = _
  have l : (fFor (iSeq (eVar 2)) (tgN 3) rightBody) [some (.int k), some (.int j), some (.lst (es.map fun e => .err c e.1 e.2)), none, none] hp = some (.nxt, [some (.int k), some (.int j), some (.lst (es.map fun e => .err c e.1 e.2)), e1, none], hp) := by
    rw [← h]
    simp [fFor, fE, iSeq, bnd, eVar]
  show fSeq (fFor (iSeq (eVar 2)) (tgN 3) rightBody) (fRet (MP.ret (.bl true))) _ hp = _
  rw [fSeq, l]
  rfl
theorem plain_ok (hp : EH) : m__law_plain_right [] hp = some (.val (.bl true), hp) := by
  refine runDef_same (env := []) rfl ?_ (handed_bl _ _ _)
  have r1 : m__law_right [.int 6, .int 3, .lst [.err 144 [] []]] hp = some (.val (.bl true), hp) := right_ok pl6 k144 [([], [])] hp
  have r2 : m__law_right [.int 7, .int 1, .lst [.err 157 [] []]] hp = some (.val (.bl true), hp) := right_ok pl7 k157 [([], [])] hp
  have r3 : m__law_right [.int 8, .int 1, .lst [.err 170 [] []]] hp = some (.val (.bl true), hp) := right_ok pl8 k170 [([], [])] hp
  have r4 : m__law_right [.int 11, .int 1, .lst [.err 223 [] []]] hp = some (.val (.bl true), hp) := right_ok pl11 k223 [([], [])] hp
  show b__law_plain_right [] hp = _
  simp [b__law_plain_right, fSeq, fIf, fE, MP.tOr, MP.tNot, MP.tB, bnd, eFn, aCons, aNil, MP.ret, eLst, r1, r2, r3, r4, fNext, fRet, eAnd]
end Law
end

section
set_option maxRecDepth 100000
set_option maxHeartbeats 4000000
namespace Law
open PySem PySem.Spec L2 MP
theorem rgC_ok {c : Int} (h0 : 0 ≤ c) (h1 : c < 5400) : rg (.list [.int c, .none]) = true ∧ rg (.list [.int c, .int 8]) = true ∧ rg (.list [.int c, .int 2]) = true ∧ rg (.list [.int c, .str "Full"]) = true ∧ rg (.list [.int c, .int 300]) = true :=
  ⟨rg_pair h0 (by omega) rfl rfl (by decide) (by decide +kernel) (by decide +kernel), rg_pair h0 (by omega) (by decide +kernel) rfl (by decide) (by decide +kernel) (by decide +kernel), rg_pair h0 (by omega) (by decide +kernel) rfl (by decide) (by decide +kernel) (by decide +kernel),
    rg_pair h0 (by omega) rfl rfl (by decide) (by decide +kernel) (by decide +kernel), rg_pair h0 (by omega) (by decide +kernel) rfl (by decide) (by decide +kernel) (by decide +kernel)⟩
theorem ir : ¬ (("index" : Str) = "reason") := by decide +kernel

theorem s3 (sc pn a b : Option D) (c : Int) (d : D) (hp : EH) : (fPar (aCons (eMk 31 ["part"] (aCons (eVar 3) aNil)) (aCons (eMkK 31 ["part"] 1 (fun l => l) (aCons (MP.ret (.str "kinds")) aNil)) aNil)) 4 5) [sc, pn, some (.int c), some d, a, b, none] hp = some (.nxt, [sc, pn, some (.int c), some d, (some (.err 31 ["part"] [d])), (some (.err 31 ["part"] [.str "kinds"])), none], hp) := by
  simp [fPar, fE, eMk, eMkK, bnd, eVar, aCons, aNil, MP.ret, eNeg]
theorem s4 (sc pn : Option D) (c : Int) (d : D) (hp : EH) (hr : ∃ S, gRepr [.lst [d, .str "kinds"]] hp = some (.str S) ∧ gEq (.str S) (.str S) hp = some (.bl true)) : (fAsg (eAnd (eFn m__law_right (aCons (MP.ret (.int 0)) (aCons (MP.ret (.int 0)) (aCons (eLst (aCons (eVar 4) (aCons (eVar 5) aNil))) aNil)))) (eBin gEq (eCall gRepr (aCons (eLst (aCons (eFld "part" (eVar 4)) (aCons (eFld "part" (eVar 5)) aNil))) aNil)) (eCall gRepr (aCons (eLst (aCons (eVar 3) (aCons (MP.ret (.str "kinds")) aNil))) aNil)))) (tgN 6)) [sc, pn, some (.int c), some d, (some (.err 31 ["part"] [d])), (some (.err 31 ["part"] [.str "kinds"])), none] hp = some (.nxt, [sc, pn, some (.int c), some d, (some (.err 31 ["part"] [d])), (some (.err 31 ["part"] [.str "kinds"])), (some (.bl true))], hp) := by
  obtain ⟨S, q1, q2⟩ := hr
  have r : m__law_right [.int 0, .int 0, .lst [(.err 31 ["part"] [d]), (.err 31 ["part"] [.str "kinds"])]] hp = some (.val (.bl true), hp) := right_ok pl0 k31 [(["part"], [d]), (["part"], [.str "kinds"])] hp
  simp [fAsg, fRet, fE, eAnd, MP.tB, bnd, eVar, eFn, eBin, eCall, eFld, fldOf, eLst, aCons, aNil, MP.ret, tgN, r, q1, q2, ir]
theorem s5 (sc pn a b : Option D) (c : Int) (d : D) (hp : EH) : (fPar (aCons (eMk 51 ["index"] (aCons (eVar 2) aNil)) (aCons (eMkK 51 ["index"] 1 (fun l => l) (aCons (MP.ret .non) aNil)) aNil)) 4 5) [sc, pn, some (.int c), some d, a, b, (some (.bl true))] hp = some (.nxt, [sc, pn, some (.int c), some d, (some (.err 51 ["index"] [.int c])), (some (.err 51 ["index"] [.non])), (some (.bl true))], hp) := by
  simp [fPar, fE, eMk, eMkK, bnd, eVar, aCons, aNil, MP.ret, eNeg]
theorem s6 (sc pn : Option D) (c : Int) (d : D) (hp : EH) (hr : ∃ S, gRepr [.lst [.int c, .non]] hp = some (.str S) ∧ gEq (.str S) (.str S) hp = some (.bl true)) : (fAsg (eAnd (eVar 6) (eAnd (eFn m__law_right (aCons (MP.ret (.int 1)) (aCons (MP.ret (.int 0)) (aCons (eLst (aCons (eVar 4) (aCons (eVar 5) aNil))) aNil)))) (eBin gEq (eCall gRepr (aCons (eLst (aCons (eFld "index" (eVar 4)) (aCons (eFld "index" (eVar 5)) aNil))) aNil)) (eCall gRepr (aCons (eLst (aCons (eVar 2) (aCons (MP.ret .non) aNil))) aNil))))) (tgN 6)) [sc, pn, some (.int c), some d, (some (.err 51 ["index"] [.int c])), (some (.err 51 ["index"] [.non])), (some (.bl true))] hp = some (.nxt, [sc, pn, some (.int c), some d, (some (.err 51 ["index"] [.int c])), (some (.err 51 ["index"] [.non])), (some (.bl true))], hp) := by
  obtain ⟨S, q1, q2⟩ := hr
  have r : m__law_right [.int 1, .int 0, .lst [(.err 51 ["index"] [.int c]), (.err 51 ["index"] [.non])]] hp = some (.val (.bl true), hp) := right_ok pl1 k51 [(["index"], [.int c]), (["index"], [.non])] hp
  simp [fAsg, fRet, fE, eAnd, MP.tB, bnd, eVar, eFn, eBin, eCall, eFld, fldOf, eLst, aCons, aNil, MP.ret, tgN, r, q1, q2, ir]
theorem s7 (sc pn a b : Option D) (c : Int) (d : D) (hp : EH) : (fPar (aCons (eMk 71 ["index"] (aCons (MP.ret (.int 2)) aNil)) (aCons (eMkK 71 ["index"] 1 (fun l => l) (aCons (MP.ret .non) aNil)) aNil)) 4 5) [sc, pn, some (.int c), some d, a, b, (some (.bl true))] hp = some (.nxt, [sc, pn, some (.int c), some d, (some (.err 71 ["index"] [.int 2])), (some (.err 71 ["index"] [.non])), (some (.bl true))], hp) := by
  simp [fPar, fE, eMk, eMkK, bnd, eVar, aCons, aNil, MP.ret, eNeg]
theorem s8 (sc pn : Option D) (c : Int) (d : D) (hp : EH) (hr : ∃ S, gRepr [.lst [.int 2, .non]] hp = some (.str S) ∧ gEq (.str S) (.str S) hp = some (.bl true)) : (fAsg (eAnd (eVar 6) (eAnd (eFn m__law_right (aCons (MP.ret (.int 2)) (aCons (MP.ret (.int 0)) (aCons (eLst (aCons (eVar 4) (aCons (eVar 5) aNil))) aNil)))) (eBin gEq (eCall gRepr (aCons (eLst (aCons (eFld "index" (eVar 4)) (aCons (eFld "index" (eVar 5)) aNil))) aNil)) (eCall gRepr (aCons (eLst (aCons (MP.ret (.int 2)) (aCons (MP.ret .non) aNil))) aNil))))) (tgN 6)) [sc, pn, some (.int c), some d, (some (.err 71 ["index"] [.int 2])), (some (.err 71 ["index"] [.non])), (some (.bl true))] hp = some (.nxt, [sc, pn, some (.int c), some d, (some (.err 71 ["index"] [.int 2])), (some (.err 71 ["index"] [.non])), (some (.bl true))], hp) := by
  obtain ⟨S, q1, q2⟩ := hr
  have r : m__law_right [.int 2, .int 0, .lst [(.err 71 ["index"] [.int 2]), (.err 71 ["index"] [.non])]] hp = some (.val (.bl true), hp) := right_ok pl2 k71 [(["index"], [.int 2]), (["index"], [.non])] hp
  simp [fAsg, fRet, fE, eAnd, MP.tB, bnd, eVar, eFn, eBin, eCall, eFld, fldOf, eLst, aCons, aNil, MP.ret, tgN, r, q1, q2, ir]
theorem s9 (sc pn a b : Option D) (c : Int) (d : D) (hp : EH) : (fPar (aCons (eMk 91 ["index"] (aCons (MP.ret (.int 0)) aNil)) (aCons (eMkK 91 ["index"] 1 (fun l => l) (aCons (MP.ret (.int 1)) aNil)) aNil)) 4 5) [sc, pn, some (.int c), some d, a, b, (some (.bl true))] hp = some (.nxt, [sc, pn, some (.int c), some d, (some (.err 91 ["index"] [.int 0])), (some (.err 91 ["index"] [.int 1])), (some (.bl true))], hp) := by
  simp [fPar, fE, eMk, eMkK, bnd, eVar, aCons, aNil, MP.ret, eNeg]
theorem s10 (sc pn : Option D) (c : Int) (d : D) (hp : EH) (hr : ∃ S, gRepr [.lst [.int 0, .int 1]] hp = some (.str S) ∧ gEq (.str S) (.str S) hp = some (.bl true)) : (fAsg (eAnd (eVar 6) (eAnd (eFn m__law_right (aCons (MP.ret (.int 3)) (aCons (MP.ret (.int 0)) (aCons (eLst (aCons (eVar 4) (aCons (eVar 5) aNil))) aNil)))) (eBin gEq (eCall gRepr (aCons (eLst (aCons (eFld "index" (eVar 4)) (aCons (eFld "index" (eVar 5)) aNil))) aNil)) (eCall gRepr (aCons (eLst (aCons (MP.ret (.int 0)) (aCons (MP.ret (.int 1)) aNil))) aNil))))) (tgN 6)) [sc, pn, some (.int c), some d, (some (.err 91 ["index"] [.int 0])), (some (.err 91 ["index"] [.int 1])), (some (.bl true))] hp = some (.nxt, [sc, pn, some (.int c), some d, (some (.err 91 ["index"] [.int 0])), (some (.err 91 ["index"] [.int 1])), (some (.bl true))], hp) := by
  obtain ⟨S, q1, q2⟩ := hr
  have r : m__law_right [.int 3, .int 0, .lst [(.err 91 ["index"] [.int 0]), (.err 91 ["index"] [.int 1])]] hp = some (.val (.bl true), hp) := right_ok pl3 k91 [(["index"], [.int 0]), (["index"], [.int 1])] hp
  simp [fAsg, fRet, fE, eAnd, MP.tB, bnd, eVar, eFn, eBin, eCall, eFld, fldOf, eLst, aCons, aNil, MP.ret, tgN, r, q1, q2, ir]
theorem s11 (sc pn a b : Option D) (c : Int) (d : D) (hp : EH) : (fPar (aCons (eMk 111 ["part"] (aCons (MP.ret (.str "n")) aNil)) (aCons (eMkK 111 ["part"] 1 (fun l => l) (aCons (MP.ret (.str "kind")) aNil)) aNil)) 4 5) [sc, pn, some (.int c), some d, a, b, (some (.bl true))] hp = some (.nxt, [sc, pn, some (.int c), some d, (some (.err 111 ["part"] [.str "n"])), (some (.err 111 ["part"] [.str "kind"])), (some (.bl true))], hp) := by
  simp [fPar, fE, eMk, eMkK, bnd, eVar, aCons, aNil, MP.ret, eNeg]
theorem s12 (sc pn : Option D) (c : Int) (d : D) (hp : EH) (hr : ∃ S, gRepr [.lst [.str "n", .str "kind"]] hp = some (.str S) ∧ gEq (.str S) (.str S) hp = some (.bl true)) : (fAsg (eAnd (eVar 6) (eAnd (eFn m__law_right (aCons (MP.ret (.int 4)) (aCons (MP.ret (.int 0)) (aCons (eLst (aCons (eVar 4) (aCons (eVar 5) aNil))) aNil)))) (eBin gEq (eCall gRepr (aCons (eLst (aCons (eFld "part" (eVar 4)) (aCons (eFld "part" (eVar 5)) aNil))) aNil)) (eCall gRepr (aCons (eLst (aCons (MP.ret (.str "n")) (aCons (MP.ret (.str "kind")) aNil))) aNil))))) (tgN 6)) [sc, pn, some (.int c), some d, (some (.err 111 ["part"] [.str "n"])), (some (.err 111 ["part"] [.str "kind"])), (some (.bl true))] hp = some (.nxt, [sc, pn, some (.int c), some d, (some (.err 111 ["part"] [.str "n"])), (some (.err 111 ["part"] [.str "kind"])), (some (.bl true))], hp) := by
  obtain ⟨S, q1, q2⟩ := hr
  have r : m__law_right [.int 4, .int 0, .lst [(.err 111 ["part"] [.str "n"]), (.err 111 ["part"] [.str "kind"])]] hp = some (.val (.bl true), hp) := right_ok pl4 k111 [(["part"], [.str "n"]), (["part"], [.str "kind"])] hp
  simp [fAsg, fRet, fE, eAnd, MP.tB, bnd, eVar, eFn, eBin, eCall, eFld, fldOf, eLst, aCons, aNil, MP.ret, tgN, r, q1, q2, ir]
theorem s13 (sc pn a b : Option D) (c : Int) (d : D) (hp : EH) : (fPar (aCons (eMk 131 ["line"] (aCons (eVar 2) aNil)) (aCons (eMkK 131 ["line"] 1 (fun l => l) (aCons (MP.ret (.int 8)) aNil)) aNil)) 4 5) [sc, pn, some (.int c), some d, a, b, (some (.bl true))] hp = some (.nxt, [sc, pn, some (.int c), some d, (some (.err 131 ["line"] [.int c])), (some (.err 131 ["line"] [.int 8])), (some (.bl true))], hp) := by
  simp [fPar, fE, eMk, eMkK, bnd, eVar, aCons, aNil, MP.ret, eNeg]
theorem s14 (sc pn : Option D) (c : Int) (d : D) (hp : EH) (hr : ∃ S, gRepr [.lst [.int c, .int 8]] hp = some (.str S) ∧ gEq (.str S) (.str S) hp = some (.bl true)) : (fAsg (eAnd (eVar 6) (eAnd (eFn m__law_right (aCons (MP.ret (.int 5)) (aCons (MP.ret (.int 0)) (aCons (eLst (aCons (eVar 4) (aCons (eVar 5) aNil))) aNil)))) (eBin gEq (eCall gRepr (aCons (eLst (aCons (eFld "line" (eVar 4)) (aCons (eFld "line" (eVar 5)) aNil))) aNil)) (eCall gRepr (aCons (eLst (aCons (eVar 2) (aCons (MP.ret (.int 8)) aNil))) aNil))))) (tgN 6)) [sc, pn, some (.int c), some d, (some (.err 131 ["line"] [.int c])), (some (.err 131 ["line"] [.int 8])), (some (.bl true))] hp = some (.nxt, [sc, pn, some (.int c), some d, (some (.err 131 ["line"] [.int c])), (some (.err 131 ["line"] [.int 8])), (some (.bl true))], hp) := by
  obtain ⟨S, q1, q2⟩ := hr
  have r : m__law_right [.int 5, .int 0, .lst [(.err 131 ["line"] [.int c]), (.err 131 ["line"] [.int 8])]] hp = some (.val (.bl true), hp) := right_ok pl5 k131 [(["line"], [.int c]), (["line"], [.int 8])] hp
  simp [fAsg, fRet, fE, eAnd, MP.tB, bnd, eVar, eFn, eBin, eCall, eFld, fldOf, eLst, aCons, aNil, MP.ret, tgN, r, q1, q2, ir]
theorem s15 (sc pn a b : Option D) (c : Int) (d : D) (hp : EH) : (fPar (aCons (eMk 190 ["index"] (aCons (eVar 2) aNil)) (aCons (eMkK 190 ["index"] 1 (fun l => l) (aCons (MP.ret (.int 2)) aNil)) aNil)) 4 5) [sc, pn, some (.int c), some d, a, b, (some (.bl true))] hp = some (.nxt, [sc, pn, some (.int c), some d, (some (.err 190 ["index"] [.int c])), (some (.err 190 ["index"] [.int 2])), (some (.bl true))], hp) := by
  simp [fPar, fE, eMk, eMkK, bnd, eVar, aCons, aNil, MP.ret, eNeg]
theorem s16 (sc pn : Option D) (c : Int) (d : D) (hp : EH) (hr : ∃ S, gRepr [.lst [.int c, .int 2]] hp = some (.str S) ∧ gEq (.str S) (.str S) hp = some (.bl true)) : (fAsg (eAnd (eVar 6) (eAnd (eFn m__law_right (aCons (MP.ret (.int 9)) (aCons (MP.ret (.int 1)) (aCons (eLst (aCons (eVar 4) (aCons (eVar 5) aNil))) aNil)))) (eBin gEq (eCall gRepr (aCons (eLst (aCons (eFld "index" (eVar 4)) (aCons (eFld "index" (eVar 5)) aNil))) aNil)) (eCall gRepr (aCons (eLst (aCons (eVar 2) (aCons (MP.ret (.int 2)) aNil))) aNil))))) (tgN 6)) [sc, pn, some (.int c), some d, (some (.err 190 ["index"] [.int c])), (some (.err 190 ["index"] [.int 2])), (some (.bl true))] hp = some (.nxt, [sc, pn, some (.int c), some d, (some (.err 190 ["index"] [.int c])), (some (.err 190 ["index"] [.int 2])), (some (.bl true))], hp) := by
  obtain ⟨S, q1, q2⟩ := hr
  have r : m__law_right [.int 9, .int 1, .lst [(.err 190 ["index"] [.int c]), (.err 190 ["index"] [.int 2])]] hp = some (.val (.bl true), hp) := right_ok pl9 k190 [(["index"], [.int c]), (["index"], [.int 2])] hp
  simp [fAsg, fRet, fE, eAnd, MP.tB, bnd, eVar, eFn, eBin, eCall, eFld, fldOf, eLst, aCons, aNil, MP.ret, tgN, r, q1, q2, ir]
theorem s17 (sc pn a b : Option D) (c : Int) (d : D) (hp : EH) : (fPar (aCons (eMk 210 ["index", "reason"] (aCons (eVar 2) (aCons (MP.ret (.str "Full")) aNil))) (aCons (eMkK 210 ["index", "reason"] 2 List.reverse (aCons (MP.ret .non) (aCons (eNeg (MP.ret (.int 1))) aNil))) aNil)) 4 5) [sc, pn, some (.int c), some d, a, b, (some (.bl true))] hp = some (.nxt, [sc, pn, some (.int c), some d, (some (.err 210 ["reason", "index"] [.str "Full", .int c])), (some (.err 210 ["reason", "index"] [.non, .int (-1)])), (some (.bl true))], hp) := by
  simp [fPar, fE, eMk, eMkK, bnd, eVar, aCons, aNil, MP.ret, eNeg]
theorem s18 (sc pn : Option D) (c : Int) (d : D) (hp : EH) (hr : ∃ S, gRepr [.lst [.int c, .str "Full"]] hp = some (.str S) ∧ gEq (.str S) (.str S) hp = some (.bl true)) : (fAsg (eAnd (eVar 6) (eAnd (eFn m__law_right (aCons (MP.ret (.int 10)) (aCons (MP.ret (.int 1)) (aCons (eLst (aCons (eVar 4) (aCons (eVar 5) aNil))) aNil)))) (eBin gEq (eCall gRepr (aCons (eLst (aCons (eFld "index" (eVar 4)) (aCons (eFld "reason" (eVar 4)) aNil))) aNil)) (eCall gRepr (aCons (eLst (aCons (eVar 2) (aCons (MP.ret (.str "Full")) aNil))) aNil))))) (tgN 6)) [sc, pn, some (.int c), some d, (some (.err 210 ["reason", "index"] [.str "Full", .int c])), (some (.err 210 ["reason", "index"] [.non, .int (-1)])), (some (.bl true))] hp = some (.nxt, [sc, pn, some (.int c), some d, (some (.err 210 ["reason", "index"] [.str "Full", .int c])), (some (.err 210 ["reason", "index"] [.non, .int (-1)])), (some (.bl true))], hp) := by
  obtain ⟨S, q1, q2⟩ := hr
  have r : m__law_right [.int 10, .int 1, .lst [(.err 210 ["reason", "index"] [.str "Full", .int c]), (.err 210 ["reason", "index"] [.non, .int (-1)])]] hp = some (.val (.bl true), hp) := right_ok pl10 k210 [(["reason", "index"], [.str "Full", .int c]), (["reason", "index"], [.non, .int (-1)])] hp
  simp [fAsg, fRet, fE, eAnd, MP.tB, bnd, eVar, eFn, eBin, eCall, eFld, fldOf, eLst, aCons, aNil, MP.ret, tgN, r, q1, q2, ir]
theorem s19 (sc pn : Option D) (c : Int) (d : D) (hp : EH) (hr : ∃ S, gRepr [.lst [.int (-1), .non]] hp = some (.str S) ∧ gEq (.str S) (.str S) hp = some (.bl true)) : (fAsg (eAnd (eVar 6) (eAnd (eBin gEq (eCall gRepr (aCons (eLst (aCons (eFld "index" (eVar 5)) (aCons (eFld "reason" (eVar 5)) aNil))) aNil)) (eCall gRepr (aCons (eLst (aCons (eNeg (MP.ret (.int 1))) (aCons (MP.ret .non) aNil))) aNil))) (eFn m__law_plain_right aNil))) (tgN 6)) [sc, pn, some (.int c), some d, (some (.err 210 ["reason", "index"] [.str "Full", .int c])), (some (.err 210 ["reason", "index"] [.non, .int (-1)])), (some (.bl true))] hp = some (.nxt, [sc, pn, some (.int c), some d, (some (.err 210 ["reason", "index"] [.str "Full", .int c])), (some (.err 210 ["reason", "index"] [.non, .int (-1)])), (some (.bl true))], hp) := by
  obtain ⟨S, q1, q2⟩ := hr
  simp [fAsg, fE, eAnd, MP.tB, bnd, eVar, eFn, eBin, eCall, eFld, fldOf, eLst, aCons, aNil, MP.ret, tgN, eNeg, q1, q2, ir, plain_ok]
theorem s20 (sc pn a b : Option D) (c : Int) (d : D) (hp : EH) : (fPar (aCons (eMk 243 ["limit"] (aCons (eVar 2) aNil)) (aCons (eMkK 243 ["limit"] 1 (fun l => l) (aCons (MP.ret (.int 300)) aNil)) aNil)) 4 5) [sc, pn, some (.int c), some d, a, b, (some (.bl true))] hp = some (.nxt, [sc, pn, some (.int c), some d, (some (.err 243 ["limit"] [.int c])), (some (.err 243 ["limit"] [.int 300])), (some (.bl true))], hp) := by
  simp [fPar, fE, eMk, eMkK, bnd, eVar, aCons, aNil, MP.ret, eNeg]
theorem s21 (sc pn : Option D) (c : Int) (d : D) (hp : EH) (hr : ∃ S, gRepr [.lst [.int c, .int 300]] hp = some (.str S) ∧ gEq (.str S) (.str S) hp = some (.bl true)) : (fRet (eAnd (eVar 6) (eAnd (eFn m__law_right (aCons (MP.ret (.int 12)) (aCons (MP.ret (.int 2)) (aCons (eLst (aCons (eVar 4) (aCons (eVar 5) aNil))) aNil)))) (eBin gEq (eCall gRepr (aCons (eLst (aCons (eFld "limit" (eVar 4)) (aCons (eFld "limit" (eVar 5)) aNil))) aNil)) (eCall gRepr (aCons (eLst (aCons (eVar 2) (aCons (MP.ret (.int 300)) aNil))) aNil)))))) [sc, pn, some (.int c), some d, (some (.err 243 ["limit"] [.int c])), (some (.err 243 ["limit"] [.int 300])), (some (.bl true))] hp = some (.ret (.bl true), [sc, pn, some (.int c), some d, (some (.err 243 ["limit"] [.int c])), (some (.err 243 ["limit"] [.int 300])), (some (.bl true))], hp) := by
  obtain ⟨S, q1, q2⟩ := hr
  have r : m__law_right [.int 12, .int 2, .lst [(.err 243 ["limit"] [.int c]), (.err 243 ["limit"] [.int 300])]] hp = some (.val (.bl true), hp) := right_ok pl12 k243 [(["limit"], [.int c]), (["limit"], [.int 300])] hp
  simp [fAsg, fRet, fE, eAnd, MP.tB, bnd, eVar, eFn, eBin, eCall, eFld, fldOf, eLst, aCons, aNil, MP.ret, tgN, r, q1, q2, ir]
theorem rest_ok (sc pn : Option D) (c : Int) (d : D) (hp : EH) (h0 : 0 ≤ c) (h1 : c < 5400) (hd : d = .non ∨ d = .str "kinds" ∨ d = .str "rules" ∨ d = .int 0 ∨ d = .int 5) :
    ∃ env, (fSeq (fPar (aCons (eMk 31 ["part"] (aCons (eVar 3) aNil)) (aCons (eMkK 31 ["part"] 1 (fun l => l) (aCons (MP.ret (.str "kinds")) aNil)) aNil)) 4 5) (fSeq (fAsg (eAnd (eFn m__law_right (aCons (MP.ret (.int 0)) (aCons (MP.ret (.int 0)) (aCons (eLst (aCons (eVar 4) (aCons (eVar 5) aNil))) aNil)))) (eBin gEq (eCall gRepr (aCons (eLst (aCons (eFld "part" (eVar 4)) (aCons (eFld "part" (eVar 5)) aNil))) aNil)) (eCall gRepr (aCons (eLst (aCons (eVar 3) (aCons (MP.ret (.str "kinds")) aNil))) aNil)))) (tgN 6)) (fSeq (fPar (aCons (eMk 51 ["index"] (aCons (eVar 2) aNil)) (aCons (eMkK 51 ["index"] 1 (fun l => l) (aCons (MP.ret .non) aNil)) aNil)) 4 5) (fSeq (fAsg (eAnd (eVar 6) (eAnd (eFn m__law_right (aCons (MP.ret (.int 1)) (aCons (MP.ret (.int 0)) (aCons (eLst (aCons (eVar 4) (aCons (eVar 5) aNil))) aNil)))) (eBin gEq (eCall gRepr (aCons (eLst (aCons (eFld "index" (eVar 4)) (aCons (eFld "index" (eVar 5)) aNil))) aNil)) (eCall gRepr (aCons (eLst (aCons (eVar 2) (aCons (MP.ret .non) aNil))) aNil))))) (tgN 6)) (fSeq (fPar (aCons (eMk 71 ["index"] (aCons (MP.ret (.int 2)) aNil)) (aCons (eMkK 71 ["index"] 1 (fun l => l) (aCons (MP.ret .non) aNil)) aNil)) 4 5) (fSeq (fAsg (eAnd (eVar 6) (eAnd (eFn m__law_right (aCons (MP.ret (.int 2)) (aCons (MP.ret (.int 0)) (aCons (eLst (aCons (eVar 4) (aCons (eVar 5) aNil))) aNil)))) (eBin gEq (eCall gRepr (aCons (eLst (aCons (eFld "index" (eVar 4)) (aCons (eFld "index" (eVar 5)) aNil))) aNil)) (eCall gRepr (aCons (eLst (aCons (MP.ret (.int 2)) (aCons (MP.ret .non) aNil))) aNil))))) (tgN 6)) (fSeq (fPar (aCons (eMk 91 ["index"] (aCons (MP.ret (.int 0)) aNil)) (aCons (eMkK 91 ["index"] 1 (fun l => l) (aCons (MP.ret (.int 1)) aNil)) aNil)) 4 5) (fSeq (fAsg (eAnd (eVar 6) (eAnd (eFn m__law_right (aCons (MP.ret (.int 3)) (aCons (MP.ret (.int 0)) (aCons (eLst (aCons (eVar 4) (aCons (eVar 5) aNil))) aNil)))) (eBin gEq (eCall gRepr (aCons (eLst (aCons (eFld "index" (eVar 4)) (aCons (eFld "index" (eVar 5)) aNil))) aNil)) (eCall gRepr (aCons (eLst (aCons (MP.ret (.int 0)) (aCons (MP.ret (.int 1)) aNil))) aNil))))) (tgN 6)) (fSeq (fPar (aCons (eMk 111 ["part"] (aCons (MP.ret (.str "n")) aNil)) (aCons (eMkK 111 ["part"] 1 (fun l => l) (aCons (MP.ret (.str "kind")) aNil)) aNil)) 4 5) (fSeq (fAsg (eAnd (eVar 6) (eAnd (eFn m__law_right (aCons (MP.ret (.int 4)) (aCons (MP.ret (.int 0)) (aCons (eLst (aCons (eVar 4) (aCons (eVar 5) aNil))) aNil)))) (eBin gEq (eCall gRepr (aCons (eLst (aCons (eFld "part" (eVar 4)) (aCons (eFld "part" (eVar 5)) aNil))) aNil)) (eCall gRepr (aCons (eLst (aCons (MP.ret (.str "n")) (aCons (MP.ret (.str "kind")) aNil))) aNil))))) (tgN 6)) (fSeq (fPar (aCons (eMk 131 ["line"] (aCons (eVar 2) aNil)) (aCons (eMkK 131 ["line"] 1 (fun l => l) (aCons (MP.ret (.int 8)) aNil)) aNil)) 4 5) (fSeq (fAsg (eAnd (eVar 6) (eAnd (eFn m__law_right (aCons (MP.ret (.int 5)) (aCons (MP.ret (.int 0)) (aCons (eLst (aCons (eVar 4) (aCons (eVar 5) aNil))) aNil)))) (eBin gEq (eCall gRepr (aCons (eLst (aCons (eFld "line" (eVar 4)) (aCons (eFld "line" (eVar 5)) aNil))) aNil)) (eCall gRepr (aCons (eLst (aCons (eVar 2) (aCons (MP.ret (.int 8)) aNil))) aNil))))) (tgN 6)) (fSeq (fPar (aCons (eMk 190 ["index"] (aCons (eVar 2) aNil)) (aCons (eMkK 190 ["index"] 1 (fun l => l) (aCons (MP.ret (.int 2)) aNil)) aNil)) 4 5) (fSeq (fAsg (eAnd (eVar 6) (eAnd (eFn m__law_right (aCons (MP.ret (.int 9)) (aCons (MP.ret (.int 1)) (aCons (eLst (aCons (eVar 4) (aCons (eVar 5) aNil))) aNil)))) (eBin gEq (eCall gRepr (aCons (eLst (aCons (eFld "index" (eVar 4)) (aCons (eFld "index" (eVar 5)) aNil))) aNil)) (eCall gRepr (aCons (eLst (aCons (eVar 2) (aCons (MP.ret (.int 2)) aNil))) aNil))))) (tgN 6)) (fSeq (fPar (aCons (eMk 210 ["index", "reason"] (aCons (eVar 2) (aCons (MP.ret (.str "Full")) aNil))) (aCons (eMkK 210 ["index", "reason"] 2 List.reverse (aCons (MP.ret .non) (aCons (eNeg (MP.ret (.int 1))) aNil))) aNil)) 4 5) (fSeq (fAsg (eAnd (eVar 6) (eAnd (eFn m__law_right (aCons (MP.ret (.int 10)) (aCons (MP.ret (.int 1)) (aCons (eLst (aCons (eVar 4) (aCons (eVar 5) aNil))) aNil)))) (eBin gEq (eCall gRepr (aCons (eLst (aCons (eFld "index" (eVar 4)) (aCons (eFld "reason" (eVar 4)) aNil))) aNil)) (eCall gRepr (aCons (eLst (aCons (eVar 2) (aCons (MP.ret (.str "Full")) aNil))) aNil))))) (tgN 6)) (fSeq (fAsg (eAnd (eVar 6) (eAnd (eBin gEq (eCall gRepr (aCons (eLst (aCons (eFld "index" (eVar 5)) (aCons (eFld "reason" (eVar 5)) aNil))) aNil)) (eCall gRepr (aCons (eLst (aCons (eNeg (MP.ret (.int 1))) (aCons (MP.ret .non) aNil))) aNil))) (eFn m__law_plain_right aNil))) (tgN 6)) (fSeq (fPar (aCons (eMk 243 ["limit"] (aCons (eVar 2) aNil)) (aCons (eMkK 243 ["limit"] 1 (fun l => l) (aCons (MP.ret (.int 300)) aNil)) aNil)) 4 5) (fRet (eAnd (eVar 6) (eAnd (eFn m__law_right (aCons (MP.ret (.int 12)) (aCons (MP.ret (.int 2)) (aCons (eLst (aCons (eVar 4) (aCons (eVar 5) aNil))) aNil)))) (eBin gEq (eCall gRepr (aCons (eLst (aCons (eFld "limit" (eVar 4)) (aCons (eFld "limit" (eVar 5)) aNil))) aNil)) (eCall gRepr (aCons (eLst (aCons (eVar 2) (aCons (MP.ret (.int 300)) aNil))) aNil)))))))))))))))))))))))) [sc, pn, some (.int c), some d, none, none, none] hp = some (.ret (.bl true), env, hp) := by
  obtain ⟨c1, c2, c3, c4, c5⟩ := rgC_ok h0 h1
  have r4 : ∃ S, gRepr [.lst [d, .str "kinds"]] hp = some (.str S) ∧ gEq (.str S) (.str S) hp = some (.bl true) := by
    rcases hd with rfl | rfl | rfl | rfl | rfl <;> exact repr_ok hp (by first | (simp [toPh, D.toP, D.toPs]; done) | (simp [toPh, D.toP, D.toPs]; rfl)) (by decide +kernel)
  have r6 : ∃ S, gRepr [.lst [.int c, .non]] hp = some (.str S) ∧ gEq (.str S) (.str S) hp = some (.bl true) := repr_ok hp (by first | (simp [toPh, D.toP, D.toPs]; done) | (simp [toPh, D.toP, D.toPs]; rfl)) c1
  have r8 : ∃ S, gRepr [.lst [.int 2, .non]] hp = some (.str S) ∧ gEq (.str S) (.str S) hp = some (.bl true) := repr_ok hp (by first | (simp [toPh, D.toP, D.toPs]; done) | (simp [toPh, D.toP, D.toPs]; rfl)) (by decide +kernel)
  have r10 : ∃ S, gRepr [.lst [.int 0, .int 1]] hp = some (.str S) ∧ gEq (.str S) (.str S) hp = some (.bl true) := repr_ok hp (by first | (simp [toPh, D.toP, D.toPs]; done) | (simp [toPh, D.toP, D.toPs]; rfl)) (by decide +kernel)
  have r12 : ∃ S, gRepr [.lst [.str "n", .str "kind"]] hp = some (.str S) ∧ gEq (.str S) (.str S) hp = some (.bl true) := repr_ok hp (by first | (simp [toPh, D.toP, D.toPs]; done) | (simp [toPh, D.toP, D.toPs]; rfl)) (by decide +kernel)
  have r14 : ∃ S, gRepr [.lst [.int c, .int 8]] hp = some (.str S) ∧ gEq (.str S) (.str S) hp = some (.bl true) := repr_ok hp (by first | (simp [toPh, D.toP, D.toPs]; done) | (simp [toPh, D.toP, D.toPs]; rfl)) c2
  have r16 : ∃ S, gRepr [.lst [.int c, .int 2]] hp = some (.str S) ∧ gEq (.str S) (.str S) hp = some (.bl true) := repr_ok hp (by first | (simp [toPh, D.toP, D.toPs]; done) | (simp [toPh, D.toP, D.toPs]; rfl)) c3
  have r18 : ∃ S, gRepr [.lst [.int c, .str "Full"]] hp = some (.str S) ∧ gEq (.str S) (.str S) hp = some (.bl true) := repr_ok hp (by first | (simp [toPh, D.toP, D.toPs]; done) | (simp [toPh, D.toP, D.toPs]; rfl)) c4
  have r19 : ∃ S, gRepr [.lst [.int (-1), .non]] hp = some (.str S) ∧ gEq (.str S) (.str S) hp = some (.bl true) := repr_ok hp (by first | (simp [toPh, D.toP, D.toPs]; done) | (simp [toPh, D.toP, D.toPs]; rfl)) (by decide +kernel)
  have r21 : ∃ S, gRepr [.lst [.int c, .int 300]] hp = some (.str S) ∧ gEq (.str S) (.str S) hp = some (.bl true) := repr_ok hp (by first | (simp [toPh, D.toP, D.toPs]; done) | (simp [toPh, D.toP, D.toPs]; rfl)) c5
  refine ⟨[sc, pn, some (.int c), some d, some (.err 243 ["limit"] [.int c]), some (.err 243 ["limit"] [.int 300]), some (.bl true)], ?_⟩
  rw [fSeq, s3]
  simp only
  rw [fSeq, s4 _ _ _ _ _ r4]
  simp only
  rw [fSeq, s5]
  simp only
  rw [fSeq, s6 _ _ _ _ _ r6]
  simp only
  rw [fSeq, s7]
  simp only
  rw [fSeq, s8 _ _ _ _ _ r8]
  simp only
  rw [fSeq, s9]
  simp only
  rw [fSeq, s10 _ _ _ _ _ r10]
  simp only
  rw [fSeq, s11]
  simp only
  rw [fSeq, s12 _ _ _ _ _ r12]
  simp only
  rw [fSeq, s13]
  simp only
  rw [fSeq, s14 _ _ _ _ _ r14]
  simp only
  rw [fSeq, s15]
  simp only
  rw [fSeq, s16 _ _ _ _ _ r16]
  simp only
  rw [fSeq, s17]
  simp only
  rw [fSeq, s18 _ _ _ _ _ r18]
  simp only
  rw [fSeq, s19 _ _ _ _ _ r19]
  simp only
  rw [fSeq, s20]
  simp only
  exact s21 _ _ _ _ _ r21
theorem law_true (ns : List Int) (_ : ns.length ≤ 63) : ∃ hpE, runDefO 7 1 b_law [.scr (ns.map .int)] [] = some (.val (.bl true), hpE) := by
  have P0 : Pen [penOf (ns.take 63) 0 0] [penOf (ns.take 63) 0 0] 0 (ns.take 63) := ⟨⟨0, 0, by omega, by omega, rfl, by simp⟩⟩
  obtain ⟨v, hp1, v0, v1, P1, e1⟩ := draw_ok P0 (b := 5400) (by omega) (by omega)
  obtain ⟨dc, hp2, hdc, P2, e2⟩ := one_of_ok P1 (ds := [.int 0, .int 1, .int 17, .int v]) (by simp) (by simp) (by simp [oldDs, oldD])
  obtain ⟨d, hp3, hd, P3, e3⟩ := one_of_ok P2 (ds := [.non, .str "kinds", .str "rules", .int 0, .int 5]) (by simp) (by simp) (by simp [oldDs, oldD])
  obtain ⟨c, rfl, c0, c1⟩ : ∃ c : Int, dc = .int c ∧ 0 ≤ c ∧ c < 5400 := by
    simp only [List.mem_cons, List.not_mem_nil, or_false] at hdc
    rcases hdc with rfl | rfl | rfl | rfl
    · exact ⟨0, rfl, by omega, by omega⟩
    · exact ⟨1, rfl, by omega, by omega⟩
    · exact ⟨17, rfl, by omega, by omega⟩
    · exact ⟨v, rfl, v0, v1⟩
  obtain ⟨env, er⟩ := rest_ok (some (.scr (ns.map .int))) (some (.obj 0)) c d hp3 c0 c1 (by simpa only [List.mem_cons, List.not_mem_nil, or_false] using hd)
  have q0 : (fAsg (eFn m__law_pen (aCons (eVar 0) aNil)) (tgN 1)) [some (.scr (ns.map .int)), none, none, none, none, none, none] [] = some (.nxt, [some (.scr (ns.map .int)), some (.obj 0), none, none, none, none, none], [penOf (ns.take 63) 0 0]) := by
    have := pen_ok ns []
    simp only [List.length_nil, List.nil_append] at this
    simp [fAsg, fE, eFn, bnd, aCons, aNil, eVar, MP.ret, tgN, this]
  have q1 : (fAsg (eFn m__law_one_of (aCons (eVar 1) (aCons (eLst (aCons (MP.ret (.int 0)) (aCons (MP.ret (.int 1)) (aCons (MP.ret (.int 17)) (aCons (eFn m__law_draw (aCons (eVar 1) (aCons (MP.ret (.int 5400)) aNil))) aNil))))) aNil))) (tgN 2)) [some (.scr (ns.map .int)), some (.obj 0), none, none, none, none, none] [penOf (ns.take 63) 0 0] = some (.nxt, [some (.scr (ns.map .int)), some (.obj 0), some (.int c), none, none, none, none], hp2) := by
    simp [fAsg, fE, eFn, bnd, aCons, aNil, eVar, MP.ret, tgN, eLst, e1, e2]
  have q2 : (fAsg (eFn m__law_one_of (aCons (eVar 1) (aCons (eLst (aCons (MP.ret .non) (aCons (MP.ret (.str "kinds")) (aCons (MP.ret (.str "rules")) (aCons (MP.ret (.int 0)) (aCons (MP.ret (.int 5)) aNil)))))) aNil))) (tgN 3)) [some (.scr (ns.map .int)), some (.obj 0), some (.int c), none, none, none, none] hp2 = some (.nxt, [some (.scr (ns.map .int)), some (.obj 0), some (.int c), some d, none, none, none], hp3) := by
    simp [fAsg, fE, eFn, bnd, aCons, aNil, eVar, MP.ret, tgN, eLst, e3]
  have body : b_law ([D.scr (ns.map .int)].map some ++ List.replicate (7 - 1) none) [] = some (.ret (.bl true), env, hp3) := by
    show b_law [some (.scr (ns.map .int)), none, none, none, none, none, none] [] = _
    unfold b_law
    rw [fSeq, q0]
    simp only
    rw [fSeq, q1]
    simp only
    rw [fSeq, q2]
    simp only
    exact er
  refine ⟨hp3, ?_⟩
  unfold runDefO
  rw [if_pos (show [D.scr (ns.map D.int)].length = 1 from rfl), body]
end Law
end

namespace Law
open PySem PySem.Spec PyProof.Rows L2 MP MX
theorem all_mk {w : World} {K : PySem.W.Frag} {h : Heap} {mg : Str → Option Value} {fa : Addr} (X : K.In h) (G : h.Ns mainGlobals mg) (hfa : mg "law" = some (.ref fa))
    (f__law_pen : FnAt K "_law_pen" (topS 15))
    (f__law_fresh : FnAt K "_law_fresh" (topS 16))
    (f__law_draw : FnAt K "_law_draw" (topS 17))
    (f__law_one_of : FnAt K "_law_one_of" (topS 18))
    (f__law_sort : FnAt K "_law_sort" (topS 19))
    (f__law_built : FnAt K "_law_built" (topS 20))
    (f__law_right : FnAt K "_law_right" (topS 21))
    (f__law_plain_right : FnAt K "_law_plain_right" (topS 22))
    (f_law : FnAt K "law" (topS 23))
    (n_list : PySem.W.nsIn K mainGlobals "list" = some none)
    (n_int : PySem.W.nsIn K mainGlobals "int" = some none)
    (n_len : PySem.W.nsIn K mainGlobals "len" = some none)
    (n_range : PySem.W.nsIn K mainGlobals "range" = some none)
    (n_isinstance : PySem.W.nsIn K mainGlobals "isinstance" = some none)
    (n_ValueError : PySem.W.nsIn K mainGlobals "ValueError" = some none)
    (n_RuntimeError : PySem.W.nsIn K mainGlobals "RuntimeError" = some none)
    (n_OverflowError : PySem.W.nsIn K mainGlobals "OverflowError" = some none)
    (n_LookupError : PySem.W.nsIn K mainGlobals "LookupError" = some none)
    (n_TypeError : PySem.W.nsIn K mainGlobals "TypeError" = some none)
    (n_KeyError : PySem.W.nsIn K mainGlobals "KeyError" = some none)
    (n_IndexError : PySem.W.nsIn K mainGlobals "IndexError" = some none)
    (n_NotImplementedError : PySem.W.nsIn K mainGlobals "NotImplementedError" = some none)
    (n_repr : PySem.W.nsIn K mainGlobals "repr" = some none)
    (c_InvalidProgram : PySem.W.nsIn K mainGlobals "InvalidProgram" = some (some (.ref 31)))
    (q_InvalidProgram : ecB K 31 .value ["part"] = true)
    (i_InvalidProgram : InitAt K 31 "InvalidProgram.__init__" (inClass (topS 1) 0))
    (c_InvalidFacts : PySem.W.nsIn K mainGlobals "InvalidFacts" = some (some (.ref 51)))
    (q_InvalidFacts : ecB K 51 .value ["index"] = true)
    (i_InvalidFacts : InitAt K 51 "InvalidFacts.__init__" (inClass (topS 2) 0))
    (c_InvalidWishes : PySem.W.nsIn K mainGlobals "InvalidWishes" = some (some (.ref 71)))
    (q_InvalidWishes : ecB K 71 .value ["index"] = true)
    (i_InvalidWishes : InitAt K 71 "InvalidWishes.__init__" (inClass (topS 3) 0))
    (c_InvalidOptions : PySem.W.nsIn K mainGlobals "InvalidOptions" = some (some (.ref 91)))
    (q_InvalidOptions : ecB K 91 .value ["index"] = true)
    (i_InvalidOptions : InitAt K 91 "InvalidOptions.__init__" (inClass (topS 4) 0))
    (c_InvalidClaim : PySem.W.nsIn K mainGlobals "InvalidClaim" = some (some (.ref 111)))
    (q_InvalidClaim : ecB K 111 .value ["part"] = true)
    (i_InvalidClaim : InitAt K 111 "InvalidClaim.__init__" (inClass (topS 5) 0))
    (c_ParseError : PySem.W.nsIn K mainGlobals "ParseError" = some (some (.ref 131)))
    (q_ParseError : ecB K 131 .value ["line"] = true)
    (i_ParseError : InitAt K 131 "ParseError.__init__" (inClass (topS 6) 0))
    (c_NotThere : PySem.W.nsIn K mainGlobals "NotThere" = some (some (.ref 144)))
    (q_NotThere : e0B K 144 .lookup = true)
    (c_AlreadyThere : PySem.W.nsIn K mainGlobals "AlreadyThere" = some (some (.ref 157)))
    (q_AlreadyThere : e0B K 157 .runtime = true)
    (c_Full : PySem.W.nsIn K mainGlobals "Full" = some (some (.ref 170)))
    (q_Full : e0B K 170 .runtime = true)
    (c_Unkept : PySem.W.nsIn K mainGlobals "Unkept" = some (some (.ref 190)))
    (q_Unkept : ecB K 190 .runtime ["index"] = true)
    (i_Unkept : InitAt K 190 "Unkept.__init__" (inClass (topS 10) 0))
    (c_Refused : PySem.W.nsIn K mainGlobals "Refused" = some (some (.ref 210)))
    (q_Refused : ecB K 210 .runtime ["index", "reason"] = true)
    (i_Refused : InitAt K 210 "Refused.__init__" (inClass (topS 11) 0))
    (c_NothingDone : PySem.W.nsIn K mainGlobals "NothingDone" = some (some (.ref 223)))
    (q_NothingDone : e0B K 223 .runtime = true)
    (c_LimitExceeded : PySem.W.nsIn K mainGlobals "LimitExceeded" = some (some (.ref 243)))
    (q_LimitExceeded : ecB K 243 .overflow ["limit"] = true)
    (i_LimitExceeded : InitAt K 243 "LimitExceeded.__init__" (inClass (topS 13) 0))
    (t_InvalidProgram : isTab K (.ref 31) tb_InvalidProgram = true)
    (t_InvalidFacts : isTab K (.ref 51) tb_InvalidFacts = true)
    (t_InvalidWishes : isTab K (.ref 71) tb_InvalidWishes = true)
    (t_InvalidOptions : isTab K (.ref 91) tb_InvalidOptions = true)
    (t_InvalidClaim : isTab K (.ref 111) tb_InvalidClaim = true)
    (t_ParseError : isTab K (.ref 131) tb_ParseError = true)
    (t_NotThere : isTab K (.ref 144) tb_NotThere = true)
    (t_AlreadyThere : isTab K (.ref 157) tb_AlreadyThere = true)
    (t_Full : isTab K (.ref 170) tb_Full = true)
    (t_Unkept : isTab K (.ref 190) tb_Unkept = true)
    (t_Refused : isTab K (.ref 210) tb_Refused = true)
    (t_NothingDone : isTab K (.ref 223) tb_NothingDone = true)
    (t_LimitExceeded : isTab K (.ref 243) tb_LimitExceeded = true)
    (t_ValueError : isTab K (.type "ValueError") tb_ValueError = true)
    (t_RuntimeError : isTab K (.type "RuntimeError") tb_RuntimeError = true)
    (t_OverflowError : isTab K (.type "OverflowError") tb_OverflowError = true)
    (t_LookupError : isTab K (.type "LookupError") tb_LookupError = true)
    (t_TypeError : isTab K (.type "TypeError") tb_TypeError = true)
    (t_KeyError : isTab K (.type "KeyError") tb_KeyError = true)
    (t_IndexError : isTab K (.type "IndexError") tb_IndexError = true)
    (t_NotImplementedError : isTab K (.type "NotImplementedError") tb_NotImplementedError = true) :
    ∃ fd : FuncData, Fun K "law" "law" (topS 23) fa fd ∧ (∀ (s : Shared) (u : Value), BindsTo s fd ⟨[u], []⟩ [("script", u)]) ∧ ∀ (base : Heap) (s : Shared) (H : Hp) (cdv : Value), K.In base → base.Ns mainGlobals mg → Fam (cxD PySem.Challenge.rw_leadalike_k86_errors_required.prog w K mg base ["script", "pen", "count", "piece", "a", "b", "good"] "law" (defScope (topS 23)) fa cdv callerA [] s H noE) K mg → Own (cxD PySem.Challenge.rw_leadalike_k86_errors_required.prog w K mg base ["script", "pen", "count", "piece", "a", "b", "good"] "law" (defScope (topS 23)) fa cdv callerA [] s H noE) →
      SB (cxD PySem.Challenge.rw_leadalike_k86_errors_required.prog w K mg base ["script", "pen", "count", "piece", "a", "b", "good"] "law" (defScope (topS 23)) fa cdv callerA [] s H noE) K mg (wOf noE) (defBody (topS 23)) b_law := by
  obtain ⟨f0, oc, od, kV, doc, pm, an, cdv0, ct, osl, h1, h2, h3, h4⟩ := f_law.ex
  have e := hfa.symm.trans (PySem.W.mg_of X G h1)
  cases e
  refine ⟨_, fun_mk h2 h3 h4, fun s u => .of_eq rfl, fun base s H cdv KB GB hF hO => ?_⟩
  have b_list := PySem.W.mg_none_of X G n_list
  have b_int := PySem.W.mg_none_of X G n_int
  have b_len := PySem.W.mg_none_of X G n_len
  have b_range := PySem.W.mg_none_of X G n_range
  have b_isinstance := PySem.W.mg_none_of X G n_isinstance
  have b_ValueError := PySem.W.mg_none_of X G n_ValueError
  have b_RuntimeError := PySem.W.mg_none_of X G n_RuntimeError
  have b_OverflowError := PySem.W.mg_none_of X G n_OverflowError
  have b_LookupError := PySem.W.mg_none_of X G n_LookupError
  have b_TypeError := PySem.W.mg_none_of X G n_TypeError
  have b_KeyError := PySem.W.mg_none_of X G n_KeyError
  have b_IndexError := PySem.W.mg_none_of X G n_IndexError
  have b_NotImplementedError := PySem.W.mg_none_of X G n_NotImplementedError
  have b_repr := PySem.W.mg_none_of X G n_repr
  have g_InvalidProgram := PySem.W.mg_of X G c_InvalidProgram
  have e_InvalidProgram : ErrOk PySem.Challenge.rw_leadalike_k86_errors_required.prog w K mg base 1 "InvalidProgram" 31 ["part"] ["part"] (fun l => l) := errOk_one g_InvalidProgram q_InvalidProgram i_InvalidProgram ⟨rfl, rfl, rfl, by decide +kernel, rfl, by decide +kernel, by decide +kernel⟩ rfl (Or.inl rfl) (Or.inl rfl) (fun _ _ _ _ _ _ _ _ => rfl) (fun _ _ _ _ _ _ _ _ => rfl)
  have g_InvalidFacts := PySem.W.mg_of X G c_InvalidFacts
  have e_InvalidFacts : ErrOk PySem.Challenge.rw_leadalike_k86_errors_required.prog w K mg base 1 "InvalidFacts" 51 ["index"] ["index"] (fun l => l) := errOk_one g_InvalidFacts q_InvalidFacts i_InvalidFacts ⟨rfl, rfl, rfl, by decide +kernel, rfl, by decide +kernel, by decide +kernel⟩ rfl (Or.inl rfl) (Or.inl rfl) (fun _ _ _ _ _ _ _ _ => rfl) (fun _ _ _ _ _ _ _ _ => rfl)
  have g_InvalidWishes := PySem.W.mg_of X G c_InvalidWishes
  have e_InvalidWishes : ErrOk PySem.Challenge.rw_leadalike_k86_errors_required.prog w K mg base 1 "InvalidWishes" 71 ["index"] ["index"] (fun l => l) := errOk_one g_InvalidWishes q_InvalidWishes i_InvalidWishes ⟨rfl, rfl, rfl, by decide +kernel, rfl, by decide +kernel, by decide +kernel⟩ rfl (Or.inl rfl) (Or.inl rfl) (fun _ _ _ _ _ _ _ _ => rfl) (fun _ _ _ _ _ _ _ _ => rfl)
  have g_InvalidOptions := PySem.W.mg_of X G c_InvalidOptions
  have e_InvalidOptions : ErrOk PySem.Challenge.rw_leadalike_k86_errors_required.prog w K mg base 1 "InvalidOptions" 91 ["index"] ["index"] (fun l => l) := errOk_one g_InvalidOptions q_InvalidOptions i_InvalidOptions ⟨rfl, rfl, rfl, by decide +kernel, rfl, by decide +kernel, by decide +kernel⟩ rfl (Or.inl rfl) (Or.inl rfl) (fun _ _ _ _ _ _ _ _ => rfl) (fun _ _ _ _ _ _ _ _ => rfl)
  have g_InvalidClaim := PySem.W.mg_of X G c_InvalidClaim
  have e_InvalidClaim : ErrOk PySem.Challenge.rw_leadalike_k86_errors_required.prog w K mg base 1 "InvalidClaim" 111 ["part"] ["part"] (fun l => l) := errOk_one g_InvalidClaim q_InvalidClaim i_InvalidClaim ⟨rfl, rfl, rfl, by decide +kernel, rfl, by decide +kernel, by decide +kernel⟩ rfl (Or.inl rfl) (Or.inl rfl) (fun _ _ _ _ _ _ _ _ => rfl) (fun _ _ _ _ _ _ _ _ => rfl)
  have g_ParseError := PySem.W.mg_of X G c_ParseError
  have e_ParseError : ErrOk PySem.Challenge.rw_leadalike_k86_errors_required.prog w K mg base 1 "ParseError" 131 ["line"] ["line"] (fun l => l) := errOk_one g_ParseError q_ParseError i_ParseError ⟨rfl, rfl, rfl, by decide +kernel, rfl, by decide +kernel, by decide +kernel⟩ rfl (Or.inl rfl) (Or.inl rfl) (fun _ _ _ _ _ _ _ _ => rfl) (fun _ _ _ _ _ _ _ _ => rfl)
  have g_NotThere := PySem.W.mg_of X G c_NotThere
  have e_NotThere := e0B_ok q_NotThere
  have g_AlreadyThere := PySem.W.mg_of X G c_AlreadyThere
  have e_AlreadyThere := e0B_ok q_AlreadyThere
  have g_Full := PySem.W.mg_of X G c_Full
  have e_Full := e0B_ok q_Full
  have g_Unkept := PySem.W.mg_of X G c_Unkept
  have e_Unkept : ErrOk PySem.Challenge.rw_leadalike_k86_errors_required.prog w K mg base 1 "Unkept" 190 ["index"] ["index"] (fun l => l) := errOk_one g_Unkept q_Unkept i_Unkept ⟨rfl, rfl, rfl, by decide +kernel, rfl, by decide +kernel, by decide +kernel⟩ rfl (Or.inl rfl) (Or.inl rfl) (fun _ _ _ _ _ _ _ _ => rfl) (fun _ _ _ _ _ _ _ _ => rfl)
  have g_Refused := PySem.W.mg_of X G c_Refused
  have e_Refused : ErrOk PySem.Challenge.rw_leadalike_k86_errors_required.prog w K mg base 1 "Refused" 210 ["index", "reason"] ["reason", "index"] List.reverse := errOk_two g_Refused q_Refused i_Refused ⟨rfl, rfl, rfl, by decide +kernel, rfl, by decide +kernel, by decide +kernel⟩ rfl (Or.inl rfl) (Or.inl rfl) (Or.inl rfl) (fun _ _ _ _ _ _ _ _ _ => rfl) (fun _ _ _ _ _ _ _ _ _ => rfl)
  have g_NothingDone := PySem.W.mg_of X G c_NothingDone
  have e_NothingDone := e0B_ok q_NothingDone
  have g_LimitExceeded := PySem.W.mg_of X G c_LimitExceeded
  have e_LimitExceeded : ErrOk PySem.Challenge.rw_leadalike_k86_errors_required.prog w K mg base 1 "LimitExceeded" 243 ["limit"] ["limit"] (fun l => l) := errOk_one g_LimitExceeded q_LimitExceeded i_LimitExceeded ⟨rfl, rfl, rfl, by decide +kernel, rfl, by decide +kernel, by decide +kernel⟩ rfl (Or.inl rfl) (Or.inl rfl) (fun _ _ _ _ _ _ _ _ => rfl) (fun _ _ _ _ _ _ _ _ => rfl)
  obtain ⟨a__law_pen, fd__law_pen, T__law_pen, m__law_pen, B__law_pen⟩ := fnAt_ok f__law_pen X G
  have d__law_pen : DefOk PySem.Challenge.rw_leadalike_k86_errors_required.prog w K mg base 1 "_law_pen" 1 Law.m__law_pen := ok__law_pen T__law_pen m__law_pen (B__law_pen _ fun _ _ _ _ _ _ us hl => match us, hl with | [_], _ => rfl) b_list
  obtain ⟨a__law_fresh, fd__law_fresh, T__law_fresh, m__law_fresh, B__law_fresh⟩ := fnAt_ok f__law_fresh X G
  have d__law_fresh : DefOk PySem.Challenge.rw_leadalike_k86_errors_required.prog w K mg base 1 "_law_fresh" 1 Law.m__law_fresh := ok__law_fresh T__law_fresh m__law_fresh (B__law_fresh _ fun _ _ _ _ _ _ us hl => match us, hl with | [_], _ => rfl) b_int b_len b_range
  obtain ⟨a__law_draw, fd__law_draw, T__law_draw, m__law_draw, B__law_draw⟩ := fnAt_ok f__law_draw X G
  have d__law_draw : DefOk PySem.Challenge.rw_leadalike_k86_errors_required.prog w K mg base 2 "_law_draw" 2 Law.m__law_draw := ok__law_draw T__law_draw m__law_draw (B__law_draw _ fun _ _ _ _ _ _ us hl => match us, hl with | [_, _], _ => rfl) d__law_fresh b_int
  obtain ⟨a__law_one_of, fd__law_one_of, T__law_one_of, m__law_one_of, B__law_one_of⟩ := fnAt_ok f__law_one_of X G
  have d__law_one_of : DefOk PySem.Challenge.rw_leadalike_k86_errors_required.prog w K mg base 3 "_law_one_of" 2 Law.m__law_one_of := ok__law_one_of T__law_one_of m__law_one_of (B__law_one_of _ fun _ _ _ _ _ _ us hl => match us, hl with | [_, _], _ => rfl) d__law_draw b_len
  obtain ⟨a__law_sort, fd__law_sort, T__law_sort, m__law_sort, B__law_sort⟩ := fnAt_ok f__law_sort X G
  have d__law_sort : DefOk PySem.Challenge.rw_leadalike_k86_errors_required.prog w K mg base 1 "_law_sort" 1 Law.m__law_sort := ok__law_sort T__law_sort m__law_sort (B__law_sort _ fun _ _ _ _ _ _ us hl => match us, hl with | [_], _ => rfl) b_isinstance g_InvalidProgram g_InvalidFacts g_InvalidWishes g_InvalidOptions g_InvalidClaim g_ParseError g_NotThere g_AlreadyThere g_Full g_Unkept g_Refused g_NothingDone g_LimitExceeded t_InvalidProgram t_InvalidFacts t_InvalidWishes t_InvalidOptions t_InvalidClaim t_ParseError t_NotThere t_AlreadyThere t_Full t_Unkept t_Refused t_NothingDone t_LimitExceeded
  obtain ⟨a__law_built, fd__law_built, T__law_built, m__law_built, B__law_built⟩ := fnAt_ok f__law_built X G
  have d__law_built : DefOk PySem.Challenge.rw_leadalike_k86_errors_required.prog w K mg base 1 "_law_built" 1 Law.m__law_built := ok__law_built T__law_built m__law_built (B__law_built _ fun _ _ _ _ _ _ us hl => match us, hl with | [_], _ => rfl) b_isinstance b_ValueError b_RuntimeError b_OverflowError b_LookupError b_TypeError b_KeyError b_IndexError b_NotImplementedError t_ValueError t_RuntimeError t_OverflowError t_LookupError t_TypeError t_KeyError t_IndexError t_NotImplementedError
  obtain ⟨a__law_right, fd__law_right, T__law_right, m__law_right, B__law_right⟩ := fnAt_ok f__law_right X G
  have d__law_right : DefOk PySem.Challenge.rw_leadalike_k86_errors_required.prog w K mg base 2 "_law_right" 3 Law.m__law_right := ok__law_right T__law_right m__law_right (B__law_right _ fun _ _ _ _ _ _ us hl => match us, hl with | [_, _, _], _ => rfl) d__law_sort d__law_built b_range
  obtain ⟨a__law_plain_right, fd__law_plain_right, T__law_plain_right, m__law_plain_right, B__law_plain_right⟩ := fnAt_ok f__law_plain_right X G
  have d__law_plain_right : DefOk PySem.Challenge.rw_leadalike_k86_errors_required.prog w K mg base 3 "_law_plain_right" 0 Law.m__law_plain_right := ok__law_plain_right T__law_plain_right m__law_plain_right (B__law_plain_right _ fun _ _ _ _ _ _ us hl => match us, hl with | [], _ => rfl) d__law_right e_NotThere e_AlreadyThere e_Full e_NothingDone g_NotThere g_AlreadyThere g_Full g_NothingDone
  exact lb_law d__law_pen d__law_draw d__law_one_of d__law_right d__law_plain_right b_repr e_InvalidProgram e_InvalidFacts e_InvalidWishes e_InvalidOptions e_InvalidClaim e_ParseError e_Unkept e_Refused e_LimitExceeded hF hO
end Law
open PySem PySem.W PyProof.Rows in
set_option maxRecDepth 100000 in
set_option maxHeartbeats 0 in
theorem PySem.Challenge.cw_leadalike_k86_errors_required_holds : PySem.Challenge.rw_leadalike_k86_errors_required.Holds := by
  w_on; o_law; k_head; (case hw => w_witness2)
  k_fill
  refine MP.walkM (l := PySem.Challenge.rw_leadalike_k86_errors_required) (n := 63) (y := "script") (N := ["script", "pen", "count", "piece", "a", "b", "good"]) (st := Law.topS 23) (x := "law") (qual := "law") (fb := Law.b_law) rfl (by decide) rfl (fun w h Y => PySem.W.kIn_of Y) Law.sc_law ?F Law.law_true
  case F =>
    intro w mg fa h KX G hmg
    refine' Law.all_mk KX G hmg ?f__law_pen ?f__law_fresh ?f__law_draw ?f__law_one_of ?f__law_sort ?f__law_built ?f__law_right ?f__law_plain_right ?f_law ?n_list ?n_int ?n_len ?n_range ?n_isinstance ?n_ValueError ?n_RuntimeError ?n_OverflowError ?n_LookupError ?n_TypeError ?n_KeyError ?n_IndexError ?n_NotImplementedError ?n_repr ?c_InvalidProgram ?q_InvalidProgram ?i_InvalidProgram ?c_InvalidFacts ?q_InvalidFacts ?i_InvalidFacts ?c_InvalidWishes ?q_InvalidWishes ?i_InvalidWishes ?c_InvalidOptions ?q_InvalidOptions ?i_InvalidOptions ?c_InvalidClaim ?q_InvalidClaim ?i_InvalidClaim ?c_ParseError ?q_ParseError ?i_ParseError ?c_NotThere ?q_NotThere ?c_AlreadyThere ?q_AlreadyThere ?c_Full ?q_Full ?c_Unkept ?q_Unkept ?i_Unkept ?c_Refused ?q_Refused ?i_Refused ?c_NothingDone ?q_NothingDone ?c_LimitExceeded ?q_LimitExceeded ?i_LimitExceeded ?t_InvalidProgram ?t_InvalidFacts ?t_InvalidWishes ?t_InvalidOptions ?t_InvalidClaim ?t_ParseError ?t_NotThere ?t_AlreadyThere ?t_Full ?t_Unkept ?t_Refused ?t_NothingDone ?t_LimitExceeded ?t_ValueError ?t_RuntimeError ?t_OverflowError ?t_LookupError ?t_TypeError ?t_KeyError ?t_IndexError ?t_NotImplementedError
    (case f__law_pen => refine' MP.fnAt_mk ?fa ?fl ?fc ?fk; (case fa => k_is); (case fl => k_is); (case fc => k_is); (case fk => k_is))
    (case f__law_fresh => refine' MP.fnAt_mk ?fa ?fl ?fc ?fk; (case fa => k_is); (case fl => k_is); (case fc => k_is); (case fk => k_is))
    (case f__law_draw => refine' MP.fnAt_mk ?fa ?fl ?fc ?fk; (case fa => k_is); (case fl => k_is); (case fc => k_is); (case fk => k_is))
    (case f__law_one_of => refine' MP.fnAt_mk ?fa ?fl ?fc ?fk; (case fa => k_is); (case fl => k_is); (case fc => k_is); (case fk => k_is))
    (case f__law_sort => refine' MP.fnAt_mk ?fa ?fl ?fc ?fk; (case fa => k_is); (case fl => k_is); (case fc => k_is); (case fk => k_is))
    (case f__law_built => refine' MP.fnAt_mk ?fa ?fl ?fc ?fk; (case fa => k_is); (case fl => k_is); (case fc => k_is); (case fk => k_is))
    (case f__law_right => refine' MP.fnAt_mk ?fa ?fl ?fc ?fk; (case fa => k_is); (case fl => k_is); (case fc => k_is); (case fk => k_is))
    (case f__law_plain_right => refine' MP.fnAt_mk ?fa ?fl ?fc ?fk; (case fa => k_is); (case fl => k_is); (case fc => k_is); (case fk => k_is))
    (case f_law => refine' MP.fnAt_mk ?fa ?fl ?fc ?fk; (case fa => k_is); (case fl => k_is); (case fc => k_is); (case fk => k_is))
    (case n_list => k_is)
    (case n_int => k_is)
    (case n_len => k_is)
    (case n_range => k_is)
    (case n_isinstance => k_is)
    (case n_ValueError => k_is)
    (case n_RuntimeError => k_is)
    (case n_OverflowError => k_is)
    (case n_LookupError => k_is)
    (case n_TypeError => k_is)
    (case n_KeyError => k_is)
    (case n_IndexError => k_is)
    (case n_NotImplementedError => k_is)
    (case n_repr => k_is)
    (case c_InvalidProgram => k_is)
    (case q_InvalidProgram => kernel_rfl)
    (case i_InvalidProgram => refine' MP.initAt_mk ?fa ?ft ?fl ?fc ?fk; (case fa => k_is); (case ft => k_is); (case fl => k_is); (case fc => k_is); (case fk => k_is))
    (case c_InvalidFacts => k_is)
    (case q_InvalidFacts => kernel_rfl)
    (case i_InvalidFacts => refine' MP.initAt_mk ?fa ?ft ?fl ?fc ?fk; (case fa => k_is); (case ft => k_is); (case fl => k_is); (case fc => k_is); (case fk => k_is))
    (case c_InvalidWishes => k_is)
    (case q_InvalidWishes => kernel_rfl)
    (case i_InvalidWishes => refine' MP.initAt_mk ?fa ?ft ?fl ?fc ?fk; (case fa => k_is); (case ft => k_is); (case fl => k_is); (case fc => k_is); (case fk => k_is))
    (case c_InvalidOptions => k_is)
    (case q_InvalidOptions => kernel_rfl)
    (case i_InvalidOptions => refine' MP.initAt_mk ?fa ?ft ?fl ?fc ?fk; (case fa => k_is); (case ft => k_is); (case fl => k_is); (case fc => k_is); (case fk => k_is))
    (case c_InvalidClaim => k_is)
    (case q_InvalidClaim => kernel_rfl)
    (case i_InvalidClaim => refine' MP.initAt_mk ?fa ?ft ?fl ?fc ?fk; (case fa => k_is); (case ft => k_is); (case fl => k_is); (case fc => k_is); (case fk => k_is))
    (case c_ParseError => k_is)
    (case q_ParseError => kernel_rfl)
    (case i_ParseError => refine' MP.initAt_mk ?fa ?ft ?fl ?fc ?fk; (case fa => k_is); (case ft => k_is); (case fl => k_is); (case fc => k_is); (case fk => k_is))
    (case c_NotThere => k_is)
    (case q_NotThere => kernel_rfl)
    (case c_AlreadyThere => k_is)
    (case q_AlreadyThere => kernel_rfl)
    (case c_Full => k_is)
    (case q_Full => kernel_rfl)
    (case c_Unkept => k_is)
    (case q_Unkept => kernel_rfl)
    (case i_Unkept => refine' MP.initAt_mk ?fa ?ft ?fl ?fc ?fk; (case fa => k_is); (case ft => k_is); (case fl => k_is); (case fc => k_is); (case fk => k_is))
    (case c_Refused => k_is)
    (case q_Refused => kernel_rfl)
    (case i_Refused => refine' MP.initAt_mk ?fa ?ft ?fl ?fc ?fk; (case fa => k_is); (case ft => k_is); (case fl => k_is); (case fc => k_is); (case fk => k_is))
    (case c_NothingDone => k_is)
    (case q_NothingDone => kernel_rfl)
    (case c_LimitExceeded => k_is)
    (case q_LimitExceeded => kernel_rfl)
    (case i_LimitExceeded => refine' MP.initAt_mk ?fa ?ft ?fl ?fc ?fk; (case fa => k_is); (case ft => k_is); (case fl => k_is); (case fc => k_is); (case fk => k_is))
    (case t_InvalidProgram => kernel_rfl)
    (case t_InvalidFacts => kernel_rfl)
    (case t_InvalidWishes => kernel_rfl)
    (case t_InvalidOptions => kernel_rfl)
    (case t_InvalidClaim => kernel_rfl)
    (case t_ParseError => kernel_rfl)
    (case t_NotThere => kernel_rfl)
    (case t_AlreadyThere => kernel_rfl)
    (case t_Full => kernel_rfl)
    (case t_Unkept => kernel_rfl)
    (case t_Refused => kernel_rfl)
    (case t_NothingDone => kernel_rfl)
    (case t_LimitExceeded => kernel_rfl)
    (case t_ValueError => kernel_rfl)
    (case t_RuntimeError => kernel_rfl)
    (case t_OverflowError => kernel_rfl)
    (case t_LookupError => kernel_rfl)
    (case t_TypeError => kernel_rfl)
    (case t_KeyError => kernel_rfl)
    (case t_IndexError => kernel_rfl)
    (case t_NotImplementedError => kernel_rfl)
