import PyProof.Rows.All
import Wide.All
import OpenK.AllK
import Wide.FinOn
import HandS.ForExc
import HandS.ExcInit
import HandS.IsInst
import KE.KExcIs
import HandS.ForMost
import KE.DataMinMax
import HandS.Defaults
import HandS.EndTab
import HandS.TryMany
import KE.KNestM
import HandS.DeepEq
import PyProof.Conv_int_bool
import HandS.OwnEq
import HandS.Nested
import HandS.Conv
import HandS.Wide
import HandS.Flow
import HandS.Style
import HandS.Deep
import HandS.SortRule
import HandS.SortInts
import HandS.Walk
import HandS.Codes
import PySem.Challenge.RW_firenegatives_k77_unions_and_numbers
set_option Elab.async false
set_option linter.all false
set_option maxRecDepth 100000
set_option maxHeartbeats 4000000
/-! ## Built-in bases of the package's exceptions -/
namespace FNX
open PySem PySem.F

/-- no class of the chain refuses a store -/
def Pass (l : List Value) : Prop := ∀ self : Value, refuseLoop self "__setattr__" l = pure ()
theorem passRun : Pass [.type "RuntimeError", .type "Exception", .type "BaseException", .type "object"] := fun self => by kernel_rfl
theorem passOver : Pass [.type "OverflowError", .type "ArithmeticError", .type "Exception", .type "BaseException", .type "object"] := fun self => by kernel_rfl
theorem passLook : Pass [.type "LookupError", .type "Exception", .type "BaseException", .type "object"] := fun self => by kernel_rfl
theorem passKey : Pass [.type "KeyError", .type "LookupError", .type "Exception", .type "BaseException", .type "object"] := fun self => by kernel_rfl
theorem passIndex : Pass [.type "IndexError", .type "LookupError", .type "Exception", .type "BaseException", .type "object"] := fun self => by kernel_rfl
theorem passVal : Pass [.type "ValueError", .type "Exception", .type "BaseException", .type "object"] := fun self => by kernel_rfl
theorem Pass.ref {l : List Value} (h : Pass l) (c : Addr) : Pass (.ref c :: l) := fun self => by
  rw [refuseLoop_ref]
  exact h self
end FNX

/-! ## C(..), C an exception class of the program with an `__init__` of its own -/
namespace FNX
open PySem PySem.W PySem.Calls PyProof.Rows PySem.HandSPX
/-- what the chain of the class behind itself has, and has not -/
structure Chain (B : String) (bm : List Value) : Prop where
  base : bm.contains (.type B) = true
  obj : bm.contains (.type "object") = true
  noA : bm.contains (.type "AttributeError") = false
  noN : bm.contains (.type "NameError") = false
  some1 : bm.isEmpty = false
  pass : Pass bm
section
variable {prog : Program} {w : World} {A : Around} {E : Value → Shared → Prop} {R : Result → Shared → Prop}
variable {h : Heap} {g : Array GenState} {d : Drawn} {t : Nat} {os : OsState} {nm q : Str} {C N : Addr} {bs bm bmB : List Value}
variable {hdct : Bool} {sn : List Str} {sub : List Value} {ab : Bool} {col : Option Bool} {dd : Option Addr}
variable {k0 k1 k2 k3 k5 : Option Value} {B newId initId : String} {us : List Value} {kw : List (Str × Value)}

theorem newChecked {M : Model} {Q : Unit → Shared → Prop} (F : ExcBaseFacts B newId initId bmB) (L : Chain B bm)
    (hC : h.get? C = some (excClassObj nm q C N bs bm hdct sn sub ab col dd k0 k1 k2 k3 k5 newId)) (hq : Q () ⟨h, g, d, t, os⟩) :
    wpAny M A (checkBuiltinCall newId ⟨.ref C :: us, kw⟩) Q E ⟨h, g, d, t, os⟩ := by
  have in1 : (Value.ref C :: bm).contains (.type B) = true := by simp only [List.contains_cons, L.base, Bool.or_true]
  have star := F.noStar
  simp only [checkBuiltinCall, F.newKind, F.newSplit, F.newRow]
  repeat (first
    | refine wpAny_loadPart_at hC ?_
    | (refine wpAny_isSubtype_exc hC ?_; rw [in1])
    | refine wpAny_staticBase_exc hC ?_
    | refine wpAny_madeBy_exc hC ?_
    | simp only [bne_self_eq_false, Bool.false_eq_true, if_false]
    | wp_step)
  exact hq

theorem newMade (F : ExcBaseFacts B newId initId bmB) (L : Chain B bm)
    (hC : h.get? C = some (excClassObj nm q C N bs bm hdct sn sub ab col dd k0 k1 k2 k3 k5 newId)) (hl : us.length ≤ sizeLine)
    (hq : R (.ok (.ret (.ref (h.objs.size + 1)))) ⟨(h.push (kdv_tup us)).push (excO C h.objs.size), g, d, t, os⟩) :
    codeAny (model prog w) A (.builtin newId ⟨.ref C :: us, kw⟩) R ⟨h, g, d, t, os⟩ := by
  have ends := F.ends
  have in1 : (Value.ref C :: bm).contains (.type B) = true := by simp only [List.contains_cons, L.base, Bool.or_true]
  have no1 : (Value.ref C :: bm).contains (.type "AttributeError") = false := by simp only [List.contains_cons, L.noA]; rfl
  have no2 : (Value.ref C :: bm).contains (.type "NameError") = false := by simp only [List.contains_cons, L.noN]; rfl
  refine codeAny_builtinAt F.entry ?_
  unfold Builtin.«BaseException.__new__»
  refine PySem.wpAt_bind ?_
  show PySem.wpAt _ _ _ (stack >>= _) _ _ _
  refine PySem.wpAt_bind (PySem.wpAt_stack fun p below => PySem.wpAt_of_wpAny ?_)
  wp_walk
  refine PySem.wpAt_of_wpAny ?_
  rw [F.owner]
  repeat (first
    | with_reducible refine wpAny_madeHere_exc F.canon hC ?_
    | with_reducible refine wpAny_loadPart_at hC ?_
    | (with_reducible refine wpAny_isSubtype_exc hC ?_; first | rw [in1] | rw [no1] | rw [no2])
    | wp_step)
  show R _ _
  rw [Heap.size_push]
  exact hq

theorem typeCalled {fI : Addr} {Q : Fin → Shared → Prop} (F : ExcBaseFacts B newId initId bmB) (L : Chain B bm)
    (hC : h.get? C = some (excClassObj nm q C N bs bm hdct sn sub ab col dd k0 k1 k2 k3 k5 newId)) (hl : us.length ≤ sizeLine)
    (hi : Looks (model prog w) h (typeLookup (.ref C) "__init__") (some (.ref fI)))
    (hb : ∀ self, Looks (model prog w) h (bindSpecial (.ref fI) self) (.ref fI, [self]))
    (hq : codeAny (model prog w) A (.call (.ref fI) ⟨.ref (h.objs.size + 1) :: us, kw⟩)
      (fun r s' => match r with
        | .ok (.ret v) => v = .none ∧ Q (.done (.ret (.ref (h.objs.size + 1)))) s'
        | .ok _ => False
        | .error e => E e s')
      ⟨(h.push (kdv_tup us)).push (excO C h.objs.size), g, d, t, os⟩) :
    wpAny (model prog w) A (Builtin.«type.__call__» ⟨.ref C :: us, kw⟩) Q E ⟨h, g, d, t, os⟩ := by
  repeat (first | with_reducible refine wpAny_loadPart_at hC ?_ | with_reducible refine wpAny_madeBy_exc hC ?_ | wp_step)
  refine codeAny_call_builtin_code (Code.quiet_builtin _ F.quiet) (newChecked F L hC (newMade F L hC hl ?_))
  show wpAny _ _ _ _ _ _
  have old : ∀ b o, h.get? b = some o → ((h.push (kdv_tup us)).push (excO C h.objs.size)).get? b = some o :=
    fun b o e => Heap.get?_push_of_some _ (Heap.get?_push_of_some _ e)
  have hC2 := old _ _ hC
  have at1 : ((h.push (kdv_tup us)).push (excO C h.objs.size)).get? (h.objs.size + 1) = some (excO C h.objs.size) := by heap_get
  have self1 : (Value.ref C :: bm).contains (.ref C) = true := by simp
  have i2 := hi.keeps old
  have b2 := (hb (.ref (h.objs.size + 1))).keeps old
  unfold isInstance
  repeat (first
    | with_reducible refine wpAny_loadPart_at at1 ?_
    | (with_reducible refine wpAny_isSubtype_exc hC2 ?_; rw [self1])
    | wp_step)
  show wpAny _ _ (typeLookup (.ref C) _) _ _ _
  refine i2.at (wpAny_holding (wpAny_bind (b2.at ?_)))
  refine wpAny_bind (wpAny_call (codeAny_mono hq fun r s' z => ?_))
  rcases r with e | (v | _ | _ | _) <;> first | exact z | exact z.elim | skip
  obtain ⟨rfl, z⟩ := z
  first
    | exact wpAny_pure (wpAny_pure z)
    | (wp_walk; exact z)

theorem called {fI : Addr} (F : ExcBaseFacts B newId initId bmB) (L : Chain B bm)
    (hC : h.get? C = some (excClassObj nm q C N bs bm hdct sn sub ab col dd k0 k1 k2 k3 k5 newId)) (hl : us.length ≤ sizeLine)
    (hi : Looks (model prog w) h (typeLookup (.ref C) "__init__") (some (.ref fI)))
    (hb : ∀ self, Looks (model prog w) h (bindSpecial (.ref fI) self) (.ref fI, [self]))
    (hq : codeAny (model prog w) (A.under (.builtin "type.__call__" ⟨.ref C :: us, kw⟩)) (.call (.ref fI) ⟨.ref (h.objs.size + 1) :: us, kw⟩)
      (InitBack (h.objs.size + 1) R) ⟨(h.push (kdv_tup us)).push (excO C h.objs.size), g, d, t, os⟩) :
    codeAny (model prog w) A (.call (.ref C) ⟨us, kw⟩) R ⟨h, g, d, t, os⟩ := by
  have f1 := tc_lookup
  have f2 := tc_bind (.ref C)
  have ty : (⟨h, g, d, t, os⟩ : Shared).TypeIs (.ref C) "type" := ⟨_, hC, rfl⟩
  refine codeAny_of_tree ?_
  show wpAny _ _ (callAny (.ref C) _) _ _ _
  repeat (any_goals (first | assumption | with_reducible refine wpAny_loadPart_at hC ?_ | wp_step))
  refine ⟨rfl, codeAny_call_builtin_at (Code.quiet_builtin _ (by decide +kernel)) entry_typeCall
    (wpAny_check_type_call_sub hC (typeCalled F L hC hl hi hb (codeAny_mono hq fun r s' z => ?_)))⟩
  rcases r with e | (v | _ | _ | _) <;> exact z
end

/-! ## self.name = v on an exception without a dict -/
section
open PySem.Builtin PySem.Builtin.ObjectAttr
variable {prog : Program} {w : World} {A : Around} {R : Result → Shared → Prop} {hp : Heap} {g : Array GenState} {d : Drawn} {t : Nat} {os : OsState}
theorem stored {K : Frag} {name : Str} {tk : Tok} {v : Value} {x C : Addr} {fv : Array Value} {cd : ClassData}
    (X : K.In hp) (hx : hp.get? x = some { cls := .ref C, data := .fields fv }) (hcd : clsIn K C = some cd)
    (hp1 : Pass cd.mro) (hob : cd.mro.contains (.type "object") = true) (hne : cd.mro.isEmpty = false)
    (hh : cd.hasDict = true) (ha : findIn K (.ref C) name = some none)
    (hq : ∀ h' tk' dx, (∀ b o, b ≠ x → hp.get? b = some o → h'.get? b = some o) → hp.objs.size ≤ dx → dx ≠ x →
      h'.get? x = some { cls := .ref C, dict := some dx, data := .fields fv } → h'.Ns1 dx (fun y => if y = name then some v else none) →
      R (.ok (.ret .none)) ⟨h', g, d, tk', os⟩) :
    codeAny (model prog w) A (.call (.builtin "object.__setattr__") ⟨[.ref x, .str name tk, v], []⟩) R ⟨hp, g, d, t, os⟩ := by
  have I : InstAt hp x { cls := .ref C, data := .fields fv } C none := ⟨hx, rfl, rfl, trivial⟩
  have SF := F.store_object
  have nx : x ≠ hp.objs.size := Nat.ne_of_lt (Heap.lt_size hx)
  have mro : mroIn K C (.type "object") = some true := by
    unfold mroIn
    rw [hcd, Option.bind_some, if_neg (by rw [hne]; decide), hob]
  have isO : Looks (model prog w) hp (isInstance (.ref x) (.type "object")) true := I.type.andThen (looks_mroIn X mro)
  refine codeAny_call_builtin SF.slot.plain SF.entry (@check_slot (model prog w) _ _ ⟨hp, g, d, t, os⟩ "object.__setattr__" "object"
    "__setattr__" (.ref x) [.str name tk, v] [] _ SF.kind SF.split isO (SF.args (.ref x) (.str name tk) v) ?_)
  have m1 : Looks (model prog w) hp (mroOf (.ref C)) cd.mro := (looks_clsIn X hcd).andThen .now
  have m2 : Looks (model prog w) hp (storeTaker? none) none := .now
  have m3 : Looks (model prog w) hp (classData C) cd := looks_clsIn X hcd
  rw [osa_eq, refuse_eq]
  refine wpAny_bind (wpAny_bind (I.type.at (wpAny_bind (m1.at ?_))))
  rw [hp1 _]
  refine wpAny_pure (wpAny_bind (I.type.at (wpAny_bind ((looks_findIn X ha).at (wpAny_bind (m2.at ?_))))))
  show wpAny _ _ (storeInOwnDict (.ref x) (.ref C) (.str name tk) name v false) _ _ _
  obtain ⟨nm, bs, mro, ns, qn, hd, sn, sb, ab, col, del⟩ := cd
  dsimp only at hh
  subst hh
  unfold storeInOwnDict ownDictForStores
  repeat (first
    | with_reducible refine store_in_new ?_ ?_
    | with_reducible refine wpAny_loadPart_at hx ?_
    | with_reducible refine m3.at ?_
    | wp_step)
  · exact ⟨_, #[], _, (Heap.get?_update_ne _ _ _ _ nx.symm).trans (Heap.get?_push_at rfl rfl), rfl, fun e he => absurd he (by simp), fun _ => rfl⟩
  · intro h' tk' hn' hs
    have hx1 : (hp.push { cls := .type "dict", data := .dict #[] }).get? x = some { cls := .ref C, data := .fields fv } :=
      Heap.get?_push_of_some _ hx
    refine hq h' tk' hp.objs.size (fun b o hb ho => ?_) (Nat.le_refl _) nx.symm ?_ hn'
    · refine (hs.2 b (Nat.ne_of_lt (Heap.lt_size ho))).trans ?_
      exact (Heap.get?_update_ne _ _ _ _ hb).trans (Heap.get?_push_of_some _ ho)
    · exact (hs.2 x nx).trans (Heap.get?_update_self _ hx1 rfl)
end
end FNX

set_option Elab.async false
set_option linter.all false
set_option maxRecDepth 100000
set_option maxHeartbeats 4000000
/-! ## Exceptions that the program holds as values: `exo` at a, its own dict `exd` at d -/
namespace FNX
open PySem PySem.Spec PyProof.Rows L2

/-- what the written part says of an exception class -/
structure XC (K : PySem.W.Frag) (C : Addr) : Prop where
  cls : ∃ nm q N bs bm sn sub ab col dd k0 k1 k2 k3 k5 B newId initId bmB,
    K.lookup C = some (excClassObj nm q C N bs bm true sn sub ab col dd k0 k1 k2 k3 k5 newId) ∧ ExcBaseFacts B newId initId bmB ∧ Chain B bm
  sa : PySem.W.findIn K (.ref C) "__setattr__" = some (some (.builtin "object.__setattr__"))
  ga : PySem.W.findIn K (.ref C) "__getattribute__" = some (some (.builtin "BaseException.__getattribute__"))
  gg : PySem.W.findIn K (.ref C) "__getattr__" = some none
  noV : PySem.W.findIn K (.ref C) "value" = some none
  exC : PySem.W.subIn K (.ref C) (.type "BaseException") = some true
  kC : PySem.W.keepIn K (.ref C) = true
  hdC : PySem.W.hasDictIn K C = true
  ic : PySem.W.isClsIn K C = true
  cC : PySem.W.findIn K (.ref C) "__class__" = some (some (.builtin "object.__class__"))
  mC : PySem.W.mroIn K C (.type "object") = some true
/-- and of `__class__` -/
structure XK0 (K : PySem.W.Frag) : Prop where
  sg : PySem.W.specialIn K (.builtin "object.__class__") "__get__" = some (some (.builtin "getset_descriptor.__get__"))
  st : PySem.W.takesIn K (.builtin "object.__class__") = some true

/-- an exception of the class at C with value = v -/
def XAt (H : Hp) (a C : Addr) (v : V) : Prop := ∃ d, H a = some (exo a C (some d)) ∧ H d = some (exd d [("value", v)])
theorem XAt.same {H H' : Hp} {a C : Addr} {v : V} (x : XAt H a C v) (s : Same H H') : XAt H' a C v := by
  obtain ⟨d, h1, h2⟩ := x
  exact ⟨d, s _ _ h1, s _ _ h2⟩
/-- one without a value of its own -/
def XAt0 (H : Hp) (a C : Addr) : Prop := H a = some (exo a C none)

theorem mut_exo {a C : Addr} {d : Option Addr} {H : Hp} (e : H a = some (exo a C d)) : Mut (H a) := by
  rw [e]
  exact True.intro

section
variable {X : Cx} {pins : List (Addr × Obj)} {σ : L2.St} {H : Hp} {s : Shared} {a C : Addr} {y : V} {u : Value}

/-- self.value = y -/
theorem xst_new {Q : Unit → Shared → Prop} {E : Value → Shared → Prop} {A : Around} (T : XC X.K C) (I : Inv X pins σ H s) (e : H a = some (exo a C none)) (ry : RelV y u)
    (h : ∀ dx s', H dx = none → dx ≠ a → Inv X pins σ (upd (upd H dx (exd dx [("value", y)])) a (exo a C (some dx))) s' → Q () s') :
    wpAny (model X.prog X.w) A (setAttr (.ref a) "value" u) Q E s := by
  obtain ⟨nm, q, N, bs, bm, sn, sub, ab, col, dd, k0, k1, k2, k3, k5, B, newId, initId, bmB, hC, F, L⟩ := T.cls
  have hcl : PySem.W.clsIn X.K C = some ⟨nm, bs, .ref C :: bm, N, q, true, sn, sub, ab, col, false⟩ := by
    unfold PySem.W.clsIn
    rw [hC] <;> rfl
  obtain ⟨t1, ho⟩ := exo_at I.hok e
  obtain ⟨hp, g, d, t, os⟩ := s
  refine PySem.W.set_plain I.kIn (ox := { cls := .ref C, dict := none, data := .fields #[.ref t1, .none, .none, .none, .bool false, .none] })
    (od := none) ⟨ho, rfl, rfl, trivial⟩ T.sa ?_
  refine stored I.kIn ho hcl (L.pass.ref C) (by simp only [List.contains_cons, L.obj, Bool.or_true]) rfl rfl T.noV
    (fun h' tk' dx k dn dne hx hn => ?_)
  have fresh : H dx = none := I.hok.fresh dn
  have nd : ∀ {b : Addr} {o : Obj}, hp.get? b = some o → b ≠ dx := fun q => Nat.ne_of_lt (Nat.lt_of_lt_of_le (Heap.lt_size q) dn)
  have na : ∀ {b : Addr}, H b = none → b ≠ a := fun {b} n z => by
    rw [z, e] at n
    cases n
  have U : Un X.fs [] H (upd (upd H dx (exd dx [("value", y)])) a (exo a C (some dx))) hp h' := {
    keep := fun b o q n _ _ => k b o (na n) q
    slot := fun b o q n _ _ => ⟨o.slots, k b o (na n) q⟩
    free := fun b o q n _ => by
      rw [upd_ne (na n), upd_ne (nd q)]
      exact n
    there := fun b o q _ => by
      by_cases hb : b = a
      · exact ⟨_, by rw [hb]; exact hx⟩
      · exact ⟨o, k b o hb q⟩
    tups := fun b xs q => by
      rw [upd_ne (at_ne e q exo_tup), upd_ne (ne_of_none q fresh)]
      exact q
    frzs := fun b o v q => by
      rw [upd_ne (at_ne e q exo_frz), upd_ne (ne_of_none q fresh)]
      exact q
    tbls := fun b ps q => ⟨#[], by
      rw [upd_ne (at_ne e q exo_tbl), upd_ne (ne_of_none q fresh), q]
      simp⟩ }
  refine h dx _ fresh dne (I.un (t' := tk') U fun b o q => ?_)
  by_cases hb : b = a
  · subst hb
    rw [upd_same] at q
    cases q
    exact exo_ok hx
  rw [upd_ne hb] at q
  by_cases hd : b = dx
  · subst hd
    rw [upd_same] at q
    cases q
    exact exd_ok hn (relO_put (fs := []) ry fun g => True.intro)
  rw [upd_ne hd] at q
  refine (I.hok b o q).stay (fun c v hc z => k c v ?_ z) (fun c hc => ?_) (fun c xs hc => ?_)
  · rcases hc with hc | hc
    · rw [hc]
      exact hb
    · exact at_ne e hc exo_own
  · rw [upd_ne (at_ne e hc exo_own), upd_ne (ne_of_none hc fresh)]
    exact hc
  · rw [upd_ne (at_ne e hc exo_tup), upd_ne (ne_of_none hc fresh)]
    exact hc
end

/-- self.value = e, self a new exception -/
def tXst (K : PySem.W.Frag) (to te : TE) : TS := fun D σ H => te σ H fun y H1 => to σ H1 fun x H2 => ∃ a C : Addr, x = .ref a ∧ XC K C ∧
  H2 a = some (exo a C none) ∧ ∀ dx, H2 dx = none → dx ≠ a → D.nx σ (upd (upd H2 dx (exd dx [("value", y)])) a (exo a C (some dx)))
section
variable {X : Cx} {o e : Expr} {to te : TE} {p' pos : Pos}
theorem ps_xst (ho : PE X o to) (he : PE X e te) (hs : swapsWith e (some (.Attribute o "value" p')) pos.line X.env = pure false := by rfl) :
    PS X (.Assign [.Attribute o "value" p'] e pos) (tXst X.K to te) := by
  refine ⟨fun pins s σ H D I h => ?_⟩
  refine plainObj_wpAny_Assign_Attribute (thn (he.run pins s σ H _ I h) fun v s1 hv => ?_) hs
  obtain ⟨y, H1, I1, r1, q1⟩ := hv
  refine thn (ho.run pins s1 σ H1 _ I1 q1) fun u s2 hu => ?_
  obtain ⟨x, H2, I2, r2, a, C, rfl, T, ea, q⟩ := hu
  obtain rfl : u = Value.ref a := r2
  exact xst_new T I2 ea r1 fun dx s' n ne J => ⟨σ, _, J, q dx n ne⟩
end

/-- what `__init__` promises -/
def spX (C : Addr) : Sp := fun vs H Q _ => ∃ (a : Addr) (v : V), vs = [.ref a, v] ∧ H a = some (exo a C none) ∧
  ∀ dx, H dx = none → dx ≠ a → Q .non (upd (upd H dx (exd dx [("value", v)])) a (exo a C (some dx)))
section
variable {P : Program} {w : World} {K : PySem.W.Frag} {mg : Str → Option Value} {base : Heap}
theorem xinit_ok {st : Stmt} {qual : Str} {f C : Addr} {fd : FuncData} (F : Fun K "__init__" qual st f fd)
    (S : FnScope ["self", "value"] ["self", "value"] (defScope st))
    (hb : ∃ q1 q2 q3 q4, defBody st = [.Assign [.Attribute (.Name "self" q1) "value" q2] (.Name "value" q3) q4]) (T : XC K C) :
    FnOk P w K mg base CX0 1 f fd ["self", "value"] (spX C) := by
  obtain ⟨q1, q2, q3, q4, hb⟩ := hb
  have vis : ∀ x ∈ (["self", "value"] : List Str), Vis (defScope st) x := fun x hx => by
    rcases S.par x hx with z | z
    · exact .inl z
    · exact .inr (.inl z)
  refine F.ok S (fun vs H Q E h => ?_) (fun cdv A outer s H vs Q E hr h => ?_)
  · obtain ⟨a, v, rfl, _⟩ := h
    rfl
  · obtain ⟨a, v, rfl, ha, k⟩ := h
    rw [hb]
    refine ⟨_, pss_one (ps_xst (pv 0 rfl (vis _ (by simp))) (pv 1 rfl (vis _ (by simp)))), ?_⟩
    exact ⟨_, rfl, _, rfl, a, C, rfl, T, ha, fun dx n ne => k dx n ne⟩
end

/-- the class x of the program stands at C; its `__init__` keeps its promise -/
structure Ex (P : Program) (w : World) (K : PySem.W.Frag) (mg : Str → Option Value) (base : Heap) (x : Str) (C : Addr) : Prop where
  xc : XC K C
  mgC : mg x = some (.ref C)
  mkd : ∃ fI fd, PySem.W.findIn K (.ref C) "__init__" = some (some (.ref fI)) ∧ PySem.W.typeIn K (.ref fI) = some (.type "function") ∧
    FnOk P w K mg base CX0 1 fI fd ["self", "value"] (spX C) ∧ Binds K fd ["self", "value"] [] ∧
    ∀ (s : Shared) (u v : Value), BindsTo s fd ⟨[u], [(("value" : Str), v)]⟩ ((["self", "value"] : List Str).zip [u, v])

theorem upd_again {H : Hp} {a d : Addr} {o1 o2 o3 : HO} (h : d ≠ a) : upd (upd (upd H a o1) d o2) a o3 = upd (upd H d o2) a o3 := by
  funext b
  by_cases hb : b = a
  · rw [hb, upd_same, upd_same]
  · rw [upd_ne hb, upd_ne hb]
    by_cases hd : b = d
    · rw [hd, upd_same, upd_same]
    · rw [upd_ne hd, upd_ne hd, upd_ne hb]

/-- the reading of C(e), C(value=e) -/
def wMk (C : Addr) (v : V) (H : Hp) (Q : VK) : Prop := ∀ a H', H a = none → Same H H' → XAt H' a C v → Q (.ref a) H'
section
variable {X : Cx} {x : Str} {C : Addr} {e : Expr} {te : TE} {p pos kpos : Pos} {pins : List (Addr × Obj)} {σ : L2.St} {H : Hp} {s : Shared} {v : V} {u : Value} {Q : VK} {ta : TA}
theorem xmade (T : Ex X.prog X.w X.K X.mg X.base x C) (hr : Room 2 X.A) (I : Inv X pins σ H s) (r : RelV v u) (q : wMk C v H Q)
    {us : List Value} {kw : List (Str × Value)} (hform : (us = [u] ∧ kw = []) ∨ (us = [] ∧ kw = [(("value" : Str), u)])) :
    wpAny (model X.prog X.w) X.A (call (.ref C) us kw) (EP X pins σ Q) X.xe s := by
  obtain ⟨fI, fd, iC, tI, F1, hb, hk⟩ := T.mkd
  obtain ⟨nm, qn, N, bs, bm, sn, sub, ab, col, dd, k0, k1, k2, k3, k5, B, newId, initId, bmB, hC, F, L⟩ := T.xc.cls
  obtain ⟨hp, g, dr, tk, os⟩ := s
  have sz : hp.objs.size ≤ hp.objs.size + 1 := Nat.le_succ _
  have hn : H (hp.objs.size + 1) = none := I.hok.fresh sz
  have old : ∀ b o, hp.get? b = some o → ((hp.push (PySem.W.kdv_tup us)).push (PySem.HandSPX.excO C hp.objs.size)).get? b = some o :=
    fun b o z => Heap.get?_push_of_some _ (Heap.get?_push_of_some _ z)
  have at1 : ((hp.push (PySem.W.kdv_tup us)).push (PySem.HandSPX.excO C hp.objs.size)).get? (hp.objs.size + 1) =
      some (PySem.HandSPX.excO C hp.objs.size) := by heap_get
  have I2 : Inv X pins σ (upd H (hp.objs.size + 1) (exo (hp.objs.size + 1) C none))
      ⟨(hp.push (PySem.W.kdv_tup us)).push (PySem.HandSPX.excO C hp.objs.size), g, dr, tk, os⟩ :=
    I.laid (t' := tk) (o := exo (hp.objs.size + 1) C none) old sz (exo_ok at1)
  have r2 : Vals [V.ref (hp.objs.size + 1), v] [Value.ref (hp.objs.size + 1), u] := .cons rfl (.cons r .nil)
  have hus : us.length ≤ sizeLine := by
    rcases hform with ⟨rfl, _⟩ | ⟨rfl, _⟩
    · rw [sizeLine_eq]; exact (by decide : 1 ≤ 16777216)
    · rw [sizeLine_eq]; exact (by decide : 0 ≤ 16777216)
  have bind : ∀ s' : Shared, X.K.In s'.heap → BindsTo s' fd ⟨Value.ref (hp.objs.size + 1) :: us, kw⟩ ((["self", "value"] : List Str).zip [Value.ref (hp.objs.size + 1), u]) := fun s' ks => by
    rcases hform with ⟨rfl, rfl⟩ | ⟨rfl, rfl⟩
    · exact hb s' [Value.ref (hp.objs.size + 1), u] ks rfl
    · exact hk s' _ _
  have hsp : spX C [V.ref (hp.objs.size + 1), v] (upd H (hp.objs.size + 1) (exo (hp.objs.size + 1) C none))
      (fun z H2 => z = .non ∧ Q (.ref (hp.objs.size + 1)) H2) (fun _ _ _ => False) := by
    refine ⟨_, _, rfl, upd_same, fun dx n ne => ⟨rfl, ?_⟩⟩
    rw [upd_ne ne] at n
    rw [upd_again ne]
    refine q _ _ hn (fun b o z => ?_) ⟨dx, upd_same, ?_⟩
    · rw [upd_ne (ne_of_none z hn), upd_ne (ne_of_none z n)]
      exact z
    · rw [upd_ne ne, upd_same]
  refine wpAny_call (called F L (I.kIn _ _ hC) hus (PySem.W.looks_findIn I.kIn iC) (fun self => PySem.W.bind_fn I.kIn self tI)
    (codeAny_mono (F1.run _ X.stack _ _ ⟨Value.ref (hp.objs.size + 1) :: us, kw⟩ _ _ _ (fun _ _ _ => False) (hr.make C us kw)
      (I2.env0.make C us kw) (bind _ I2.kIn) r2 hsp) fun r s' hq' => ?_))
  cases r with
  | error er => exact False.elim hq'
  | ok fl =>
    cases fl with
    | ret u' =>
      obtain ⟨z, H2, J, rz, ez, q2⟩ := I2.after hq'
      subst ez
      exact ⟨rz, .ref (hp.objs.size + 1), H2, J, rfl, q2⟩
    | next => exact False.elim hq'
    | brk => exact False.elim hq'
    | cont => exact False.elim hq'

/-- C(e) -/
def tX (C : Addr) (t : TA) : TE := fun σ H Q => t σ H fun vs H1 => ∃ v, vs = [v] ∧ wMk C v H1 Q
theorem pe_x (T : Ex X.prog X.w X.K X.mg X.base x C) (hr : Room 2 X.A) (hg : Gl X x) (ha : PA X (e :: []) ta)
    (hdb : (x == ("__debug__" : Str)) = false := by decide) (he : starEach (e :: []) X.env = (false, eval e X.env) :: starEach [] X.env := by rfl)
    (hpl : (backTo pos (starEach [] X.env)).any (·.1) = false := by rfl) :
    PE X (.Call (.Name x p) [e] [] pos) (tX C ta) := by
  refine ⟨fun pins s σ H Q I h => ?_⟩
  refine wpAny_Call_Name_kw (ld_glob I hg T.mgC ?_ hdb)
  refine PySem.W.callWith_K (h₀ := X.base) I.ok.mod.kin T.xc.kC (thn (ha.run pos pins s σ H _ I h) fun us s1 hu => ?_) he hpl
  obtain ⟨vs, H1, I1, r1, v, rfl, q⟩ := hu
  refine ⟨I1.kIn, ?_⟩
  cases r1 with
  | cons rv rn =>
    cases rn
    exact xmade T hr I1 rv q (.inl ⟨rfl, rfl⟩)
/-- C(value=e) -/
theorem pe_xk (T : Ex X.prog X.w X.K X.mg X.base x C) (hr : Room 2 X.A) (hg : Gl X x) (ha : PK X [⟨some "value", e, kpos⟩] ta)
    (hdb : (x == ("__debug__" : Str)) = false := by decide)
    (hall : (backToKw pos (keywordEach [⟨some "value", e, kpos⟩] X.env)).all (·.1.isSome) = true := by rfl)
    (hks : (backToKw pos (keywordEach [⟨some "value", e, kpos⟩] X.env)).filterMap (·.1) = [("value" : Str)] := by rfl)
    (hpl : ((backTo pos (starEach [] X.env)).any (·.1) || (backToKw pos (keywordEach [⟨some "value", e, kpos⟩] X.env)).any (·.1.isNone)) = false := by rfl) :
    PE X (.Call (.Name x p) [] [⟨some "value", e, kpos⟩] pos) (tX C ta) := by
  refine ⟨fun pins s σ H Q I h => ?_⟩
  refine wpAny_Call_Name_kw (ld_glob I hg T.mgC ?_ hdb)
  refine PySem.W.callWith_KW0 (h₀ := X.base) I.ok.mod.kin T.xc.kC hall (thn (ha.run pos pins s σ H _ I h) fun us s1 hu => ?_) hpl
  obtain ⟨vs, H1, I1, r1, v, rfl, q⟩ := hu
  refine ⟨I1.kIn, ?_⟩
  rw [hks]
  cases r1 with
  | cons rv rn =>
    cases rn
    exact xmade T hr I1 rv q (.inr ⟨rfl, rfl⟩)
end

/-! ### e.value, isinstance(e, D) -/
section
variable {X : Cx} {e : Expr} {te : TE} {pos : Pos}
def tXv (K : PySem.W.Frag) (te : TE) : TE := fun σ H Q => te σ H fun x H1 => ∃ a C v, x = .ref a ∧ XC K C ∧ XAt H1 a C v ∧ Q v H1
theorem inst_of {pins : List (Addr × Obj)} {σ : L2.St} {H : Hp} {s : Shared} {a C : Addr} {v : V} (I : Inv X pins σ H s) (x : XAt H a C v) :
    ∃ oe od, PySem.W.InstAt s.heap a oe C (some od) ∧ ∃ u, RelV v u ∧ PySem.W.lookIn "value" od = some (some u) := by
  obtain ⟨d, h1, h2⟩ := x
  obtain ⟨t1, ho⟩ := exo_at I.hok h1
  obtain ⟨mA, hns, rel⟩ := exd_at I.hok h2
  obtain ⟨od, h3, hl⟩ := lookIn_ns hns
  have l : List.lookup ("value" : Str) [(("value" : Str), v)] = some v := by simp [List.lookup]
  obtain ⟨u, hu, ru⟩ := RelO.some_of (v := v) (o := mA "value") (by rw [← l]; exact rel "value")
  exact ⟨_, od, ⟨ho, rfl, rfl, h3⟩, u, ru, by rw [hl, hu]⟩
theorem pe_xv (he : PE X e te) (hb : attributeBase e "value" X.env (eval e X.env) = eval e X.env := by rfl) : PE X (.Attribute e "value" pos) (tXv X.K te) := by
  refine ⟨fun pins s σ H Q I h => ?_⟩
  refine attr_of hb (thn (he.run pins s σ H _ I h) fun u s1 hh => ?_)
  obtain ⟨x, H1, I1, rx, a, C, v, rfl, T, xa, q⟩ := hh
  obtain rfl : u = Value.ref a := rx
  obtain ⟨oe, od, J, z, rz, hl⟩ := inst_of I1 xa
  exact HandSPX.exc_get I1.kIn J T.ga T.gg T.exC (PySem.W.findObj_own T.hdC T.noV rfl hl) (handed_of rz) ⟨v, H1, I1.tok _, rz, q⟩
/-- isinstance(e, D) -/
def rIsX (K : PySem.W.Frag) : List V → Hp → VK → Prop := fun xs H Q => ∃ (a C : Addr) (c : V) (u : Value) (b : Bool), xs = [.ref a, c] ∧ ClsV c u ∧
  (XAt0 H a C ∨ ∃ v, XAt H a C v) ∧ XC K C ∧ XK0 K ∧ PySem.W.kitOne K (.ref C) u = some b ∧ Q (.bl b) H
theorem call_isx : CallR X (.builtin "isinstance") (rIsX X.K) := by
  intro pins s σ H xs us Q I r h
  obtain ⟨a, C, c, u, b, rfl, k, hx, T, Z, e, q⟩ := h
  obtain ⟨u1, u2, rfl, r1, r2⟩ := vals2 r
  have e2 := k.eq r2
  subst e2
  obtain rfl : u1 = Value.ref a := r1
  rcases hx with hx | ⟨v, hx⟩
  · obtain ⟨t1, ho⟩ := exo_at I.hok hx
    have J : PySem.W.InstAt s.heap a _ C none := ⟨ho, rfl, rfl, trivial⟩
    exact PySem.W.kia_one (PySem.W.kitx_exc T.ic T.ga T.gg T.exC T.cC Z.sg Z.st T.mC) I.kIn J e (fun z => nomatch z) fun tk => ⟨.bl b, H, I.tok tk, rfl, q⟩
  · obtain ⟨oe, od, J, _⟩ := inst_of I hx
    exact PySem.W.kia_one (PySem.W.kitx_exc T.ic T.ga T.gg T.exC T.cC Z.sg Z.st T.mC) I.kIn J e (fun z => nomatch z) fun tk => ⟨.bl b, H, I.tok tk, rfl, q⟩
end
end FNX

set_option Elab.async false
set_option linter.all false
set_option maxRecDepth 100000
set_option maxHeartbeats 4000000
/-! ## An exception made of nothing, under IndexError -/
namespace FNX
open PySem PySem.Spec PyProof.Rows L2

abbrev ixTail : List Value := [.type "IndexError", .type "LookupError", .type "Exception", .type "BaseException", .type "object"]
def sp0 (C : Addr) : Sp := fun vs H Q _ => ∃ (a : Addr), vs = [.ref a] ∧ H a = some (exo a C none) ∧ Q .non H
structure XC0 (K : PySem.W.Frag) (C : Addr) : Prop where
  xc : XC K C
  cls : ∃ nm q N bs sn sub ab col dd k0 k1 k2 k3 k5, K.lookup C = some (excClassObj nm q C N bs ixTail true sn sub ab col dd k0 k1 k2 k3 k5 "IndexError.__new__")
  vI : PySem.W.findCls K (.type "IndexError") (.type "type") "__init__" = some (.val (.builtin "IndexError.__init__"))
structure Ex0 (P : Program) (w : World) (K : PySem.W.Frag) (mg : Str → Option Value) (base : Heap) (x : Str) (C : Addr) : Prop where
  x0 : XC0 K C
  mgC : mg x = some (.ref C)
  mkd : ∃ fI fd, PySem.W.findIn K (.ref C) "__init__" = some (some (.ref fI)) ∧ PySem.W.typeIn K (.ref fI) = some (.type "function") ∧
    FnOk P w K mg base CX0 1 fI fd ["self"] (sp0 C) ∧ Binds K fd ["self"] []

theorem typIx : typeOf (.type "IndexError") = pure (.type "type") := by kernel_rfl
def tIxI (K : PySem.W.Frag) (ta : TA) : TE := fun σ H Q => ta σ H fun vs H1 => ∃ (a C : Addr), vs = [.ref a] ∧ XC0 K C ∧ H1 a = some (exo a C none) ∧ Q .non H1
section
variable {X : Cx} {e : Expr} {ta : TA} {p1 p2 pos : Pos}
theorem pe_ixinit {pl : Sem Bool} (hg : Gl X "IndexError") (hm : X.mg "IndexError" = none)
    (vI : PySem.W.findCls X.K (.type "IndexError") (.type "type") "__init__" = some (.val (.builtin "IndexError.__init__"))) (ha : PA X [e] ta)
    (hc : eval (.Call (.Attribute (.Name "IndexError" p1) "__init__" p2) [e] [] pos) X.env = (do
      let ov ← eval (.Name "IndexError" p1) X.env
      standAt p2.atName
      let (f, first) ← holding [ov] (getMethod ov "__init__" pl)
      callWith pos f first (backTo pos (starEach [e] X.env)) (backToKw pos (keywordEach [] X.env))) := by rfl)
    (he : starEach [e] X.env = (false, eval e X.env) :: starEach [] X.env := by rfl) (hpl : (backTo pos (starEach [] X.env)).any (·.1) = false := by rfl) :
    PE X (.Call (.Attribute (.Name "IndexError" p1) "__init__" p2) [e] [] pos) (tIxI X.K ta) := by
  refine ⟨fun pins s σ H Q I h => ?_⟩
  refine PySem.W.methodCall_KW (ld_blt I hg hm PyProof.Rows.Boot.«IndexError» ?_ (by decide) (by decide)) hc
  obtain ⟨m, fr⟩ := I.fr
  refine PySem.W.method_type fr I.ok.mod.kin typIx (by decide +kernel) vI (by decide +kernel) ?_
  show wpAny _ _ (callWith pos (Value.builtin "IndexError.__init__") [] (backTo pos (starEach [e] X.env)) []) _ _ _
  refine PyProof.Rows.callWith_method1 (thn (ha.run pos pins _ σ H _ (I.tok _) h) fun us s1 hu => ?_) he hpl
  obtain ⟨vs, H1, I1, r1, a, C, rfl, T, ea, q⟩ := hu
  obtain ⟨nm, qn, N, bs, sn, sub, ab, col, dd, k0, k1, k2, k3, k5, hC⟩ := T.cls
  obtain ⟨t1, ho⟩ := exo_at I1.hok ea
  cases r1 with
  | @cons _ u0 _ ur ra rw' =>
    cases rw'
    obtain rfl : u0 = Value.ref a := ra
    obtain ⟨hp, g, d, t, os⟩ := s1
    refine wpAny_call (PySem.HandSPX.init_base F.excBase_IndexError (fun Y => rfl) (I1.kIn _ _ hC) ho (by rw [sizeLine_eq]; exact (by decide : 0 ≤ 16777216)) fun h' t2 k hx => ?_)
    have J := I1.write (t' := t) (x := a) (e := a) (o := exo a C none) (mut_exo ea) (.inl rfl) k ⟨_, hx⟩ (exo_ok hx)
    have eu : upd H1 a (exo a C none) = H1 := by
      funext b
      by_cases hb : b = a
      · rw [hb, upd_same, ea]
      · rw [upd_ne hb]
    rw [eu] at J
    exact ⟨.non, H1, J, rfl, q⟩
end
section
variable {X : Cx} {x : Str} {C : Addr} {p pos : Pos} {pins : List (Addr × Obj)} {σ : L2.St} {H : Hp} {s : Shared} {Q : VK}
def wMk0 (C : Addr) (H : Hp) (Q : VK) : Prop := ∀ a H', H a = none → Same H H' → XAt0 H' a C → Q (.ref a) H'
theorem xmade0 (T : Ex0 X.prog X.w X.K X.mg X.base x C) (hr : Room 2 X.A) (I : Inv X pins σ H s) (q : wMk0 C H Q) :
    wpAny (model X.prog X.w) X.A (call (.ref C) []) (EP X pins σ Q) X.xe s := by
  obtain ⟨fI, fd, iC, tI, F1, hb⟩ := T.mkd
  obtain ⟨nm, qn, N, bs, bm, sn, sub, ab, col, dd, k0, k1, k2, k3, k5, B, newId, initId, bmB, hC, F, L⟩ := T.x0.xc.cls
  obtain ⟨hp, g, dr, tk, os⟩ := s
  have sz : hp.objs.size ≤ hp.objs.size + 1 := Nat.le_succ _
  have hn : H (hp.objs.size + 1) = none := I.hok.fresh sz
  have old : ∀ b o, hp.get? b = some o → ((hp.push (PySem.W.kdv_tup [])).push (PySem.HandSPX.excO C hp.objs.size)).get? b = some o :=
    fun b o z => Heap.get?_push_of_some _ (Heap.get?_push_of_some _ z)
  have at1 : ((hp.push (PySem.W.kdv_tup [])).push (PySem.HandSPX.excO C hp.objs.size)).get? (hp.objs.size + 1) =
      some (PySem.HandSPX.excO C hp.objs.size) := by heap_get
  have I2 : Inv X pins σ (upd H (hp.objs.size + 1) (exo (hp.objs.size + 1) C none))
      ⟨(hp.push (PySem.W.kdv_tup [])).push (PySem.HandSPX.excO C hp.objs.size), g, dr, tk, os⟩ :=
    I.laid (t' := tk) (o := exo (hp.objs.size + 1) C none) old sz (exo_ok at1)
  have hsp : sp0 C [V.ref (hp.objs.size + 1)] (upd H (hp.objs.size + 1) (exo (hp.objs.size + 1) C none))
      (fun z H2 => z = .non ∧ Q (.ref (hp.objs.size + 1)) H2) (fun _ _ _ => False) := by
    refine ⟨_, rfl, upd_same, rfl, q _ _ hn (fun b o z => ?_) upd_same⟩
    rw [upd_ne (ne_of_none z hn)]
    exact z
  have rv : Vals [V.ref (hp.objs.size + 1)] [Value.ref (hp.objs.size + 1)] := .cons rfl .nil
  refine wpAny_call (called F L (I.kIn _ _ hC) (by rw [sizeLine_eq]; exact (by decide : 0 ≤ 16777216)) (PySem.W.looks_findIn I.kIn iC) (fun self => PySem.W.bind_fn I.kIn self tI)
    (codeAny_mono (F1.run _ X.stack _ _ ⟨[Value.ref (hp.objs.size + 1)], []⟩ [Value.ref (hp.objs.size + 1)] _ _ (fun _ _ _ => False) (hr.make C [] [])
      (I2.env0.make C [] []) (hb _ [Value.ref (hp.objs.size + 1)] I2.kIn rfl) rv hsp) fun r s' hq' => ?_))
  cases r with
  | error er => exact False.elim hq'
  | ok fl =>
    cases fl with
    | ret u' =>
      obtain ⟨z, H2, J, rz, ez, q2⟩ := I2.after hq'
      subst ez
      exact ⟨rz, .ref (hp.objs.size + 1), H2, J, rfl, q2⟩
    | next => exact False.elim hq'
    | brk => exact False.elim hq'
    | cont => exact False.elim hq'
/-- C() -/
theorem pe_x0 (T : Ex0 X.prog X.w X.K X.mg X.base x C) (hr : Room 2 X.A) (hg : Gl X x) (hdb : (x == ("__debug__" : Str)) = false := by decide) :
    PE X (.Call (.Name x p) [] [] pos) (fun _ H Q => wMk0 C H Q) := by
  refine ⟨fun pins s σ H Q I h => ?_⟩
  refine wpAny_Call_Name_kw (ld_glob I hg T.mgC ?_ hdb)
  exact PySem.W.callWith_K0 I.kIn T.x0.xc.kC (xmade0 T hr I h)
end
end FNX

set_option Elab.async false
set_option linter.all false
set_option maxRecDepth 100000
set_option maxHeartbeats 4000000
/-! ## repr of data, where no repr runs further out; defs that are called there -/
namespace FNX
open PySem PySem.Spec PyProof.Rows L2

/-- what stands at a value, as data: HandS's, and a dict of texts and ints -/
inductive Rd (K : PySem.W.Frag) (H : Hp) : V → PyData → Prop
  | dat {v : V} {d : PyData} (h : Dp K H v d) : Rd K H v d
  | dct {a : Addr} (kvs : List (Str × Int)) (h : H a = some (.dK (kvs.map fun p => (Sum.inr p.1, V.int p.2)))) :
      Rd K H (.ref a) (.dict (kvs.map fun p => (.str p.1, .int p.2)))
mutual
theorem dpNoDict {K : PySem.W.Frag} {H : Hp} : ∀ (d : PyData) (v : V), Dp K H v d → d.hasDict = false
  | .none, _, _ => by simp only [PyData.hasDict]
  | .bool _, _, _ => by simp only [PyData.hasDict]
  | .int _, _, _ => by simp only [PyData.hasDict]
  | .str _, _, _ => by simp only [PyData.hasDict]
  | .list xs, _, h => by
    cases h with
    | lst _ hs =>
      simp only [PyData.hasDict]
      exact dpNoDictAll xs _ hs
  | .tuple xs, _, h => by
    cases h with
    | tup _ hs =>
      simp only [PyData.hasDict]
      exact dpNoDictAll xs _ hs
  | .dict _, _, h => by cases h
theorem dpNoDictAll {K : PySem.W.Frag} {H : Hp} : ∀ (ds : List PyData) (vs : List V), DpAll K H vs ds → PyData.hasDictAll ds = false
  | [], _, _ => by simp only [PyData.hasDictAll]
  | d :: ds, _, h => by
    cases h with
    | cons h1 h2 => simp only [PyData.hasDictAll, dpNoDict d _ h1, dpNoDictAll ds _ h2, Bool.or_self]
end

theorem readsKeys {P : Program} {w : World} {h : Heap} : ∀ (kvs : List (Str × Int)) (vs : List (Key × Value)) (es : List DictEntry),
    KV (kvs.map fun p => ((Sum.inr p.1 : Key), V.int p.2)) vs → Pairs (mixKind P w) es vs →
    ReadsAll h (es.map (·.key)) ((kvs.map fun p => ((PyData.str p.1, PyData.int p.2) : PyData × PyData)).map (·.1)) [] ∧
    ReadsAll h (es.map (·.val)) ((kvs.map fun p => ((PyData.str p.1, PyData.int p.2) : PyData × PyData)).map (·.2)) []
  | [], _, _, r, p => by
    cases r
    cases p
    exact ⟨.nil, .nil⟩
  | (x, i) :: kvs, _, _, r, p => by
    cases r with
    | cons r1 r2 =>
      rename_i q vs
      obtain ⟨k, u⟩ := q
      obtain ⟨rfl, t, rfl⟩ := r1
      cases p with
      | @cons e _ es _ p1 p3 p2 =>
        obtain ⟨h1, h2⟩ := readsKeys (h := h) kvs vs _ r2 p2
        have p1 : keyIs (Sum.inr x) _ = true := p1
        rcases keyIs_shape p1 with ⟨j, t', e1, e2⟩ | ⟨y, t', e1, e2⟩
        · cases e1
        · injection e1 with e1
          subst e1
          constructor
          · show ReadsAll h (e.key :: _) _ []
            rw [e2]
            exact ReadsAll.cons (as := []) (.str x t') h1
          · show ReadsAll h (e.val :: _) _ []
            rw [p3]
            exact ReadsAll.cons (as := []) (.int i t) h2

section
variable {X : Cx} {pins : List (Addr × Obj)} {σ : L2.St} {H : Hp} {s : Shared}
theorem rdReads (I : Inv X pins σ H s) {v : V} {d : PyData} {u : Value} (h : Rd X.K H v d) (r : RelV v u) :
    ∃ as, Reads s.heap u d as ∧ (d.hasDict = true → sysModules ∉ as) := by
  cases h with
  | dat h =>
    obtain ⟨as, q⟩ := Dp.reads I d v u h r
    exact ⟨as, q, PyData.noDict_hsm (dpNoDict d v h)⟩
  | @dct a kvs h =>
    obtain rfl : u = Value.ref a := r
    obtain ⟨_, hs, vs, rv, o, es, ep, ho, hx, hd, _, hp, _⟩ := (show ObjOk X.prog X.w H s.heap a (.dK _) from I.hok a _ h)
    obtain ⟨h1, h2⟩ := readsKeys (h := s.heap) kvs vs es.toList rv hp
    refine ⟨_, Reads.dict ho hx.1 hd h1 h2, fun _ z => ?_⟩
    have z : sysModules ∈ [a] := by simpa using z
    have z := List.mem_singleton.mp z
    rw [← z] at hs
    simp at hs
/-- repr(x) -/
def rRepr (K : PySem.W.Frag) : List V → Hp → VK → Prop := fun xs H Q => ∃ v d, xs = [v] ∧ Rd K H v d ∧ d.showable = true ∧ d.depth ≤ 60 ∧
  d.shown.length ≤ sizeLine ∧ Q (.str d.shown) H
theorem call_repr (hg : X.A.guards = some []) (hu : X.A.units + 64 < cLine) : CallR X (.builtin "repr") (rRepr X.K) := by
  intro pins s σ H xs us Q I r h
  obtain ⟨v, d, rfl, hd, h1, h2, h3, q⟩ := h
  cases r with
  | cons r1 r2 =>
    cases r2
    rename_i u
    obtain ⟨as, hr, hsm⟩ := rdReads I hd r1
    have done : ∀ h' u' tk, (∀ b o, s.heap.get? b = some o → h'.get? b = some o) → EP X pins σ Q (.str d.shown u') { s with heap := h', toks := tk } :=
      fun h' u' tk k => ⟨.str d.shown, H, I.un (t' := tk) (Un.kept k) (I.hok.kept k), ⟨u', rfl⟩, q⟩
    have fin : ∀ {x : Str} {u' : Tok}, x = d.shown → EP X pins σ Q (.str x u') { s with toks := s.toks + 1 } := fun {x u'} e => by
      rw [e]
      exact done s.heap u' (s.toks + 1) fun _ _ z => z
    cases hr with
    | none => exact PySem.P.repr_of_none (fin (by simp only [PyData.shown]))
    | bool b => exact PySem.P.repr_of_bool (fin (by simp only [PyData.shown]))
    | int i t => exact PySem.P.repr_of_int (by simpa [PyData.showable] using h1) (fin (by simp only [PyData.shown]))
    | str x t => exact PySem.P.repr_of_str (fin (by simp only [PyData.shown])) (by simpa only [PyData.shown] using h3)
    | list a1 a2 a3 a4 => exact repr_of_reads' (.list a1 a2 a3 a4) h1 hsm hg (by omega) (fun _ _ e => e) (fun h' u tk k => done h' u tk k) h3
    | tuple a1 a2 a3 a4 => exact repr_of_reads' (.tuple a1 a2 a3 a4) h1 hsm hg (by omega) (fun _ _ e => e) (fun h' u tk k => done h' u tk k) h3
    | dict a1 a2 a3 a4 a5 => exact repr_of_reads' (.dict a1 a2 a3 a4 a5) h1 hsm hg (by omega) (fun _ _ e => e) (fun h' u tk k => done h' u tk k) h3
end

/-! ### defs that are called where no repr runs -/
structure GOk (P : Program) (w : World) (K : PySem.W.Frag) (mg : Str → Option Value) (base : Heap) (k : Nat) (f : Addr) (fd : FuncData) (ps : List Str) (sp : Sp) : Prop where
  len : ∀ vs H Q E, sp vs H Q E → vs.length = ps.length
  run : ∀ (A : Around) (outer : List Env) (s : Shared) (H : Hp) (args : Args) (us : List Value) (vs : List V) (Q : VK) (E : XK), A.guards = some [] → Room k A →
    Env0 P w K mg base A outer s H → BindsTo s fd args (ps.zip us) → Vals vs us → sp vs H Q E → codeAny (model P w) A (.call (.ref f) args) (CR CX0 outer P w H s Q E) s
section
variable {P : Program} {w : World} {K : PySem.W.Frag} {mg : Str → Option Value} {base : Heap}
theorem okG {x qual : Str} {st : Stmt} {f : Addr} {fd : FuncData} {N ps : List Str} {k : Nat} {sp : Sp} (F : Fun K x qual st f fd) (S : FnScope N ps (defScope st))
    (len : ∀ vs H Q E, sp vs H Q E → vs.length = ps.length)
    (hbody : ∀ (cdv : Value) (A : Around) (outer : List Env) (s : Shared) (H : Hp) (vs : List V) (Q : VK) (E : XK), A.guards = some [] →
      Room k (A.deeper (envOfC qual (defScope st) s.heap.objs.size f cdv)) → sp vs H Q E →
      ∃ t, PSs (cxOf CX0 P w K mg base N qual (defScope st) f cdv A outer s H E).nox (defBody st) t ∧ t { nx := fun _ H' => Q .non H', rt := Q } (start N vs) H) :
    GOk P w K mg base (k + 1) f fd ps sp := by
  refine ⟨len, fun A outer s H args us vs Q E hg hr e0 hb r hs => ?_⟩
  -- a promise that is kept around this A alone
  obtain ⟨oc, od, kV, doc, pm, an, cdv, ct, osl, rfl, lk, hcd⟩ := F.ex
  have KX : K.In s.heap := e0.mod.kin.keeps fun b o e => (e0.bs b o e).1
  have lim : s.heap.NoLimit := e0.mod.nolimit.keeps fun b o e => (e0.bs b o e).1
  have hl := len _ _ _ _ hs
  have kinds : ∀ y ∈ ps.zip us, (defScope st).names.lookup y.1 = some .local ∨
      ((defScope st).names.lookup y.1 = some .cell ∧ ((cellsFrom (s.heap.objs.size + 1) (defScope st).names []).lookup y.1).isSome = true) := fun y hy => by
    rcases S.par y.1 (List.of_mem_zip (show (y.1, y.2) ∈ ps.zip us from hy)).1 with z | z
    · exact .inl z
    · exact .inr ⟨z, PySem.W.cellsFrom_some _ _ _ (.inl z)⟩
  refine codeAny_call_function hr.depth (KX _ _ lk) rfl S.co S.gen rfl (PySem.W.codeRec_of KX hcd) (hb _ _ _ _ ?_)
  refine wpAny_newFunctionEnv_cells S.kind kinds fun env he s1 x => ?_
  subst he
  refine ⟨lim.keeps x.toInCall.keep, codeAny_func ?_⟩
  obtain ⟨t, ht, hq⟩ := hbody cdv A outer s H vs Q E hg (hr.deeper _) hs
  have I := inv_start (CX := CX0) (E := E) S hr.hd e0 hl r x
  refine wpAny_mono (ht.nox.run [] s1 _ H _ I hq) (fun fl s' z => ?_) fun e s' z => z
  cases fl with
  | ret u =>
    obtain ⟨v, σ', H', J, rv, q⟩ := z
    exact ⟨v, H', J.os, J.bare, J.base, J.hok, rv, q⟩
  | next =>
    obtain ⟨σ', H', J, q⟩ := z
    exact ⟨V.non, H', J.os, J.bare, J.base, J.hok, rfl, q⟩
  | brk =>
    obtain ⟨_, _, _, q⟩ := z
    exact q.elim
  | cont =>
    obtain ⟨_, _, _, q⟩ := z
    exact q.elim
end
end FNX

set_option Elab.async false
set_option linter.all false
set_option maxRecDepth 100000
set_option maxHeartbeats 4000000
/-! ## The law's own call, made where no repr runs -/
namespace FNX
open PySem PySem.Spec PyProof.Rows L2

section
variable {P : Program} {w : World} {K : PySem.W.Frag} {mg mb : Str → Option Value} {k : Nat} {fa a : Addr} {fd : FuncData} {x : Str} {sp : Sp} {s : Shared} {vs : List Value} {ns : List Int}
abbrev LawEnd (s : Shared) (r : Result) (s' : Shared) : Prop := r = .ok (.ret (.bool true)) ∧ OldK s.heap s'.heap ∧ s'.os = s.os ∧ AllBare s'.gens

/-- from an abstract heap that tracks the script at most -/
theorem lawFrom {H : Hp} (KX : K.In s.heap) (hns : s.heap.Ns mainGlobals mg) (hb : s.heap.Ns builtinsNs mb) (hbb : ∀ x : Str, x ≠ "__name__" → mb x = bootBuiltins x)
    (hlim : s.heap.NoLimit) (hg : s.gens = #[]) (hr : Room k callerA)
    (F : ∀ base : Heap, K.In base → base.Ns mainGlobals mg → GOk P w K mg base k fa fd [x] sp) (hbind : ∀ (s : Shared) (u : Value), BindsTo s fd ⟨[u], []⟩ [(x, u)])
    (hsp : sp [.ref a] H (fun v _ => v = .bl true) fun _ _ _ => False) (hok : HOk P w H s.heap)
    (hlist : ∀ b u, H b = some u → (∃ o xs, u = .frz o (.lst xs)) ∧ K.lookup b = none ∧ ∀ o es ep, s.heap.get? b = some o → o.data ≠ .dict es ep) :
    codeAny (model P w) callerA (.call (.ref fa) ⟨[.ref a], []⟩) (LawEnd s) s := by
  have seen : ∀ {b : Addr} {o : Obj}, s.heap.get? b = some o → H b = none → (hidT s.heap H).get? b = some o := fun e n => hidT_get e n
  have noD : ∀ {b : Addr} {o : Obj} {es : Array DictEntry} {ep : Nat}, s.heap.get? b = some o → o.data = .dict es ep → H b = none := fun {b o es ep} e d => by
    cases q : H b with
    | none => rfl
    | some u => exact absurd d ((hlist b u q).2.2 o es ep e)
  have keep : ∀ {b : Addr} {m : Str → Option Value}, s.heap.Ns b m → (hidT s.heap H).Ns b m := fun n => by
    obtain ⟨o, es, ep, e, d, r⟩ := n
    exact ⟨o, es, ep, seen e (noD e d), d, r⟩
  have kin : K.In (hidT s.heap H) := fun b o e => seen (KX b o e) (by
    cases q : H b with
    | none => rfl
    | some u =>
      have z := (hlist b u q).2.1
      rw [z] at e
      cases e)
  have mod : Mod K mg (hidT s.heap H) := ⟨kin, keep hns, ⟨mb, keep hb, hbb⟩, by
    obtain ⟨mc, h1, h2⟩ := hlim
    exact ⟨mc, keep h1, h2⟩⟩
  have e0 : Env0 P w K mg (hidT s.heap H) callerA [] s H :=
    ⟨rfl, mod, fun b o e => of_hidT e, Nat.le_of_eq (hidT_size _ _), trivial, fun b hb => absurd (show b ∈ ([] : List Addr) from hb) (by simp), hok, .of_eq hg⟩
  have rv : Vals [V.ref a] [Value.ref a] := .cons rfl .nil
  refine codeAny_mono ((F _ kin (keep hns)).run callerA [] s H ⟨[.ref a], []⟩ [.ref a] [.ref a] _ _ rfl hr e0 (hbind s (.ref a)) rv hsp) fun r s' z => ?_
  cases r with
  | error e => exact False.elim z
  | ok fl =>
    cases fl with
    | next => exact False.elim z
    | brk => exact False.elim z
    | cont => exact False.elim z
    | ret u =>
      obtain ⟨v, H', os, bare, un, hok', rv', q⟩ := z
      obtain rfl : v = .bl true := q
      obtain rfl : u = Value.bool true := rv'
      refine ⟨rfl, OldK.of_keep fun b o e => ?_, os, bare⟩
      cases q : H b with
      | none => exact un.keep b o e q (fun z => absurd (show b ∈ ([] : List Addr) from z) (by simp)) (by simp)
      | some t =>
        obtain ⟨⟨ob, xs, rfl⟩, _, _⟩ := hlist b t q
        obtain ⟨e1, _⟩ := hok b _ q
        obtain ⟨e2, _⟩ := hok' b _ (un.frzs b ob _ q)
        rw [e] at e1
        cases e1
        exact e2

theorem lawCalled (KX : K.In s.heap) (hns : s.heap.Ns mainGlobals mg) (hb : s.heap.Ns builtinsNs mb) (hbb : ∀ x : Str, x ≠ "__name__" → mb x = bootBuiltins x)
    (hlim : s.heap.NoLimit) (hg : s.gens = #[]) (ha : s.heap.get? a = some { cls := .type "list", data := .seq vs.toArray }) (hi : IntsAre vs ns) (hl : ns.length ≤ sizeLine)
    (hr : Room k callerA) (F : ∀ base : Heap, K.In base → base.Ns mainGlobals mg → GOk P w K mg base k fa fd [x] sp)
    (hbind : ∀ (s : Shared) (u : Value), BindsTo s fd ⟨[u], []⟩ [(x, u)])
    (hsp : ∀ H : Hp, SqL K H a (ns.map V.int) → sp [.ref a] H (fun v _ => v = .bl true) fun _ _ _ => False) :
    codeAny (model P w) callerA (.call (.ref fa) ⟨[.ref a], []⟩) (LawEnd s) s := by
  have rv := vals_ints hi
  have lenV := hi.length
  cases hk : K.lookup a with
  | some o =>
    have e := KX a o hk
    rw [ha] at e
    cases e
    refine lawFrom (H := fun _ => none) KX hns hb hbb hlim hg hr F hbind (hsp _ (.inr ⟨_, vs.toArray, _, hk, rfl, rfl, rfl, ?_, ?_⟩)) (fun b u z => nomatch z) (fun b u z => nomatch z)
    · rw [List.size_toArray, lenV]
      exact hl
    · simpa using rv
  | none =>
    have at1 : ∀ {b : Addr} {u : HO}, (if b = a then some (HO.frz { cls := .type "list", data := .seq vs.toArray } (.lst (ns.map V.int))) else none) = some u →
        b = a ∧ u = .frz { cls := .type "list", data := .seq vs.toArray } (.lst (ns.map V.int)) := fun {b u} z => by
      by_cases h : b = a
      · rw [if_pos h] at z
        exact ⟨h, (Option.some.inj z).symm⟩
      · rw [if_neg h] at z
        cases z
    refine lawFrom (H := fun b => if b = a then some (.frz { cls := .type "list", data := .seq vs.toArray } (.lst (ns.map V.int))) else none) KX hns hb hbb hlim hg hr F hbind
      (hsp _ (.inl (.inr ⟨_, if_pos rfl⟩))) (fun b u z => ?_) (fun b u z => ?_)
    · obtain ⟨rfl, rfl⟩ := at1 z
      exact ⟨ha, by rw [List.length_map]; exact hl, vs, _, rv, ha⟩
    · obtain ⟨rfl, rfl⟩ := at1 z
      refine ⟨⟨_, _, rfl⟩, hk, fun o es ep e d => ?_⟩
      rw [ha] at e
      cases e
      have d' : Data.seq vs.toArray _ = Data.dict es ep := d
      cases d'
end

/-- what the head leaves, from the law's promise -/
theorem walkG {l : PySem.W.OpenLaw} {n k : Nat} {q : Program} {loose : List Str} {XP : (Str → Option Value) → Heap → Prop} {YP : World → Heap → Prop} {d : DefRec} {K : Params → PySem.W.Frag} {sp : World → Sp} {x : Str}
    (hn : l.most = some n) (hn2 : n ≤ sizeLine) (hdf : d.params.defaults = []) (hr : Room k callerA) (hY : ∀ (w : World) (h : Heap), YP w h → (K w.params).In h)
    (F : ∀ (w : World) (mg : Str → Option Value) (fa : Addr) (h : Heap), (K w.params).In h → h.Ns mainGlobals mg → mg d.name = some (.ref fa) →
      ∃ fd : FuncData, (∀ (s : Shared) (u : Value), BindsTo s fd ⟨[u], []⟩ [(x, u)]) ∧
        ∀ base : Heap, (K w.params).In base → base.Ns mainGlobals mg → GOk l.prog w (K w.params) mg base k fa fd [x] (sp w))
    (hsp : ∀ (w : World) (H : Hp) (a : Addr) (ns : List Int), ns.length ≤ n → SqL (K w.params) H a (ns.map V.int) → sp w [.ref a] H (fun v _ => v = .bl true) fun _ _ _ => False) :
    PySem.W.WalkO q loose XP YP l.row.toRowW d [] (fun f vs => PySem.call f vs) := by
  refine Att.attach_call hn hdf fun w s₀ s₁ mg mb fa o pm cd doc a vs ns G Y ho hd hcd hmg hobj hints hlen hg => ?_
  have KX := hY w _ Y
  obtain ⟨fd, hb, hF⟩ := F w mg fa _ KX G.T.g hmg
  exact lawCalled KX G.T.g G.T.b G.T.builtins G.T.nolimit hg hobj hints (Nat.le_trans hlen hn2) hr hF hb fun H hS => hsp w H a ns hlen hS
end FNX

set_option Elab.async false
set_option linter.all false
set_option maxRecDepth 100000
set_option maxHeartbeats 4000000
/-! ## List comprehensions of one name whose elements change nothing that is tracked -/
namespace FNX
open PySem PySem.Spec PyProof.Rows L2
theorem range_more {α : Type} (n : Nat) (f : Nat → α) : (List.range (n + 1)).map f = (List.range n).map f ++ [f n] := by
  rw [List.range_succ, List.map_append]
  rfl
theorem same_upd {H : Hp} {p : Addr} {o : HO} (h : H p = none) : Same H (upd H p o) := fun b u e => by
  rw [upd_ne (ne_of_none e h)]
  exact e
/-- a turn's end: the element y, the heap behind it -/
def LcT (B : Hp) (D : Addr) (f : Nat → V) (i : Nat) (y : V) (H : Hp) : Prop := ∃ acc, H D = some (.lst acc) ∧ acc.length < sizeLine ∧
  (Same B (upd H D (.lst (acc ++ [y]))) ∧ upd H D (.lst (acc ++ [y])) D = some (.lst ((List.range (i + 1)).map f)))
theorem lcT {B H H' : Hp} {D : Addr} {f : Nat → V} {i : Nat} {y : V} (hD : B D = none) (hi : i < 1000000) (sB : Same B H) (hd : H D = some (.lst ((List.range i).map f)))
    (s : Same H H') (e : y = f i) : LcT B D f i y H' := by
  refine ⟨_, s _ _ hd, ?_, fun b o z => ?_, ?_⟩
  · rw [List.length_map, List.length_range]
    exact Nat.lt_trans hi (by rw [sizeLine_eq]; decide)
  · rw [upd_ne (ne_of_none z hD)]
    exact s _ _ (sB _ _ z)
  · rw [upd_same, range_more, e]
section
variable {K : PySem.W.Frag} {te : TE} {vs : List Nat} {σ : L2.St} {B : Hp} {D : Addr} {Qd : Hp → Prop}
theorem lc_map {a : Addr} {xs : List V} {j : Nat} (f : Nat → V) (hD : B D = none) (hl : SqL K B a xs)
    (hw : ∀ x, wipe ((wipe σ vs).set j (some x)) vs = wipe σ vs)
    (hs : ∀ i x H, xs[i]? = some x → Same B H → H D = some (.lst ((List.range i).map f)) → te ((wipe σ vs).set j (some x)) H (LcT B D f i))
    (hd : ∀ H, Same B H → H D = some (.lst ((List.range xs.length).map f)) → Qd H) :
    ∃ W : Nat → Nat → Hp → Prop, (∃ m, W 0 m (upd B D (.lst []))) ∧ ∀ i m H, W i m H →
      ((Itl K a).stop i H ∧ Qd H) ∨ ((Itl K a).go i H ∧ ∃ Nx : Hp → Prop, (∀ H', Nx H' → ∃ m', m' < m ∧ W (i + 1) m' H') ∧
        ∀ x H', (Itl K a).yld i H x H' → gName j x (wipe σ vs) H' fun σ2 H2 => wipe σ2 vs = wipe σ vs ∧ tYes σ2 H2 fun b H3 =>
          if b = true then te σ2 H3 fun y H4 => ∃ acc, H4 D = some (.lst acc) ∧ acc.length < sizeLine ∧ Nx (upd H4 D (.lst (acc ++ [y]))) else Nx H3) :=
  lc_list (K := K) (a := a) (xs := xs) (fun i H => Same B H ∧ H D = some (.lst ((List.range i).map f))) ⟨same_upd hD, upd_same⟩
    (fun i H _ h => h.1.seq hl) (fun i x H hx h => ⟨hw x, hs i x H hx h.1 h.2⟩) fun H h => hd H h.1 h.2
theorem lc_mapR {lo : Int} {n j : Nat} (f : Nat → V) (hD : B D = none)
    (hw : ∀ x, wipe ((wipe σ vs).set j (some x)) vs = wipe σ vs)
    (hs : ∀ i H, i < n → Same B H → H D = some (.lst ((List.range i).map f)) → te ((wipe σ vs).set j (some (.int (lo + i)))) H (LcT B D f i))
    (hd : ∀ H, Same B H → H D = some (.lst ((List.range n).map f)) → Qd H) :
    ∃ W : Nat → Nat → Hp → Prop, (∃ m, W 0 m (upd B D (.lst []))) ∧ ∀ i m H, W i m H →
      ((Itr lo n).stop i H ∧ Qd H) ∨ ((Itr lo n).go i H ∧ ∃ Nx : Hp → Prop, (∀ H', Nx H' → ∃ m', m' < m ∧ W (i + 1) m' H') ∧
        ∀ x H', (Itr lo n).yld i H x H' → gName j x (wipe σ vs) H' fun σ2 H2 => wipe σ2 vs = wipe σ vs ∧ tYes σ2 H2 fun b H3 =>
          if b = true then te σ2 H3 fun y H4 => ∃ acc, H4 D = some (.lst acc) ∧ acc.length < sizeLine ∧ Nx (upd H4 D (.lst (acc ++ [y]))) else Nx H3) :=
  lc_range (lo := lo) (n := n) (fun i H => Same B H ∧ H D = some (.lst ((List.range i).map f))) ⟨same_upd hD, upd_same⟩
    (fun i H hi h => ⟨hw _, hs i H hi h.1 h.2⟩) fun H h => hd H h.1 h.2
end
end FNX

set_option Elab.async false
set_option linter.all false
set_option maxRecDepth 100000
set_option maxHeartbeats 4000000
/-! ## raise C(e), and e.value in an except suite -/
namespace FNX
open PySem PySem.Spec PyProof.Rows L2
section
variable {X : Cx} {x : Str} {C : Addr} {e : Expr} {ta : TA} {p pos : Pos}
/-- C(e), to be raised: its own dict d is new and holds the value -/
def tMkX (C : Addr) (ta : TA) : L2.St → Hp → XK → Prop := fun σ H Q => ta σ H fun vs H1 => ∃ v, vs = [v] ∧
  ∀ d H', H1 d = none → Same H1 H' → H' d = some (.xd [(("value" : Str), v)]) → Q (.ref C) (some d) H'
theorem pmk_x (T : Ex X.prog X.w X.K X.mg X.base x C) (tyC : PySem.W.typeIn X.K (.ref C) = some (.type "type")) (hr : Room 2 X.A) (hg : Gl X x) (ha : PA X (e :: []) ta)
    (hdb : (x == ("__debug__" : Str)) = false := by decide) (he : starEach (e :: []) X.env = (false, eval e X.env) :: starEach [] X.env := by rfl)
    (hpl : (backTo pos (starEach [] X.env)).any (·.1) = false := by rfl) : PMk X (.Call (.Name x p) [e] [] pos) (tMkX C ta) := by
  intro pins s σ H Q I h
  refine wpAny_Call_Name_kw (ld_glob I hg T.mgC ?_ hdb)
  refine PySem.W.callWith_K (h₀ := X.base) I.ok.mod.kin T.xc.kC (thn (ha.run pos pins s σ H _ I h) fun us s1 hu => ?_) he hpl
  obtain ⟨vs, H1, I1, r1, v, rfl, q⟩ := hu
  refine ⟨I1.kIn, ?_⟩
  obtain ⟨fI, fd, iC, tI, F1, hb, hk⟩ := T.mkd
  obtain ⟨nm, qn, N, bs, bm, sn, sub, ab, col, dd, k0, k1, k2, k3, k5, B, newId, initId, bmB, hC, F, L⟩ := T.xc.cls
  cases r1 with
  | cons rv rn =>
    cases rn
    rename_i u
    show wpAny _ _ (call (.ref C) [u]) _ _ _
    obtain ⟨hp, g, dr, tk, os⟩ := s1
    have sz : hp.objs.size ≤ hp.objs.size + 1 := Nat.le_succ _
    have hn : H1 (hp.objs.size + 1) = none := I1.hok.fresh sz
    have old : ∀ b o, hp.get? b = some o → ((hp.push (PySem.W.kdv_tup [u])).push (PySem.HandSPX.excO C hp.objs.size)).get? b = some o :=
      fun b o z => Heap.get?_push_of_some _ (Heap.get?_push_of_some _ z)
    have at1 : ((hp.push (PySem.W.kdv_tup [u])).push (PySem.HandSPX.excO C hp.objs.size)).get? (hp.objs.size + 1) =
        some (PySem.HandSPX.excO C hp.objs.size) := by heap_get
    have I2 : Inv X pins σ (upd H1 (hp.objs.size + 1) (exo (hp.objs.size + 1) C none))
        ⟨(hp.push (PySem.W.kdv_tup [u])).push (PySem.HandSPX.excO C hp.objs.size), g, dr, tk, os⟩ :=
      I1.laid (t' := tk) (o := exo (hp.objs.size + 1) C none) old sz (exo_ok at1)
    have r2 : Vals [V.ref (hp.objs.size + 1), v] [Value.ref (hp.objs.size + 1), u] := .cons rfl (.cons rv .nil)
    have hsp : spX C [V.ref (hp.objs.size + 1), v] (upd H1 (hp.objs.size + 1) (exo (hp.objs.size + 1) C none))
        (fun z H2 => z = .non ∧ ∃ d : Addr, H2 (hp.objs.size + 1) = some (exo (hp.objs.size + 1) C (some d)) ∧ H2 d = some (exd d [("value", v)]) ∧ H1 d = none ∧
          Q (.ref C) (some d) (upd (del H2 (hp.objs.size + 1)) d (.xd [("value", v)]))) (fun _ _ _ => False) := by
      refine ⟨_, _, rfl, upd_same, fun dx n ne => ⟨rfl, dx, upd_same, by rw [upd_ne ne, upd_same], ?_, ?_⟩⟩
      · rw [upd_ne ne] at n
        exact n
      rw [upd_ne ne] at n
      refine q dx _ n (fun b o z => ?_) upd_same
      have h1 : b ≠ dx := ne_of_none z n
      have h2 : b ≠ hp.objs.size + 1 := ne_of_none z hn
      rw [upd_ne h1, del_ne h2, upd_ne h2, upd_ne h1, upd_ne h2]
      exact z
    refine wpAny_call (called F L (I1.kIn _ _ hC) (by rw [sizeLine_eq]; exact (by decide : 1 ≤ 16777216)) (PySem.W.looks_findIn I1.kIn iC) (fun self => PySem.W.bind_fn I1.kIn self tI)
      (codeAny_mono (F1.run _ X.stack _ _ ⟨[Value.ref (hp.objs.size + 1), u], []⟩ [Value.ref (hp.objs.size + 1), u] _ _ (fun _ _ _ => False) (hr.make C [u] [])
        (I2.env0.make C [u] []) (hb _ [Value.ref (hp.objs.size + 1), u] I2.kIn rfl) r2 hsp) fun r s' hq' => ?_))
    cases r with
    | error er => exact False.elim hq'
    | ok fl =>
      cases fl with
      | ret u' =>
        obtain ⟨z, H2, os2, bare2, un2, hok2, rz, ez, d, ea, ed, hd1, q2⟩ := hq'
        subst ez
        obtain ⟨h2, g2, d2, t2, os'⟩ := s'
        exact ⟨rz, mk_end (raises_own T.xc.exC tyC) I1 sz old un2 hok2 os2 bare2 ea ed hd1 q2⟩
      | next => exact False.elim hq'
      | brk => exact False.elim hq'
      | cont => exact False.elim hq'
/-- raise C(e) -/
def tRaiseX (C : Addr) (W : WX) (ta : TA) : TS := fun _ σ H => tMkX C ta σ H fun cls d H' => W cls d σ H'
theorem ps_raiseX {W : WX} {pos2 : Pos} (hc : X.calm = true) (T : Ex X.prog X.w X.K X.mg X.base x C) (tyC : PySem.W.typeIn X.K (.ref C) = some (.type "type")) (hr : Room 2 X.A) (tk : Takes X W)
    (hg : Gl X x) (ha : PA X (e :: []) ta) (hdb : (x == ("__debug__" : Str)) = false := by decide)
    (he : starEach (e :: []) X.env = (false, eval e X.env) :: starEach [] X.env := by rfl) (hpl : (backTo pos (starEach [] X.env)).any (·.1) = false := by rfl) :
    PS X (.Raise (some (.Call (.Name x p) [e] [] pos)) none pos2) (tRaiseX C W ta) := ps_raise hc tk (pmk_x T tyC hr hg ha hdb he hpl)
/-- e.value, e the exception that the suite holds at a -/
def tByX (C : Addr) (a : Addr) (cls : Value) (d : Option Addr) (te : TE) : TE := fun σ H Q => te σ H fun y H1 => y = .ref a ∧ cls = .ref C ∧ ∃ (dd : Addr) (v : V), d = some dd ∧
  H1 dd = some (.xd [(("value" : Str), v)]) ∧ Q v H1
theorem pe_byX {a : Addr} {oe : Obj} {cls : Value} {d : Option Addr} {pn : List (Addr × Obj)} {te : TE} (T : XC X.K C) (hz : Zc cls d oe) (hf : ∃ vs, oe.data = .fields vs) (he : PE (X.suite a ((a, oe) :: pn)) e te)
    (hb : attributeBase e "value" X.env (eval e X.env) = eval e X.env := by rfl) : PE (X.suite a ((a, oe) :: pn)) (.Attribute e "value" pos) (tByX C a cls d te) := by
  refine ⟨fun pins s σ H Q I h => ?_⟩
  refine attr_of hb (thn (he.run pins s σ H _ I h) fun u s1 hh => ?_)
  obtain ⟨y, H1, I1, rx, rfl, rfl, dd, v, rfl, ea, q⟩ := hh
  obtain rfl : u = Value.ref a := rx
  obtain ⟨ha, _⟩ := I1.pin (a, oe) (List.mem_append_left _ List.mem_cons_self)
  obtain ⟨vs, hd⟩ := hf
  obtain ⟨mA, hns, hr⟩ := (show ObjOk X.prog X.w H1 s1.heap dd (.xd [(("value" : Str), v)]) from I1.hok dd _ ea)
  obtain ⟨od, ho, hl⟩ := lookIn_ns hns
  have l : List.lookup ("value" : Str) [(("value" : Str), v)] = some v := by simp [List.lookup]
  obtain ⟨u, hu, ru⟩ := RelO.some_of (v := v) (o := mA "value") (by rw [← l]; exact hr "value")
  have J : PySem.W.InstAt s1.heap a oe C (some od) := ⟨ha, hz.1, by unfold PySem.W.notCls; rw [hd] <;> rfl, by rw [hz.2]; exact ho⟩
  exact HandSPX.exc_get I1.kIn J T.ga T.gg T.exC (PySem.W.findObj_own T.hdC T.noV rfl (by rw [hl, hu])) (handed_of ru) ⟨v, H1, I1.tok _, ru, q⟩
end
end FNX

set_option Elab.async false
set_option linter.all false
set_option maxRecDepth 100000
set_option maxHeartbeats 4000000
/-! ## Further rules: xs[i] += e, min and max of a pair, the types of data -/
namespace FNX
open PySem PySem.Spec PyProof.Rows L2
open PySem.W (AlikeAll min_tuple_data max_tuple_data minD maxD minD_ints maxD_ints)
section
variable {X : Cx}
theorem pget_list : PGet X (fun o i H Q => rIxL X.K o i H Q) := by
  intro pins s σ H o i ov iv Q I ro ri h
  obtain ⟨p, xs, k, z, rfl, rfl, hq, he, q⟩ := h
  obtain rfl : ov = Value.ref p := ro
  obtain ⟨t, rfl⟩ := ri
  obtain ⟨its, r, pl, hz⟩ := I.list hq
  obtain ⟨j, h1, h2, h3, h4, h5⟩ := atI_get he
  obtain ⟨w, ew, rw'⟩ := r.get h2
  have hl := r.length
  have hn := line63
  have fin : EP X pins σ Q w s := ⟨z, H, I, rw', q⟩
  by_cases h0 : 0 ≤ k
  · have hj : k.toNat = j := by
      rw [seqIndex_of h0 h5] at h1
      exact Option.some.inj h1
    exact wpAny_getItem_list pl.isList h0 (by omega) (by rw [hj]; simpa using ew) fin
  · have hj : (k + (its.toArray.size : Int)).toNat = j := by
      rw [seqIndex_neg (by omega) h4] at h1
      rw [List.size_toArray, ← hl]
      exact Option.some.inj h1
    exact wpAny_getItem_list_neg pl.isList (by omega) (by rw [List.size_toArray] <;> omega) (by omega) (by rw [hj]; simpa using ew) fin
theorem pairReads {h : Heap} {i j : Int} {us : List Value} (r : Vals [V.int i, V.int j] us) : ReadsAll h us [.int i, .int j] [] := by
  cases r with
  | cons r1 r2 =>
    cases r2 with
    | cons r2 r3 =>
      cases r3
      obtain ⟨t1, rfl⟩ := r1
      obtain ⟨t2, rfl⟩ := r2
      exact ReadsAll.cons (as := []) (.int i t1) (ReadsAll.cons (as := []) (.int j t2) .nil)
theorem pairAlike (i j : Int) : AlikeAll [.int i, .int j] := by
  refine ⟨fun x hx y hy => ?_, fun x hx => ?_⟩
  · simp only [List.mem_cons, List.not_mem_nil, or_false] at hx hy
    rcases hx with rfl | rfl <;> rcases hy with rfl | rfl <;> rfl
  · simp only [List.mem_cons, List.not_mem_nil, or_false] at hx
    rcases hx with rfl | rfl <;> exact PyData.noConfusion
theorem intOfReads {h : Heap} {v : Value} {k : Int} {bs : List Addr} (r : Reads h v (.int k) bs) : RelV (.int k) v := by
  cases r
  exact ⟨_, rfl⟩
/-- min(t), max(t) of a pair of ints -/
def rMinT (f : Int → Int → Int) : List V → Hp → VK → Prop := fun vs H Q => ∃ (a : Addr) (i j : Int), vs = [V.ref a] ∧ H a = some (.tup [.int i, .int j]) ∧ Q (.int (f i j)) H
theorem cr_minT (hc : X.calm = true) (hu : X.A.units + 64 < cLine) : CallR X (.builtin "min") (rMinT min) := by
  intro pins s σ H vs us Q I r h
  obtain ⟨a, i, j, rfl, hs, q⟩ := h
  obtain ⟨its, rv, ht, _⟩ := I.tuple (SqT.of hs)
  rw [Vals.ref1 r]
  obtain ⟨o, h1, h2, n, h3⟩ := ht
  refine min_tuple_data (x := .int i) (xs := [.int j]) (I.ok.hd hc) ⟨o, h1, h2, n, h3⟩ (pairReads rv) (pairAlike i j) (by show X.A.units + 1 + 0 < cLine; omega) (fun k v h' tk bs e r2 kp => ?_)
  have e2 : minD (.int i) [.int j] = .int (min i j) := minD_ints i [j]
  rw [e2] at r2
  exact ⟨.int (min i j), H, I.kept kp, intOfReads r2, q⟩
theorem cr_maxT (hc : X.calm = true) (hu : X.A.units + 64 < cLine) : CallR X (.builtin "max") (rMinT max) := by
  intro pins s σ H vs us Q I r h
  obtain ⟨a, i, j, rfl, hs, q⟩ := h
  obtain ⟨its, rv, ht, _⟩ := I.tuple (SqT.of hs)
  rw [Vals.ref1 r]
  obtain ⟨o, h1, h2, n, h3⟩ := ht
  refine max_tuple_data (x := .int i) (xs := [.int j]) (I.ok.hd hc) ⟨o, h1, h2, n, h3⟩ (pairReads rv) (pairAlike i j) (by show X.A.units + 1 + 0 < cLine; omega) (fun k v h' tk bs e r2 kp => ?_)
  have e2 : maxD (.int i) [.int j] = .int (max i j) := maxD_ints i [j]
  rw [e2] at r2
  exact ⟨.int (max i j), H, I.kept kp, intOfReads r2, q⟩
end
/-! ### what an argument is, as data -/
def tyD : PyData → String
  | .none => "NoneType"
  | .bool _ => "bool"
  | .int _ => "int"
  | .str _ => "str"
  | .list _ => "list"
  | .tuple _ => "tuple"
  | .dict _ => "dict"
theorem rdTy {K : PySem.W.Frag} {H : Hp} {v : V} {d : PyData} (h : Rd K H v d) : TyX K H v (.type (tyD d)) := by
  cases h with
  | dat h =>
    cases h with
    | non => exact .base .non
    | bl b => exact .base (.bl b)
    | int i => exact .base (.int i)
    | str x => exact .base (.str x)
    | lst s _ =>
      rcases s with (s | ⟨o, s⟩) | ⟨o, its, n, e, c, _⟩
      · exact .base (.lst s)
      · exact .base (.frz s)
      · exact .kList e c
    | tup s _ =>
      rcases s with (s | ⟨o, s⟩) | s
      · exact .base (.tup s)
      · exact .fTuple s
      · obtain ⟨o, its, n, e, c, _⟩ := s
        exact .kTuple e c
  | dct kvs h => exact .base (.dK h)
def isI : PyData → Bool
  | .int _ => true
  | _ => false
def isLst : PyData → Bool
  | .list _ => true
  | _ => false
def within (lo hi : Int) : PyData → Bool
  | .int i => decide (lo ≤ i) && decide (i ≤ hi)
  | _ => false
def isB : PyData → Bool
  | .bool _ => true
  | _ => false
def isIB : PyData → Bool
  | .int _ => true
  | .bool _ => true
  | _ => false
theorem kitI (K : PySem.W.Frag) : ∀ d : PyData, PySem.W.kitOne K (.type (tyD d)) (.type "int") = some (isIB d)
  | .none => (kit_ty (by decide +kernel) : PySem.W.kitOne K (.type "NoneType") (.type "int") = some false)
  | .bool _ => (kit_ty (by decide +kernel) : PySem.W.kitOne K (.type "bool") (.type "int") = some true)
  | .int _ => (kit_ty (by decide +kernel) : PySem.W.kitOne K (.type "int") (.type "int") = some true)
  | .str _ => (kit_ty (by decide +kernel) : PySem.W.kitOne K (.type "str") (.type "int") = some false)
  | .list _ => (kit_ty (by decide +kernel) : PySem.W.kitOne K (.type "list") (.type "int") = some false)
  | .tuple _ => (kit_ty (by decide +kernel) : PySem.W.kitOne K (.type "tuple") (.type "int") = some false)
  | .dict _ => (kit_ty (by decide +kernel) : PySem.W.kitOne K (.type "dict") (.type "int") = some false)
theorem kitBo (K : PySem.W.Frag) : ∀ d : PyData, PySem.W.kitOne K (.type (tyD d)) (.type "bool") = some (isB d)
  | .none => (kit_ty (by decide +kernel) : PySem.W.kitOne K (.type "NoneType") (.type "bool") = some false)
  | .bool _ => (kit_ty (by decide +kernel) : PySem.W.kitOne K (.type "bool") (.type "bool") = some true)
  | .int _ => (kit_ty (by decide +kernel) : PySem.W.kitOne K (.type "int") (.type "bool") = some false)
  | .str _ => (kit_ty (by decide +kernel) : PySem.W.kitOne K (.type "str") (.type "bool") = some false)
  | .list _ => (kit_ty (by decide +kernel) : PySem.W.kitOne K (.type "list") (.type "bool") = some false)
  | .tuple _ => (kit_ty (by decide +kernel) : PySem.W.kitOne K (.type "tuple") (.type "bool") = some false)
  | .dict _ => (kit_ty (by decide +kernel) : PySem.W.kitOne K (.type "dict") (.type "bool") = some false)
theorem kitL (K : PySem.W.Frag) : ∀ d : PyData, PySem.W.kitOne K (.type (tyD d)) (.type "list") = some (isLst d)
  | .none => (kit_ty (by decide +kernel) : PySem.W.kitOne K (.type "NoneType") (.type "list") = some false)
  | .bool _ => (kit_ty (by decide +kernel) : PySem.W.kitOne K (.type "bool") (.type "list") = some false)
  | .int _ => (kit_ty (by decide +kernel) : PySem.W.kitOne K (.type "int") (.type "list") = some false)
  | .str _ => (kit_ty (by decide +kernel) : PySem.W.kitOne K (.type "str") (.type "list") = some false)
  | .list _ => (kit_ty (by decide +kernel) : PySem.W.kitOne K (.type "list") (.type "list") = some true)
  | .tuple _ => (kit_ty (by decide +kernel) : PySem.W.kitOne K (.type "tuple") (.type "list") = some false)
  | .dict _ => (kit_ty (by decide +kernel) : PySem.W.kitOne K (.type "dict") (.type "list") = some false)
mutual
theorem dpSame {K : PySem.W.Frag} {H H' : Hp} (s : Same H H') : ∀ (d : PyData) (v : V), Dp K H v d → Dp K H' v d
  | .none, _, h => by cases h; exact .non
  | .bool _, _, h => by cases h; exact .bl _
  | .int _, _, h => by cases h; exact .int _
  | .str _, _, h => by cases h; exact .str _
  | .list ds, _, h => by
    cases h with
    | lst h1 h2 => exact .lst (s.seq h1) (dpSameAll s ds _ h2)
  | .tuple ds, _, h => by
    cases h with
    | tup h1 h2 =>
      refine .tup ?_ (dpSameAll s ds _ h2)
      rcases h1 with (h1 | ⟨o, h1⟩) | h1
      · exact .inl (.inl (s _ _ h1))
      · exact .inl (.inr ⟨o, s _ _ h1⟩)
      · exact .inr h1
  | .dict _, _, h => by cases h
theorem dpSameAll {K : PySem.W.Frag} {H H' : Hp} (s : Same H H') : ∀ (ds : List PyData) (vs : List V), DpAll K H vs ds → DpAll K H' vs ds
  | [], _, h => by cases h; exact .nil
  | d :: ds, _, h => by
    cases h with
    | cons h1 h2 => exact .cons (dpSame s d _ h1) (dpSameAll s ds _ h2)
end
theorem rdSame {K : PySem.W.Frag} {H H' : Hp} (s : Same H H') {v : V} {d : PyData} (h : Rd K H v d) : Rd K H' v d := by
  cases h with
  | dat h => exact .dat (dpSame s d v h)
  | dct kvs h => exact .dct kvs (s _ _ h)
end FNX

set_option Elab.async false
set_option linter.all false
set_option maxRecDepth 100000
set_option maxHeartbeats 4000000
/-! ## Calls of a def that is walked where no repr runs further out -/
namespace FNX
open PySem PySem.Spec PyProof.Rows L2
section
variable {X : Cx} {k : Nat} {f : Addr} {fd : FuncData} {ps : List Str} {sp : Sp} {E : XK} {x : Str} {p pos : Pos} {e : Expr} {es : List Expr} {t : TA}
theorem pe_callG (hgd : X.A.guards = some []) (F : GOk X.prog X.w X.K X.mg X.base k f fd ps sp) (hr : Room k X.A) (hg : Gl X x) (hm : X.mg x = some (.ref f)) (hk : PySem.W.keepIn X.K (.ref f) = true) (hb : L2.Binds X.K fd ps []) (hx : Passes CX0 X E)
    (ha : PA X (e :: es) t) (hdb : (x == ("__debug__" : Str)) = false := by decide) (he : starEach (e :: es) X.env = (false, eval e X.env) :: starEach es X.env := by rfl) (hpl : (backTo pos (starEach es X.env)).any (·.1) = false := by rfl) :
    PE X (.Call (.Name x p) (e :: es) [] pos) (tCall sp [] E t) := by
  refine ⟨fun pins s σ H Q I h => ?_⟩
  refine wpAny_Call_Name_kw (ld_glob I hg hm ?_ hdb)
  refine PySem.W.callWith_K (h₀ := X.base) I.ok.mod.kin hk (thn (ha.run pos pins s σ H _ I h) fun us s1 ⟨vs, H1, I1, r, q⟩ => ⟨I1.kIn, ?_⟩) he hpl
  have r2 : Vals (vs ++ []) (us ++ []) := r.append .nil
  have hl : (us ++ ([] : List Value)).length = ps.length := by rw [← r2.length]; exact F.len _ _ _ _ q
  refine wpAny_call (codeAny_mono (F.run X.A X.stack s1 H1 ⟨us, []⟩ (us ++ []) (vs ++ []) Q E hgd hr I1.env0 (hb s1 us I1.kIn hl) r2 q) fun r s' hq => ?_)
  cases r with
  | error e => exact hx pins σ H1 s1 e s' I1 hq
  | ok fl =>
    cases fl with
    | ret u => exact I1.after hq
    | next => exact False.elim hq
    | brk => exact False.elim hq
    | cont => exact False.elim hq
/-- where a def stands that is walked so -/
def AtG (P : Program) (w : World) (K : PySem.W.Frag) (mg : Str → Option Value) (base : Heap) (k : Nat) (x : Str) (ps : List Str) (sp : Sp) : Prop :=
  ∃ f fd, GOk P w K mg base k f fd ps sp ∧ mg x = some (.ref f) ∧ PySem.W.keepIn K (.ref f) = true ∧ L2.Binds K fd ps []
end
end FNX

set_option Elab.async false
set_option linter.all false
set_option maxRecDepth 100000
set_option maxHeartbeats 4000000
/-! ## repr of a list whose items are data, a dict among them -/
namespace FNX
open PySem PySem.Spec PyProof.Rows L2
inductive RdAll (K : PySem.W.Frag) (H : Hp) : List V → List PyData → Prop
  | nil : RdAll K H [] []
  | cons {v : V} {vs : List V} {d : PyData} {ds : List PyData} (h : Rd K H v d) (hs : RdAll K H vs ds) : RdAll K H (v :: vs) (d :: ds)
/-- repr(xs), a list that is not empty -/
def rReprL (K : PySem.W.Frag) : List V → Hp → VK → Prop := fun xs H Q => ∃ a ys ds, xs = [.ref a] ∧ SqL K H a ys ∧ RdAll K H ys ds ∧ ys ≠ [] ∧ (PyData.list ds).showable = true ∧ (PyData.list ds).depth ≤ 60 ∧
  (PyData.list ds).shown.length ≤ sizeLine ∧ Q (.str (PyData.list ds).shown) H
section
variable {X : Cx} {pins : List (Addr × Obj)} {σ : L2.St} {H : Hp} {s : Shared}
theorem reprItems (I : Inv X pins σ H s) : ∀ {vs : List V} {ds : List PyData} {us : List Value}, RdAll X.K H vs ds → Vals vs us → PyData.showableAll ds = true → (∀ t ∈ PyData.shownAll ds, t.length ≤ sizeLine) →
    ∃ as bs, ReadsAll s.heap us ds as ∧ ReadAtMost s.heap (PyData.depthAll ds) bs ∧ ReprAllK X.prog X.w bs s.heap (PyData.depthAll ds) us (PyData.shownAll ds)
  | _, _, _, .nil, r, _, _ => by
    cases r
    refine ⟨[], [], .nil, (fun _ h => nomatch h), ?_⟩
    simp only [PyData.shownAll]
    exact .nil
  | _, _, _, .cons (d := d) (ds := ds) h hs', r, hs, hz => by
    cases r with
    | cons r1 r2 =>
      have sh : d.showable = true ∧ PyData.showableAll ds = true := by simpa [PyData.showableAll] using hs
      obtain ⟨as1, q1, m1⟩ := rdReads I h r1
      obtain ⟨b1, hb1, k1⟩ := ReprK.of_reads (prog := X.prog) (w := X.w) q1 sh.1 m1 (hz _ (by simp only [PyData.shownAll]; exact List.mem_cons_self ..))
      obtain ⟨as2, b2, q2, hb2, k2⟩ := reprItems I hs' r2 sh.2 (fun t ht => hz t (by simp only [PyData.shownAll]; exact List.mem_cons_of_mem _ ht))
      refine ⟨as1 ++ as2, b1 ++ b2, .cons q1 q2, ?_, ?_⟩
      · intro b hm
        simp only [PyData.depthAll]
        rcases List.mem_append.mp hm with hm | hm
        · obtain ⟨d', as', r', hd'⟩ := hb1 b hm
          exact ⟨d', as', r', Nat.le_trans hd' (Nat.le_max_left _ _)⟩
        · obtain ⟨d', as', r', hd'⟩ := hb2 b hm
          exact ⟨d', as', r', Nat.le_trans hd' (Nat.le_max_right _ _)⟩
      · simp only [PyData.depthAll, PyData.shownAll]
        exact .cons ((k1.more fun b hb => List.mem_append_left _ hb).level_le (Nat.le_max_left _ _)) (k2.more_le (fun b hb => List.mem_append_right _ hb) (Nat.le_max_right _ _))
theorem call_reprL (hg : X.A.guards = some []) (hu : X.A.units + 64 < cLine) : CallR X (.builtin "repr") (rReprL X.K) := by
  intro pins s σ H xs us Q I r h
  obtain ⟨a, ys, ds, rfl, hy, hd, hne, h1, h2, h3, q⟩ := h
  cases r with
  | cons r1 r2 =>
    cases r2
    cases r1
    obtain ⟨its, rv, ⟨o, n, ho, hc, _, hdt⟩, _⟩ := I.list hy
    have sh : PyData.showableAll ds = true := by simpa [PyData.showable] using h1
    have hz' : (listText (PyData.shownAll ds)).length ≤ sizeLine := by simpa only [PyData.shown] using h3
    obtain ⟨as, bs, hr, hb, hk⟩ := reprItems I hd rv sh fun t ht => Nat.le_trans (listText_mem_le ht) hz'
    have hdep : (PyData.list ds).depth = PyData.depthAll ds + 1 := by simp only [PyData.depth]
    have hna : a ∉ bs := not_mem_of_deeper (.list ho hc hdt hr) (by rw [hdep]; omega) hb
    have ek : ∀ b o, s.heap.get? b = some o → s.heap.get? b = some o := fun _ _ e => e
    refine call_repr_slot (T := "list") (idr := "list.__repr__") (by omega) ⟨o, ho, hc⟩ F.slot_list_repr.toG ?_
    cases its with
    | nil =>
      cases rv
      exact absurd rfl hne
    | cons u l =>
      refine call_list_reprK ho hc hdt hna (by simpa using hk.length_eq) (fun i y e => hk.item i y (by simpa using e)) (A := X.A.in1) hg (fun b _ => Clear.nil b) ?_ ek (fun h' u' tk k => ?_) hz'
      · have z : X.A.in1.units = X.A.units + 1 := rfl
        omega
      · refine ⟨_, _, rfl, ?_⟩
        have e : (PyData.list ds).shown = listText (PyData.shownAll ds) := by simp only [PyData.shown]
        rw [← e]
        exact ⟨.str (PyData.list ds).shown, H, I.un (t' := tk) (Un.kept k) (I.hok.kept k), ⟨u', rfl⟩, q⟩
end
end FNX

set_option Elab.async false
set_option linter.all false
set_option maxRecDepth 100000
set_option maxHeartbeats 8000000
/-! ## What a head leaves: classes of exceptions, defs, methods, a method with a default -/
namespace FNX
open PySem PySem.Spec PyProof.Rows L2
/-- the text of an `__init__` that stores its value -/
structure InitTxt (st : Stmt) : Prop where
  sc : FnScope ["self", "value"] ["self", "value"] (defScope st)
  body : ∃ q1 q2 q3 q4, defBody st = [.Assign [.Attribute (.Name "self" q1) "value" q2] (.Name "value" q3) q4]
  bind : ∀ (qual : Str) (kV doc pm : Value) (an : Option Addr) (cdv ct : Value) (us : List Value), us.length = (["self", "value"] : List Str).length →
    bindArgs (PySem.W.fnOf "__init__" qual (defArgs st) (defBody st) (defScope st) .none kV doc pm an cdv ct) ⟨us, []⟩ = pure ((["self", "value"] : List Str).zip us)
  bindK : ∀ (qual : Str) (kV doc pm : Value) (an : Option Addr) (cdv ct : Value) (u v : Value),
    bindArgs (PySem.W.fnOf "__init__" qual (defArgs st) (defBody st) (defScope st) .none kV doc pm an cdv ct) ⟨[u], [(("value" : Str), v)]⟩ = pure ((["self", "value"] : List Str).zip [u, v])
/-- a class of the program, as the top has left it -/
structure Cl (K : PySem.W.Frag) (mg : Str → Option Value) (x : Str) (C : Addr) : Prop where
  xc : XC K C
  mgC : mg x = some (.ref C)
  mkd : ∃ st qual f fd, InitTxt st ∧ PySem.W.findIn K (.ref C) "__init__" = some (some (.ref f)) ∧ PySem.W.typeIn K (.ref f) = some (.type "function") ∧ Fun K "__init__" qual st f fd
theorem Cl.ex {P : Program} {w : World} {K : PySem.W.Frag} {mg : Str → Option Value} {base : Heap} {x : Str} {C : Addr} (c : Cl K mg x C) : Ex P w K mg base x C := by
  obtain ⟨st, qual, f, fd, t, h1, h2, F⟩ := c.mkd
  refine ⟨c.xc, c.mgC, f, fd, h1, h2, xinit_ok F t.sc t.body c.xc, F.binds (t.bind qual), fun s u v => ?_⟩
  obtain ⟨oc, od, kV, doc, pm, an, cdv, ct, osl, rfl, _, _⟩ := F.ex
  exact .of_eq (t.bindK qual kV doc pm an cdv ct u v)
theorem chainVal {g : Addr} : Chain "ValueError" [.ref g, .type "ValueError", .type "Exception", .type "BaseException", .type "object"] := ⟨rfl, rfl, rfl, rfl, rfl, passVal.ref g⟩
theorem chainLook : Chain "LookupError" [.type "LookupError", .type "Exception", .type "BaseException", .type "object"] := ⟨by decide +kernel, by decide +kernel, by decide +kernel, by decide +kernel, rfl, passLook⟩
theorem chainRun : Chain "RuntimeError" [.type "RuntimeError", .type "Exception", .type "BaseException", .type "object"] := ⟨by decide +kernel, by decide +kernel, by decide +kernel, by decide +kernel, rfl, passRun⟩
theorem chainOver : Chain "OverflowError" [.type "OverflowError", .type "ArithmeticError", .type "Exception", .type "BaseException", .type "object"] := ⟨by decide +kernel, by decide +kernel, by decide +kernel, by decide +kernel, rfl, passOver⟩
section
variable {K : PySem.W.Frag} {h : Heap} {mg : Str → Option Value} {x qual : Str} {C f N T e : Addr} {st : Stmt} {B newId initId : String} {bm bmB bs sub : List Value} {nm q : Str} {sn : List Str} {ab : Bool} {col : Option Bool}
  {dd od an odT : Option Addr} {k0 k1 k2 k3 k5 : Option Value} {oc kV doc pm cd ct ocT : Value} {sl slT : Array (Option Value)} {nT : Nat}
theorem mkXC (F : ExcBaseFacts B newId initId bmB) (L : Chain B bm)
    (xC : K.lookup C = some (excClassObj nm q C N bs bm true sn sub ab col dd k0 k1 k2 k3 k5 newId))
    (sa : PySem.W.findIn K (.ref C) "__setattr__" = some (some (.builtin "object.__setattr__")))
    (ga : PySem.W.findIn K (.ref C) "__getattribute__" = some (some (.builtin "BaseException.__getattribute__"))) (gg : PySem.W.findIn K (.ref C) "__getattr__" = some none)
    (nv : PySem.W.findIn K (.ref C) "value" = some none) (eC : PySem.W.subIn K (.ref C) (.type "BaseException") = some true) (kC : PySem.W.keepIn K (.ref C) = true)
    (hd : PySem.W.hasDictIn K C = true) (ic : PySem.W.isClsIn K C = true) (cC : PySem.W.findIn K (.ref C) "__class__" = some (some (.builtin "object.__class__")))
    (mC : PySem.W.mroIn K C (.type "object") = some true) : XC K C :=
  ⟨⟨nm, q, N, bs, bm, sn, sub, ab, col, dd, k0, k1, k2, k3, k5, B, newId, initId, bmB, xC, F, L⟩, sa, ga, gg, nv, eC, kC, hd, ic, cC, mC⟩
theorem mkCl (X : K.In h) (G : h.Ns mainGlobals mg) (aC : PySem.W.nsIn K mainGlobals x = some (some (.ref C))) (xc : XC K C) (t : InitTxt st)
    (a1 : PySem.W.findIn K (.ref C) "__init__" = some (some (.ref f))) (t1 : PySem.W.typeIn K (.ref f) = some (.type "function"))
    (l1 : K.lookup f = some ⟨oc, od, .func (PySem.W.fnOf "__init__" qual (defArgs st) (defBody st) (defScope st) .none kV doc pm an cd ct), sl⟩)
    (c1 : PySem.W.codeIn K cd qual = true) (kf : PySem.W.keepIn K (.ref f) = true) : Cl K mg x C :=
  ⟨xc, PySem.W.mg_of X G aC, st, qual, f, _, t, a1, t1, fun_mk l1 c1 kf⟩
/-- a def -/
def FnF (K : PySem.W.Frag) (mg : Str → Option Value) (x : Str) (st : Stmt) (f : Addr) : Prop := mg x = some (.ref f) ∧ ∃ fd, Fun K x x st f fd
theorem mkF (X : K.In h) (G : h.Ns mainGlobals mg) (a1 : PySem.W.nsIn K mainGlobals x = some (some (.ref f)))
    (l1 : K.lookup f = some ⟨oc, od, .func (PySem.W.fnOf x x (defArgs st) (defBody st) (defScope st) .none kV doc pm an cd ct), sl⟩)
    (c1 : PySem.W.codeIn K cd x = true) (kf : PySem.W.keepIn K (.ref f) = true) : FnF K mg x st f := ⟨PySem.W.mg_of X G a1, _, fun_mk l1 c1 kf⟩
/-- a method of the class at C -/
def MtF (K : PySem.W.Frag) (C : Addr) (x qual : Str) (st : Stmt) (f : Addr) : Prop := Meth K C x f ∧ ∃ fd, Fun K x qual st f fd
theorem mkMt (a1 : PySem.W.findIn K (.ref C) x = some (some (.ref f))) (l1 : K.lookup f = some ⟨oc, od, .func (PySem.W.fnOf x qual (defArgs st) (defBody st) (defScope st) .none kV doc pm an cd ct), sl⟩)
    (c1 : PySem.W.codeIn K cd qual = true) (fn : PySem.W.isFn K (.ref f) = true) (kf : PySem.W.keepIn K (.ref f) = true) : MtF K C x qual st f := ⟨⟨a1, fn, kf⟩, _, fun_mk l1 c1 kf⟩
/-- an `__init__` with one default -/
def InF (K : PySem.W.Frag) (C : Addr) (qual : Str) (st : Stmt) (f e : Addr) : Prop := Mk K C f ∧ ∃ fd, FunD K "__init__" qual (defArgs st) (defBody st) (defScope st) [.ref e] [] f fd
theorem mkIn (mk : PySem.W.makesIn K C = true) (a1 : PySem.W.findIn K (.ref C) "__init__" = some (some (.ref f))) (fn : PySem.W.isFn K (.ref f) = true) (kC : PySem.W.keepIn K (.ref C) = true)
    (l1 : K.lookup f = some ⟨oc, od, .func (PySem.W.fnOf "__init__" qual (defArgs st) (defBody st) (defScope st) (.ref T) kV doc pm an cd ct), sl⟩) (lT : K.lookup T = some ⟨ocT, odT, .seq #[.ref e] nT, slT⟩)
    (c1 : PySem.W.codeIn K cd qual = true) (kf : PySem.W.keepIn K (.ref f) = true) : InF K C qual st f e :=
  ⟨⟨mk, a1, fn, kC⟩, _, ⟨oc, od, .ref T, kV, doc, pm, an, cd, ct, sl, rfl, l1, c1, .inr ⟨by simp, T, _, [.ref e], nT, rfl, lT, rfl, .cons rfl .nil⟩, .inl rfl⟩, kf⟩
end
end FNX

set_option Elab.async false
set_option linter.all false
set_option maxRecDepth 100000
set_option maxHeartbeats 4000000
/-! ## Doors: lambdas handed to a def that catches what they raise -/
namespace FNX
open PySem PySem.Spec PyProof.Rows L2

/-! ### a try with several clauses, each with the exception's name -/
def wMas (K : PySem.W.Frag) (i : Nat) (Wout : WX) (D : Ends) : List (Value × (Addr → Value → Option Addr → TS)) → WX
  | [] => Wout
  | q :: r => wAs K q.1 i q.2 (wMas K i Wout D r) D
abbrev SuiteOk (X : Cx) (l : List Stmt) (ts : Addr → Value → Option Addr → TS) : Prop :=
  ∀ (z : Addr) (oz : Obj) (cls : Value) (d : Option Addr) (pn : List (Addr × Obj)), Zc cls d oz → (∃ us, oz.data = .fields us) → PSs (X.suite z ((z, oz) :: pn)) l (ts z cls d)
inductive Clauses (X : Cx) (n : Str) : List ExceptHandler → List (Value × (Addr → Value → Option Addr → TS)) → Prop
  | nil : Clauses X n [] []
  | cons {x : Str} {c : Value} {ts : Addr → Value → Option Addr → TS} {b : Stmt} {l : List Stmt} {p1 p2 : Pos} {hs : List ExceptHandler} {r : List (Value × (Addr → Value → Option Addr → TS))}
      (hc : Names X x c) (hsu : SuiteOk X (b :: l) ts) (hr : Clauses X n hs r) : Clauses X n (.ExceptHandler (some (.Name x p1)) (some n) (b :: l) p2 :: hs) ((c, ts) :: r)
section
variable {X : Cx} {n : Str} {i : Nat} {body : List Stmt} {h1 : ExceptHandler} {hs : List ExceptHandler} {cl : List (Value × (Addr → Value → Option Addr → TS))} {pos : Pos} {tb : WX → TS} {Wout : WX}
/-- what the clauses are asked, once the exception is caught -/
abbrev caught (X : Cx) (pins : List (Addr × Obj)) (D : Ends) (l : List ExceptHandler) : Value → Shared → Prop := fun e s1 =>
  wpAny (model X.prog X.w) X.A (noteFrame e X.env) (fun _ s2 => wpAny (model X.prog X.w) X.A (setFlight e none)
    (fun _ s3 => wpAny (model X.prog X.w) X.A (handleBy e X.env l) (SP X pins D) X.xe s3) X.xe s2) X.xe s1
theorem ps_try_mas (hst : X.stack = X.env :: X.outer) (hfr : X.env.frame = some X.env.locals) (hN : X.N.Nodup) (hi : X.N[i]? = some n) (hn : X.env.kindOf n = some .local) (tk : Takes X Wout)
    (hb : ∀ (W : WX) (pn : List (Addr × Obj)) (xe : Value → Shared → Prop), Takes (X.tr pn xe) W → PassesOwn (model X.prog X.w) X.A X.env xe → PSs (X.tr pn xe) body (tb W))
    (hc : Clauses X n (h1 :: hs) cl) : PS X (.Try body (h1 :: hs) [] [] pos) (fun D σ H => tb (wMas X.K i Wout D cl) D σ H) := by
  refine ⟨fun pins s σ H D I h => wpAny_Try_except ?_⟩
  have ok := I.ok
  have fs : X.A.frames = some (X.env :: X.outer) := ok.frames.trans (congrArg some hst)
  refine wpAny_mono ((hb (wMas X.K i Wout D cl) (X.pn ++ pins) (caught X pins D (h1 :: hs)) (fun u s' got => ?_) PassesOwn.looking).run [] s σ H D (I.toTry _) h) (fun fl s1 z => ?_) (fun _ _ z => z)
  · obtain ⟨a, B, sI, pins', σ', H', cls, d, rfl, J', nb, up, sky, na, os, ag, wish⟩ := got
    have J : Inv X pins σ' H' sI := J'.ofTry ok
    refine Sky.land Zc.steady fs hfr (show Sky B (X.env :: X.outer) a (Zc cls d) X.env.locals s'.heap from hst ▸ sky) fun hp fly upp => ?_
    have up1 := up.trans upp
    obtain ⟨oz, fz, az, zz, dz⟩ := fly.there
    have off : a ∉ frs (X.env :: X.outer) := fun hm => by
      obtain ⟨_, o2, e2, no2⟩ := fly.2.2.1.mem hm
      obtain rfl : oz = o2 := Option.some.inj (az.symm.trans e2)
      exact no2 fz dz
    have offL : a ≠ X.env.locals := fun e => off (List.mem_filterMap.mpr ⟨X.env, List.mem_cons_self, by rw [hfr, e]⟩)
    have offF : a ∉ X.fs := fun hm => by
      obtain ⟨v, hv, q⟩ := List.mem_filterMap.mp hm
      exact off (List.mem_filterMap.mpr ⟨v, List.mem_cons_of_mem _ hv, q⟩)
    have J1 : Inv X pins σ' H' { s' with heap := hp } := J.landed nb fly.1 up1 os ag
    have walk : ∀ {l : List ExceptHandler} {r : List (Value × (Addr → Value → Option Addr → TS))}, Clauses X n l r → wMas X.K i Wout D r cls d σ' H' →
        wpAny (model X.prog X.w) X.A (handleBy (.ref a) X.env l) (SP X pins D) X.xe { s' with heap := hp } := by
      intro l r hl
      induction hl with
      | nil =>
        intro want
        refine wpAny_handleBy_nil ?_
        have leave : wpAny (model X.prog X.w) X.A (setFlight (.ref a) X.env.frame) (fun _ s4 => wpAny (model X.prog X.w) X.A (throw (.ref a) : Sem Flow) (SP X pins D) X.xe s4) X.xe { s' with heap := hp } := by
          rw [hfr]
          exact HandSPX.setFlight_upZ fly fun h4 held up4 => wpAny_throw (tk _ _ ⟨a, B, sI, pins, σ', H', cls, d, rfl, J, nb, up1.trans up4, .inr (.inr (by rw [hst]; exact held)), na, os, ag, want⟩)
        obtain ⟨_, _, _, ob, vb, T, _, _, hob, _, hdb, hTb, _⟩ := id fly
        unfold PySem.passOn
        refine wpAny_bind (wpAny_field hob hdb hTb ?_)
        have nz : ¬ ((Value.ref T == Value.none) = true) := by simp
        rw [if_neg nz]
        first
          | exact wpAny_bind leave
          | exact wpAny_bind (wpAny_pure (wpAny_bind leave))
      | @cons x c ts b l2 p1 p2 hs2 r2 hnm hsu _ ih =>
        intro want
        obtain ⟨bl, hbl, yes, no⟩ := want
        have S1 := J1.suite az dz na offL offF
        have named : ∀ {Q1 : Value → Shared → Prop} {E1 : Value → Shared → Prop}, Q1 c { s' with heap := hp } →
            wpAny (model X.prog X.w) (X.A.mark (some (.ref a))) (eval (.Name x p1) X.env) Q1 E1 { s' with heap := hp } := fun q1 => by
          obtain ⟨g1, g2, g3⟩ := hnm
          rcases g3 with g3 | ⟨g3, g4, g5⟩
          · exact ld_glob (X := X.suite a ((a, oz) :: (X.pn ++ pins))) S1 g1 g3 q1 g2
          · exact ld_blt (X := X.suite a ((a, oz) :: (X.pn ++ pins))) S1 g1 g3 g4 q1 g5 g2
        have itsType : PySem.W.Looks (model X.prog X.w) hp (typeOf (.ref a)) cls := fun A1 Q1 E1 s1 k1 q1 => wpAny_typeOf_ref (k1 _ _ az) (zz.1.symm ▸ q1)
        have match_ := PySem.W.exm_one (M := model X.prog X.w) J1.kIn itsType hbl
        refine wpAny_handleBy_cons (codeAny_handlers_test (named (match_.here ?_))) (by intro e; cases e)
        cases bl with
        | false =>
          have go := ih (no rfl)
          exact go
        | true =>
          refine codeAny_handlers_suite_as (HandSPX.lands_againZ fly fun h4 fly4 up4 => ?_)
          obtain ⟨o4, f4, a4, z4, d4⟩ := fly4.there
          have J4 : Inv X pins σ' H' { s' with heap := h4 } := J.landed nb fly4.1 (up1.trans up4) os ag
          refine store_ok (X := X.suite a ((a, o4) :: (X.pn ++ pins))) (v := .ref a) (J4.suite a4 d4 na offL offF) hN hi (.inl hn) rfl (fun s5 S5 => ?_) (.inr hn)
          refine wpAny_mono ((hsu a o4 cls d (X.pn ++ pins) z4 ⟨f4, d4⟩).run [] s5 _ H' _ S5 (yes rfl a na)) (fun fl s6 z => ?_) (fun _ _ z => z.elim)
          have done : ∀ {σ6 : L2.St} {H6 : Hp} {Q6 : Shared → Prop}, Inv (X.suite a ((a, o4) :: (X.pn ++ pins))) [] σ6 H6 s6 → (∀ s7, Inv X pins (σ6.set i none) H6 s7 → Q6 s7) →
              wpAny (model X.prog X.w) X.A (do bindName X.env n .none; unbindBehindTheSuite X.env n p2) (fun _ s7 => Q6 s7) X.xe s6 := fun S6 q6 => gone_ok (S6.unsuite ok) hN hi hn q6
          cases fl with
          | ret u =>
            obtain ⟨v6, σ6, H6, S6, r6, q6⟩ := z
            exact done S6 fun s7 J7 => ⟨v6, _, _, J7, r6, q6⟩
          | next =>
            obtain ⟨σ6, H6, S6, q6⟩ := z
            exact done S6 fun s7 J7 => ⟨_, H6, J7, q6⟩
          | brk =>
            obtain ⟨σ6, H6, S6, q6⟩ := z
            exact done S6 fun s7 J7 => ⟨_, H6, J7, q6⟩
          | cont =>
            obtain ⟨σ6, H6, S6, q6⟩ := z
            exact done S6 fun s7 J7 => ⟨_, H6, J7, q6⟩
    exact walk hc wish
  · cases fl with
    | ret u =>
      obtain ⟨v, σ1, H1, J1, rv, q⟩ := z
      exact ⟨v, σ1, H1, J1.ofTry ok, rv, q⟩
    | next =>
      obtain ⟨σ1, H1, J1, q⟩ := z
      exact wpAny_execs_nil ⟨σ1, H1, J1.ofTry ok, q⟩
    | brk =>
      obtain ⟨σ1, H1, J1, q⟩ := z
      exact ⟨σ1, H1, J1.ofTry ok, q⟩
    | cont =>
      obtain ⟨σ1, H1, J1, q⟩ := z
      exact ⟨σ1, H1, J1.ofTry ok, q⟩
end

/-! ### a def whose code object is known -/
structure FunC (K : PySem.W.Frag) (x qual : Str) (st : Stmt) (f : Addr) (fd : FuncData) (c : Addr) : Prop where
  ex : ∃ (oc : Value) (od : Option Addr) (kV doc pm : Value) (an : Option Addr) (ct : Value) (osl : Array (Option Value)),
    fd = PySem.W.fnOf x qual (defArgs st) (defBody st) (defScope st) .none kV doc pm an (.ref c) ct ∧ K.lookup f = some ⟨oc, od, .func fd, osl⟩ ∧ PySem.W.codeIn K (.ref c) qual = true
  kp : PySem.W.keepIn K (.ref f) = true
section
variable {P : Program} {w : World} {K : PySem.W.Frag} {mg : Str → Option Value} {base : Heap}
theorem okGC {x qual : Str} {st : Stmt} {f c : Addr} {fd : FuncData} {N ps : List Str} {k : Nat} {sp : Sp} (F : FunC K x qual st f fd c) (S : FnScope N ps (defScope st))
    (len : ∀ vs H Q E, sp vs H Q E → vs.length = ps.length)
    (hbody : ∀ (A : Around) (outer : List Env) (s : Shared) (H : Hp) (vs : List V) (Q : VK) (E : XK), A.guards = some [] →
      Room k (A.deeper (envOfC qual (defScope st) s.heap.objs.size f (.ref c))) → sp vs H Q E →
      ∃ t, PSs (cxOf CX0 P w K mg base N qual (defScope st) f (.ref c) A outer s H E).nox (defBody st) t ∧ t { nx := fun _ H' => Q .non H', rt := Q } (start N vs) H) :
    GOk P w K mg base (k + 1) f fd ps sp := by
  refine ⟨len, fun A outer s H args us vs Q E hg hr e0 hb r hs => ?_⟩
  obtain ⟨oc, od, kV, doc, pm, an, ct, osl, rfl, lk, hcd⟩ := F.ex
  refine LamX.run_ofS (CX := CX0) lk hcd S hr e0 hb r (len _ _ _ _ hs) fun hr' => ?_
  obtain ⟨t, ht, q⟩ := hbody A outer s H vs Q E hg hr' hs
  exact ⟨t, ht.nox, q⟩
end

/-! ### what a def makes of a door -/
def wErr (K : PySem.W.Frag) (mk : Str → Str → Hp → (V → Hp → Prop) → Prop) (Q : VK) : List (Addr × Str) → XK
  | [] => fun _ _ _ => False
  | q :: r => fun cls d H => ∃ b, PySem.W.exmOne K cls (.ref q.1) = some b ∧
      (b = true → cls = .ref q.1 ∧ ∃ (dd : Addr) (v : V) (dt : PyData), d = some dd ∧ H dd = some (.xd [(("value" : Str), v)]) ∧ Rd K H v dt ∧ dt.showable = true ∧ dt.depth ≤ 60 ∧ dt.shown.length ≤ sizeLine ∧ mk q.2 dt.shown H Q) ∧
      (b = false → wErr K mk Q r cls d H)
/-- [word, repr(e.value)] -/
def mkPair : Str → Str → Hp → (V → Hp → Prop) → Prop := fun word text H Q => ∀ p, H p = none → Q (.ref p) (upd H p (.lst [.str word, .str text]))
/-- repr(e.value) -/
def mkText : Str → Str → Hp → (V → Hp → Prop) → Prop := fun _ text H Q => Q (.str text) H
def TErr (K : PySem.W.Frag) (mk : Str → Str → Hp → (V → Hp → Prop) → Prop) (cl : List (Addr × Str)) : (XK → Hp → VK → Prop) → Hp → VK → Prop :=
  fun tl H Q => tl (wErr K mk Q cl) H (fun _ H' => Q .non H')

/-! ### the law's own call, where tables of code objects grow -/
section
variable {P : Program} {w : World} {K : PySem.W.Frag} {mg mb : Str → Option Value} {k : Nat} {fa a : Addr} {fd : FuncData} {x : Str} {sp : Sp} {s : Shared} {vs : List Value} {ns : List Int} {cs : List (Addr × Addr)}
/-- the module's own dict of built-ins, as the top has left it -/
abbrev BMain (mg : Str → Option Value) (h : Heap) : Prop :=
  ∃ (bm : Addr) (ob : Obj), mg "__builtins__" = some (.ref bm) ∧ bm ≠ builtinsNs ∧ h.get? bm = some ob ∧ ob.cls = .type "module" ∧ ob.dict = some builtinsNs ∧ ob.data = .plain
theorem lawFromT {H : Hp} (KX : K.In s.heap) (hns : s.heap.Ns mainGlobals mg) (hb : s.heap.Ns builtinsNs mb) (hbb : ∀ x : Str, x ≠ "__name__" → mb x = bootBuiltins x)
    (hlim : s.heap.NoLimit) (hg : s.gens = #[]) (hr : Room k callerA)
    (hT : ∀ q ∈ cs, s.heap.get? q.2 = some (PySem.W.tabObj #[])) (hC : ∀ q ∈ cs, PySem.W.CodeHd s.heap q.1 q.2) (hbm : BMain mg s.heap)
    (F : ∀ base : Heap, K.In base → base.Ns mainGlobals mg → (∀ q ∈ cs, LamX.TabB base mg q.1 q.2) → GOk P w K mg base k fa fd [x] sp) (hbind : ∀ (s : Shared) (u : Value), BindsTo s fd ⟨[u], []⟩ [(x, u)])
    (hsp : sp [.ref a] H (fun v _ => v = .bl true) fun _ _ _ => False) (hok : HOk P w H s.heap) (hH : ∀ q ∈ cs, H q.2 = some (.tbl #[]))
    (hall : ∀ b u, H b = some u → K.lookup b = none ∧ ((∃ q ∈ cs, b = q.2) ∨ ((∃ o xs, u = .frz o (.lst xs)) ∧ ∃ o us m, s.heap.get? b = some o ∧ o.data = .seq us m))) :
    codeAny (model P w) callerA (.call (.ref fa) ⟨[.ref a], []⟩) (LawEnd s) s := by
  have seen : ∀ {b : Addr} {o : Obj}, s.heap.get? b = some o → H b = none → (hidT s.heap H).get? b = some o := fun e n => hidT_get e n
  have away : ∀ {b : Addr} {o : Obj}, s.heap.get? b = some o → (∀ us m, o.data ≠ .seq us m) → o.data ≠ .fields #[] → H b = none := fun {b o} e n1 n2 => by
    cases q : H b with
    | none => rfl
    | some u =>
      rcases (hall b u q).2 with ⟨t, ht, rfl⟩ | ⟨_, o2, us, m, e2, d2⟩
      · obtain rfl := Option.some.inj (e.symm.trans (hT t ht))
        exact absurd rfl n2
      · obtain rfl := Option.some.inj (e.symm.trans e2)
        exact absurd d2 (n1 us m)
  have dicts : ∀ {b : Addr} {o : Obj} {es : Array DictEntry} {ep : Nat}, s.heap.get? b = some o → o.data = .dict es ep → H b = none := fun e d =>
    away e (fun us m z => by rw [d] at z; cases z) (fun z => by rw [d] at z; cases z)
  have keep : ∀ {b : Addr} {m : Str → Option Value}, s.heap.Ns b m → (hidT s.heap H).Ns b m := fun n => by
    obtain ⟨o, es, ep, e, d, r⟩ := n
    exact ⟨o, es, ep, seen e (dicts e d), d, r⟩
  have kin : K.In (hidT s.heap H) := fun b o e => seen (KX b o e) (by
    cases q : H b with
    | none => rfl
    | some u =>
      rw [(hall b u q).1] at e
      cases e)
  have mod : Mod K mg (hidT s.heap H) := ⟨kin, keep hns, ⟨mb, keep hb, hbb⟩, by
    obtain ⟨mc, h1, h2⟩ := hlim
    exact ⟨mc, keep h1, h2⟩⟩
  have tabs : ∀ q ∈ cs, LamX.TabB (hidT s.heap H) mg q.1 q.2 := fun q hq => by
    have tq := hT q hq
    refine ⟨?_, ?_, fun z => ?_⟩
    · obtain ⟨o, us, file, tf, fl, tg, inF, tx, tt, e1, r1, r2, r3, rest⟩ := hC q hq
      refine ⟨o, us, file, tf, fl, tg, inF, tx, tt, seen e1 (away e1 (fun us' m z => ?_) fun z => ?_), r1, r2, r3, rest⟩
      · rw [r2] at z
        cases z
      · rw [r2] at z
        injection z with z
        rw [z] at r3
        simp at r3
    · obtain ⟨bm, ob, m1, m2, m3, m4, m5, m6⟩ := hbm
      refine ⟨bm, ob, m1, m2, fun z => ?_, fun z => ?_, seen m3 (away m3 (fun us' m z => ?_) fun z => ?_), m4, m5, m6⟩
      · obtain ⟨o, es, ep, e, d, _⟩ := hns
        rw [z, e] at m3
        obtain rfl := Option.some.inj m3
        rw [d] at m6
        cases m6
      · rw [z, tq] at m3
        obtain rfl := Option.some.inj m3
        cases m6
      · rw [m6] at z
        cases z
      · rw [m6] at z
        cases z
    · obtain ⟨o, es, ep, e, d, _⟩ := hns
      rw [z, tq] at e
      obtain rfl := Option.some.inj e
      cases d
  have e0 : Env0 P w K mg (hidT s.heap H) callerA [] s H :=
    ⟨rfl, mod, fun b o e => of_hidT e, Nat.le_of_eq (hidT_size _ _), trivial, fun b hb => absurd (show b ∈ ([] : List Addr) from hb) (by simp), hok, .of_eq hg⟩
  refine codeAny_mono ((F _ kin (keep hns) tabs).run callerA [] s H ⟨[.ref a], []⟩ [.ref a] [.ref a] _ _ rfl hr e0 (hbind s (.ref a)) (.cons rfl .nil) hsp) fun r s' z => ?_
  cases r with
  | error e => exact False.elim z
  | ok fl =>
    cases fl with
    | next => exact False.elim z
    | brk => exact False.elim z
    | cont => exact False.elim z
    | ret u =>
      obtain ⟨v, H', os, bare, un, hok', rv', q⟩ := z
      obtain rfl : v = .bl true := q
      obtain rfl : u = Value.bool true := rv'
      have grown : ∀ t ∈ cs, ∃ more : Array Value, s'.heap.get? t.2 = some { cls := .none, data := .fields more } := fun t ht => by
        obtain ⟨more, z⟩ := un.tbls t.2 #[] (hH t ht)
        exact ⟨_, hok' t.2 _ z⟩
      have same : ∀ b o, s.heap.get? b = some o → (∀ t ∈ cs, b ≠ t.2) → s'.heap.get? b = some o := fun b o e nt => by
        cases q : H b with
        | none => exact un.keep b o e q (fun z => absurd (show b ∈ ([] : List Addr) from z) (by simp)) (by simp)
        | some u =>
          rcases (hall b u q).2 with ⟨t, ht, z⟩ | ⟨⟨ob, xs, rfl⟩, _⟩
          · exact absurd z (nt t ht)
          obtain ⟨e1, _⟩ := hok b _ q
          obtain ⟨e2, _⟩ := hok' b _ (un.frzs b ob _ q)
          obtain rfl := Option.some.inj (e.symm.trans e1)
          exact e2
      have way : ∀ b : Addr, (∃ t ∈ cs, b = t.2) ∨ ∀ t ∈ cs, b ≠ t.2 := fun b => by
        by_cases c : ∃ t ∈ cs, b = t.2
        · exact .inl c
        · exact .inr fun t ht z => c ⟨t, ht, z⟩
      refine ⟨rfl, ⟨fun b o e => ?_, fun b o e => ?_⟩, os, bare⟩
      · rcases way b with ⟨t, ht, rfl⟩ | nt
        · obtain ⟨more, hm⟩ := grown t ht
          obtain rfl := Option.some.inj (e.symm.trans (hT t ht))
          exact .inr (.inl ⟨((hC t ht).tab (hT t ht)).isCodeTable, rfl, #[], more, rfl, by rw [Array.empty_append]; exact hm⟩)
        · exact .inl (same b o e nt)
      · rcases way b with ⟨t, ht, rfl⟩ | nt
        · obtain ⟨more, hm⟩ := grown t ht
          exact ⟨_, hm⟩
        · exact ⟨o, same b o e nt⟩
theorem lawCalledT (KX : K.In s.heap) (hns : s.heap.Ns mainGlobals mg) (hb : s.heap.Ns builtinsNs mb) (hbb : ∀ x : Str, x ≠ "__name__" → mb x = bootBuiltins x)
    (hlim : s.heap.NoLimit) (hg : s.gens = #[]) (hT : ∀ q ∈ cs, s.heap.get? q.2 = some (PySem.W.tabObj #[])) (nT : ∀ q ∈ cs, K.lookup q.2 = none) (hC : ∀ q ∈ cs, PySem.W.CodeHd s.heap q.1 q.2) (hbm : BMain mg s.heap)
    (ha : s.heap.get? a = some { cls := .type "list", data := .seq vs.toArray }) (hi : IntsAre vs ns) (hl : ns.length ≤ sizeLine)
    (hr : Room k callerA) (F : ∀ base : Heap, K.In base → base.Ns mainGlobals mg → (∀ q ∈ cs, LamX.TabB base mg q.1 q.2) → GOk P w K mg base k fa fd [x] sp)
    (hbind : ∀ (s : Shared) (u : Value), BindsTo s fd ⟨[u], []⟩ [(x, u)])
    (hsp : ∀ H : Hp, (∀ q ∈ cs, H q.2 = some (.tbl #[])) → SqL K H a (ns.map V.int) → sp [.ref a] H (fun v _ => v = .bl true) fun _ _ _ => False) :
    codeAny (model P w) callerA (.call (.ref fa) ⟨[.ref a], []⟩) (LawEnd s) s := by
  have rv := vals_ints hi
  have lenV := hi.length
  have aT : ∀ q ∈ cs, a ≠ q.2 := fun q hq z => by
    have e := hT q hq
    rw [← z, ha] at e
    have d := congrArg Obj.data (Option.some.inj e)
    cases d
  classical
  -- the script, where it isn't written
  let T : Hp := fun b => if ∃ q ∈ cs, b = q.2 then some (.tbl #[]) else none
  have atT : ∀ q ∈ cs, T q.2 = some (.tbl #[]) := fun q hq => if_pos ⟨q, hq, rfl⟩
  have ofT : ∀ {b u}, T b = some u → (∃ q ∈ cs, b = q.2) ∧ u = .tbl #[] := fun {b u} z => by
    by_cases c : ∃ q ∈ cs, b = q.2
    · exact ⟨c, (Option.some.inj ((if_pos c).symm.trans z)).symm⟩
    · cases (if_neg c).symm.trans z
  have okT : ∀ {b u}, T b = some u → ObjOk P w T s.heap b u ∧ ∀ H, ObjOk P w H s.heap b u := fun {b u} z => by
    obtain ⟨⟨q, hq, rfl⟩, rfl⟩ := ofT z
    exact ⟨hT q hq, fun _ => hT q hq⟩
  cases hk : K.lookup a with
  | some o =>
    have e := KX a o hk
    rw [ha] at e
    cases e
    refine lawFromT (H := T) KX hns hb hbb hlim hg hr hT hC hbm F hbind (hsp _ atT (.inr ⟨_, vs.toArray, _, hk, rfl, rfl, rfl, ?_, ?_⟩)) (fun b u z => (okT z).1) atT (fun b u z => ?_)
    · rw [List.size_toArray, lenV]
      exact hl
    · simpa using rv
    · obtain ⟨⟨q, hq, rfl⟩, _⟩ := ofT z
      exact ⟨nT q hq, .inl ⟨q, hq, rfl⟩⟩
  | none =>
    let U : Hp := fun b => if b = a then some (.frz { cls := .type "list", data := .seq vs.toArray } (.lst (ns.map V.int))) else T b
    have atU : ∀ q ∈ cs, U q.2 = some (.tbl #[]) := fun q hq => (if_neg (Ne.symm (aT q hq))).trans (atT q hq)
    have atA : U a = some (.frz { cls := .type "list", data := .seq vs.toArray } (.lst (ns.map V.int))) := if_pos rfl
    have ofU : ∀ {b u}, U b = some u → (b = a ∧ u = .frz { cls := .type "list", data := .seq vs.toArray } (.lst (ns.map V.int))) ∨ T b = some u := fun {b u} z => by
      by_cases c : b = a
      · exact .inl ⟨c, (Option.some.inj ((if_pos c).symm.trans z)).symm⟩
      · exact .inr ((if_neg c).symm.trans z)
    refine lawFromT (H := U) KX hns hb hbb hlim hg hr hT hC hbm F hbind (hsp _ atU (.inl (.inr ⟨_, atA⟩))) (fun b u z => ?_) atU (fun b u z => ?_)
    · rcases ofU z with ⟨rfl, rfl⟩ | z
      · exact ⟨ha, by rw [List.length_map]; exact hl, vs, _, rv, ha⟩
      · exact (okT z).2 _
    · rcases ofU z with ⟨rfl, rfl⟩ | z
      · exact ⟨hk, .inr ⟨⟨_, _, rfl⟩, _, _, _, ha, rfl⟩⟩
      · obtain ⟨⟨q, hq, rfl⟩, _⟩ := ofT z
        exact ⟨nT q hq, .inl ⟨q, hq, rfl⟩⟩
/-- what the head tells of a def with doors: its code object and the table -/
structure Door (K : PySem.W.Frag) (mg : Str → Option Value) (xs : List Str) (x : Str) (c Pt : Addr) : Prop where
  mem : x ∈ xs
  fn : ∃ f o fd e dd us sl, mg x = some (.ref f) ∧ K.lookup f = some o ∧ o.data = .func fd ∧ fd.code = .ref c ∧ K.lookup c = some ⟨e, dd, .fields us, sl⟩ ∧ us[11]? = some (.ref Pt)
  hd : PySem.W.codeHdIn K c Pt = true
  no : K.lookup Pt = none
/-- what the head leaves, from the law's promise; xs: the defs with doors -/
theorem walkGT {l : PySem.W.OpenLaw} {n k : Nat} {q : Program} {loose : List Str} {XP : (Str → Option Value) → Heap → Prop} {YP : World → Heap → Prop} {d : DefRec} {K : Params → PySem.W.Frag} {sp : World → List (Addr × Addr) → Sp} {x : Str} (xs : List Str)
    (hn : l.most = some n) (hn2 : n ≤ sizeLine) (hdf : d.params.defaults = []) (hr : Room k callerA) (hxs : xs.all (fun y => (recsOf q).any fun e => e.name == y) = true) (hY : ∀ (w : World) (h : Heap), YP w h → (K w.params).In h)
    (F : ∀ (w : World) (mg : Str → Option Value) (fa : Addr) (h : Heap), (K w.params).In h → h.Ns mainGlobals mg → mg d.name = some (.ref fa) →
      ∃ (fd : FuncData) (cs : List (Addr × Addr)), (∀ p ∈ cs, ∃ y, Door (K w.params) mg xs y p.1 p.2) ∧ (∀ (s : Shared) (u : Value), BindsTo s fd ⟨[u], []⟩ [(x, u)]) ∧
        (∀ (H : Hp) (a : Addr) (ns : List Int), ns.length ≤ n → (∀ p ∈ cs, H p.2 = some (.tbl #[])) → SqL (K w.params) H a (ns.map V.int) → sp w cs [.ref a] H (fun v _ => v = .bl true) fun _ _ _ => False) ∧
        ∀ base : Heap, (K w.params).In base → base.Ns mainGlobals mg → (∀ p ∈ cs, LamX.TabB base mg p.1 p.2) → GOk l.prog w (K w.params) mg base k fa fd [x] (sp w cs)) :
    PySem.W.WalkO q loose XP YP l.row.toRowW d [] (fun f vs => PySem.call f vs) := by
  refine Att.attach_call hn hdf fun w s₀ s₁ mg mb fa o pm cd doc a vs ns G Y ho hd hcd hmg hobj hints hlen hg => ?_
  have KX := hY w _ Y
  obtain ⟨fd, cs, hD, hb, hsp, hF⟩ := F w mg fa _ KX G.T.g hmg
  refine lawCalledT KX G.T.g G.T.b G.T.builtins G.T.nolimit hg (fun p hp => ?_) (fun p hp => ?_) (fun p hp => ?_) G.T.bmain hobj hints (Nat.le_trans hlen hn2) hr hF hb fun H hH hS => hsp H a ns hlen hH hS
  · obtain ⟨y, D⟩ := hD p hp
    obtain ⟨r, hr1, hr2⟩ := List.any_eq_true.mp (List.all_eq_true.mp hxs y D.mem)
    obtain rfl : r.name = y := beq_iff_eq.mp hr2
    obtain ⟨f', o', fd', c', P', t1, t2, t3, t4, _, t6⟩ := G.T.tab r hr1
    obtain ⟨f2, o2, fd2, e2, dd2, us2, sl2, d1, d2, d3, d4, d5, d6⟩ := D.fn
    obtain rfl : f2 = f' := by
      rw [d1] at t1
      injection t1 with t1
      injection t1
    obtain rfl : o2 = o' := Option.some.inj ((KX _ _ d2).symm.trans t2)
    rw [d3] at t3
    injection t3 with t3
    rw [← t3, d4] at t4
    injection t4 with t4
    obtain ⟨⟨o3, v3, g1, _, g3, g4⟩, g5⟩ := t6
    rw [← t4, KX _ _ d5] at g1
    obtain rfl := Option.some.inj g1
    injection g3 with g3
    rw [← g3, d6] at g4
    injection g4 with g4
    injection g4 with g4
    rw [g4]
    exact g5
  · obtain ⟨y, D⟩ := hD p hp
    exact D.no
  · obtain ⟨y, D⟩ := hD p hp
    exact PySem.W.codeHd_of_K KX D.hd
end
end FNX

set_option Elab.async false
set_option linter.all false
set_option maxRecDepth 100000
set_option maxHeartbeats 4000000
namespace FNX
open PySem PySem.Spec PyProof.Rows L2
theorem takes_len {X : Cx} {W : WX} (tk : Takes X W) : Takes X (fun cls d σ H => σ.length = X.N.length → W cls d σ H) := fun e s' x => tk e s' (by
  obtain ⟨a, B, sI, pins, σ, H, cls, d, h1, J, h2, h3, h4, h5, h6, h7, w⟩ := x
  exact ⟨a, B, sI, pins, σ, H, cls, d, h1, J, h2, h3, h4, h5, h6, h7, w J.len⟩)
theorem len3 {α : Type} {l : List α} (h : l.length = 3) : ∃ a b c, l = [a, b, c] := by
  match l, h with
  | [a, b, c], _ => exact ⟨a, b, c, rfl⟩
def tDoor (f c' : Addr) (q : Str) (tl : XK → Hp → VK → Prop) : WX → TS := fun W D σ H =>
  ∃ Ech : XK, (∀ cls d H' σ', Ech cls d H' → σ'.length = 3 → W cls d σ' H') ∧ σ[0]? = some (some (.ref f)) ∧ H c' = some (LamX.CodeO c' q) ∧ tl Ech H (fun _ H' => D.nx σ H')
def TErrK (K : PySem.W.Frag) (mk : Str → Str → Hp → (V → Hp → Prop) → Prop) (cl : List (Addr × Str)) : (XK → Hp → VK → Prop) → Hp → VK → Prop :=
  fun tl H Q => tl (wErr K mk Q cl) H (fun _ H' => ∃ v : V, some (some V.non) = some (some v) ∧ Q v H')
section
variable {X : Cx}
theorem pe_door {T : List (Addr × Str)} {TT : (XK → Hp → VK → Prop) → Hp → VK → Prop} {st : Stmt} {g c Pt : Addr} {fd : FuncData} {k : Nat} {params : Arguments} {body : Expr} {scope : Scope} {t : XK → TE} {p lpos pos : Pos}
    (hg : Gl X "_law_error") (hm : X.mg "_law_error" = some (.ref g)) (F : Fun X.K "_law_error" "_law_error" st g fd) (hb : L2.Binds X.K fd ["_law_door"] []) (Sg : FnScope ["_law_door", "_law_kept", "e"] ["_law_door"] (defScope st))
    (hva : Vis (defScope st) "_law_door") (hG : ∀ cdg, LamX.GivesTo X ["_law_door", "_law_kept", "e"] "_law_error" (defScope st) g cdg (defBody st) "_law_door" (X.env.qual ++ "<lambda>") TT)
    (TB : LamX.TabB X.base X.mg c Pt) (hcode : X.env.code = .ref c) (hmT : (Pt, X.env.qual ++ "<lambda>") ∈ T) (hu : ∀ p ∈ T, p.1 = Pt → p.2 = X.env.qual ++ "<lambda>") (hr : Room (k + 2) X.A)
    (L : LamX.LamS X.env.scope scope) (hdef : defaultsOf params X.env = ([], []))
    (hbind : ∀ (q : Str) (cl : List (Str × Addr)) (pm cv ctv : Value), bindArgs (PySem.W.kla_fn "<lambda>" q params body scope cl pm cv ctv) ⟨[], []⟩ = pure [])
    (hbody : ∀ (A : Around) (outer : List Env) (s : Shared) (H : Hp) (E : XK) (f c' : Addr), Room k (A.deeper (LamX.lamEnv X scope s.heap.objs.size f c')) → PE (LamX.lamCx X A outer s H E scope f c') body (t E)) :
    PE X (.Call (.Name "_law_error" p) [.Lambda params body scope lpos] [] pos) (LamX.tLam T TT t) := by
  obtain ⟨oc, od, kV, doc, pm, an, cdv, ct, osl, rfl, lk, hcd⟩ := F.ex
  exact LamX.pe_lamcall hg hm F.kp lk hcd hb Sg rfl hva (hG cdv) TB hcode hmT hu hr L hdef hbind hbody
end
def SameN (p : Addr) (H H' : Hp) : Prop := ∀ b o, b ≠ p → (∀ ps, o ≠ .tbl ps) → H b = some o → H' b = some o
theorem SameN.refl {p : Addr} {H : Hp} : SameN p H H := fun _ _ _ _ e => e
theorem SameN.trans {p : Addr} {H H1 H2 : Hp} (a : SameN p H H1) (b : SameN p H1 H2) : SameN p H H2 := fun c o n m e => b c o n m (a c o n m e)
theorem Same.n {p : Addr} {H H1 : Hp} (a : Same H H1) : SameN p H H1 := fun c o _ _ e => a c o e
theorem ExtN.n {p : Addr} {H H1 : Hp} (a : LamX.ExtN H H1) : SameN p H H1 := fun c o _ m e => a c o e m
theorem notTbl_lst {xs : List V} : ∀ ps, HO.lst xs ≠ .tbl ps := fun ps z => by cases z
theorem notTbl_tup {xs : List V} : ∀ ps, HO.tup xs ≠ .tbl ps := fun ps z => by cases z
theorem notTbl_ins {C dx : Addr} {fs : List (Str × V)} : ∀ ps, HO.ins C dx fs ≠ .tbl ps := fun ps z => by cases z
theorem Same.tabs {T : List (Addr × Str)} {H H' : Hp} (s : Same H H') (t : LamX.Tabs T H) : LamX.Tabs T H' := t.ext s
/-- lists of texts, not equal: told apart -/
def rNeS (K : PySem.W.Frag) : R2 := fun x y H Q => ∃ (a b : Addr) (xs : List Str), x = .ref a ∧ y = .ref b ∧ SqL K H a (xs.map V.str) ∧ SqL K H b (xs.map V.str) ∧ Q (.bl false) H
theorem op_neS {X : Cx} (hu : X.A.units + 64 < cLine) : OpR X (compareOp .NotEq) (rNeS X.K) := by
  intro pins s σ H x y v u Q I rx ry h
  obtain ⟨a, b, xs, rfl, rfl, ha, hb, q⟩ := h
  cases (show v = Value.ref a from rx)
  cases (show u = Value.ref b from ry)
  obtain ⟨us, r1, p1, _⟩ := I.list ha
  obtain ⟨ws, r2, p2, _⟩ := I.list hb
  have hsz : us.toArray.size = ws.toArray.size := by
    rw [List.size_toArray, List.size_toArray, ← r1.length, ← r2.length]
  refine (SeqAt.RcNeAt.lists (e := fun _ => true) p1.isList p2.isList hsz (by omega) (fun j h1 h2 => ?_)) _ _ _ _ ?_
  · have l1 := r1.length
    have h1' : j < us.length := by simpa using h1
    have h2' : j < ws.length := by simpa using h2
    obtain ⟨z, hz⟩ : ∃ z, xs[j]? = some z := ⟨xs[j]'(by rw [List.length_map] at l1; omega), List.getElem?_eq_getElem _⟩
    have hj : (xs.map V.str)[j]? = some (V.str z) := by
      rw [List.getElem?_map, hz]
      rfl
    obtain ⟨u1, e1, q1⟩ := r1.get hj
    obtain ⟨u2, e2, q2⟩ := r2.get hj
    obtain ⟨t1, rfl⟩ := q1
    obtain ⟨t2, rfl⟩ := q2
    have f1 : us.toArray[j] = .str z t1 := by
      rw [List.getElem_toArray]
      exact (List.getElem?_eq_some_iff.mp e1).2
    have f2 : ws.toArray[j] = .str z t2 := by
      rw [List.getElem_toArray]
      exact (List.getElem?_eq_some_iff.mp e2).2
    rw [f1, f2]
    have y := SeqAt.EqAt.str_str (A := X.A.in1) (s := s) z t1 z t2
    rwa [beq_self_eq_true] at y
  · rw [show ((List.range us.toArray.size).all fun _ => true) = true from List.all_eq_true.mpr fun _ _ => rfl]
    exact ⟨.bl false, H, I, rfl, q⟩
end FNX
namespace FNX
open PySem PySem.Spec PyProof.Rows L2
/-- a def with doors, as the top has left it -/
def FnC (K : PySem.W.Frag) (mg : Str → Option Value) (x : Str) (st : Stmt) (f c Pt : Addr) : Prop := mg x = some (.ref f) ∧ (∃ fd, FunC K x x st f fd c) ∧ Door K mg [x] x c Pt
theorem mkFC {K : PySem.W.Frag} {h : Heap} {mg : Str → Option Value} {x : Str} {st : Stmt} {f c Pt : Addr} {oc kV doc pm ct e : Value} {od an dd : Option Addr} {sl slc : Array (Option Value)} {us : Array Value} (X : K.In h) (G : h.Ns mainGlobals mg) (a1 : PySem.W.nsIn K mainGlobals x = some (some (.ref f)))
    (l1 : K.lookup f = some ⟨oc, od, .func (PySem.W.fnOf x x (defArgs st) (defBody st) (defScope st) .none kV doc pm an (.ref c) ct), sl⟩) (lc : K.lookup c = some ⟨e, dd, .fields us, slc⟩)
    (c1 : PySem.W.codeIn K (.ref c) x = true) (kf : PySem.W.keepIn K (.ref f) = true) (u11 : us[11]? = some (.ref Pt)) (hd : PySem.W.codeHdIn K c Pt = true) (no : K.lookup Pt = none) : FnC K mg x st f c Pt :=
  ⟨PySem.W.mg_of X G a1, ⟨_, ⟨oc, od, kV, doc, pm, an, ct, sl, rfl, l1, c1⟩, kf⟩, ⟨List.mem_singleton.mpr rfl, ⟨f, _, _, e, dd, us, slc, PySem.W.mg_of X G a1, l1, rfl, rfl, lc, u11⟩, hd, no⟩⟩
end FNX
namespace FNX
open PySem PySem.Spec PyProof.Rows L2
theorem walkGK {l : PySem.W.OpenLaw} {n k : Nat} {q : Program} {loose : List Str} {XP : (Str → Option Value) → Heap → Prop} {YP : World → Heap → Prop} {d : DefRec} {K : Params → PySem.W.Frag} {x : Str} (sp : PySem.W.Frag → List (Addr × Addr) → Sp) (xs : List Str)
    (hn : l.most = some n) (hn2 : n ≤ sizeLine) (hdf : d.params.defaults = []) (hr : Room k callerA) (hxs : xs.all (fun y => (recsOf q).any fun e => e.name == y) = true) (hY : ∀ (w : World) (h : Heap), YP w h → (K w.params).In h)
    (F : ∀ (w : World) (mg : Str → Option Value) (fa : Addr) (h : Heap), (K w.params).In h → h.Ns mainGlobals mg → mg d.name = some (.ref fa) →
      ∃ (fd : FuncData) (cs : List (Addr × Addr)), (∀ p ∈ cs, ∃ y, Door (K w.params) mg xs y p.1 p.2) ∧ (∀ (s : Shared) (u : Value), BindsTo s fd ⟨[u], []⟩ [(x, u)]) ∧
        (∀ (H : Hp) (a : Addr) (ns : List Int), ns.length ≤ n → (∀ p ∈ cs, H p.2 = some (.tbl #[])) → SqL (K w.params) H a (ns.map V.int) → sp (K w.params) cs [.ref a] H (fun v _ => v = .bl true) fun _ _ _ => False) ∧
        ∀ base : Heap, (K w.params).In base → base.Ns mainGlobals mg → (∀ p ∈ cs, LamX.TabB base mg p.1 p.2) → GOk l.prog w (K w.params) mg base k fa fd [x] (sp (K w.params) cs)) :
    PySem.W.WalkO q loose XP YP l.row.toRowW d [] (fun f vs => PySem.call f vs) := walkGT (sp := fun w cs => sp (K w.params) cs) xs hn hn2 hdf hr hxs hY F
end FNX
namespace FNX
open PySem PySem.Spec PyProof.Rows L2
theorem FunC.fn {K : PySem.W.Frag} {x qual : Str} {st : Stmt} {f c : Addr} {fd : FuncData} (F : FunC K x qual st f fd c) : Fun K x qual st f fd := by
  obtain ⟨oc, od, kV, doc, pm, an, ct, osl, e, lk, hcd⟩ := F.ex
  exact ⟨⟨oc, od, kV, doc, pm, an, .ref c, ct, osl, e, lk, hcd⟩, F.kp⟩
theorem Door.more {K : PySem.W.Frag} {mg : Str → Option Value} {xs ys : List Str} {x : Str} {c Pt : Addr} (D : Door K mg xs x c Pt) (h : x ∈ ys) : Door K mg ys x c Pt := ⟨h, D.fn, D.hd, D.no⟩
end FNX

set_option Elab.async false
set_option linter.all false
set_option maxRecDepth 100000
set_option maxHeartbeats 4000000
/-! ## Doors of any name, whose clauses keep a text or a value, and which keep what they are told -/
namespace FNX
open PySem PySem.Spec PyProof.Rows L2
abbrev MkC := V → PyData → Hp → (V → Hp → Prop) → Prop
/-- [word, repr(e.value)] -/
def mkR (word : Str) : MkC := fun _ d H Q => d.showable = true ∧ d.depth ≤ 60 ∧ d.shown.length ≤ sizeLine ∧ ∀ p, H p = none → Q (.ref p) (upd H p (.lst [.str word, .str d.shown]))
/-- [word, e.value] -/
def mkV (word : Str) : MkC := fun v _ H Q => ∀ p, H p = none → Q (.ref p) (upd H p (.lst [.str word, v]))
def wErrG (K : PySem.W.Frag) (Q : VK) : List (Addr × MkC) → XK
  | [] => fun _ _ _ => False
  | q :: r => fun cls d H => ∃ b, PySem.W.exmOne K cls (.ref q.1) = some b ∧
      (b = true → cls = .ref q.1 ∧ ∃ (dd : Addr) (v : V) (dt : PyData), d = some dd ∧ H dd = some (.xd [(("value" : Str), v)]) ∧ Rd K H v dt ∧ q.2 v dt H Q) ∧
      (b = false → wErrG K Q r cls d H)
/-- nothing is kept of what the door returns -/
def TErrG (K : PySem.W.Frag) (cl : List (Addr × MkC)) : (XK → Hp → VK → Prop) → Hp → VK → Prop :=
  fun tl H Q => tl (wErrG K Q cl) H (fun _ H' => ∃ v : V, some (some V.non) = some (some v) ∧ Q v H')
/-- ['told', what the door returns] -/
def TToldG (K : PySem.W.Frag) (word : Str) (cl : List (Addr × MkC)) : (XK → Hp → VK → Prop) → Hp → VK → Prop :=
  fun tl H Q => tl (wErrG K Q cl) H (fun v H' => 2 ≤ sizeLine ∧ ∀ p, H' p = none → ∃ u : V, some (some (V.ref p)) = some (some u) ∧ Q u (upd H' p (.lst [.str word, v])))
def tDoorV (f c' : Addr) (q : Str) (word : Str) (tl : XK → Hp → VK → Prop) : WX → TS := fun W D σ H =>
  ∃ Ech : XK, (∀ cls d H' σ', Ech cls d H' → σ'.length = 3 → W cls d σ' H') ∧ tAsg (tLst (tCons (tC (.str word)) (tCons (fun σZ HZ Q => σZ[0]? = some (some (.ref f)) ∧ HZ c' = some (LamX.CodeO c' q) ∧ tl Ech HZ Q) tNil))) (gName 1) D σ H
section
variable {X : Cx}
theorem pe_doorN {x : Str} {T : List (Addr × Str)} {TT : (XK → Hp → VK → Prop) → Hp → VK → Prop} {st : Stmt} {g c Pt : Addr} {fd : FuncData} {k : Nat} {params : Arguments} {body : Expr} {scope : Scope} {t : XK → TE} {p lpos pos : Pos}
    (hg : Gl X x) (hm : X.mg x = some (.ref g)) (F : Fun X.K x x st g fd) (hb : L2.Binds X.K fd ["_law_door"] []) (Sg : FnScope ["_law_door", "_law_kept", "e"] ["_law_door"] (defScope st))
    (hva : Vis (defScope st) "_law_door") (hG : ∀ cdg, LamX.GivesTo X ["_law_door", "_law_kept", "e"] x (defScope st) g cdg (defBody st) "_law_door" (X.env.qual ++ "<lambda>") TT)
    (TB : LamX.TabB X.base X.mg c Pt) (hcode : X.env.code = .ref c) (hmT : (Pt, X.env.qual ++ "<lambda>") ∈ T) (hu : ∀ p ∈ T, p.1 = Pt → p.2 = X.env.qual ++ "<lambda>") (hr : Room (k + 2) X.A)
    (L : LamX.LamS X.env.scope scope) (hdef : defaultsOf params X.env = ([], []))
    (hbind : ∀ (q : Str) (cl : List (Str × Addr)) (pm cv ctv : Value), bindArgs (PySem.W.kla_fn "<lambda>" q params body scope cl pm cv ctv) ⟨[], []⟩ = pure [])
    (hbody : ∀ (A : Around) (outer : List Env) (s : Shared) (H : Hp) (E : XK) (f c' : Addr), Room k (A.deeper (LamX.lamEnv X scope s.heap.objs.size f c')) → PE (LamX.lamCx X A outer s H E scope f c') body (t E))
    (hdb : (x == ("__debug__" : Str)) = false := by decide) :
    PE X (.Call (.Name x p) [.Lambda params body scope lpos] [] pos) (LamX.tLam T TT t) := by
  obtain ⟨oc, od, kV, doc, pm, an, cdv, ct, osl, rfl, lk, hcd⟩ := F.ex
  exact LamX.pe_lamcall hg hm F.kp lk hcd hb Sg rfl hva (hG cdv) TB hcode hmT hu hr L hdef hbind hbody hdb
end
end FNX

set_option Elab.async false
set_option linter.all false
set_option maxRecDepth 100000
set_option maxHeartbeats 4000000
/-! ## Further rules: int(a bool), != of two lists of the same items -/
namespace FNX
open PySem PySem.Spec PyProof.Rows L2
section
variable {X : Cx}
def rIntB : List V → Hp → VK → Prop := fun xs H Q => ∃ b : Bool, xs = [.bl b] ∧ Q (.int (if b = true then 1 else 0)) H
theorem call_intB : CallR X (.type "int") rIntB := by
  intro pins s σ H xs us Q I r h
  obtain ⟨b, rfl, q⟩ := h
  cases r with
  | cons r1 r2 =>
    cases r2
    cases r1
    exact PySem.call_int_bool ⟨.int (if b = true then 1 else 0), H, I.tok _, ⟨_, rfl⟩, q⟩
/-- lists of the same items -/
def rNeI (K : PySem.W.Frag) : R2 := fun x y H Q => ∃ (a b : Addr) (xs : List V), x = .ref a ∧ y = .ref b ∧ SqL K H a xs ∧ SqL K H b xs ∧ (∀ v ∈ xs, flatB v = true ∨ ∃ c, v = .ref c) ∧ Q (.bl false) H
theorem op_neI (hu : X.A.units + 64 < cLine) : OpR X (compareOp .NotEq) (rNeI X.K) := by
  intro pins s σ H x y v u Q I rx ry h
  obtain ⟨a, b, xs, rfl, rfl, ha, hb, hf, q⟩ := h
  cases (show v = Value.ref a from rx)
  cases (show u = Value.ref b from ry)
  obtain ⟨us, r1, p1, _⟩ := I.list ha
  obtain ⟨ws, r2, p2, _⟩ := I.list hb
  have hsz : us.toArray.size = ws.toArray.size := by
    rw [List.size_toArray, List.size_toArray, ← r1.length, ← r2.length]
  refine (SeqAt.RcNeAt.lists (e := fun _ => true) p1.isList p2.isList hsz (by omega) (fun j h1 h2 => ?_)) _ _ _ _ ?_
  · have l1 := r1.length
    have h1' : j < us.length := by simpa using h1
    obtain ⟨z, hz⟩ : ∃ z, xs[j]? = some z := ⟨xs[j]'(by omega), List.getElem?_eq_getElem _⟩
    obtain ⟨u1, e1, q1⟩ := r1.get hz
    obtain ⟨u2, e2, q2⟩ := r2.get hz
    have f1 : us.toArray[j] = u1 := by
      rw [List.getElem_toArray]
      exact (List.getElem?_eq_some_iff.mp e1).2
    have f2 : ws.toArray[j] = u2 := by
      rw [List.getElem_toArray]
      exact (List.getElem?_eq_some_iff.mp e2).2
    rw [f1, f2]
    rcases hf z (List.mem_of_getElem? hz) with hf | ⟨c, rfl⟩
    · exact eqAt_same q1 q2 hf
    · cases (show u1 = Value.ref c from q1)
      cases (show u2 = Value.ref c from q2)
      exact SeqAt.EqAt.same _
  · rw [show ((List.range us.toArray.size).all fun _ => true) = true from List.all_eq_true.mpr fun _ _ => rfl]
    exact ⟨.bl false, H, I, rfl, q⟩
end
end FNX

set_option Elab.async false
set_option linter.all false
set_option maxRecDepth 100000
set_option maxHeartbeats 4000000
/-! ## != of instances with an own __eq__, len of instances with an own __len__ -/
namespace FNX
open PySem PySem.Spec PyProof.Rows L2
section
variable {M : Model} {prog : Program} {w : World} {A : Around} {E : Value → Shared → Prop} {s : Shared} {K : PySem.W.Frag} {x C f : Addr} {ox : Obj} {od : Option Obj} {b tb : Value}
theorem ifBound_objNe {args : List Value} {Q : Option Value → Shared → Prop} (X : K.In s.heap) (I : PySem.W.InstAt s.heap x ox C od) (hs : PySem.W.findIn K (.ref C) "__ne__" = some (some (.builtin "object.__ne__")))
    (h : wpAny M A (call (.builtin "object.__ne__") (.ref x :: args)) (fun v => Q (some v)) E s) : wpAny M A (callSpecialIfBound? (.ref x) "__ne__" args) Q E s := by
  simp only [callSpecialIfBound?, bindSpecialIfBound?]
  refine wpAny_holding (wpAny_bind (wpAny_bind (wpAny_bind (I.type.here ((PySem.W.looks_findIn X hs).here ?_)))))
  refine wpAny_bind (wpAny_askSetting (wpAny_ite ?_))
  have fin : wpAny M A (call (.builtin "object.__ne__") ([.ref x] ++ args) >>= fun v => pure (some v)) Q E s := wpAny_bind (wpAny_mono h (fun v s' h' => wpAny_pure h') fun _ _ h' => h')
  split
  · exact wpAny_bind (wpAny_of_eq (F.cmp_object.ne.bind _) (wpAny_pure (by exact fin)))
  · exact wpAny_tryCatch (wpAny_bind (wpAny_of_eq (F.cmp_object.ne.bind _) (wpAny_pure (by exact fin))))
theorem objNe_own {Q : Fin → Shared → Prop} (hu : A.units < cLine) (X : K.In s.heap) (I : PySem.W.InstAt s.heap x ox C od) (hs : PySem.W.findIn K (.ref C) "__eq__" = some (some (.ref f))) (hf : PySem.W.isFn K (.ref f) = true)
    (h : wpAny (model prog w) A (call (.ref f) [.ref x, b]) (fun v s' => ∃ r, v = .bool r ∧ Q (.done (.ret (.bool (!r)))) s') E s) :
    wpAny (model prog w) A (Builtin.«object.__ne__» ⟨[.ref x, b], []⟩) Q E s := by
  unfold Builtin.«object.__ne__»
  repeat (first | with_reducible refine PySem.W.ifBound_K X I hs hf (wpAny_mono h (fun v s' hv => ?_) fun _ _ e => e) | with_reducible refine wpAny_cRoomFor hu ?_ | wp_step)
  obtain ⟨r, rfl, q⟩ := hv
  refine wpAny_bind (wpAny_truthy_bool ?_)
  exact wpAny_pure q
theorem ne_own {Q : Value → Shared → Prop} (hu : A.in1.units < cLine) (X : K.In s.heap) (I : PySem.W.InstAt s.heap x ox C od) (hb : PySem.W.Looks (model prog w) s.heap (typeOf b) tb) (hn : PySem.W.notFirst K C tb = true)
    (hm : PySem.W.mroIn K C (.type "object") = some true) (h1 : PySem.W.findIn K (.ref C) "__ne__" = some (some (.builtin "object.__ne__"))) (hs : PySem.W.findIn K (.ref C) "__eq__" = some (some (.ref f))) (hf : PySem.W.isFn K (.ref f) = true)
    (h : wpAny (model prog w) A.in1 (call (.ref f) [.ref x, b]) (fun v s' => ∃ r, v = .bool r ∧ Q (.bool (!r)) s') E s) : wpAny (model prog w) A (richCompare .NotEq (.ref x) b) Q E s := by
  have one : wpAny (model prog w) A (tryCompare (.ref x) (cmpInfo .NotEq).2.1 b) (fun r s' => ∃ v, r = some v ∧ Q v s') E s := by
    unfold tryCompare
    refine wpAny_bind (ifBound_objNe X I h1 ?_)
    refine wpAny_call (codeAny_call_builtin PySem.F.cmp_object.ne.plain PySem.F.cmpEntry_ne (PySem.W.check_slot PySem.F.cmpKind_ne PySem.F.cmpSplit_ne (I.type.andThen (PySem.W.looks_mroIn X hm)) (PySem.F.cmpArgs_ne _ _)
      (objNe_own hu X I hs hf (wpAny_mono h (fun v s' hv => ?_) fun _ _ e => e))))
    obtain ⟨r, rfl, q⟩ := hv
    refine ⟨r, rfl, ?_⟩
    exact wpAny_pure ⟨_, rfl, q⟩
  have hu0 : A.units < cLine := Nat.lt_of_le_of_lt (Nat.le_succ _) hu
  unfold richCompare
  simp only [oneThing_ref]
  refine wpAny_holding (wpAny_bind (wpAny_cRoomFor hu0 ?_))
  refine wpAny_bind (I.type.here (wpAny_bind (hb.here ?_)))
  split
  · rename_i q
    have e : PySem.W.subIn K tb (.ref C) = some false := by
      rcases Bool.or_eq_true_iff.mp hn with e | e
      · rw [beq_iff_eq.mp e] at q; simp at q
      · exact beq_iff_eq.mp e
    refine wpAny_bind ((PySem.W.looks_subIn X e).here ?_)
    simp only [Bool.false_eq_true, if_false]
    refine wpAny_bind (wpAny_mono one (fun r s' z => ?_) fun _ _ e => e)
    obtain ⟨v, rfl, hq⟩ := z
    exact wpAny_pure hq
  · refine wpAny_bind (wpAny_pure ?_)
    simp only [Bool.false_eq_true, if_false]
    refine wpAny_bind (wpAny_mono one (fun r s' z => ?_) fun _ _ e => e)
    obtain ⟨v, rfl, hq⟩ := z
    exact wpAny_pure hq
end
section
variable {X : Cx} {n : Nat} {D : Eqv}
def RcNG (X : Cx) (n : Nat) (D : Eqv) : Prop :=
  ∀ (A : Around) (pins : List (Addr × Obj)) (s : Shared) (σ : L2.St) (H : Hp) (x y : V) (u v : Value), Sub X n A → Inv X pins σ H s → RelV x u → RelV y v → D x y H →
    wpAny (model X.prog X.w) A (richCompare .NotEq u v) (fun r s' => r = .bool false ∧ ∃ H', Inv X pins σ H' s' ∧ Ext H H') X.xe s
theorem rcNG_ins {CX : CXT} {C f : Addr} {fd : FuncData} {ps : List Str} {R : Addr → Addr → Hp → Prop} {E : XK} (F : FnOk X.prog X.w X.K X.mg X.base CX n f fd ps (spEq R))
    (hs : PySem.W.findIn X.K (.ref C) "__eq__" = some (some (.ref f))) (h1 : PySem.W.findIn X.K (.ref C) "__ne__" = some (some (.builtin "object.__ne__"))) (hm : PySem.W.mroIn X.K C (.type "object") = some true)
    (hf : PySem.W.isFn X.K (.ref f) = true) (hb : L2.Binds X.K fd ps []) (hx : Passes CX X E) : RcNG X (n + 1) (DIns C R) := by
  intro A pins s σ H x y u v sb I rx ry d
  obtain ⟨a, b, dx, dy, fs, gs, rfl, rfl, ha, hb', hr⟩ := d
  cases rx
  cases ry
  obtain ⟨mA, J, _⟩ := ins_get I.hok ha
  obtain ⟨mB, J', _⟩ := ins_get I.hok hb'
  obtain ⟨od, J, _⟩ := J.look
  obtain ⟨od', J', _⟩ := J'.look
  have s1 := sb.in1
  refine ne_own (tb := .ref C) s1.room.units0 I.kIn J J'.type (by simp [PySem.W.notFirst]) hm h1 hs hf ?_
  have hsp : spEq R [.ref a, .ref b] H (fun v H' => v = .bl true ∧ Ext H H') E := ⟨a, b, rfl, hr, fun H' e => ⟨rfl, e⟩⟩
  have e0 : Env0 X.prog X.w X.K X.mg X.base A.in1 X.stack s H := by
    have e := I.env0
    exact ⟨by rw [s1.fr]; exact e.frames, e.mod, e.bs, e.bsz, e.funs, e.frf, e.hok, e.bare⟩
  have hl := F.len _ _ _ _ hsp
  have r2 : Vals [V.ref a, V.ref b] [Value.ref a, Value.ref b] := .cons rfl (.cons rfl .nil)
  refine wpAny_call (codeAny_mono (F.run A.in1 X.stack s H ⟨[.ref a, .ref b], []⟩ [.ref a, .ref b] [.ref a, .ref b] _ E s1.room e0 (by
    have := hb s [.ref a, .ref b] I.kIn (by simpa using hl)
    simpa using this) r2 hsp) fun r s' hq => ?_)
  cases r with
  | error e => exact hx pins σ H s e s' I hq
  | ok fl =>
    cases fl with
    | ret w =>
      obtain ⟨z, H', I', rz, ez, ex⟩ := I.after hq
      subst ez
      cases rz
      exact ⟨true, rfl, rfl, H', I', ex⟩
    | next => exact False.elim hq
    | brk => exact False.elim hq
    | cont => exact False.elim hq
/-- x != y, where == says True -/
def rNeG (D : Eqv) : R2 := fun x y H Q => D x y H ∧ ∀ H', Ext H H' → Q (.bl false) H'
theorem op_neG (h : RcNG X n D) (hr : Room n X.A) : OpR X (compareOp .NotEq) (rNeG D) := by
  intro pins s σ H x y v u Q I rx ry hq
  obtain ⟨d, q⟩ := hq
  show wpAny (model X.prog X.w) X.A (richCompare .NotEq v u) (EP X pins σ Q) X.xe s
  refine wpAny_mono (h X.A pins s σ H x y v u ⟨hr, rfl⟩ I rx ry d) (fun r s' z => ?_) fun _ _ x => x
  obtain ⟨hr', H', I', e⟩ := z
  subst hr'
  exact ⟨.bl false, H', I', rfl, q H' e⟩
/-- len of an instance with an own __len__ -/
def rLenI (C : Addr) (sp : Sp) (E : XK) : List V → Hp → VK → Prop := fun vs H Q => ∃ a dx fs, vs = [.ref a] ∧ H a = some (.ins C dx fs) ∧ sp [.ref a] H (fun v H' => ∃ n : Int, v = .int n ∧ 0 ≤ n ∧ n < 2 ^ 63 ∧ Q (.int n) H') E
theorem call_lenI {CX : CXT} {C f : Addr} {fd : FuncData} {ps : List Str} {sp : Sp} {E : XK} (F : FnOk X.prog X.w X.K X.mg X.base CX n f fd ps sp)
    (hs : PySem.W.findIn X.K (.ref C) "__len__" = some (some (.ref f))) (hf : PySem.W.isFn X.K (.ref f) = true) (hb : L2.Binds X.K fd ps []) (hx : Passes CX X E) (hr : Room (n + 1) X.A) : CallR X (.builtin "len") (rLenI C sp E) := by
  intro pins s σ H xs us Q I r h
  obtain ⟨a, dx, fs, rfl, ha, hsp⟩ := h
  cases r with
  | cons r1 r2 =>
    cases r2
    cases r1
    obtain ⟨mA, J, _⟩ := ins_get I.hok ha
    obtain ⟨od, J, _⟩ := J.look
    obtain ⟨m, hF⟩ := I.fr
    refine PySem.W.len_K hF I.ok.mod.kin J hs hf ?_
    have sb : Sub X n X.A.in1 := Sub.in1 ⟨hr, rfl⟩
    have e0 : Env0 X.prog X.w X.K X.mg X.base X.A.in1 X.stack s H := by
      have e := I.env0
      exact ⟨by rw [sb.fr]; exact e.frames, e.mod, e.bs, e.bsz, e.funs, e.frf, e.hok, e.bare⟩
    have hl := F.len _ _ _ _ hsp
    have r3 : Vals [V.ref a] [Value.ref a] := .cons rfl .nil
    refine wpAny_call (codeAny_mono (F.run X.A.in1 X.stack s H ⟨[.ref a], []⟩ [.ref a] [.ref a] _ E sb.room e0 (by
      have := hb s [.ref a] I.kIn (by simpa using hl)
      simpa using this) r3 hsp) fun r s' hq => ?_)
    cases r with
    | error e => exact hx pins σ H s e s' I hq
    | ok fl =>
      cases fl with
      | ret w =>
        obtain ⟨z, H', I', rz, n', ez, n0, n1, q⟩ := I.after hq
        subst ez
        obtain ⟨tk, rfl⟩ := rz
        refine ⟨⟨n0, n1⟩, .int n', H', I'.un (t' := s'.toks + 1) (Un.kept fun _ _ z => z) (I'.hok.kept fun _ _ z => z), ⟨_, rfl⟩, q⟩
      | next => exact False.elim hq
      | brk => exact False.elim hq
      | cont => exact False.elim hq
end
end FNX

set_option Elab.async false
set_option linter.all false
set_option maxRecDepth 100000
set_option maxHeartbeats 8000000
namespace K77
open PySem PySem.Spec PyProof.Rows L2 FNX
def top (i : Nat) : Stmt := PySem.Challenge.pw_firenegatives_k77_unions_and_numbers.main.body.getD i (.Pass ⟨0, 0, 0, 0⟩)
abbrev s__wall : Stmt := top 0
abbrev s_InvalidSize_init : Stmt := inClass (top 3) 0
abbrev s_InvalidEdge_init : Stmt := inClass (top 4) 0
abbrev s_InvalidNode_init : Stmt := inClass (top 5) 0
abbrev s_InvalidPosition_init : Stmt := inClass (top 6) 0
abbrev s_InvalidOrder_init : Stmt := inClass (top 7) 0
abbrev s_TooMany_init : Stmt := inClass (top 8) 0
abbrev s_is_integer : Stmt := top 10
abbrev s_is_integer_within : Stmt := top 11
abbrev s_is_integer_list : Stmt := top 12
abbrev s_is_node : Stmt := top 13
abbrev s_check_node : Stmt := top 14
abbrev s_check_position : Stmt := top 15
abbrev s_Graph_init : Stmt := inClass (top 19) 0
abbrev s_Graph_size : Stmt := inClass (top 19) 1
abbrev s_Graph_edges : Stmt := inClass (top 19) 2
abbrev s_Graph_neighbours : Stmt := inClass (top 19) 3
abbrev s_Graph_components : Stmt := inClass (top 19) 4
abbrev s_Graph_len : Stmt := inClass (top 19) 5
abbrev s_Graph_eq : Stmt := inClass (top 19) 6
abbrev s_Graph_repr : Stmt := inClass (top 19) 7
abbrev s_is_edge : Stmt := top 20
abbrev s_checked_edges : Stmt := top 21
abbrev s_neighbour_lists : Stmt := top 22
abbrev s_union : Stmt := top 24
abbrev s_renumbered : Stmt := top 25
abbrev s_renumbered_position : Stmt := top 26
abbrev s_check_order : Stmt := top 27
abbrev s__law_pool : Stmt := top 29
abbrev s__law_take : Stmt := top 30
abbrev s__law_joins : Stmt := top 31
abbrev s__law_number : Stmt := top 32
abbrev s__law_numbers : Stmt := top 33
abbrev s__law_error : Stmt := top 34
abbrev s__law_order : Stmt := top 35
abbrev s__law_union_right : Stmt := top 36
abbrev s__law_refused : Stmt := top 37
abbrev s_law : Stmt := top 38
/-! ## The pool of draws -/
def PoolAt (H : Hp) (p : Addr) : Prop := ∃ c s : Int, H p = some (.lst [.int c, .int s]) ∧ 0 ≤ s ∧ s < 2147483648
def spPool (K : PySem.W.Frag) : Sp := fun vs H Q _ => ∃ (a : Addr) (ns : List Int) (k : Int), vs = [.ref a, .int k] ∧ SqL K H a (ns.map V.int) ∧ 0 ≤ k ∧ k < 100 ∧
  ∀ p H', H p = none → Same H H' → PoolAt H' p → Q (.ref p) H'
def spTake : Sp := fun vs H Q _ => ∃ (p : Addr) (n : Int), vs = [.ref p, .int n] ∧ PoolAt H p ∧ 0 < n ∧ n < 10000000000000000000 ∧
  ∀ r H', 0 ≤ r → r < n → PoolAt H' p → (∀ b, b ≠ p → H' b = H b) → Q (.int r) H'
section
variable {P : Program} {w : World} {K : PySem.W.Frag} {mg : Str → Option Value} {base : Heap}
theorem scTake : FnScope ["_law_pool_here", "_law_sides", "_law_found"] ["_law_pool_here", "_law_sides"] (defScope s__law_take) :=
  ⟨rfl, rfl, rfl, by decide +kernel, rfl, by decide +kernel, by decide +kernel⟩
theorem ok_take {f : Addr} {fd : FuncData} (F : Fun K "_law_take" "_law_take" s__law_take f fd) : FnOk P w K mg base CX0 1 f fd ["_law_pool_here", "_law_sides"] spTake := by
  refine F.ok scTake (fun vs H Q E h => ?_) (fun cdv A outer s H vs Q E hr h => ?_)
  · obtain ⟨p, n, rfl, _⟩ := h
    rfl
  · obtain ⟨p, n, rfl, ⟨c, s0, hp, hs1, hs2⟩, hn1, hn2, k⟩ := h
    refine ⟨_, pss_cons (ps_if (pt_cmpR op_gt (pe_ix ix_list (pv 0) pe_int (fun _ _ => rfl)) pe_int (nomark _))
        (pss_cons (ps_set (i := 2) scTake.nd rfl (Or.inl rfl) (pe_op op_mod (pe_ix ix_list (pv 0) pe_int (fun _ _ => rfl)) (pv 1)))
          (pss_cons (ps_asg (pe_op op_fdivW (pe_ix ix_list (pv 0) pe_int (fun _ _ => rfl)) (pv 1)) (pg_sub (pv 0) pe_int set_list))
          (pss_one (ps_ret (pv 2))))) pss_nil)
      (pss_cons (ps_asg (pe_op op_mod (pe_op op_add (pe_op op_mul (pe_ix ix_list (pv 0) pe_int (fun _ _ => rfl)) pe_int) pe_int) pe_int) (pg_sub (pv 0) pe_int set_list))
      (pss_one (ps_ret (pe_op op_mod (pe_op op_fdiv (pe_op op_mod (pe_op op_mul (pe_ix ix_list (pv 0) pe_int (fun _ _ => rfl)) (pe_ix ix_list (pv 0) pe_int (fun _ _ => rfl))) pe_int) pe_int) (pv 1))))), ?_⟩
    refine ⟨_, rfl, p, _, _, _, rfl, rfl, SqL.of hp, atI_nat (j := 0) rfl, _, _, rfl, rfl, _, rfl, ?_⟩
    refine ite2 (fun _ => ?_) (fun _ => ?_)
    · refine ⟨_, rfl, p, _, _, _, rfl, rfl, SqL.of hp, atI_nat (j := 0) rfl, _, rfl, _, _, rfl, rfl, hn1, ?_⟩
      refine ⟨_, rfl, p, _, _, _, rfl, rfl, SqL.of hp, atI_nat (j := 0) rfl, _, rfl, _, _, rfl, rfl, wide_div (b := 64) hn1 (by omega) (by decide) (by decide), _, rfl, p, _, _, 0, rfl, rfl, hp, rfl, _, rfl, ?_⟩
      exact k _ _ (Int.emod_nonneg _ (by omega)) (Int.emod_lt_of_pos _ hn1) ⟨_, _, upd_same, hs1, hs2⟩ fun b hb => upd_ne hb
    · refine ⟨_, rfl, p, _, _, _, rfl, rfl, SqL.of hp, atI_nat (j := 1) rfl, _, _, rfl, rfl, .inr ⟨by decide, by decide⟩, _, _, rfl, rfl, _, _, rfl, rfl, (by show (0 : Int) < 2147483647; decide), _, rfl, p, _, _, 1, rfl, rfl, hp, rfl, ?_⟩
      have e1 : (0 : Int) ≤ (s0 * 48271 + 11) % 2147483647 := Int.emod_nonneg _ (by decide)
      have e2 : (s0 * 48271 + 11) % 2147483647 < 2147483647 := Int.emod_lt_of_pos _ (by decide)
      refine ⟨_, rfl, p, _, _, _, rfl, rfl, SqL.of upd_same, atI_nat (j := 1) rfl, _, rfl, p, _, _, _, rfl, rfl, SqL.of upd_same, atI_nat (j := 1) rfl, _, _, rfl, rfl, .inl ⟨?_, ?_⟩,
        _, _, rfl, rfl, (by show (0 : Int) < 2147483629; decide), _, _, rfl, rfl, ⟨by decide, by decide⟩, _, rfl, _, _, rfl, rfl, hn1, ?_⟩
      · exact Int.lt_of_lt_of_le (by decide) e1
      · exact Int.lt_of_lt_of_le e2 (by decide)
      exact k _ _ (Int.emod_nonneg _ (by omega)) (Int.emod_lt_of_pos _ hn1) ⟨_, _, upd_same, e1, by omega⟩ fun b hb => upd_ne hb

theorem scPool : FnScope ["_law_script", "_law_k", "_law_cell", "_law_seed"] ["_law_script", "_law_k"] (defScope s__law_pool) :=
  ⟨rfl, rfl, rfl, by decide +kernel, rfl, by decide +kernel, by decide +kernel⟩
theorem mod_in (a : Int) {b : Int} (h : 0 < b) : 0 ≤ a % b ∧ a % b < b := ⟨Int.emod_nonneg _ (by omega), Int.emod_lt_of_pos _ h⟩
theorem ok_pool {f : Addr} {fd : FuncData} (F : Fun K "_law_pool" "_law_pool" s__law_pool f fd) (hlen : mg "len" = none) :
    FnOk P w K mg base CX0 1 f fd ["_law_script", "_law_k"] (spPool K) := by
  refine F.ok scPool (fun vs H Q E h => ?_) (fun cdv A outer s H vs Q E hr h => ?_)
  · obtain ⟨a, ns, k, rfl, _⟩ := h
    rfl
  · obtain ⟨a, ns, k, rfl, hS, hk1, hk2, kont⟩ := h
    refine ⟨_, pss_cons (ps_set (i := 2) scPool.nd rfl (Or.inl rfl) pe_int)
      (pss_cons (ps_if (pt_cmpR op_lt (pv 1) (pe_callB call_len_seq (by rfl) hlen PySem.boot_len (pa_cons (pv 0) pa_nil)) (nomark _))
        (pss_one (ps_set (i := 2) scPool.nd rfl (Or.inl rfl) (pe_ix ix_list (pv 0) (pv 1) (fun _ _ => rfl)))) pss_nil)
      (pss_cons (ps_set (i := 3) scPool.nd rfl (Or.inl rfl) (pe_op op_mod (pe_op op_mul (pe_op op_add (pe_op op_add (pe_op op_mod (pv 2) pe_int)
        (pe_op op_mul (pe_op op_mul pe_int (pv 1)) (pv 1))) pe_int) pe_int) pe_int))
      (pss_cons (ps_if (pt_cmpR op_lt (pv 2) (pe_op op_pow pe_int pe_int) (nomark _)) (pss_one (ps_set (i := 2) scPool.nd rfl (Or.inl rfl) pe_int)) pss_nil)
      (pss_one (ps_ret (pe_lst (pa_cons (pv 2) (pa_cons (pe_op op_add (pe_op op_mod (pe_op op_mul (pv 3) (pv 3)) pe_int) pe_int) pa_nil)))))))), ?_⟩
    refine ⟨_, rfl, _, rfl, a, _, rfl, .inl hS, _, _, rfl, rfl, _, rfl, ?_⟩
    -- behind the first if: some cell in slot 2
    have rest : ∀ c : Int, (tSeq (tAsg (tOp (rI (fun _ j => 0 < j) fun i j => .int (i % j)) (tOp (rI CMul fun i j => .int (i * j)) (tOp (rI0 fun i j => .int (i + j))
        (tOp (rI0 fun i j => .int (i + j)) (tOp (rI (fun _ j => 0 < j) fun i j => .int (i % j)) (tVar 2) (tC (.int 2147483629)))
          (tOp (rI CMul fun i j => .int (i * j)) (tOp (rI CMul fun i j => .int (i * j)) (tC (.int 7919)) (tVar 1)) (tVar 1))) (tC (.int 13))) (tC (.int 48271))) (tC (.int 2147483647))) (gName 3)) 
        (tSeq (tIfS (tTest (tOp (rI0 fun i j => .bl (decide (i < j))) (tVar 2) (tOp (rI CPow fun i j => .int (i ^ j.toNat)) (tC (.int 10)) (tC (.int 18))))) (tAsg (tC (.int 0)) (gName 2)) tNext)
          (tRet (tLst (tCons (tVar 2) (tCons (tOp (rI0 fun i j => .int (i + j)) (tOp (rI (fun _ j => 0 < j) fun i j => .int (i % j)) (tOp (rI CMul fun i j => .int (i * j)) (tVar 3) (tVar 3)) (tC (.int 2147483587))) (tC (.int 1))) tNil))))))
        { nx := fun _ H' => Q .non H', rt := Q } [some (.ref a), some (.int k), some (.int c), none] H := fun c => by
      refine ⟨_, rfl, _, _, rfl, rfl, (by show (0 : Int) < 2147483629; decide), _, rfl, _, _, rfl, rfl, .inl ⟨by decide, by decide⟩, _, rfl, _, _, rfl, rfl, .inr ⟨by omega, by omega⟩, _, _, rfl, rfl,
        _, _, rfl, rfl, _, _, rfl, rfl, .inr ⟨by decide, by decide⟩, _, _, rfl, rfl, (by show (0 : Int) < 2147483647; decide), ?_⟩
      have e1 := mod_in ((c % 2147483629 + 7919 * k * k + 13) * 48271) (b := 2147483647) (by decide)
      refine ⟨_, rfl, _, _, rfl, rfl, ⟨by decide, by decide, by decide⟩, _, _, rfl, rfl, _, rfl, ?_⟩
      have fin : ∀ c' : Int, (tRet (tLst (tCons (tVar 2) (tCons (tOp (rI0 fun i j => .int (i + j)) (tOp (rI (fun _ j => 0 < j) fun i j => .int (i % j)) (tOp (rI CMul fun i j => .int (i * j)) (tVar 3) (tVar 3)) (tC (.int 2147483587))) (tC (.int 1))) tNil))))
          { nx := fun _ H' => Q .non H', rt := Q } [some (.ref a), some (.int k), some (.int c'), some (.int ((c % 2147483629 + 7919 * k * k + 13) * 48271 % 2147483647))] H := fun c' => by
        refine ⟨_, rfl, _, rfl, _, rfl, _, _, rfl, rfl, .inl ⟨by omega, by omega⟩, _, _, rfl, rfl, (by show (0 : Int) < 2147483587; decide), _, _, rfl, rfl, (by show 2 ≤ sizeLine; decide), fun p hp => ?_⟩
        have e2 := mod_in ((c % 2147483629 + 7919 * k * k + 13) * 48271 % 2147483647 * ((c % 2147483629 + 7919 * k * k + 13) * 48271 % 2147483647)) (b := 2147483587) (by decide)
        exact kont p _ hp (fun b o e => by rw [upd_ne (ne_of_none e hp)]; exact e) ⟨_, _, upd_same, by omega, by omega⟩
      exact ite2 (fun _ => fin 0) (fun _ => fin c)
    refine ite2 (fun hlt => ?_) (fun _ => rest 0)
    have hkn : k.toNat < (ns.map V.int).length := by
      have hlt := of_decide_eq_true hlt
      rw [List.length_map] at hlt ⊢
      omega
    have hki : (ns.map V.int)[k.toNat]? = some (V.int (ns[k.toNat]'(by rw [List.length_map] at hkn; exact hkn))) := by
      rw [List.getElem?_map, List.getElem?_eq_getElem (by rw [List.length_map] at hkn; exact hkn)]
      rfl
    have hat := atI_nat hki
    rw [show ((k.toNat : Nat) : Int) = k by omega] at hat
    exact ⟨_, rfl, _, rfl, a, _, k, _, rfl, rfl, hS, hat, rest _⟩
end

/-! ## checks.py -/
theorem boot_isi : bootBuiltins "isinstance" = some (.builtin "isinstance") := by decide +kernel
theorem boot_all : bootBuiltins "all" = some (.builtin "all") := by decide +kernel
theorem boot_len1 : bootBuiltins "len" = some (.builtin "len") := by decide +kernel
/-- built-in names that the program leaves as they are -/
structure Nms (mg : Str → Option Value) : Prop where
  isi : mg "isinstance" = none
  int : mg "int" = none
  bool : mg "bool" = none
  list : mg "list" = none
  tuple : mg "tuple" = none
  len : mg "len" = none
  all : mg "all" = none
  range : mg "range" = none
  enumerate : mg "enumerate" = none
  min : mg "min" = none
  max : mg "max" = none
  sorted : mg "sorted" = none
  repr : mg "repr" = none
/-- a def x stands at f and keeps sp -/
def At (P : Program) (w : World) (K : PySem.W.Frag) (mg : Str → Option Value) (base : Heap) (CX : CXT) (k : Nat) (x : Str) (ps : List Str) (sp : Sp) : Prop :=
  ∃ f fd, FnOk P w K mg base CX k f fd ps sp ∧ mg x = some (.ref f) ∧ PySem.W.keepIn K (.ref f) = true ∧ Binds K fd ps []
def spIsInteger (K : PySem.W.Frag) : Sp := fun vs H Q _ => ∃ v d, vs = [v] ∧ Rd K H v d ∧ Q (.bl (isI d)) H
def spWithin (K : PySem.W.Frag) : Sp := fun vs H Q _ => ∃ v d lo hi, vs = [v, .int lo, .int hi] ∧ Rd K H v d ∧ Q (.bl (within lo hi d)) H
def lenD : PyData → Nat
  | .list ds => ds.length
  | _ => 0
def isIL (n : Nat) : PyData → Bool
  | .list ds => decide (ds.length = n) && ds.all isI
  | _ => false
def spIntList (K : PySem.W.Frag) : Sp := fun vs H Q _ => ∃ v d, ∃ n : Nat, vs = [v, .int n] ∧ Rd K H v d ∧ lenD d ≤ 100000 ∧ ∀ H', Same H H' → Q (.bl (isIL n d)) H'
def isNode (n : Nat) (d : PyData) : Bool := within 0 ((n : Int) - 1) d
def spIsNode (K : PySem.W.Frag) : Sp := fun vs H Q _ => ∃ v d, ∃ n : Nat, vs = [.int n, v] ∧ Rd K H v d ∧ Q (.bl (isNode n d)) H
def isNL (n : Nat) : PyData → Bool
  | .list ds => ds.all (isNode n)
  | _ => false
def spNodeList (K : PySem.W.Frag) : Sp := fun vs H Q _ => ∃ v d, ∃ n : Nat, vs = [.int n, v] ∧ Rd K H v d ∧ lenD d ≤ 100000 ∧ ∀ H', Same H H' → Q (.bl (isNL n d)) H'
theorem rdInt {K : PySem.W.Frag} {H : Hp} {v : V} {i : Int} (h : Rd K H v (.int i)) : v = .int i := by
  cases h with
  | dat h => cases h; rfl
theorem rdList {K : PySem.W.Frag} {H : Hp} {v : V} {ds : List PyData} (h : Rd K H v (.list ds)) : ∃ a xs, v = .ref a ∧ SqL K H a xs ∧ DpAll K H xs ds := by
  cases h with
  | dat h =>
    cases h with
    | lst h1 h2 => exact ⟨_, _, rfl, h1, h2⟩
theorem dpAllLen {K : PySem.W.Frag} {H : Hp} : ∀ {xs : List V} {ds : List PyData}, DpAll K H xs ds → xs.length = ds.length
  | [], _, h => by cases h; rfl
  | x :: xs, _, h => by
    cases h with
    | cons h1 h2 => rw [List.length_cons, List.length_cons, dpAllLen h2]
theorem dpAllAt {K : PySem.W.Frag} {H : Hp} : ∀ {xs : List V} {ds : List PyData} {i : Nat} {x : V}, DpAll K H xs ds → xs[i]? = some x → Dp K H x (ds.getD i .none)
  | [], _, _, _, _, e => by simp at e
  | y :: xs, _, 0, x, h, e => by
    cases h with
    | cons h1 h2 =>
      have e' : y = x := Option.some.inj e
      subst e'
      exact h1
  | y :: xs, _, i + 1, x, h, e => by
    cases h with
    | cons h1 h2 => exact dpAllAt (i := i) h2 e
theorem allRange (p : PyData → Bool) : ∀ ds : List PyData, ((List.range ds.length).map fun i => p (ds.getD i .none)).all id = ds.all p := by
  intro ds
  have e : (List.range ds.length).map (fun i => p (ds.getD i .none)) = ds.map p := by
    apply List.ext_getElem
    · simp
    · intro i h1 h2
      simp only [List.length_map, List.length_range] at h1
      rw [List.getElem_map, List.getElem_range, List.getElem_map, List.getD_eq_getElem?_getD, List.getElem?_eq_getElem h1]
      rfl
  rw [e, List.all_map]
  rfl
section
variable {P : Program} {w : World} {K : PySem.W.Frag} {mg : Str → Option Value} {base : Heap} {CXa : CXT}
theorem sc_is_integer : FnScope ["thing"] ["thing"] (defScope s_is_integer) := ⟨rfl, rfl, rfl, by decide +kernel, rfl, by decide +kernel, by decide +kernel⟩
theorem ok_is_integer {f : Addr} {fd : FuncData} (F : Fun K "is_integer" "is_integer" s_is_integer f fd) (M : Nms mg) : FnOk P w K mg base CX0 1 f fd ["thing"] (spIsInteger K) := by
  refine F.ok sc_is_integer (fun vs H Q E h => ?_) (fun cdv A outer s H vs Q E hr h => ?_)
  · obtain ⟨v, d, rfl, _⟩ := h
    rfl
  · obtain ⟨v, d, rfl, hd, k⟩ := h
    refine ⟨_, pss_one (ps_ret (pe_and (pe_callB call_isi (by rfl) M.isi boot_isi (pa_cons (pv 0) (pa_cons (pe_bltn (v := V.ty "int") rfl M.int (by decide +kernel) rfl) pa_nil)))
      (pe_one (pe_not (pe_callB call_isi (by rfl) M.isi boot_isi (pa_cons (pv 0) (pa_cons (pe_bltn (v := V.ty "bool") rfl M.bool (by decide +kernel) rfl) pa_nil))))))), ?_⟩
    refine ⟨_, rfl, v, _, _, _, _, rfl, .ty _, rdTy hd, kitI K d, _, rfl, ?_⟩
    cases d with
    | int i => exact iteT ⟨_, rfl, v, _, _, _, _, rfl, .ty _, rdTy hd, kitBo K _, _, rfl, k⟩
    | bool b => exact iteT ⟨_, rfl, v, _, _, _, _, rfl, .ty _, rdTy hd, kitBo K _, _, rfl, k⟩
    | none => exact iteF k
    | str _ => exact iteF k
    | list _ => exact iteF k
    | tuple _ => exact iteF k
    | dict _ => exact iteF k
theorem sc_within : FnScope ["thing", "low", "high"] ["thing", "low", "high"] (defScope s_is_integer_within) := ⟨rfl, rfl, rfl, by decide +kernel, rfl, by decide +kernel, by decide +kernel⟩
theorem ok_within {f : Addr} {fd : FuncData} (F : Fun K "is_integer_within" "is_integer_within" s_is_integer_within f fd) (G : At P w K mg base CX0 1 "is_integer" ["thing"] (spIsInteger K)) :
    FnOk P w K mg base CX0 2 f fd ["thing", "low", "high"] (spWithin K) := by
  obtain ⟨g, gd, G, mG, kG, bG⟩ := G
  refine F.ok sc_within (fun vs H Q E h => ?_) (fun cdv A outer s H vs Q E hr h => ?_)
  · obtain ⟨v, d, lo, hi, rfl, _⟩ := h
    rfl
  · obtain ⟨v, d, lo, hi, rfl, hd, k⟩ := h
    refine ⟨_, pss_one (ps_ret (pe_and (pe_call G hr (by rfl) mG kG bG .nil pass0 (pa_cons (pv 0) pa_nil)) (pe_one (pe_chain op_le op_le (pv 1) (pv 0) (pv 2))))), ?_⟩
    refine ⟨_, rfl, v, d, rfl, hd, _, rfl, ?_⟩
    cases d with
    | int i =>
      have e := rdInt hd
      subst e
      refine iteT ⟨_, rfl, _, rfl, _, _, rfl, rfl, _, rfl, ?_⟩
      by_cases hl : lo ≤ i
      · rw [decide_eq_true hl]
        have k : Q (.bl (decide (lo ≤ i) && decide (i ≤ hi))) H := k
        rw [decide_eq_true hl, Bool.true_and] at k
        exact iteT ⟨_, rfl, _, _, rfl, rfl, k⟩
      · rw [decide_eq_false hl]
        have k : Q (.bl (decide (lo ≤ i) && decide (i ≤ hi))) H := k
        rw [decide_eq_false hl, Bool.false_and] at k
        exact iteF k
    | bool b => exact iteF k
    | none => exact iteF k
    | str _ => exact iteF k
    | list _ => exact iteF k
    | tuple _ => exact iteF k
    | dict _ => exact iteF k
theorem sc_int_list : FnScope ["thing", "length", "entry"] ["thing", "length"] (defScope s_is_integer_list) := ⟨rfl, rfl, rfl, by decide +kernel, rfl, by decide +kernel, by decide +kernel⟩
theorem decLen (i j : Nat) : decide (V.int (i : Int) = V.int (j : Int)) = decide (i = j) := by
  by_cases h : i = j
  · subst h
    rw [decide_eq_true rfl, decide_eq_true rfl]
  · rw [decide_eq_false h, decide_eq_false (fun z => h (by injection z with z; exact Int.ofNat.inj z))]
theorem ok_int_list {f : Addr} {fd : FuncData} (F : Fun K "is_integer_list" "is_integer_list" s_is_integer_list f fd) (M : Nms mg) (G : At P w K mg base CX0 1 "is_integer" ["thing"] (spIsInteger K)) :
    FnOk P w K mg base CX0 2 f fd ["thing", "length"] (spIntList K) := by
  obtain ⟨g, gd, G, mG, kG, bG⟩ := G
  refine F.ok sc_int_list (fun vs H Q E h => ?_) (fun cdv A outer s H vs Q E hr h => ?_)
  · obtain ⟨v, d, n, rfl, _⟩ := h
    rfl
  · obtain ⟨v, d, n, rfl, hd, hl, k⟩ := h
    refine ⟨_, pss_one (ps_ret (pe_and (pe_callB call_isi (by rfl) M.isi boot_isi (pa_cons (pv 0) (pa_cons (pe_bltn (v := V.ty "list") rfl M.list (by decide +kernel) rfl) pa_nil)))
      (pe_and (pe_cmpR op_eq (pe_callB call_len_seq (by rfl) M.len boot_len1 (pa_cons (pv 0) pa_nil)) (pv 1) (nomark _))
      (pe_one (pe_callB (cr_all rfl) (by rfl) M.all boot_all (pa_cons (pe_lc (own := [("entry", 2)]) (g := gName 2) (tt := tYes) rfl sc_int_list.nd (pi_list (pv 0))
        (blkOk_by (own := [("entry", 2)]) (N := ["thing", "length", "entry"]) (sc := defScope s_is_integer_list) (by decide +kernel))
        (fun _ _ _ _ _ => pg_name (i := 2) sc_int_list.nd rfl (Or.inl rfl)) (fun _ _ _ _ _ => pts_nil)
        (fun _ _ _ _ _ => pe_call G hr (by rfl) mG kG bG .nil pass0 (pa_cons (pv 2) pa_nil))) pa_nil)))))), ?_⟩
    refine ⟨_, rfl, v, _, _, _, _, rfl, .ty _, rdTy hd, kitL K d, _, rfl, ?_⟩
    have no : isLst d = false → Q (.bl false) H := fun z => by
      have e : isIL n d = false := by cases d <;> first | rfl | cases z
      have q := k H (Same.refl H)
      rw [e] at q
      exact q
    cases d with
    | bool b => exact iteF (no rfl)
    | none => exact iteF (no rfl)
    | str _ => exact iteF (no rfl)
    | int _ => exact iteF (no rfl)
    | tuple _ => exact iteF (no rfl)
    | dict _ => exact iteF (no rfl)
    | list ds =>
      obtain ⟨a, xs, rfl, hx, hds⟩ := rdList hd
      have hlen := dpAllLen hds
      refine iteT ⟨_, rfl, a, xs, rfl, .inl hx, _, rfl, rfl, _, rfl, ?_⟩
      rw [decLen, hlen]
      by_cases hn : ds.length = n
      · rw [decide_eq_true hn]
        refine iteT ⟨_, rfl, a, rfl, ⟨_, hx⟩, fun D hD => lc_map (K := K) (a := a) (xs := xs) (fun i => V.bl (isI (ds.getD i .none))) hD hx (fun x => rfl) (fun i x H' hi sm hd' => ?_) (fun H' sm hd' => ?_)⟩
        · have hi' : i < xs.length := (List.getElem?_eq_some_iff.mp hi).1
          have hl' : ds.length ≤ 100000 := hl
          exact ⟨_, rfl, x, _, rfl, .dat (dpSame sm _ _ (dpAllAt hds hi)), lcT hD (by omega) sm hd' (Same.refl _) rfl⟩
        · refine ⟨D, (List.range xs.length).map fun i => isI (ds.getD i .none), rfl, SqL.of (by rw [List.map_map]; exact hd'), ?_⟩
          have q := k H' sm
          have e : isIL n (.list ds) = ds.all isI := by
            show (decide (ds.length = n) && ds.all isI) = _
            rw [decide_eq_true hn, Bool.true_and]
          rw [e] at q
          rw [hlen, allRange]
          exact q
      · rw [decide_eq_false hn]
        have q := k H (Same.refl H)
        have e : isIL n (.list ds) = false := by
          show (decide (ds.length = n) && ds.all isI) = _
          rw [decide_eq_false hn, Bool.false_and]
        rw [e] at q
        exact iteF q
theorem sc_is_node : FnScope ["size", "thing"] ["size", "thing"] (defScope s_is_node) := ⟨rfl, rfl, rfl, by decide +kernel, rfl, by decide +kernel, by decide +kernel⟩
theorem ok_is_node {f : Addr} {fd : FuncData} (F : Fun K "is_node" "is_node" s_is_node f fd) (G : At P w K mg base CX0 2 "is_integer_within" ["thing", "low", "high"] (spWithin K)) :
    FnOk P w K mg base CX0 3 f fd ["size", "thing"] (spIsNode K) := by
  obtain ⟨g, gd, G, mG, kG, bG⟩ := G
  refine F.ok sc_is_node (fun vs H Q E h => ?_) (fun cdv A outer s H vs Q E hr h => ?_)
  · obtain ⟨v, d, n, rfl, _⟩ := h
    rfl
  · obtain ⟨v, d, n, rfl, hd, k⟩ := h
    exact ⟨_, pss_one (ps_ret (pe_call G hr (by rfl) mG kG bG .nil pass0 (pa_cons (pv 1) (pa_cons pe_int (pa_cons (pe_op op_sub (pv 0) pe_int) pa_nil))))),
      _, rfl, _, rfl, _, _, rfl, rfl, v, d, _, _, rfl, hd, k⟩
end

/-! ## Plays over plain lists -/
def flipL (row x : List Int) (v : Nat) : List Int := (row.foldl (fun y o => y.set o.toNat (y.getD o.toNat 0 + x.getD v 0)) x).set v (-(x.getD v 0))
def followL (N : List (List Int)) : List Nat → List Int → List Int → Option (List Int × List Int)
  | [], x, t => some (x, t)
  | v :: vs, x, t => if x.getD v 0 ≥ 0 then none else followL N vs (flipL (N.getD v []) x v) (t.set v (t.getD v 0 - x.getD v 0))
/-- the neighbours' lists name nodes -/
def WF (N : List (List Int)) : Prop := ∀ i, i < N.length → ∀ o ∈ N.getD i [], 0 ≤ o ∧ o < N.length
theorem foldSetLen (c : Int) : ∀ (row : List Int) (x : List Int), (row.foldl (fun y o => y.set o.toNat (y.getD o.toNat 0 + c)) x).length = x.length
  | [], x => rfl
  | o :: row, x => by
    rw [List.foldl_cons, foldSetLen c row, List.length_set]
theorem flipLen (row x : List Int) (v : Nat) : (flipL row x v).length = x.length := by
  unfold flipL
  rw [List.length_set, foldSetLen]
theorem mapSet {x : List Int} {i : Nat} {z : Int} : (x.map V.int).set i (.int z) = (x.set i z).map V.int := by
  rw [List.map_set]
theorem mapAt {x : List Int} {i : Nat} (h : i < x.length) : (x.map V.int)[i]? = some (V.int (x.getD i 0)) := by
  rw [List.getElem?_map, List.getElem?_eq_getElem h, List.getD_eq_getElem?_getD, List.getElem?_eq_getElem h]
  rfl
theorem atInt {x : List Int} {i : Int} (h0 : 0 ≤ i) (h : i < x.length) : atI (x.map V.int) i = some (V.int (x.getD i.toNat 0)) := by
  have z := atI_nat (mapAt (x := x) (i := i.toNat) (by omega))
  rwa [show ((i.toNat : Nat) : Int) = i by omega] at z
theorem ixInt {x : List Int} {i : Int} (h0 : 0 ≤ i) (h : i < x.length) : ixN (x.map V.int).length i = some i.toNat := by
  unfold ixN
  rw [if_pos h0, List.length_map, if_pos h]
/-- lists of ints at addresses -/
def RowsAt (H : Hp) (rows : List Addr) (N : List (List Int)) : Prop := rows.length = N.length ∧ ∀ (k : Nat) (r : Addr), rows[k]? = some r → H r = some (.lst ((N.getD k []).map V.int))
def NAt (H : Hp) (p : Addr) (N : List (List Int)) : Prop := ∃ rows, H p = some (.lst (rows.map V.ref)) ∧ RowsAt H rows N
theorem RowsAt.same {H H' : Hp} {rows : List Addr} {N : List (List Int)} (h : RowsAt H rows N) (s : Same H H') : RowsAt H' rows N := ⟨h.1, fun k r e => s _ _ (h.2 k r e)⟩
theorem NAt.same {H H' : Hp} {p : Addr} {N : List (List Int)} (h : NAt H p N) (s : Same H H') : NAt H' p N := by
  obtain ⟨rows, h1, h2⟩ := h
  exact ⟨rows, s _ _ h1, h2.same s⟩
theorem NAt.row {H : Hp} {p : Addr} {N : List (List Int)} (h : NAt H p N) {i : Int} (h0 : 0 ≤ i) (hi : i < N.length) :
    ∃ xs r, H p = some (.lst xs) ∧ atI xs i = some (.ref r) ∧ H r = some (.lst ((N.getD i.toNat []).map V.int)) := by
  obtain ⟨rows, h1, h2, h3⟩ := h
  have hl : i.toNat < rows.length := by omega
  refine ⟨_, rows[i.toNat], h1, ?_, h3 i.toNat _ (List.getElem?_eq_getElem hl)⟩
  have z : (rows.map V.ref)[i.toNat]? = some (V.ref rows[i.toNat]) := by
    rw [List.getElem?_map, List.getElem?_eq_getElem hl]
    rfl
  have q := atI_nat z
  rwa [show ((i.toNat : Nat) : Int) = i by omega] at q
/-- nodes out of data -/
def nodeOf : PyData → Nat
  | .int i => i.toNat
  | _ => 0
theorem nodesOf {K : PySem.W.Frag} {H : Hp} {n : Nat} : ∀ {xs : List V} {ds : List PyData}, DpAll K H xs ds → ds.all (isNode n) = true → xs = (ds.map nodeOf).map (fun v : Nat => V.int (v : Int)) ∧ ∀ v ∈ ds.map nodeOf, v < n
  | [], _, h, _ => by
    cases h
    exact ⟨rfl, fun v hv => by simp at hv⟩
  | x :: xs, _, h, ha => by
    cases h with
    | cons h1 h2 =>
      rename_i d ds
      rw [List.all_cons, Bool.and_eq_true] at ha
      obtain ⟨e, b⟩ := nodesOf h2 ha.2
      have hd := ha.1
      cases d with
      | int i =>
        cases h1
        have hd : (decide ((0 : Int) ≤ i) && decide (i ≤ (n : Int) - 1)) = true := hd
        rw [Bool.and_eq_true, decide_eq_true_eq, decide_eq_true_eq] at hd
        refine ⟨?_, fun v hv => ?_⟩
        · rw [List.map_cons, List.map_cons, ← e]
          show V.int i :: xs = V.int ((i.toNat : Nat) : Int) :: xs
          rw [show ((i.toNat : Nat) : Int) = i by omega]
        · rcases List.mem_cons.mp (show v ∈ nodeOf (.int i) :: ds.map nodeOf from hv) with rfl | hv
          · show i.toNat < n
            omega
          · exact b v hv
      | none => cases hd
      | bool _ => cases hd
      | str _ => cases hd
      | list _ => cases hd
      | tuple _ => cases hd
      | dict _ => cases hd

end K77

set_option Elab.async false
set_option linter.all false
set_option maxRecDepth 100000
set_option maxHeartbeats 8000000
namespace K77
open PySem PySem.Spec PyProof.Rows L2 FNX
/-! ## Graphs, read; firing -/
def gflds (n : Int) (j nr : Addr) : List (Str × V) := [("node_count", .int n), ("joined", .ref j), ("near", .ref nr)]
theorem gl_n (n : Int) (j nr : Addr) : (gflds n j nr).lookup ("node_count" : Str) = some (.int n) := by
  unfold gflds
  simp [List.lookup]
theorem gl_j (n : Int) (j nr : Addr) : (gflds n j nr).lookup ("joined" : Str) = some (.ref j) := rfl
theorem gl_r (n : Int) (j nr : Addr) : (gflds n j nr).lookup ("near" : Str) = some (.ref nr) := rfl
def GAt (CG : Addr) (H : Hp) (g : Addr) (N : List (List Int)) : Prop := ∃ dx j nr, H g = some (.ins CG dx (gflds (N.length : Int) j nr)) ∧ NAt H nr N
theorem GAt.same {CG : Addr} {H H' : Hp} {g : Addr} {N : List (List Int)} (h : GAt CG H g N) (s : Same H H') : GAt CG H' g N := by
  obtain ⟨dx, j, nr, h1, h2⟩ := h
  exact ⟨dx, j, nr, s _ _ h1, h2.same s⟩
/-- what the walk asks of the class Graph -/
structure GTxt (K : PySem.W.Frag) (mg : Str → Option Value) (CG : Addr) : Prop where
  cl : Cls K CG
  n1 : NoAttr K CG "node_count"
  n2 : NoAttr K CG "joined"
  n3 : NoAttr K CG "near"
  mgC : mg "Graph" = some (.ref CG)
/-- a method x of Graph keeps sp -/
def MAt (P : Program) (w : World) (K : PySem.W.Frag) (mg : Str → Option Value) (base : Heap) (CG : Addr) (CX : CXT) (k : Nat) (x : Str) (ps : List Str) (sp : Sp) : Prop :=
  ∃ f fd, FnOk P w K mg base CX k f fd ps sp ∧ Meth K CG x f ∧ Binds K fd ps []
def spSize (CG : Addr) : Sp := fun vs H Q _ => ∃ g N, vs = [.ref g] ∧ GAt CG H g N ∧ Q (.int (N.length : Int)) H
def spCheckNode : Sp := fun vs H Q _ => ∃ n i : Int, vs = [.int n, .int i] ∧ 0 ≤ i ∧ i < n ∧ Q .non H
def spNeighbours (CG : Addr) : Sp := fun vs H Q _ => ∃ g N, ∃ i : Int, vs = [.ref g, .int i] ∧ GAt CG H g N ∧ 0 ≤ i ∧ i < N.length ∧
  ∀ p, H p = none → Q (.ref p) (upd H p (.lst ((N.getD i.toNat []).map V.int)))
def spAll (CG : Addr) : Sp := fun vs H Q _ => ∃ g N, vs = [.ref g] ∧ GAt CG H g N ∧ N.length ≤ 1000 ∧ ∀ p H', H p = none → Same H H' → NAt H' p N → Q (.ref p) H'
def spFlip : Sp := fun vs H Q _ => ∃ p r, ∃ x row : List Int, ∃ v : Int, vs = [.ref p, .int v, .ref r] ∧ H p = some (.lst (x.map V.int)) ∧ H r = some (.lst (row.map V.int)) ∧ p ≠ r ∧
  0 ≤ v ∧ v < x.length ∧ (∀ o ∈ row, 0 ≤ o ∧ o < x.length) ∧ ∀ H', H' p = some (.lst ((flipL row x v.toNat).map V.int)) → (∀ b, b ≠ p → H' b = H b) → Q .non H'
section
variable {P : Program} {w : World} {K : PySem.W.Frag} {mg : Str → Option Value} {base : Heap} {CG : Addr}
theorem sc_gsize : FnScope ["self"] ["self"] (defScope s_Graph_size) := ⟨rfl, rfl, rfl, by decide +kernel, rfl, by decide +kernel, by decide +kernel⟩
theorem ok_gsize {f : Addr} {fd : FuncData} (F : Fun K "size" "Graph.size" s_Graph_size f fd) (T : GTxt K mg CG) : FnOk P w K mg base CX0 1 f fd ["self"] (spSize CG) := by
  refine F.ok sc_gsize (fun vs H Q E h => ?_) (fun cdv A outer s H vs Q E hr h => ?_)
  · obtain ⟨g, N, rfl, _⟩ := h
    rfl
  · obtain ⟨g, N, rfl, ⟨dx, j, nr, h1, h2⟩, k⟩ := h
    exact ⟨_, pss_one (ps_ret (pe_fld (pv 0) rfl)), _, rfl, g, CG, dx, _, _, rfl, h1, T.cl, T.n1, gl_n _ _ _, k⟩
theorem sc_check_node : FnScope ["size", "node"] ["size", "node"] (defScope s_check_node) := ⟨rfl, rfl, rfl, by decide +kernel, rfl, by decide +kernel, by decide +kernel⟩
theorem ok_check_node {f : Addr} {fd : FuncData} (F : Fun K "check_node" "check_node" s_check_node f fd) (G : At P w K mg base CX0 3 "is_node" ["size", "thing"] (spIsNode K)) :
    FnOk P w K mg base CX0 4 f fd ["size", "node"] spCheckNode := by
  obtain ⟨g, gd, G, mG, kG, bG⟩ := G
  refine F.ok sc_check_node (fun vs H Q E h => ?_) (fun cdv A outer s H vs Q E hr h => ?_)
  · obtain ⟨n, i, rfl, _⟩ := h
    rfl
  · obtain ⟨n, i, rfl, h0, h1, k⟩ := h
    refine ⟨_, pss_one (ps_if (pt_not (pt_val (pe_call G hr (by rfl) mG kG bG .nil pass0 (pa_cons (pv 0) (pa_cons (pv 1) pa_nil))))) (pss_one ps_never) pss_nil), ?_⟩
    obtain ⟨m, rfl⟩ : ∃ m : Nat, n = (m : Int) := ⟨n.toNat, by omega⟩
    refine ⟨_, rfl, _, rfl, .int i, .int i, m, rfl, .dat (.int i), _, rfl, ?_⟩
    have e : isNode m (.int i) = true := by
      show (decide ((0 : Int) ≤ i) && decide (i ≤ (m : Int) - 1)) = true
      rw [decide_eq_true h0, decide_eq_true (by omega)]
      rfl
    rw [e]
    exact iteF k
theorem sc_neighbours : FnScope ["self", "node"] ["self", "node"] (defScope s_Graph_neighbours) := ⟨rfl, rfl, rfl, by decide +kernel, rfl, by decide +kernel, by decide +kernel⟩
theorem ok_neighbours {f : Addr} {fd : FuncData} (F : Fun K "neighbours" "Graph.neighbours" s_Graph_neighbours f fd) (T : GTxt K mg CG) (M : Nms mg) (G : At P w K mg base CX0 4 "check_node" ["size", "node"] spCheckNode) :
    FnOk P w K mg base CX0 5 f fd ["self", "node"] (spNeighbours CG) := by
  obtain ⟨c, cd, G, mG, kG, bG⟩ := G
  refine F.ok sc_neighbours (fun vs H Q E h => ?_) (fun cdv A outer s H vs Q E hr h => ?_)
  · obtain ⟨g, N, i, rfl, _⟩ := h
    rfl
  · obtain ⟨g, N, i, rfl, ⟨dx, j, nr, h1, h2⟩, h0, hi, k⟩ := h
    refine ⟨_, pss_cons (ps_expr (pe_call G hr (by rfl) mG kG bG .nil pass0 (pa_cons (pe_fld (pv 0) rfl) (pa_cons (pv 1) pa_nil))))
      (pss_one (ps_ret (pe_callTy call_list_of (by rfl) M.list (by decide +kernel) (pa_cons (pe_ix ix_list (pe_fld (pv 0) rfl) (pv 1) (fun _ _ => rfl)) pa_nil)))), ?_⟩
    refine ⟨_, rfl, g, CG, dx, _, _, rfl, h1, T.cl, T.n1, gl_n _ _ _, _, rfl, _, i, rfl, h0, hi, ?_⟩
    obtain ⟨xs, r, e1, e2, e3⟩ := h2.row h0 hi
    exact ⟨_, rfl, g, CG, dx, _, _, rfl, h1, T.cl, T.n3, gl_r _ _ _, _, rfl, nr, xs, i, _, rfl, rfl, SqL.of e1, e2, r, _, rfl, .inl (SqL.of e3), fun l hl => k l hl⟩
end

/-! ## flip_in_place, follow -/
theorem takeMore {α : Type} : ∀ {l : List α} {i : Nat} {x : α}, l[i]? = some x → l.take (i + 1) = l.take i ++ [x]
  | [], _, _, h => by simp at h
  | a :: l, 0, x, h => by
    have e : a = x := Option.some.inj h
    subst e
    rfl
  | a :: l, i + 1, x, h => by
    rw [List.take_succ_cons, List.take_succ_cons, takeMore (l := l) (i := i) h]
    rfl
theorem intsAt {x : List Int} {i : Nat} {y : V} (h : (x.map V.int)[i]? = some y) : ∃ o, x[i]? = some o ∧ y = .int o := by
  rw [List.getElem?_map] at h
  cases e : x[i]? with
  | none =>
    rw [e] at h
    cases h
  | some o =>
    rw [e] at h
    exact ⟨o, rfl, (Option.some.inj h).symm⟩
theorem repZero (n : Nat) : (List.replicate n [V.int 0]).flatten = (List.replicate n (0 : Int)).map V.int := by
  induction n with
  | zero => rfl
  | succ n ih =>
    rw [List.replicate_succ, List.flatten_cons, ih, List.replicate_succ, List.map_cons]
    rfl
def playD (N : List (List Int)) (d : PyData) (x : List Int) : Option (List Int × List Int) := match d with
  | .list ds => if ds.all (isNode N.length) = true then followL N (ds.map nodeOf) x (List.replicate N.length 0) else none
  | _ => none
def spFollow (K : PySem.W.Frag) (CG : Addr) : Sp := fun vs H Q _ => ∃ g N pv x tv d, vs = [.ref g, .ref pv, tv] ∧ GAt CG H g N ∧ WF N ∧ N.length ≤ 1000 ∧ SqL K H pv (x.map V.int) ∧ x.length = N.length ∧
  Rd K H tv d ∧ lenD d ≤ 100000 ∧ (∀ H', Same H H' → playD N d x = none → Q .non H') ∧
  ∀ x' t' T a b H', playD N d x = some (x', t') → Same H H' → H a = none → H b = none → H' T = some (.tup [.ref a, .ref b]) → H' a = some (.lst (x'.map V.int)) → H' b = some (.lst (t'.map V.int)) → Q (.ref T) H'
section
variable {P : Program} {w : World} {K : PySem.W.Frag} {mg : Str → Option Value} {base : Heap} {CG : Addr}
end

/-! ## check_position, negatives, has_ended, and the plays -/
def negL (x : List Int) : List Nat := (List.range x.length).filter fun i => decide (x.getD i 0 < 0)
def endedL (x : List Int) : Bool := (negL x).isEmpty
def posD (x : List Int) : PyData := .list (x.map .int)
theorem dpInts {K : PySem.W.Frag} {H : Hp} : ∀ x : List Int, DpAll K H (x.map V.int) (x.map PyData.int)
  | [] => .nil
  | _ :: x => .cons (.int _) (dpInts x)
theorem ilPos {n : Nat} {x : List Int} (h : x.length = n) : isIL n (posD x) = true := by
  show (decide ((x.map PyData.int).length = n) && (x.map PyData.int).all isI) = true
  rw [List.length_map, decide_eq_true h, List.all_map]
  simp [isI]
def spCheckPos (K : PySem.W.Frag) (CP : Addr) : Sp := fun vs H Q E => ∃ v d, ∃ n : Nat, vs = [.int n, v] ∧ Rd K H v d ∧ lenD d ≤ 100000 ∧ (∀ H', Same H H' → isIL n d = true → Q .non H') ∧
  ∀ H' dd, Same H H' → H dd = none → H' dd = some (.xd [(("value" : Str), v)]) → isIL n d = false → E (.ref CP) (some dd) H'
def spNeg (K : PySem.W.Frag) (CG : Addr) : Sp := fun vs H Q _ => ∃ g N p x, vs = [.ref g, .ref p] ∧ GAt CG H g N ∧ SqL K H p (x.map V.int) ∧ x.length = N.length ∧ N.length ≤ 1000 ∧
  ∀ D H', H D = none → Same H H' → H' D = some (.lst ((negL x).map fun i : Nat => V.int (i : Int))) → Q (.ref D) H'
def spEnded (K : PySem.W.Frag) (CG : Addr) : Sp := fun vs H Q _ => ∃ g N p x, vs = [.ref g, .ref p] ∧ GAt CG H g N ∧ SqL K H p (x.map V.int) ∧ x.length = N.length ∧ N.length ≤ 1000 ∧
  ∀ H', Same H H' → Q (.bl (endedL x)) H'
section
variable {P : Program} {w : World} {K : PySem.W.Frag} {mg : Str → Option Value} {base : Heap} {CG CP CL : Addr}
theorem sc_check_position : FnScope ["size", "position"] ["size", "position"] (defScope s_check_position) := ⟨rfl, rfl, rfl, by decide +kernel, rfl, by decide +kernel, by decide +kernel⟩
theorem ok_check_position {f : Addr} {fd : FuncData} (F : Fun K "check_position" "check_position" s_check_position f fd) (T : Ex P w K mg base "InvalidPosition" CP)
    (tyC : PySem.W.typeIn K (.ref CP) = some (.type "type")) (G : At P w K mg base CX0 2 "is_integer_list" ["thing", "length"] (spIntList K)) : FnOk P w K mg base (L2.CX P w) 3 f fd ["size", "position"] (spCheckPos K CP) := by
  obtain ⟨g, gd, G, mG, kG, bG⟩ := G
  refine F.okX sc_check_position (fun vs H Q E h => ?_) (fun cdv A outer s H vs Q E hr h => ?_)
  · obtain ⟨v, d, n, rfl, _⟩ := h
    rfl
  · obtain ⟨v, d, n, rfl, hd, hl, k1, k2⟩ := h
    refine ⟨_, pss_one (ps_if (pt_not (pt_val (pe_call G hr (by rfl) mG kG bG .nil pass0 (pa_cons (pv 1) (pa_cons (pv 0) pa_nil)))))
      (pss_one (ps_raiseX rfl T tyC hr (takes_of rfl rfl rfl rfl) rfl (pa_cons (pv 1) pa_nil))) pss_nil), ?_⟩
    refine ⟨_, rfl, _, rfl, v, d, n, rfl, hd, hl, fun H1 s1 => ⟨_, rfl, ?_⟩⟩
    by_cases e : isIL n d = true
    · rw [e]
      exact iteF (k1 H1 s1 e)
    · have e : isIL n d = false := by simpa using e
      rw [e]
      exact iteT ⟨_, rfl, v, rfl, fun dd H' nd s2 hx => k2 H' dd (s1.trans s2) (s1.free nd) hx e⟩
theorem filtMore (p : Nat → Bool) (i : Nat) : (List.range (i + 1)).filter p = (List.range i).filter p ++ (if p i = true then [i] else []) := by
  rw [List.range_succ, List.filter_append]
  congr 1
  by_cases h : p i = true
  · rw [if_pos h]
    simp [h]
  · rw [if_neg h]
    simp [h]
/-! ### the plays; E: InvalidPosition with the position, then InvalidPlay with the nodes -/
def spChecked (K : PySem.W.Frag) (CG CP CL : Addr) (out : List Int × List Int → Hp → Addr → Hp → Prop) : Sp := fun vs H Q E => ∃ g N qv dp nv d, vs = [.ref g, qv, nv] ∧ GAt CG H g N ∧ WF N ∧ N.length ≤ 1000 ∧
  Rd K H qv dp ∧ lenD dp ≤ 100000 ∧ Rd K H nv d ∧ lenD d ≤ 100000 ∧
  (isIL N.length dp = false → ∀ H' dd, Same H H' → H dd = none → H' dd = some (.xd [(("value" : Str), qv)]) → E (.ref CP) (some dd) H') ∧
  ∀ x, dp = posD x → x.length = N.length →
    (∀ H' dd, playD N d x = none → Same H H' → H dd = none → H' dd = some (.xd [(("value" : Str), nv)]) → E (.ref CL) (some dd) H') ∧
    ∀ r, playD N d x = some r → ∀ a H', Same H H' → out r H a H' → Q (.ref a) H'
theorem intsOfAll : ∀ ds : List PyData, (∀ d ∈ ds, isI d = true) → ds = (ds.map (fun d => match d with | .int i => i | _ => 0)).map PyData.int
  | [], _ => rfl
  | d :: ds, z => by
    have q := z d List.mem_cons_self
    rw [List.map_cons, List.map_cons, ← intsOfAll ds (fun e he => z e (List.mem_cons_of_mem _ he))]
    cases d <;> first | rfl | cases q
theorem ilD {n : Nat} {d : PyData} (h : isIL n d = true) : ∃ x, d = posD x ∧ x.length = n := by
  cases d with
  | list ds =>
    have h : (decide (ds.length = n) && ds.all isI) = true := h
    rw [Bool.and_eq_true, decide_eq_true_eq] at h
    refine ⟨ds.map (fun d => match d with | .int i => i | _ => 0), ?_, by rw [List.length_map]; exact h.1⟩
    exact congrArg PyData.list (intsOfAll ds (List.all_eq_true.mp h.2))
  | none => cases h
  | bool _ => cases h
  | int _ => cases h
  | str _ => cases h
  | tuple _ => cases h
  | dict _ => cases h
theorem rdPos {H : Hp} {v : V} {x : List Int} (h : Rd K H v (posD x)) : ∃ p, v = .ref p ∧ SqL K H p (x.map V.int) := by
  obtain ⟨a, xs, rfl, h1, h2⟩ := rdList h
  refine ⟨a, rfl, ?_⟩
  have e : xs = x.map V.int := by
    clear h h1
    induction x generalizing xs with
    | nil => cases h2; rfl
    | cons i x ih =>
      cases h2 with
      | cons h3 h4 =>
        cases h3
        rw [ih _ h4]
        rfl
  rw [← e]
  exact h1
theorem followLen {N : List (List Int)} : ∀ (vs : List Nat) (x t x' t' : List Int), followL N vs x t = some (x', t') → x'.length = x.length ∧ t'.length = t.length
  | [], x, t, x', t', h => by
    have h : some (x, t) = some (x', t') := h
    cases h
    exact ⟨rfl, rfl⟩
  | v :: vs, x, t, x', t', h => by
    have h : (if x.getD v 0 ≥ 0 then none else followL N vs (flipL (N.getD v []) x v) (t.set v (t.getD v 0 - x.getD v 0))) = some (x', t') := h
    by_cases c : x.getD v 0 ≥ 0
    · rw [if_pos c] at h
      cases h
    · rw [if_neg c] at h
      obtain ⟨h1, h2⟩ := followLen vs _ _ _ _ h
      rw [flipLen] at h1
      rw [List.length_set] at h2
      exact ⟨h1, h2⟩
theorem playLen {N : List (List Int)} {d : PyData} {x x' t' : List Int} (h : playD N d x = some (x', t')) : x'.length = x.length ∧ t'.length = N.length := by
  cases d with
  | list ds =>
    have h : (if ds.all (isNode N.length) = true then followL N (ds.map nodeOf) x (List.replicate N.length 0) else none) = some (x', t') := h
    by_cases c : ds.all (isNode N.length) = true
    · rw [if_pos c] at h
      obtain ⟨h1, h2⟩ := followLen _ _ _ _ _ h
      exact ⟨h1, by rw [h2, List.length_replicate]⟩
    · rw [if_neg c] at h
      cases h
  | none => cases h
  | bool _ => cases h
  | int _ => cases h
  | str _ => cases h
  | tuple _ => cases h
  | dict _ => cases h
def outTup (r : List Int × List Int) (H : Hp) (a : Addr) (H' : Hp) : Prop := ∃ b c, H b = none ∧ H c = none ∧ H' a = some (.tup [.ref b, .ref c]) ∧ H' b = some (.lst (r.1.map V.int)) ∧ H' c = some (.lst (r.2.map V.int))
def outFst (r : List Int × List Int) (H : Hp) (a : Addr) (H' : Hp) : Prop := H a = none ∧ H' a = some (.lst (r.1.map V.int))
def outSnd (r : List Int × List Int) (H : Hp) (a : Addr) (H' : Hp) : Prop := H a = none ∧ H' a = some (.lst (r.2.map V.int))
section
variable {P : Program} {w : World} {K : PySem.W.Frag} {mg : Str → Option Value} {base : Heap} {CG CP CL : Addr}
/-- is_play, is_complete: a truth value of the play; E: InvalidPosition -/
def spTold (K : PySem.W.Frag) (CG CP : Addr) (b : Option (List Int × List Int) → Bool) : Sp := fun vs H Q E => ∃ g N qv dp nv d, vs = [.ref g, qv, nv] ∧ GAt CG H g N ∧ WF N ∧ N.length ≤ 1000 ∧
  Rd K H qv dp ∧ lenD dp ≤ 100000 ∧ Rd K H nv d ∧ lenD d ≤ 100000 ∧
  (isIL N.length dp = false → ∀ H' dd, Same H H' → H dd = none → H' dd = some (.xd [(("value" : Str), qv)]) → E (.ref CP) (some dd) H') ∧
  ∀ x, dp = posD x → x.length = N.length → ∀ H', Same H H' → Q (.bl (b (playD N d x))) H'
def complB : Option (List Int × List Int) → Bool
  | none => false
  | some r => endedL r.1
end
end

end K77

set_option Elab.async false
set_option linter.all false
set_option maxRecDepth 100000
set_option maxHeartbeats 8000000
namespace K77
open PySem PySem.Spec PyProof.Rows L2 FNX
/-! ## Edges -/
def pairD (e : Int × Int) : PyData := .tuple [.int e.1, .int e.2]
theorem eqvPair (e f : Int × Int) : PyData.eqv (pairD e) (pairD f) = decide (e = f) := by
  have h : PyData.eqv (pairD e) (pairD f) = ((e.1 == f.1) && ((e.2 == f.2) && true)) := by
    unfold pairD
    first
      | rfl
      | simp [PyData.eqv, PyData.eqvAll]
  rw [h, Bool.and_true]
  by_cases c : e = f
  · subst c
    simp
  · rw [decide_eq_false c]
    by_cases c1 : e.1 = f.1
    · by_cases c2 : e.2 = f.2
      · exact absurd (Prod.ext c1 c2) c
      · have z : (e.2 == f.2) = false := by simpa using c2
        rw [z, Bool.and_false]
    · have z : (e.1 == f.1) = false := by simpa using c1
      rw [z, Bool.false_and]
/-- edges at addresses -/
def TupsAt (H : Hp) (ts : List Addr) (es : List (Int × Int)) : Prop := ts.length = es.length ∧ ∀ (k : Nat) (t : Addr), ts[k]? = some t → ∃ e, es[k]? = some e ∧ H t = some (.tup [.int e.1, .int e.2])
def EdgesAt (H : Hp) (p : Addr) (es : List (Int × Int)) : Prop := ∃ ts, H p = some (.lst (ts.map V.ref)) ∧ TupsAt H ts es
theorem TupsAt.same {H H' : Hp} {ts : List Addr} {es : List (Int × Int)} (h : TupsAt H ts es) (s : Same H H') : TupsAt H' ts es := ⟨h.1, fun k t e => by
  obtain ⟨x, h1, h2⟩ := h.2 k t e
  exact ⟨x, h1, s _ _ h2⟩⟩
theorem EdgesAt.same {H H' : Hp} {p : Addr} {es : List (Int × Int)} (h : EdgesAt H p es) (s : Same H H') : EdgesAt H' p es := by
  obtain ⟨ts, h1, h2⟩ := h
  exact ⟨ts, s _ _ h1, h2.same s⟩
structure GoodE (n : Nat) (es : List (Int × Int)) : Prop where
  node : ∀ e ∈ es, 0 ≤ e.1 ∧ e.1 < e.2 ∧ e.2 < n
  once : es.Nodup
  few : es.length ≤ 40
theorem dpTups {K : PySem.W.Frag} {H : Hp} : ∀ {ts : List Addr} {es : List (Int × Int)}, TupsAt H ts es → DpAll K H (ts.map V.ref) (es.map pairD)
  | [], [], _ => .nil
  | [], _ :: _, h => by
    have z := h.1
    simp at z
  | _ :: _, [], h => by
    have z := h.1
    simp at z
  | t :: ts, e :: es, h => by
    obtain ⟨x, h1, h2⟩ := h.2 0 t rfl
    obtain rfl : e = x := Option.some.inj h1
    refine .cons (.tup (SqT.of h2) (.cons (.int _) (.cons (.int _) .nil))) (dpTups ⟨by simpa using h.1, fun k t' e' => ?_⟩)
    obtain ⟨x, q1, q2⟩ := h.2 (k + 1) t' e'
    exact ⟨x, q1, q2⟩
theorem layPairs : ∀ es : List (Int × Int), PyData.canLayAll0 (es.map pairD) = true
  | [] => rfl
  | _ :: es => by
    show (true && PyData.canLayAll0 (es.map pairD)) = true
    rw [layPairs es]
    rfl
theorem depPairs : ∀ es : List (Int × Int), PyData.depthAll (es.map pairD) ≤ 1
  | [] => by decide
  | _ :: es => by
    show max 1 (PyData.depthAll (es.map pairD)) ≤ 1
    have z := depPairs es
    omega
theorem shapedPairs (es : List (Int × Int)) : SeqAt.shaped (.list (es.map pairD)) = true := by
  unfold SeqAt.shaped
  have e1 : PyData.canLay0 (.list (es.map pairD)) = true := layPairs es
  have e2 : PyData.depth (.list (es.map pairD)) ≤ 64 := by
    show PyData.depthAll (es.map pairD) + 1 ≤ 64
    have z := depPairs es
    omega
  rw [e1, decide_eq_true e2]
  rfl
theorem anyPair {f : Int × Int} : ∀ {es : List (Int × Int)}, f ∉ es → ((es.map pairD).any fun z => PyData.eqv z (pairD f)) = false
  | [], _ => rfl
  | e :: es, h => by
    rw [List.map_cons, List.any_cons, eqvPair, decide_eq_false (fun z => h (by rw [z]; exact List.mem_cons_self)), anyPair (fun z => h (List.mem_cons_of_mem _ z))]
    rfl
theorem anyPairT {f : Int × Int} : ∀ {es : List (Int × Int)}, f ∈ es → ((es.map pairD).any fun z => PyData.eqv z (pairD f)) = true
  | [], h => by simp at h
  | e :: es, h => by
    rw [List.map_cons, List.any_cons, eqvPair]
    by_cases c : e = f
    · rw [decide_eq_true c, Bool.true_or]
    · have h' : f ∈ es := by
        rcases List.mem_cons.mp h with z | z
        · exact absurd z.symm c
        · exact z
      rw [anyPairT h', Bool.or_true]

/-! ## graphs.py -/
def spIsEdge : Sp := fun vs H Q _ => ∃ (n : Nat) (t : Addr) (e : Int × Int), vs = [.int n, .ref t] ∧ H t = some (.tup [.int e.1, .int e.2]) ∧ 0 ≤ e.1 ∧ e.1 < e.2 ∧ e.2 < n ∧ Q (.bl true) H
def spEdges (K : PySem.W.Frag) : Sp := fun vs H Q _ => ∃ (n : Nat) (p : Addr) (es : List (Int × Int)), vs = [.int n, .ref p] ∧ EdgesAt H p es ∧ GoodE n es ∧
  ∀ q H' es', H q = none → Same H H' → EdgesAt H' q es' → es'.Perm es → Q (.ref q) H'
theorem kitT (K : PySem.W.Frag) : PySem.W.kitOne K (.type "tuple") (.type "tuple") = some true := kit_ty (by decide +kernel)
theorem kitLT (K : PySem.W.Frag) : PySem.W.kitAny K (.type "list") [.type "list", .type "tuple"] = some true :=
  kitAny_cons (b := true) (kit_ty (by decide +kernel)) (fun h => by cases h) (fun _ => rfl)
theorem boot_min1 : bootBuiltins "min" = some (.builtin "min") := by decide +kernel
theorem boot_max1 : bootBuiltins "max" = some (.builtin "max") := by decide +kernel
theorem boot_sorted1 : bootBuiltins "sorted" = some (.builtin "sorted") := by decide +kernel
theorem nodeIn {n : Nat} {i : Int} (h0 : 0 ≤ i) (h1 : i < n) : isNode n (.int i) = true := by
  show (decide ((0 : Int) ≤ i) && decide (i ≤ (n : Int) - 1)) = true
  rw [decide_eq_true h0, decide_eq_true (by omega)]
  rfl
section
variable {P : Program} {w : World} {K : PySem.W.Frag} {mg : Str → Option Value} {base : Heap} {CG : Addr}
theorem sc_is_edge : FnScope ["size", "thing", "one", "two"] ["size", "thing"] (defScope s_is_edge) := ⟨rfl, rfl, rfl, by decide +kernel, rfl, by decide +kernel, by decide +kernel⟩
theorem ok_is_edge {f : Addr} {fd : FuncData} (F : Fun K "is_edge" "is_edge" s_is_edge f fd) (M : Nms mg) (G : At P w K mg base CX0 3 "is_node" ["size", "thing"] (spIsNode K)) :
    FnOk P w K mg base CX0 4 f fd ["size", "thing"] spIsEdge := by
  obtain ⟨c, cd, G, mG, kG, bG⟩ := G
  refine F.ok sc_is_edge (fun vs H Q E h => ?_) (fun cdv A outer s H vs Q E hr h => ?_)
  · obtain ⟨n, t, e, rfl, _⟩ := h
    rfl
  · obtain ⟨n, t, e, rfl, ht, h0, h1, h2, k⟩ := h
    refine ⟨_, pss_cons (ps_if (PW.pt (pw_or (pt_not (pt_val (pe_callB call_isi (by rfl) M.isi boot_isi (pa_cons (pv 1) (pa_cons (pe_bltn (v := V.ty "tuple") rfl M.tuple (by decide +kernel) rfl) pa_nil)))))
        (pw_or1 (pt_cmpR op_ne (pe_callB call_len_seq (by rfl) M.len boot_len1 (pa_cons (pv 1) pa_nil)) pe_int (nomark _))))) (pss_one (ps_ret pe_bl)) pss_nil)
      (pss_cons (ps_asg (pv 1) (pg_tup rfl (pgs_cons (pg_name (i := 2) sc_is_edge.nd rfl (Or.inl rfl)) (pgs_cons (pg_name (i := 3) sc_is_edge.nd rfl (Or.inl rfl)) pgs_nil))))
      (pss_one (ps_ret (pe_and (pe_call G hr (by rfl) mG kG bG .nil pass0 (pa_cons (pv 0) (pa_cons (pv 2) pa_nil))) (pe_and (pe_call G hr (by rfl) mG kG bG .nil pass0 (pa_cons (pv 0) (pa_cons (pv 3) pa_nil)))
        (pe_one (pe_cmpR op_ne (pv 2) (pv 3) (nomark _)))))))), ?_⟩
    refine ⟨_, rfl, .ref t, _, _, _, _, rfl, .ty _, .base (.tup ht), kitT K, _, rfl, iteF ?_⟩
    refine ⟨_, rfl, t, _, rfl, .inr (SqT.of ht), rfl, _, rfl, iteF ?_⟩
    refine ⟨_, rfl, t, _, rfl, SqT.of ht, rfl, _, _, rfl, _, _, rfl, rfl, ?_⟩
    refine ⟨_, rfl, _, rfl, .int e.1, .int e.1, n, rfl, .dat (.int _), _, rfl, ?_⟩
    rw [nodeIn h0 (by omega)]
    refine iteT ⟨_, rfl, _, rfl, .int e.2, .int e.2, n, rfl, .dat (.int _), _, rfl, ?_⟩
    rw [nodeIn (by omega) h2]
    refine iteT ⟨_, rfl, _, rfl, rfl, ?_⟩
    have ne : decide (V.int e.1 = V.int e.2) = false := decide_eq_false (fun z => by
      injection z with z
      omega)
    rw [ne]
    exact k
theorem sc_checked_edges : FnScope ["size", "edges", "found", "entry", "edge"] ["size", "edges"] (defScope s_checked_edges) := ⟨rfl, rfl, rfl, by decide +kernel, rfl, by decide +kernel, by decide +kernel⟩
theorem refAt {α : Type} {f : α → V} {xs : List α} {i : Nat} {y : V} (h : (xs.map f)[i]? = some y) : ∃ t, xs[i]? = some t ∧ y = f t := by
  rw [List.getElem?_map] at h
  cases e : xs[i]? with
  | none =>
    rw [e] at h
    cases h
  | some t =>
    rw [e] at h
    exact ⟨t, rfl, (Option.some.inj h).symm⟩
theorem notTaken {α : Type} {es : List α} (h : es.Nodup) {i : Nat} {e : α} (hi : es[i]? = some e) : e ∉ es.take i := by
  intro hm
  obtain ⟨j, hj, he⟩ := List.mem_iff_getElem.mp hm
  rw [List.length_take] at hj
  rw [List.getElem_take] at he
  obtain ⟨h1, h2⟩ := List.getElem?_eq_some_iff.mp hi
  have z := (List.pairwise_iff_getElem.mp h) j i (by omega) h1 (by omega)
  exact z (by rw [he, h2])
def keyE (H : Hp) : V → Int × Int
  | .ref t => match H t with
    | some (.tup [.int a, .int b]) => (a, b)
    | _ => (0, 0)
  | _ => (0, 0)
def refOf : V → Addr
  | .ref t => t
  | _ => 0
theorem keyE_at {H : Hp} {t : Addr} {e : Int × Int} (h : H t = some (.tup [.int e.1, .int e.2])) : keyE H (.ref t) = e := by
  unfold keyE
  simp only [h]
theorem permTups {H : Hp} {ts : List Addr} {es : List (Int × Int)} (h : TupsAt H ts es) {ys : List V} (hp : ys.Perm (ts.map V.ref)) : ∃ ts' es', ys = ts'.map V.ref ∧ TupsAt H ts' es' ∧ es'.Perm es := by
  have hm : ∀ y ∈ ys, ∃ t, y = V.ref t ∧ ∃ e : Int × Int, H t = some (.tup [.int e.1, .int e.2]) := fun y hy => by
    obtain ⟨t, ht, rfl⟩ := List.mem_map.mp (hp.mem_iff.mp hy)
    obtain ⟨k, hk, he⟩ := List.mem_iff_getElem.mp ht
    obtain ⟨e, h1, h2⟩ := h.2 k t (by rw [List.getElem?_eq_getElem hk, he])
    exact ⟨t, rfl, e, h2⟩
  have e1 : (ts.map V.ref).map (keyE H) = es := by
    apply List.ext_getElem
    · rw [List.length_map, List.length_map, h.1]
    · intro k h1 h2
      rw [List.length_map, List.length_map] at h1
      obtain ⟨e, q1, q2⟩ := h.2 k ts[k] (List.getElem?_eq_getElem h1)
      rw [List.getElem_map, List.getElem_map, keyE_at q2]
      rw [List.getElem?_eq_getElem h2] at q1
      exact (Option.some.inj q1).symm
  refine ⟨ys.map refOf, ys.map (keyE H), ?_, ⟨by rw [List.length_map, List.length_map], fun k t hk => ?_⟩, ?_⟩
  · rw [List.map_map]
    have z : ∀ y ∈ ys, (V.ref ∘ refOf) y = y := fun y hy => by
      obtain ⟨t, rfl, _⟩ := hm y hy
      rfl
    exact (List.map_congr_left z).symm ▸ (List.map_id ys).symm
  · rw [List.getElem?_map] at hk
    cases hy : ys[k]? with
    | none =>
      rw [hy] at hk
      cases hk
    | some y =>
      rw [hy] at hk
      obtain ⟨t', rfl, e, he⟩ := hm y (List.mem_of_getElem? hy)
      obtain rfl : t' = t := Option.some.inj hk
      refine ⟨e, ?_, he⟩
      rw [List.getElem?_map, hy]
      exact congrArg some (keyE_at he)
  · have z := hp.map (keyE H)
    rwa [e1] at z
theorem ok_checked_edges {f : Addr} {fd : FuncData} (F : Fun K "checked_edges" "checked_edges" s_checked_edges f fd) (M : Nms mg) (G : At P w K mg base CX0 4 "is_edge" ["size", "thing"] spIsEdge) :
    FnOk P w K mg base CX0 5 f fd ["size", "edges"] (spEdges K) := by
  obtain ⟨c, cd, G, mG, kG, bG⟩ := G
  refine F.ok sc_checked_edges (fun vs H Q E h => ?_) (fun cdv A outer s H vs Q E hr h => ?_)
  · obtain ⟨n, p, es, rfl, _⟩ := h
    rfl
  · obtain ⟨n, p, es, rfl, hp, ge, k⟩ := h
    have hu65 : A.units + 3 + 65 < cLine := by
      have := hr.un
      show A.units + 3 + 65 < _
      have z : A.units + 3 + 16 * 4 + 200 < cLine := this
      omega
    refine ⟨_, pss_cons (ps_if (pt_not (pt_val (pe_callB call_isiT (by rfl) M.isi boot_isi (pa_cons (pv 1) (pa_cons (pe_tup (pa_cons (pe_bltn (v := V.ty "list") rfl M.list (by decide +kernel) rfl)
          (pa_cons (pe_bltn (v := V.ty "tuple") rfl M.tuple (by decide +kernel) rfl) pa_nil))) pa_nil))))) (pss_one ps_never) pss_nil)
      (pss_cons (ps_set (i := 2) sc_checked_edges.nd rfl (Or.inl rfl) (pe_lst pa_nil))
      (pss_cons (ps_for PassesOwn.never rfl (pi_list (pv 1)) (pg_name (i := 3) sc_checked_edges.nd rfl (Or.inl rfl))
        (pss_cons (ps_if (pt_not (pt_val (pe_call G hr (by rfl) mG kG bG .nil pass0 (pa_cons (pv 0) (pa_cons (pv 3) pa_nil))))) (pss_one ps_never) pss_nil)
        (pss_cons (ps_set (i := 4) sc_checked_edges.nd rfl (Or.inl rfl) (pe_tup (pa_cons (pe_callB (cr_minT rfl hr.units) (by rfl) M.min boot_min1 (pa_cons (pv 3) pa_nil))
          (pa_cons (pe_callB (cr_maxT rfl hr.units) (by rfl) M.max boot_max1 (pa_cons (pv 3) pa_nil)) pa_nil))))
        (pss_cons (ps_if (pt_cmpR (op_inD hu65) (pv 4) (pv 2) (by rfl)) (pss_one ps_never) pss_nil)
        (pss_one (ps_expr (pe_bm PySem.F.plainAttrs_list PySem.F.slot_list_append PySem.F.type_list_append mt_append (pv 2) (pa_cons (pv 4) pa_nil))))))))
      (pss_one (ps_ret (pe_callB cr_sortedP (by rfl) M.sorted boot_sorted1 (pa_cons (pv 2) pa_nil)))))), ?_⟩
    obtain ⟨ts, h1, h2⟩ := id hp
    refine ⟨_, rfl, by show 2 ≤ sizeLine; decide, fun tp ntp => ⟨.ref p, tp, _, _, _, _, rfl, upd_same, .cons (.ty _) (.cons (.ty _) .nil), .base (.lst (same_upd ntp _ _ h1)), kitLT K, _, rfl, iteF ?_⟩⟩
    refine ⟨by show 0 ≤ sizeLine; decide, fun fo nfo => ?_⟩
    have s0 := (same_upd ntp (o := .tup [V.ty "list", V.ty "tuple"])).trans (same_upd nfo (o := .lst []))
    have f0 : H fo = none := Same.free (same_upd ntp) nfo
    refine ⟨_, rfl, p, rfl, ⟨_, SqL.of (s0 _ _ h1)⟩, for_list (K := K) (a := p) (xs := ts.map V.ref) (fun i σ H' => ∃ (o3 o4 : Option V) (fs : List Addr), σ = [some (.int n), some (.ref p), some (.ref fo), o3, o4] ∧
      Same H H' ∧ H' fo = some (.lst (fs.map V.ref)) ∧ TupsAt H' fs (es.take i)) ⟨none, none, [], rfl, s0, upd_same, ⟨rfl, fun k t e => by simp at e⟩⟩ (fun i σ H' _ h => ?_) (fun i y σ H' hi h => ?_) (fun σ H' h => ?_)⟩
    · obtain ⟨_, _, _, _, sm, _, _⟩ := h
      exact SqL.of (sm _ _ h1)
    · obtain ⟨o3, o4, fs, rfl, sm, e1, e2⟩ := h
      obtain ⟨t, ht, rfl⟩ := refAt hi
      obtain ⟨e, he, hte⟩ := h2.2 i t ht
      have good := ge.node e (List.mem_of_getElem? he)
      have hte' := sm _ _ hte
      refine ⟨_, rfl, _, rfl, n, t, e, rfl, hte', good.1, good.2.1, good.2.2, _, rfl, iteF ?_⟩
      refine ⟨_, rfl, t, e.1, e.2, rfl, hte', _, rfl, t, e.1, e.2, rfl, hte', by show 2 ≤ sizeLine; decide, fun ed ned => ?_⟩
      have em : min e.1 e.2 = e.1 := by omega
      have eM : max e.1 e.2 = e.2 := by omega
      rw [em, eM]
      have e1' : (upd H' ed (.tup [V.int e.1, V.int e.2])) fo = some (.lst (fs.map V.ref)) := same_upd ned _ _ e1
      have e2' := e2.same (same_upd ned (o := .tup [V.int e.1, V.int e.2]))
      refine ⟨_, rfl, _, rfl, pairD e, (es.take i).map pairD, .tup (SqT.of upd_same) (.cons (.int _) (.cons (.int _) .nil)), .lst (SqL.of e1') (dpTups e2'), rfl, shapedPairs _, _, rfl, ?_⟩
      rw [anyPair (notTaken ge.once he)]
      refine iteF ⟨_, rfl, .inl ⟨rfl, _, SqL.of e1'⟩, _, rfl, fo, _, _, rfl, rfl, e1', ?_, ?_⟩
      · rw [List.length_map, e2.1, List.length_take, sizeLine_eq]
        have := ge.few
        omega
      refine ⟨_, _, fs ++ [ed], rfl, fun b o z => ?_, by rw [upd_same, List.map_append]; rfl, ?_, fun k t' hk => ?_⟩
      · rw [upd_ne (ne_of_none z f0)]
        exact same_upd ned _ _ (sm _ _ z)
      · rw [takeMore he, List.length_append, List.length_append, e2.1]
        rfl
      · have efo : ed ≠ fo := (ne_of_none e1 ned).symm
        by_cases hlt : k < fs.length
        · rw [List.getElem?_append_left hlt] at hk
          obtain ⟨x, q1, q2⟩ := e2.2 k t' hk
          refine ⟨x, ?_, ?_⟩
          · rw [takeMore he, List.getElem?_append_left (by rw [← e2.1]; exact hlt)]
            exact q1
          · rw [upd_ne (ne_of q2 e1 (by intro z; cases z)), upd_ne (ne_of_none q2 ned)]
            exact q2
        · rw [List.getElem?_append_right (by omega)] at hk
          have hk' : k = fs.length := by
            have z := (List.getElem?_eq_some_iff.mp hk).1
            simp at z
            omega
          subst hk'
          rw [Nat.sub_self] at hk
          obtain rfl : ed = t' := Option.some.inj hk
          refine ⟨e, ?_, ?_⟩
          · rw [takeMore he, e2.1, List.getElem?_append_right (Nat.le_refl _), Nat.sub_self]
            rfl
          · rw [upd_ne efo, upd_same]
    · obtain ⟨o3, o4, fs, rfl, sm, e1, e2⟩ := h
      rw [List.length_map, h2.1, List.take_length] at e2
      refine ⟨_, rfl, fo, _, rfl, SqL.of e1, fun y hy => ?_, fun ys q hperm nq => ?_⟩
      · obtain ⟨t, ht, rfl⟩ := List.mem_map.mp hy
        obtain ⟨k', hk', he'⟩ := List.mem_iff_getElem.mp ht
        obtain ⟨x, q1, q2⟩ := e2.2 k' t (by rw [List.getElem?_eq_getElem hk', he'])
        exact ⟨t, x.1, x.2, rfl, q2⟩
      · obtain ⟨ts', es', rfl, r1, r2⟩ := permTups e2 hperm
        exact k q _ es' (sm.free nq) (sm.trans (same_upd nq)) ⟨ts', upd_same, r1.same (same_upd nq)⟩ r2
end

/-! ## neighbour_lists -/
def rowOf (es : List (Int × Int)) (i : Int) : List Int := es.flatMap fun e => (if e.1 = i then [e.2] else []) ++ (if e.2 = i then [e.1] else [])
structure IsNear (n : Nat) (es : List (Int × Int)) (N : List (List Int)) : Prop where
  len : N.length = n
  row : ∀ i, i < n → (N.getD i []).Perm (rowOf es i)
  asc : ∀ i, i < n → (N.getD i []).Pairwise (· ≤ ·)
theorem rowOf_perm {es fs : List (Int × Int)} (h : es.Perm fs) (i : Int) : (rowOf es i).Perm (rowOf fs i) := List.Perm.flatMap_right _ h
theorem IsNear.perm {n : Nat} {es fs : List (Int × Int)} {N : List (List Int)} (h : IsNear n es N) (p : es.Perm fs) : IsNear n fs N := ⟨h.len, fun i hi => (h.row i hi).trans (rowOf_perm p i), h.asc⟩
theorem IsNear.uniq {n : Nat} {es : List (Int × Int)} {N M : List (List Int)} (h : IsNear n es N) (g : IsNear n es M) : N = M := by
  apply List.ext_getElem
  · rw [h.len, g.len]
  · intro i h1 h2
    have hi : i < n := by
      rw [← h.len]
      exact h1
    have a1 := h.row i hi
    have a2 := g.row i hi
    have b1 := h.asc i hi
    have b2 := g.asc i hi
    rw [List.getD_eq_getElem?_getD, List.getElem?_eq_getElem h1] at a1 b1
    rw [List.getD_eq_getElem?_getD, List.getElem?_eq_getElem h2] at a2 b2
    exact List.Perm.eq_of_pairwise (fun a b _ _ => Int.le_antisymm) b1 b2 (a1.trans a2.symm)
theorem rowOf_mem {n : Nat} {es : List (Int × Int)} (g : ∀ e ∈ es, 0 ≤ e.1 ∧ e.1 < e.2 ∧ e.2 < n) {i o : Int} (h : o ∈ rowOf es i) : 0 ≤ o ∧ o < n := by
  obtain ⟨e, he, h⟩ := List.mem_flatMap.mp h
  have z := g e he
  rcases List.mem_append.mp h with h | h
  · by_cases c : e.1 = i
    · rw [if_pos c, List.mem_singleton] at h
      omega
    · rw [if_neg c] at h
      simp at h
  · by_cases c : e.2 = i
    · rw [if_pos c, List.mem_singleton] at h
      omega
    · rw [if_neg c] at h
      simp at h
theorem IsNear.wf {n : Nat} {es : List (Int × Int)} {N : List (List Int)} (h : IsNear n es N) (g : ∀ e ∈ es, 0 ≤ e.1 ∧ e.1 < e.2 ∧ e.2 < n) : WF N := by
  intro i hi o ho
  rw [h.len] at hi ⊢
  exact rowOf_mem g ((h.row i hi).mem_iff.mp ho)
theorem rowOf_len : ∀ (es : List (Int × Int)) (i : Int), (rowOf es i).length ≤ 2 * es.length
  | [], _ => by simp [rowOf]
  | e :: es, i => by
    have z := rowOf_len es i
    have q : rowOf (e :: es) i = ((if e.1 = i then [e.2] else []) ++ (if e.2 = i then [e.1] else [])) ++ rowOf es i := rfl
    have q1 : (if e.1 = i then [e.2] else []).length ≤ 1 := by split <;> simp
    have q2 : (if e.2 = i then [e.1] else []).length ≤ 1 := by split <;> simp
    rw [q, List.length_append, List.length_append, List.length_cons]
    omega
theorem rowOf_more {es : List (Int × Int)} {k : Nat} {e : Int × Int} (h : es[k]? = some e) (i : Int) :
    rowOf (es.take (k + 1)) i = rowOf (es.take k) i ++ ((if e.1 = i then [e.2] else []) ++ (if e.2 = i then [e.1] else [])) := by
  rw [takeMore h]
  unfold rowOf
  rw [List.flatMap_append, List.flatMap_cons, List.flatMap_nil, List.append_nil]
/-- rows that grow -/
def Grow (H : Hp) (rs : List Addr) (n : Nat) (es : List (Int × Int)) : Prop := rs.length = n ∧ rs.Nodup ∧ ∀ (k : Nat) (r : Addr), rs[k]? = some r → H r = some (.lst ((rowOf es (k : Int)).map V.int))
theorem nodupAt {rs : List Addr} (h : rs.Nodup) {i j : Nat} {r s : Addr} (hi : rs[i]? = some r) (hj : rs[j]? = some s) (ne : i ≠ j) : r ≠ s := by
  intro e
  subst e
  obtain ⟨a1, a2⟩ := List.getElem?_eq_some_iff.mp hi
  obtain ⟨b1, b2⟩ := List.getElem?_eq_some_iff.mp hj
  exact ne ((List.getElem_inj h).mp (a2.trans b2.symm))
/-- lists that are new behind H: they stay whatever becomes of H's own objects -/
def NewN (H H' : Hp) (q : Addr) (N : List (List Int)) : Prop := ∀ H'', (∀ b o, H b = none → H' b = some o → H'' b = some o) → NAt H'' q N
theorem NewN.at {H H' : Hp} {q : Addr} {N : List (List Int)} (h : NewN H H' q N) : NAt H' q N := h H' fun _ _ _ e => e
def spNear (K : PySem.W.Frag) : Sp := fun vs H Q _ => ∃ (n : Nat) (p : Addr) (es : List (Int × Int)), vs = [.int n, .ref p] ∧ EdgesAt H p es ∧ GoodE n es ∧ n ≤ 1000 ∧
  ∀ q H' N, H q = none → Same H H' → NewN H H' q N → IsNear n es N → Q (.ref q) H'
theorem Grow.at {H : Hp} {rs : List Addr} {n : Nat} {es : List (Int × Int)} (h : Grow H rs n es) {i : Int} (h0 : 0 ≤ i) (hi : i < n) : ∃ r, rs[i.toNat]? = some r ∧ atI (rs.map V.ref) i = some (.ref r) ∧ H r = some (.lst ((rowOf es i).map V.int)) := by
  have hl : i.toNat < rs.length := by
    rw [h.1]
    omega
  refine ⟨rs[i.toNat], List.getElem?_eq_getElem hl, ?_, ?_⟩
  · have z : (rs.map V.ref)[i.toNat]? = some (V.ref rs[i.toNat]) := by
      rw [List.getElem?_map, List.getElem?_eq_getElem hl]
      rfl
    have q := atI_nat z
    rwa [show ((i.toNat : Nat) : Int) = i by omega] at q
  · have z := h.2.2 i.toNat _ (List.getElem?_eq_getElem hl)
    rwa [show ((i.toNat : Nat) : Int) = i by omega] at z
/-- one edge more -/
theorem Grow.more {H : Hp} {rs : List Addr} {n : Nat} {es : List (Int × Int)} {k : Nat} {e : Int × Int} {r1 r2 : Addr} (h : Grow H rs n (es.take k)) (he : es[k]? = some e) (g : 0 ≤ e.1 ∧ e.1 < e.2 ∧ e.2 < n)
    (h1 : rs[e.1.toNat]? = some r1) (h2 : rs[e.2.toNat]? = some r2) :
    Grow (upd (upd H r1 (.lst ((rowOf (es.take k) e.1).map V.int ++ [V.int e.2]))) r2 (.lst ((rowOf (es.take k) e.2).map V.int ++ [V.int e.1]))) rs n (es.take (k + 1)) := by
  refine ⟨h.1, h.2.1, fun j r hj => ?_⟩
  have hne : e.2.toNat ≠ e.1.toNat := by omega
  rw [rowOf_more he]
  by_cases c2 : j = e.2.toNat
  · subst c2
    obtain rfl : r2 = r := Option.some.inj (h2.symm.trans hj)
    have z1 : ((e.2.toNat : Nat) : Int) = e.2 := by omega
    rw [upd_same, z1, if_neg (by omega), if_pos rfl, List.nil_append, List.map_append]
    rfl
  · rw [upd_ne (nodupAt h.2.1 hj h2 c2)]
    by_cases c1 : j = e.1.toNat
    · subst c1
      obtain rfl : r1 = r := Option.some.inj (h1.symm.trans hj)
      have z1 : ((e.1.toNat : Nat) : Int) = e.1 := by omega
      rw [upd_same, z1, if_pos rfl, if_neg (by omega), List.append_nil, List.map_append]
      rfl
    · rw [upd_ne (nodupAt h.2.1 hj h1 c1), h.2.2 j r hj, if_neg (by omega), if_neg (by omega), List.append_nil, List.append_nil]
theorem getDl {α : Type} {L : List α} {x d : α} {k : Nat} (h : k < L.length) : (L ++ [x]).getD k d = L.getD k d := by
  rw [List.getD_eq_getElem?_getD, List.getD_eq_getElem?_getD, List.getElem?_append_left h]
theorem getDe {α : Type} {L : List α} {x d : α} {k : Nat} (h : k = L.length) : (L ++ [x]).getD k d = x := by
  subst h
  rw [List.getD_eq_getElem?_getD, List.getElem?_append_right (Nat.le_refl _), Nat.sub_self]
  rfl
section
variable {P : Program} {w : World} {K : PySem.W.Frag} {mg : Str → Option Value} {base : Heap} {CG : Addr}
theorem sc_near : FnScope ["size", "edges", "near", "one", "two", "node", "nodes"] ["size", "edges"] (defScope s_neighbour_lists) := ⟨rfl, rfl, rfl, by decide +kernel, rfl, by decide +kernel, by decide +kernel⟩
theorem ok_near {f : Addr} {fd : FuncData} (F : Fun K "neighbour_lists" "neighbour_lists" s_neighbour_lists f fd) (M : Nms mg) : FnOk P w K mg base CX0 1 f fd ["size", "edges"] (spNear K) := by
  refine F.ok sc_near (fun vs H Q E h => ?_) (fun cdv A outer s H vs Q E hr h => ?_)
  · obtain ⟨n, p, es, rfl, _⟩ := h
    rfl
  · obtain ⟨n, p, es, rfl, hp, ge, hn, k⟩ := h
    refine ⟨_, pss_cons (ps_setLc (i := 2) (own := [("node", 5)]) (g := gName 5) (tt := tYes) (by rfl) sc_near.nd rfl rfl (sw_true rfl rfl rfl (by decide +kernel))
      (pi_range1 rfl M.range (pa_cons (pv 0) pa_nil))
      (blkOk_by (own := [("node", 5)]) (N := ["size", "edges", "near", "one", "two", "node", "nodes"]) (sc := defScope s_neighbour_lists) (by decide +kernel))
      (fun _ _ _ _ _ => pg_name (i := 5) sc_near.nd rfl (Or.inl rfl)) (fun _ _ _ _ _ => pts_nil)
      (fun _ _ _ _ _ => pe_lst pa_nil))
      (pss_cons (ps_for PassesOwn.never rfl (pi_list (pv 1)) (pg_tup rfl (pgs_cons (pg_name (i := 3) sc_near.nd rfl (Or.inl rfl)) (pgs_cons (pg_name (i := 4) sc_near.nd rfl (Or.inl rfl)) pgs_nil)))
        (pss_cons (ps_expr (pe_bm PySem.F.plainAttrs_list PySem.F.slot_list_append PySem.F.type_list_append mt_append (pe_ix ix_list (pv 2) (pv 3) (fun _ _ => rfl)) (pa_cons (pv 4) pa_nil)))
        (pss_one (ps_expr (pe_bm PySem.F.plainAttrs_list PySem.F.slot_list_append PySem.F.type_list_append mt_append (pe_ix ix_list (pv 2) (pv 4) (fun _ _ => rfl)) (pa_cons (pv 3) pa_nil))))))
      (pss_one (ps_ret (pe_lc (own := [("nodes", 6)]) (g := gName 6) (tt := tYes) rfl sc_near.nd (pi_list (pv 2))
      (blkOk_by (own := [("nodes", 6)]) (N := ["size", "edges", "near", "one", "two", "node", "nodes"]) (sc := defScope s_neighbour_lists) (by decide +kernel))
      (fun _ _ _ _ _ => pg_name (i := 6) sc_near.nd rfl (Or.inl rfl)) (fun _ _ _ _ _ => pts_nil)
      (fun _ _ _ _ _ => pe_callB (show CallR _ (.builtin "sorted") (rSortedI K) from cr_sortedI) (by rfl) M.sorted boot_sorted1 (pa_cons (pv 6) pa_nil)))))), ?_⟩
    obtain ⟨ts, h1, h2⟩ := id hp
    refine ⟨_, rfl, n, rfl, by omega, by omega, fun D hD => ?_⟩
    refine lc_range (lo := 0) (fun i H' => Same H H' ∧ ∃ rs : List Addr, H' D = some (.lst (rs.map V.ref)) ∧ D ∉ rs ∧ (∀ r ∈ rs, H r = none) ∧ Grow H' rs i []) ⟨same_upd hD, [], upd_same, by simp, by simp, rfl, by simp, fun k r e => by simp at e⟩ (fun i H' hi h => ?_) (fun H' h => ?_)
    · obtain ⟨sm, rs, e1, e2, e3, e4⟩ := h
      refine ⟨rfl, ?_⟩
      refine ⟨by show 0 ≤ sizeLine; decide, fun p np => ?_⟩
      have hpD : D ≠ p := ne_of_none e1 np
      refine ⟨_, by rw [upd_ne hpD]; exact e1, by rw [List.length_map, e4.1, sizeLine_eq]; omega, fun b o z => ?_, rs ++ [p], by rw [upd_same, List.map_append]; rfl, ?_, fun r hr' => ?_, ?_⟩
      · rw [upd_ne (ne_of_none z hD), upd_ne (ne_of_none (sm _ _ z) np)]
        exact sm _ _ z
      · intro z
        rcases List.mem_append.mp z with z | z
        · exact e2 z
        · exact hpD (List.mem_singleton.mp z)
      · rcases List.mem_append.mp hr' with z | z
        · exact e3 r z
        · rw [List.mem_singleton.mp z]
          exact sm.free np
      · refine ⟨by rw [List.length_append, e4.1]; rfl, ?_, fun k r hk => ?_⟩
        · refine List.nodup_append.mpr ⟨e4.2.1, by simp, fun a ha b hb => ?_⟩
          rw [List.mem_singleton] at hb
          subst hb
          obtain ⟨k, hk, he⟩ := List.mem_iff_getElem.mp ha
          intro q
          subst q
          have z := e4.2.2 k _ (by rw [List.getElem?_eq_getElem hk, he])
          rw [np] at z
          cases z
        · by_cases hlt : k < rs.length
          · rw [List.getElem?_append_left hlt] at hk
            have z := e4.2.2 k r hk
            have nD : r ≠ D := fun q => e2 (q ▸ List.mem_of_getElem? hk)
            rw [upd_ne nD, upd_ne (ne_of_none z np)]
            exact z
          · rw [List.getElem?_append_right (by omega)] at hk
            have hk' : k = rs.length := by
              have := (List.getElem?_eq_some_iff.mp hk).1
              simp at this
              omega
            subst hk'
            rw [Nat.sub_self] at hk
            obtain rfl : p = r := Option.some.inj hk
            rw [upd_ne hpD.symm, upd_same]
            rfl
    · obtain ⟨sm, rs, e1, e2, e3, e4⟩ := h
      refine ⟨_, rfl, p, rfl, ⟨_, SqL.of (sm _ _ h1)⟩, for_list (K := K) (a := p) (xs := ts.map V.ref) (fun i σ H' => ∃ (o3 o4 : Option V), σ = [some (.int n), some (.ref p), some (.ref D), o3, o4, none, none] ∧
        Same H H' ∧ H' D = some (.lst (rs.map V.ref)) ∧ Grow H' rs n (es.take i)) ⟨none, none, rfl, sm, e1, e4⟩ (fun i σ H' _ h => ?_) (fun i y σ H' hi h => ?_) (fun σ H' h => ?_)⟩
      · obtain ⟨_, _, _, sm, _, _⟩ := h
        exact SqL.of (sm _ _ h1)
      · obtain ⟨o3, o4, rfl, sm, e1, e4⟩ := h
        obtain ⟨t, ht, rfl⟩ := refAt hi
        obtain ⟨e, he, hte⟩ := h2.2 i t ht
        have good := ge.node e (List.mem_of_getElem? he)
        have few := ge.few
        have hte' := sm _ _ hte
        have lt := (List.getElem?_eq_some_iff.mp he).1
        obtain ⟨r1, q1, a1, b1⟩ := e4.at (i := e.1) good.1 (by omega)
        obtain ⟨r2, q2, a2, b2⟩ := e4.at (i := e.2) (by omega) good.2.2
        have n12 : r2 ≠ r1 := nodupAt e4.2.1 q2 q1 (by omega)
        have l1 := rowOf_len (es.take i) e.1
        have l2 := rowOf_len (es.take i) e.2
        rw [List.length_take] at l1 l2
        have fr1 := e3 r1 (List.mem_of_getElem? q1)
        have fr2 := e3 r2 (List.mem_of_getElem? q2)
        have nD1 : D ≠ r1 := fun q => e2 (q ▸ List.mem_of_getElem? q1)
        have nD2 : D ≠ r2 := fun q => e2 (q ▸ List.mem_of_getElem? q2)
        refine ⟨t, _, rfl, SqT.of hte', rfl, _, _, rfl, _, _, rfl, rfl, ?_⟩
        refine ⟨_, rfl, _, rfl, D, _, e.1, _, rfl, rfl, SqL.of e1, a1, .inl ⟨rfl, _, SqL.of b1⟩, _, rfl, r1, _, _, rfl, rfl, b1, by rw [List.length_map, sizeLine_eq]; omega, ?_⟩
        have e1' : (upd H' r1 (.lst ((rowOf (es.take i) e.1).map V.int ++ [V.int e.2]))) D = some (.lst (rs.map V.ref)) := by
          rw [upd_ne nD1]
          exact e1
        have b2' : (upd H' r1 (.lst ((rowOf (es.take i) e.1).map V.int ++ [V.int e.2]))) r2 = some (.lst ((rowOf (es.take i) e.2).map V.int)) := by
          rw [upd_ne n12]
          exact b2
        refine ⟨_, rfl, _, rfl, D, _, e.2, _, rfl, rfl, SqL.of e1', a2, .inl ⟨rfl, _, SqL.of b2'⟩, _, rfl, r2, _, _, rfl, rfl, b2', by rw [List.length_map, sizeLine_eq]; omega, ?_⟩
        refine ⟨_, _, rfl, fun b o z => ?_, ?_, e4.more he good q1 q2⟩
        · rw [upd_ne (ne_of_none z fr2), upd_ne (ne_of_none z fr1)]
          exact sm _ _ z
        · rw [upd_ne nD2]
          exact e1'
      · obtain ⟨o3, o4, rfl, sm, e1, e4⟩ := h
        rw [List.length_map, h2.1, List.take_length] at e4
        refine ⟨_, rfl, D, rfl, ⟨_, SqL.of e1⟩, fun q nq => ?_⟩
        have qD : D ≠ q := ne_of_none e1 nq
        have fqH : H q = none := sm.free nq
        refine lc_list (K := K) (a := D) (xs := rs.map V.ref) (fun i H'' => Same H' H'' ∧ ∃ (ps : List Addr) (L : List (List Int)), H'' q = some (.lst (ps.map V.ref)) ∧ ps.length = i ∧ L.length = i ∧
          (∀ (k : Nat) (r : Addr), ps[k]? = some r → r ≠ q ∧ H r = none ∧ H'' r = some (.lst ((L.getD k []).map V.int))) ∧ (∀ k : Nat, k < i → (L.getD k []).Perm (rowOf es k)) ∧ ∀ k : Nat, k < i → (L.getD k []).Pairwise (· ≤ ·))
          ⟨same_upd nq, [], [], upd_same, rfl, rfl, fun k r e => by simp at e, fun k e => by omega, fun k e => by omega⟩ (fun i H'' _ h => SqL.of (h.1 _ _ e1)) (fun i x H'' hi h => ?_) (fun H'' h => ?_)
        · obtain ⟨sm2, ps, L, f1, f2, f3, f4, f5, f6⟩ := h
          obtain ⟨r, hr', rfl⟩ := refAt hi
          have hb := e4.2.2 i r hr'
          have hlt : i < n := by
            rw [← e4.1]
            exact (List.getElem?_eq_some_iff.mp hr').1
          refine ⟨rfl, ?_⟩
          refine ⟨_, rfl, r, _, rfl, SqL.of (sm2 _ _ hb), fun ns' t hperm hasc nt => ?_⟩
          have tq : q ≠ t := ne_of_none f1 nt
          refine ⟨_, by rw [upd_ne tq]; exact f1, by rw [List.length_map, f2, sizeLine_eq]; omega, fun b o z => ?_, ps ++ [t], L ++ [ns'], by rw [upd_same, List.map_append]; rfl, by rw [List.length_append, f2]; rfl, by rw [List.length_append, f3]; rfl, fun k r' hk => ?_, fun k hk => ?_, fun k hk => ?_⟩
          · rw [upd_ne (ne_of_none z nq), upd_ne (ne_of_none (sm2 _ _ z) nt)]
            exact sm2 _ _ z
          · by_cases hl : k < ps.length
            · rw [List.getElem?_append_left hl] at hk
              obtain ⟨z1, z0, z2⟩ := f4 k r' hk
              rw [upd_ne z1, upd_ne (ne_of_none z2 nt), getDl (by omega)]
              exact ⟨z1, z0, z2⟩
            · rw [List.getElem?_append_right (by omega)] at hk
              have hk' : k = ps.length := by
                have := (List.getElem?_eq_some_iff.mp hk).1
                simp at this
                omega
              subst hk'
              rw [Nat.sub_self] at hk
              obtain rfl : t = r' := Option.some.inj hk
              rw [upd_ne tq.symm, upd_same, getDe (by omega)]
              exact ⟨tq.symm, sm.free (sm2.free nt), rfl⟩
          · by_cases c : k < i
            · rw [getDl (by omega)]
              exact f5 k c
            · rw [getDe (by omega), show k = i by omega]
              exact hperm
          · by_cases c : k < i
            · rw [getDl (by omega)]
              exact f6 k c
            · rw [getDe (by omega)]
              exact hasc
        · obtain ⟨sm2, ps, L, f1, f2, f3, f4, f5, f6⟩ := h
          rw [List.length_map, e4.1] at f2 f3 f5 f6
          exact k q H'' L fqH (sm.trans sm2) (fun H3 h3 => ⟨ps, h3 q _ fqH f1, by omega, fun k r e => h3 r _ (f4 k r e).2.1 (f4 k r e).2.2⟩) ⟨f3, f5, f6⟩
end

/-! ## Graph.__init__ -/
theorem eqPair (e f : Int × Int) : PyData.eqv (pairD e) (pairD f) = decide (e = f) := eqvPair e f
theorem GoodE.perm {n : Nat} {es fs : List (Int × Int)} (h : GoodE n es) (p : fs.Perm es) : GoodE n fs := ⟨fun e he => h.node e (p.mem_iff.mp he), (p.nodup_iff).mpr h.once, by rw [p.length_eq]; exact h.few⟩
def spGInit (CG : Addr) : Sp := fun vs H Q _ => ∃ (x dx p : Addr) (n : Nat) (es : List (Int × Int)), vs = [.ref x, .int n, .ref p] ∧ H x = some (.ins CG dx []) ∧ EdgesAt H p es ∧ GoodE n es ∧ 1 ≤ n ∧ n ≤ 16 ∧
  ∀ H' N j nr, (∀ b o, b ≠ x → H b = some o → H' b = some o) → H' x = some (.ins CG dx (gflds (N.length : Int) j nr)) → NewN H H' nr N → IsNear n es N → (∃ es', EdgesAt H' j es' ∧ es'.Perm es) → Q .non H'
section
variable {P : Program} {w : World} {K : PySem.W.Frag} {mg : Str → Option Value} {base : Heap} {CG : Addr}
theorem sc_ginit : FnScope ["self", "size", "edges", "joined"] ["self", "size", "edges"] (defScope s_Graph_init) := ⟨rfl, rfl, rfl, by decide +kernel, rfl, by decide +kernel, by decide +kernel⟩
theorem ok_ginit {f : Addr} {fd : FuncData} {dvs : List V} {kws : List (Str × V)} (F : FunD K "__init__" "Graph.__init__" (defArgs s_Graph_init) (defBody s_Graph_init) (defScope s_Graph_init) dvs kws f fd) (T : GTxt K mg CG) (M : Nms mg)
    {t16 t40 : Tok} (m16 : mg "MOST_NODES" = some (.int 16 t16)) (m40 : mg "MOST_EDGES" = some (.int 40 t40))
    (GW : At P w K mg base CX0 2 "is_integer_within" ["thing", "low", "high"] (spWithin K)) (GE : At P w K mg base CX0 5 "checked_edges" ["size", "edges"] (spEdges K)) (GN : At P w K mg base CX0 1 "neighbour_lists" ["size", "edges"] (spNear K)) :
    FnOk P w K mg base CX0 6 f fd ["self", "size", "edges"] (spGInit CG) := by
  obtain ⟨gw, gwd, GW, mW, kW, bW⟩ := GW
  obtain ⟨ge, ged, GE, mE, kE, bE⟩ := GE
  obtain ⟨gn, gnd, GN, mN, kN, bN⟩ := GN
  refine F.ok sc_ginit (fun vs H Q E h => ?_) (fun cdv A outer s H vs Q E hr h => ?_)
  · obtain ⟨x, dx, p, n, es, rfl, _⟩ := h
    rfl
  · obtain ⟨x, dx, p, n, es, rfl, hx, hp, good, n1, n16, k⟩ := h
    have hr2 : Room 2 _ := hr.mono (by decide)
    have hr1 : Room 1 _ := hr.mono (by decide)
    refine ⟨_, pss_cons (ps_if (pt_not (pt_val (pe_call GW hr2 (by rfl) mW kW bW .nil pass0 (pa_cons (pv 1) (pa_cons pe_int (pa_cons (pe_glob (v := .int 16) (by rfl) m16 ⟨_, rfl⟩) pa_nil)))))) (pss_one ps_never) pss_nil)
      (pss_cons (ps_set (i := 3) sc_ginit.nd rfl (Or.inl rfl) (pe_call GE hr (by rfl) mE kE bE .nil pass0 (pa_cons (pv 1) (pa_cons (pv 2) pa_nil))))
      (pss_cons (ps_if (pt_cmpR op_gt (pe_callB call_len_seq (by rfl) M.len boot_len1 (pa_cons (pv 3) pa_nil)) (pe_glob (v := .int 40) (by rfl) m40 ⟨_, rfl⟩) (nomark _)) (pss_one ps_never) pss_nil)
      (pss_cons (ps_fld (pv 0) (pv 1) rfl)
      (pss_cons (ps_fld (pv 0) (pv 3) rfl)
      (pss_one (ps_fld (pv 0) (pe_call GN hr1 (by rfl) mN kN bN .nil pass0 (pa_cons (pv 1) (pa_cons (pv 3) pa_nil))) rfl)))))), ?_⟩
    refine ⟨_, rfl, .int n, .int n, 1, 16, rfl, .dat (.int n), _, rfl, ?_⟩
    have hw : within 1 16 (.int (n : Int)) = true := by
      show (decide ((1 : Int) ≤ n) && decide ((n : Int) ≤ 16)) = true
      rw [decide_eq_true (by omega), decide_eq_true (by omega)]
      rfl
    rw [hw]
    refine iteF ?_
    refine ⟨_, rfl, _, rfl, n, p, es, rfl, hp, good, fun q H1 es1 nq s1 hq pe => ?_⟩
    have good1 := good.perm pe
    obtain ⟨ts, h1, h2⟩ := id hq
    refine ⟨_, rfl, q, _, rfl, .inl (SqL.of h1), _, _, rfl, rfl, _, rfl, ?_⟩
    have few := good1.few
    rw [decide_eq_false (by rw [List.length_map, h2.1]; omega)]
    refine iteF ?_
    have nxq : q ≠ x := (ne_of_none hx nq).symm
    refine ⟨_, rfl, _, rfl, x, CG, dx, _, rfl, s1 _ _ hx, T.cl, T.n1, by decide, ?_⟩
    refine ⟨_, rfl, _, rfl, x, CG, dx, _, rfl, upd_same, T.cl, T.n2, (by show 1 < 1000; decide), ?_⟩
    have hx1 := s1 _ _ hx
    have tx : ∀ (k : Nat) (t : Addr), ts[k]? = some t → t ≠ x := fun k t e => by
      obtain ⟨z, _, q2⟩ := h2.2 k t e
      exact ne_of q2 hx1 (by intro y; cases y)
    refine ⟨_, rfl, _, rfl, n, q, es1, rfl, ?_, good1, by omega, fun r H2 N nr s2 hN near => ?_⟩
    · exact ⟨ts, by rw [upd_ne nxq, upd_ne nxq]; exact h1, h2.1, fun k t e => by
        obtain ⟨z, q1, q2⟩ := h2.2 k t e
        exact ⟨z, q1, by rw [upd_ne (tx k t e), upd_ne (tx k t e)]; exact q2⟩⟩
    have hx2 := s2 _ _ (upd_same (H := upd H1 x (.ins CG dx (putF "node_count" (.int n) []))) (a := x) (o := .ins CG dx (putF "joined" (.ref q) (putF "node_count" (.int n) []))))
    refine ⟨_, rfl, x, CG, dx, _, rfl, hx2, T.cl, T.n3, (by show 2 < 1000; decide), ?_⟩
    have up : ∀ b o, b ≠ x → H1 b = some o → H2 b = some o := fun b o hb e => s2 _ _ (by rw [upd_ne hb, upd_ne hb]; exact e)
    refine k _ N q r (fun b o hb e => ?_) ?_ ?_ (near.perm pe) ⟨es1, ⟨ts, ?_, h2.1, fun k t e => ?_⟩, pe⟩
    · rw [upd_ne hb]
      exact up b o hb (s1 _ _ e)
    · rw [upd_same, near.len]
      rfl
    · intro H3 h3
      refine hN H3 fun b o hb e => ?_
      have bx : b ≠ x := fun z => by
        rw [z, upd_same] at hb
        cases hb
      rw [upd_ne bx, upd_ne bx] at hb
      exact h3 b o (s1.free hb) (by rw [upd_ne bx]; exact e)
    · rw [upd_ne nxq]
      exact up q _ nxq h1
    · obtain ⟨z, q1, q2⟩ := h2.2 k t e
      exact ⟨z, q1, by rw [upd_ne (tx k t e)]; exact up t _ (tx k t e) q2⟩
end

end K77

set_option Elab.async false
set_option linter.all false
set_option maxRecDepth 100000
set_option maxHeartbeats 8000000
namespace K77
open PySem PySem.Spec PyProof.Rows L2 FNX
/-! ## A new object -/
theorem newAt {H : Hp} {a : Addr} (o : HO) (h : H a = none) : ∃ H1, upd H a o = H1 ∧ Same H H1 ∧ H1 a = some o := ⟨_, rfl, same_upd h, upd_same⟩
theorem eqvSame {d : PyData} (h : SeqAt.shaped d = true) : PyData.eqv d d = true := SeqAt.eqv_refl d (SeqAt.canLay_of_shaped h)
theorem boot_repr1 : bootBuiltins "repr" = some (.builtin "repr") := by decide +kernel
theorem layInts : ∀ es : List Int, PyData.canLayAll0 (es.map PyData.int) = true
  | [] => rfl
  | _ :: es => by
    show (true && PyData.canLayAll0 (es.map PyData.int)) = true
    rw [layInts es]
    rfl
theorem depInts : ∀ es : List Int, PyData.depthAll (es.map PyData.int) ≤ 0
  | [] => by decide
  | _ :: es => by
    show max 0 (PyData.depthAll (es.map PyData.int)) ≤ 0
    have z := depInts es
    omega
theorem shapedInts (es : List Int) : SeqAt.shaped (.list (es.map PyData.int)) = true := by
  unfold SeqAt.shaped
  have e1 : PyData.canLay0 (.list (es.map PyData.int)) = true := layInts es
  have e2 : PyData.depth (.list (es.map PyData.int)) ≤ 64 := by
    show PyData.depthAll (es.map PyData.int) + 1 ≤ 64
    have z := depInts es
    omega
  rw [e1, decide_eq_true e2]
  rfl

/-! ## The law's own edges -/
/-- all but the object at p stays -/
def SameX (p : Addr) (H H' : Hp) : Prop := ∀ b o, b ≠ p → H b = some o → H' b = some o
theorem SameX.trans {p : Addr} {H H1 H2 : Hp} (a : SameX p H H1) (b : SameX p H1 H2) : SameX p H H2 := fun c o n e => b c o n (a c o n e)
theorem Same.x {p : Addr} {H H1 : Hp} (a : Same H H1) : SameX p H H1 := fun c o _ e => a c o e
theorem sameX_take {p : Addr} {H H' : Hp} (h : ∀ b, b ≠ p → H' b = H b) : SameX p H H' := fun b o n e => (h b n).trans e
theorem SameX.free {p q : Addr} {H H' : Hp} (a : SameX p H H') (h : PoolAt H p) (n : H' q = none) (hp : PoolAt H' p) : H q = none := by
  cases e : H q with
  | none => rfl
  | some o =>
    have z : q ≠ p := fun c => by
      obtain ⟨_, _, z, _⟩ := hp
      rw [← c, n] at z
      cases z
    rw [a q o z e] at n
    cases n
theorem PoolAt.same {p : Addr} {H H' : Hp} (h : PoolAt H p) (s : Same H H') : PoolAt H' p := by
  obtain ⟨c, d, z, r⟩ := h
  exact ⟨c, d, s _ _ z, r⟩
theorem PoolAt.ne {p q : Addr} {H : Hp} (h : PoolAt H p) (n : H q = none) : p ≠ q := by
  obtain ⟨_, _, z, _⟩ := h
  exact ne_of_none z n
theorem TupsAt.sameX {p : Addr} {H H' : Hp} {ts : List Addr} {es : List (Int × Int)} (h : TupsAt H ts es) (hp : PoolAt H p) (s : SameX p H H') : TupsAt H' ts es := ⟨h.1, fun k t e => by
  obtain ⟨x, h1, h2⟩ := h.2 k t e
  obtain ⟨_, _, z, _⟩ := hp
  exact ⟨x, h1, s _ _ (ne_of h2 z (by intro y; cases y)) h2⟩⟩
theorem TupsAt.push {H : Hp} {ts : List Addr} {es : List (Int × Int)} {t : Addr} {e : Int × Int} (h : TupsAt H ts es) (ht : H t = some (.tup [.int e.1, .int e.2])) : TupsAt H (ts ++ [t]) (es ++ [e]) := by
  refine ⟨by rw [List.length_append, List.length_append, h.1]; rfl, fun k t' hk => ?_⟩
  by_cases hl : k < ts.length
  · rw [List.getElem?_append_left hl] at hk
    obtain ⟨x, q1, q2⟩ := h.2 k t' hk
    exact ⟨x, by rw [List.getElem?_append_left (by rw [← h.1]; exact hl)]; exact q1, q2⟩
  · rw [List.getElem?_append_right (by omega)] at hk
    have hk' : k = ts.length := by
      have z := (List.getElem?_eq_some_iff.mp hk).1
      simp at z
      omega
    subst hk'
    rw [Nat.sub_self] at hk
    obtain rfl : t = t' := Option.some.inj hk
    refine ⟨e, ?_, ht⟩
    rw [h.1, List.getElem?_append_right (Nat.le_refl _), Nat.sub_self]
    rfl
def spJoins : Sp := fun vs H Q _ => ∃ (p : Addr) (n m : Nat), vs = [.ref p, .int n, .int m] ∧ PoolAt H p ∧ 1 ≤ n ∧ n ≤ 1000 ∧ m ≤ 40 ∧
  ∀ q H' es, H q = none → SameX p H H' → PoolAt H' p → EdgesAt H' q es → GoodE n es → Q (.ref q) H'
section
variable {P : Program} {w : World} {K : PySem.W.Frag} {mg : Str → Option Value} {base : Heap} {CG : Addr}
theorem sc_joins : FnScope ["_law_pool_here", "_law_many", "_law_top", "_law_found", "_law_turn", "_law_one", "_law_two"] ["_law_pool_here", "_law_many", "_law_top"] (defScope s__law_joins) := ⟨rfl, rfl, rfl, by decide +kernel, rfl, by decide +kernel, by decide +kernel⟩
theorem ok_joins {f : Addr} {fd : FuncData} (F : Fun K "_law_joins" "_law_joins" s__law_joins f fd) (M : Nms mg) (G : At P w K mg base CX0 1 "_law_take" ["_law_pool_here", "_law_sides"] spTake) :
    FnOk P w K mg base CX0 2 f fd ["_law_pool_here", "_law_many", "_law_top"] spJoins := by
  obtain ⟨c, cd, G, mG, kG, bG⟩ := G
  refine F.ok sc_joins (fun vs H Q E h => ?_) (fun cdv A outer s H vs Q E hr h => ?_)
  · obtain ⟨p, n, m, rfl, _⟩ := h
    rfl
  · obtain ⟨p, n, m, rfl, hp, n1, n2, m1, k⟩ := h
    have hu65 : A.units + 3 + 65 < cLine := by
      have := hr.un
      show A.units + 3 + 65 < _
      have z : A.units + 3 + 16 * 1 + 200 < cLine := this
      omega
    refine ⟨_, pss_cons (ps_set (i := 3) sc_joins.nd rfl (Or.inl rfl) (pe_lst pa_nil))
      (pss_cons (ps_for PassesOwn.never rfl (pi_range1 rfl M.range (pa_cons (pe_call G hr (by rfl) mG kG bG .nil pass0 (pa_cons (pv 0) (pa_cons (pe_op op_add (pv 2) pe_int) pa_nil))) pa_nil)) (pg_name (i := 4) sc_joins.nd rfl (Or.inl rfl))
        (pss_cons (ps_par (i := 5) (j := 6) (by rfl) sc_joins.nd rfl rfl (by decide) rfl rfl (pa_cons (pe_call G hr (by rfl) mG kG bG .nil pass0 (pa_cons (pv 0) (pa_cons (pv 1) pa_nil))) (pa_cons (pe_call G hr (by rfl) mG kG bG .nil pass0 (pa_cons (pv 0) (pa_cons (pv 1) pa_nil))) pa_nil)) (by rfl))
        (pss_one (ps_if (PW.pt (pw_and (pt_cmpR op_ne (pv 5) (pv 6) (nomark _)) (pw_and1 (pt_cmpR (op_notInD hu65) (pe_tup (pa_cons (pe_callB (call_min2 rfl) (by rfl) M.min boot_min1 (pa_cons (pv 5) (pa_cons (pv 6) pa_nil)))
            (pa_cons (pe_callB (call_max2 rfl) (by rfl) M.max boot_max1 (pa_cons (pv 5) (pa_cons (pv 6) pa_nil))) pa_nil))) (pv 3) (by rfl)))))
          (pss_one (ps_expr (pe_bm PySem.F.plainAttrs_list PySem.F.slot_list_append PySem.F.type_list_append mt_append (pv 3) (pa_cons (pe_tup (pa_cons (pe_callB (call_min2 rfl) (by rfl) M.min boot_min1 (pa_cons (pv 5) (pa_cons (pv 6) pa_nil)))
            (pa_cons (pe_callB (call_max2 rfl) (by rfl) M.max boot_max1 (pa_cons (pv 5) (pa_cons (pv 6) pa_nil))) pa_nil))) pa_nil)))) pss_nil))))
      (pss_one (ps_ret (pv 3)))), ?_⟩
    refine ⟨by show 0 ≤ sizeLine; decide, fun D nD => ?_⟩
    have pD := hp.ne nD
    refine ⟨_, rfl, _, rfl, _, _, rfl, rfl, p, _, rfl, hp.same (same_upd nD), by omega, by omega, fun r H1 r0 r1 hp1 s1 => ?_⟩
    have sx0 : SameX p H H1 := (Same.x (same_upd nD)).trans (sameX_take s1)
    have d1 : H1 D = some (.lst []) := by
      rw [s1 D pD.symm, upd_same]
    obtain ⟨m', rfl⟩ : ∃ m' : Nat, r = (m' : Int) := ⟨r.toNat, by omega⟩
    refine ⟨m', rfl, by omega, by omega, for_range (n := m') (fun i σ H' => ∃ (o4 o5 o6 : Option V) (ts : List Addr) (es : List (Int × Int)), σ = [some (.ref p), some (.int n), some (.int m), some (.ref D), o4, o5, o6] ∧
      SameX p H H' ∧ PoolAt H' p ∧ H' D = some (.lst (ts.map V.ref)) ∧ TupsAt H' ts es ∧ (∀ e ∈ es, 0 ≤ e.1 ∧ e.1 < e.2 ∧ e.2 < n) ∧ es.Nodup ∧ es.length ≤ i)
      ⟨none, none, none, [], [], rfl, sx0, hp1, d1, ⟨rfl, fun k t e => by simp at e⟩, by simp, by simp, by simp⟩ (fun i σ H' hi h => ?_) (fun σ H' h => ?_)⟩
    · obtain ⟨o4, o5, o6, ts, es, rfl, sx, hpp, hD, ht, g1, g2, g3⟩ := h
      refine ⟨_, rfl, _, rfl, p, _, rfl, hpp, by omega, by omega, fun a H2 a0 a1 hp2 s2 => ?_⟩
      refine ⟨_, rfl, _, rfl, p, _, rfl, hp2, by omega, by omega, fun b H3 b0 b1 hp3 s3 => ?_⟩
      have sx3 : SameX p H' H3 := (sameX_take s2).trans (sameX_take s3)
      have hD3 : H3 D = some (.lst (ts.map V.ref)) := sx3 D _ pD.symm hD
      have ht3 := ht.sameX hpp sx3
      have sxa := sx.trans sx3
      refine ⟨_, _, rfl, ?_⟩
      refine ⟨_, rfl, _, rfl, rfl, _, rfl, ?_⟩
      by_cases c : a = b
      · rw [decide_eq_true (congrArg V.int c)]
        exact iteF ⟨_, _, _, ts, es, rfl, sxa, hp3, hD3, ht3, g1, g2, by omega⟩
      have ne : decide (V.int a = V.int b) = false := decide_eq_false (fun z => by
        injection z with z
        exact c z)
      rw [ne]
      refine iteT ?_
      have em : (if b < a then b else a) = min a b := by
        split <;> omega
      have eM : (if b > a then b else a) = max a b := by
        split <;> omega
      refine ⟨_, rfl, _, rfl, a, b, rfl, _, rfl, _, rfl, a, b, rfl, by show 2 ≤ sizeLine; decide, fun T nT => ?_⟩
      rw [em, eM]
      have hDT := same_upd nT (o := .tup [V.int (min a b), V.int (max a b)]) _ _ hD3
      have htT := ht3.same (same_upd nT (o := .tup [V.int (min a b), V.int (max a b)]))
      have hpT := hp3.same (same_upd nT (o := .tup [V.int (min a b), V.int (max a b)]))
      have sxT : SameX p H (upd H3 T (.tup [V.int (min a b), V.int (max a b)])) := sxa.trans (Same.x (same_upd nT))
      refine ⟨_, rfl, pairD (min a b, max a b), es.map pairD, .tup (SqT.of upd_same) (.cons (.int _) (.cons (.int _) .nil)), .lst (SqL.of hDT) (dpTups htT), rfl, shapedPairs _, _, rfl, ?_⟩
      by_cases hm : (min a b, max a b) ∈ es
      · rw [anyPairT hm]
        exact iteF ⟨_, _, _, ts, es, rfl, sxT, hpT, hDT, htT, g1, g2, by omega⟩
      rw [anyPair hm]
      refine iteT ⟨_, rfl, .inl ⟨rfl, _, SqL.of hDT⟩, _, rfl, _, rfl, a, b, rfl, _, rfl, _, rfl, a, b, rfl, by show 2 ≤ sizeLine; decide, fun U nU => ?_⟩
      rw [em, eM]
      have hDU := same_upd nU (o := .tup [V.int (min a b), V.int (max a b)]) _ _ hDT
      have htU := htT.same (same_upd nU (o := .tup [V.int (min a b), V.int (max a b)]))
      have hpU := hpT.same (same_upd nU (o := .tup [V.int (min a b), V.int (max a b)]))
      have sxU := sxT.trans (Same.x (p := p) (same_upd nU (o := .tup [V.int (min a b), V.int (max a b)])))
      have hU : (upd (upd H3 T (.tup [V.int (min a b), V.int (max a b)])) U (.tup [V.int (min a b), V.int (max a b)])) U = some (.tup [V.int (min a b), V.int (max a b)]) := upd_same
      generalize upd (upd H3 T (.tup [V.int (min a b), V.int (max a b)])) U (.tup [V.int (min a b), V.int (max a b)]) = H5 at hDU htU hpU sxU hU ⊢
      refine ⟨D, _, _, rfl, rfl, hDU, by rw [List.length_map, htU.1, sizeLine_eq]; omega, ?_⟩
      have htP := htU.push (t := U) (e := (min a b, max a b)) hU
      refine ⟨_, _, _, ts ++ [U], es ++ [(min a b, max a b)], rfl, fun q o hq e => ?_, ?_, by rw [upd_same, List.map_append]; rfl, ⟨htP.1, fun k t hk => ?_⟩, fun e he => ?_, ?_, by rw [List.length_append]; show es.length + 1 ≤ _; omega⟩
      · have qD : q ≠ D := fun z => by
          rw [z, nD] at e
          cases e
        rw [upd_ne qD]
        exact sxU q o hq e
      · obtain ⟨c1, c2, z, y⟩ := hpU
        exact ⟨c1, c2, by rw [upd_ne pD]; exact z, y⟩
      · obtain ⟨x, q1, q2⟩ := htP.2 k t hk
        exact ⟨x, q1, by rw [upd_ne (ne_of q2 hDU (by intro y; cases y))]; exact q2⟩
      · rcases List.mem_append.mp he with he | he
        · exact g1 e he
        · rw [List.mem_singleton.mp he]
          show 0 ≤ min a b ∧ min a b < max a b ∧ max a b < n
          omega
      · refine List.nodup_append.mpr ⟨g2, by simp, fun x hx y hy => ?_⟩
        rw [List.mem_singleton.mp hy]
        exact fun z => hm (z ▸ hx)
    · obtain ⟨o4, o5, o6, ts, es, rfl, sx, hpp, hD, ht, g1, g2, g3⟩ := h
      exact ⟨_, rfl, k D H' es nD sx hpp ⟨ts, hD, ht⟩ ⟨g1, g2, by omega⟩⟩
end

/-! ## The law's own plays -/
/-- lists that stand still whatever becomes of the object at p -/
def NX (p : Addr) (H : Hp) (q : Addr) (N : List (List Int)) : Prop := ∀ H', SameX p H H' → NAt H' q N
theorem SameX.refl {p : Addr} {H : Hp} : SameX p H H := fun _ _ _ e => e
theorem NX.at {p q : Addr} {H : Hp} {N : List (List Int)} (h : NX p H q N) : NAt H q N := h H SameX.refl
theorem NX.same {p q : Addr} {H H' : Hp} {N : List (List Int)} (h : NX p H q N) (s : SameX p H H') : NX p H' q N := fun H2 s2 => h H2 (s.trans s2)
def spTurned (K : PySem.W.Frag) : Sp := fun vs H Q _ => ∃ (nr h : Addr) (N : List (List Int)) (x : List Int) (v : Int), vs = [.ref nr, .ref h, .int v] ∧ NAt H nr N ∧ WF N ∧ H h = some (.lst (x.map V.int)) ∧ x.length = N.length ∧ 0 ≤ v ∧ v < N.length ∧
  ∀ q H', H q = none → Same H H' → H' q = some (.lst ((flipL (N.getD v.toNat []) x v.toNat).map V.int)) → Q (.ref q) H'
def spSmall : Sp := fun vs H Q _ => ∃ (p : Addr) (n wd : Nat), vs = [.ref p, .int n, .int wd] ∧ PoolAt H p ∧ n ≤ 1000 ∧ wd ≤ 1000 ∧
  ∀ q H' (x : List Int), H q = none → SameX p H H' → PoolAt H' p → H' q = some (.lst (x.map V.int)) → x.length = n → (∀ o ∈ x, -(wd : Int) ≤ o ∧ o ≤ wd) → Q (.ref q) H'
def spLed (K : PySem.W.Frag) : Sp := fun vs H Q _ => ∃ (p nr h : Addr) (N : List (List Int)) (x : List Int), vs = [.ref p, .ref nr, .ref h] ∧ PoolAt H p ∧ NX p H nr N ∧ WF N ∧ H h = some (.lst (x.map V.int)) ∧ h ≠ p ∧ x.length = N.length ∧ N.length ≤ 1000 ∧
  ∀ q H' (vs : List Int), H q = none → SameX p H H' → PoolAt H' p → H' q = some (.lst (vs.map V.int)) → vs.length ≤ 12 → (∀ v ∈ vs, 0 ≤ v ∧ v < N.length) → Q (.ref q) H'
section
variable {P : Program} {w : World} {K : PySem.W.Frag} {mg : Str → Option Value} {base : Heap} {CG : Addr}
end

/-! ## _law_number, _law_numbers -/
def spNumber : Sp := fun vs H Q _ => ∃ p : Addr, vs = [.ref p] ∧ PoolAt H p ∧ ∀ (r : Int) H', r.natAbs ≤ 100000000000000000000000000000000000000 → SameX p H H' → PoolAt H' p → Q (.int r) H'
def spNumbers : Sp := fun vs H Q _ => ∃ (p : Addr) (n : Nat), vs = [.ref p, .int n] ∧ PoolAt H p ∧ n ≤ 1000 ∧
  ∀ q H' (x : List Int), H q = none → SameX p H H' → PoolAt H' p → H' q = some (.lst (x.map V.int)) → x.length = n → (∀ o ∈ x, o.natAbs ≤ 100000000000000000000000000000000000000) → Q (.ref q) H'
section
variable {P : Program} {w : World} {K : PySem.W.Frag} {mg : Str → Option Value} {base : Heap}
theorem sc_number : FnScope ["_law_pool_here", "_law_far"] ["_law_pool_here"] (defScope s__law_number) := ⟨rfl, rfl, rfl, by decide +kernel, rfl, by decide +kernel, by decide +kernel⟩
theorem ok_number {f : Addr} {fd : FuncData} (F : Fun K "_law_number" "_law_number" s__law_number f fd) (G : At P w K mg base CX0 1 "_law_take" ["_law_pool_here", "_law_sides"] spTake) :
    FnOk P w K mg base CX0 2 f fd ["_law_pool_here"] spNumber := by
  obtain ⟨c, cd, G, mG, kG, bG⟩ := G
  refine F.ok sc_number (fun vs H Q E h => ?_) (fun cdv A outer s H vs Q E hr h => ?_)
  · obtain ⟨p, rfl, _⟩ := h
    rfl
  · obtain ⟨p, rfl, hp, k⟩ := h
    refine ⟨_, pss_cons (ps_set (i := 1) sc_number.nd rfl (Or.inl rfl) (pe_op op_sub (pe_call G hr (by rfl) mG kG bG .nil pass0 (pa_cons (pv 0) (pa_cons (pe_op op_pow pe_int pe_int) pa_nil))) (pe_op op_mul pe_int (pe_op op_pow pe_int pe_int))))
      (pss_one (ps_ret (pe_ix ix_list (pe_lst (pa_cons (pe_op op_sub (pe_call G hr (by rfl) mG kG bG .nil pass0 (pa_cons (pv 0) (pa_cons pe_int pa_nil))) pe_int)
        (pa_cons (pe_op op_sub (pe_call G hr (by rfl) mG kG bG .nil pass0 (pa_cons (pv 0) (pa_cons pe_int pa_nil))) pe_int) (pa_cons pe_int (pa_cons (pv 1) (pa_cons (pe_op op_mulW (pv 1) (pe_op op_pow pe_int pe_int)) pa_nil))))))
        (pe_call G hr (by rfl) mG kG bG .nil pass0 (pa_cons (pv 0) (pa_cons pe_int pa_nil))) (fun _ _ => rfl)))), ?_⟩
    refine ⟨_, rfl, _, _, rfl, rfl, ⟨by decide, by decide, by decide⟩, p, 1000000000000000000, rfl, hp, by decide, by decide, fun r H1 r0 r1 hp1 t1 => ?_⟩
    refine ⟨_, _, rfl, rfl, ⟨by decide, by decide, by decide⟩, _, _, rfl, rfl, .inl ⟨by decide, by decide⟩, _, _, rfl, rfl, ?_⟩
    obtain ⟨far, hfar⟩ : ∃ far : Int, r - 5 * 10 ^ (17 : Int).toNat = far := ⟨_, rfl⟩
    have hb : far.natAbs ≤ 500000000000000000 := by
      have e : (5 : Int) * 10 ^ (17 : Int).toNat = 500000000000000000 := by decide +kernel
      rw [e] at hfar
      omega
    rw [show ((fun i j : Int => V.int (i - j)) r (5 * 10 ^ (17 : Int).toNat)) = V.int far from congrArg V.int hfar]
    refine ⟨_, rfl, p, 9, rfl, hp1, by decide, by decide, fun a H2 a0 a1 hp2 t2 => ⟨_, _, rfl, rfl, ?_⟩⟩
    refine ⟨_, rfl, p, 9, rfl, hp2, by decide, by decide, fun b H3 b0 b1 hp3 t3 => ⟨_, _, rfl, rfl, ?_⟩⟩
    refine ⟨_, rfl, _, rfl, _, _, rfl, rfl, ⟨by decide, by decide, by decide⟩, _, _, rfl, rfl, ?_, by show 5 ≤ sizeLine; decide, fun D nD => ?_⟩
    · exact wide_mul (a := 64) (b := 70) (by omega) (by decide +kernel) (by decide) (by decide) (by decide)
    obtain ⟨H4, q4, s4, h4⟩ := newAt (.lst [V.int (a - 4), V.int (b - 4), V.int 0, V.int far, V.int (far * 10 ^ (20 : Int).toNat)]) nD
    have q4' : upd H3 D (.lst [(fun i j : Int => V.int (i - j)) a 4, (fun i j : Int => V.int (i - j)) b 4, V.int 0, V.int far, (fun i j : Int => V.int (i * j)) far (10 ^ (20 : Int).toNat)]) = H4 := q4
    rw [q4']
    refine ⟨_, rfl, p, 5, rfl, hp3.same s4, by decide, by decide, fun e H5 e0 e1 hp5 t5 => ?_⟩
    have pD : D ≠ p := (hp3.ne nD).symm
    have h5 : H5 D = some (.lst [V.int (a - 4), V.int (b - 4), V.int 0, V.int far, V.int (far * 10 ^ (20 : Int).toNat)]) := (t5 D pD).trans h4
    have sx : SameX p H H5 := ((((sameX_take t1).trans (sameX_take t2)).trans (sameX_take t3)).trans (Same.x s4)).trans (sameX_take t5)
    have e20 : (10 : Int) ^ (20 : Int).toNat = 100000000000000000000 := by decide +kernel
    obtain rfl | rfl | rfl | rfl | rfl : e = 0 ∨ e = 1 ∨ e = 2 ∨ e = 3 ∨ e = 4 := by omega
    · exact ⟨D, _, _, _, rfl, rfl, SqL.of h5, rfl, k _ H5 (by omega) sx hp5⟩
    · exact ⟨D, _, _, _, rfl, rfl, SqL.of h5, rfl, k _ H5 (by omega) sx hp5⟩
    · exact ⟨D, _, _, _, rfl, rfl, SqL.of h5, rfl, k _ H5 (by decide) sx hp5⟩
    · exact ⟨D, _, _, _, rfl, rfl, SqL.of h5, rfl, k _ H5 (by omega) sx hp5⟩
    · refine ⟨D, _, _, _, rfl, rfl, SqL.of h5, rfl, k _ H5 ?_ sx hp5⟩
      rw [e20]
      omega
theorem sc_numbers : FnScope ["_law_pool_here", "_law_many", "_law_node"] ["_law_pool_here", "_law_many"] (defScope s__law_numbers) := ⟨rfl, rfl, rfl, by decide +kernel, rfl, by decide +kernel, by decide +kernel⟩
theorem ok_numbers {f : Addr} {fd : FuncData} (F : Fun K "_law_numbers" "_law_numbers" s__law_numbers f fd) (M : Nms mg) (G : At P w K mg base CX0 2 "_law_number" ["_law_pool_here"] spNumber) :
    FnOk P w K mg base CX0 3 f fd ["_law_pool_here", "_law_many"] spNumbers := by
  obtain ⟨c, cd, G, mG, kG, bG⟩ := G
  refine F.ok sc_numbers (fun vs H Q E h => ?_) (fun cdv A outer s H vs Q E hr h => ?_)
  · obtain ⟨p, n, rfl, _⟩ := h
    rfl
  · obtain ⟨p, n, rfl, hp, n1, k⟩ := h
    refine ⟨_, pss_one (ps_ret (pe_lc (own := [("_law_node", 2)]) (g := gName 2) (tt := tYes) rfl sc_numbers.nd
      (pi_range1 rfl M.range (pa_cons (pv 1) pa_nil))
      (blkOk_by (own := [("_law_node", 2)]) (N := ["_law_pool_here", "_law_many", "_law_node"]) (sc := defScope s__law_numbers) (by decide +kernel))
      (fun _ _ _ _ _ => pg_name (i := 2) sc_numbers.nd rfl (Or.inl rfl)) (fun _ _ _ _ _ => pts_nil)
      (fun _ _ _ _ _ => pe_call G hr (by rfl) mG kG bG .nil pass0 (pa_cons (pv 0) pa_nil)))), ?_⟩
    refine ⟨_, rfl, n, rfl, by omega, by omega, fun D hD => ?_⟩
    have pD := hp.ne hD
    refine lc_range (lo := 0) (fun i H' => SameX p H H' ∧ PoolAt H' p ∧ ∃ x : List Int, H' D = some (.lst (x.map V.int)) ∧ x.length = i ∧ ∀ o ∈ x, o.natAbs ≤ 100000000000000000000000000000000000000)
      ⟨Same.x (same_upd hD), hp.same (same_upd hD), [], upd_same, rfl, by simp⟩ (fun i H' hi h => ?_) (fun H' h => ?_)
    · obtain ⟨sx, hpp, x, e1, e2, e3⟩ := h
      refine ⟨rfl, ?_⟩
      refine ⟨_, rfl, p, rfl, hpp, fun r H2 hr2 s2 hp2 => ?_⟩
      have hD2 : H2 D = some (.lst (x.map V.int)) := s2 _ _ pD.symm e1
      refine ⟨_, hD2, by rw [List.length_map, e2, sizeLine_eq]; omega, fun b o hb e => ?_, ?_, x ++ [r], by rw [upd_same, List.map_append]; rfl, by rw [List.length_append, e2]; rfl, fun o ho => ?_⟩
      · rw [upd_ne (ne_of_none e hD)]
        exact s2 _ _ hb (sx b o hb e)
      · obtain ⟨c1, c2, z, y⟩ := hp2
        exact ⟨c1, c2, by rw [upd_ne pD]; exact z, y⟩
      · rcases List.mem_append.mp ho with ho | ho
        · exact e3 o ho
        · rw [List.mem_singleton.mp ho]
          exact hr2
    · obtain ⟨sx, hpp, x, e1, e2, e3⟩ := h
      exact k D H' x hD sx hpp e1 (by omega) e3
end

/-! ## Data whose text is short -/
structure Shw (k L : Nat) (d : PyData) : Prop where
  ok : d.showable = true
  deep : d.depth ≤ k
  len : d.shown.length ≤ L
theorem Shw.mono {k L k' L' : Nat} {d : PyData} (h : Shw k L d) (hk : k ≤ k') (hl : L ≤ L') : Shw k' L' d := ⟨h.ok, Nat.le_trans h.deep hk, Nat.le_trans h.len hl⟩
theorem textFrom_le : ∀ (ts : List Str) (k : Nat) (acc : Str), (textFrom k acc ts).length ≤ acc.length + piled ts
  | [], _, acc => by show acc.length ≤ acc.length + _; omega
  | t :: r, k, acc => by
    have h1 := textFrom_le r (k + 1) (acc ++ (if k > 0 then ", " else "" : String) ++ t)
    have e : (acc ++ (if k > 0 then ", " else "" : String) ++ t).length = acc.length + (if k > 0 then 2 else 0) + t.length := by
      rw [strLen_append, strLen_append]
      split <;> rfl
    have e2 : (if k > 0 then 2 else 0 : Nat) ≤ 2 := by split <;> decide
    rw [e] at h1
    rw [piled_cons]
    show (textFrom (k + 1) (acc ++ (if k > 0 then ", " else "" : String) ++ t) r).length ≤ _
    omega
theorem listText_le (ts : List Str) : (listText ts).length ≤ piled ts + 2 := by
  have h := textFrom_le ts 0 "["
  have e : (listText ts).length = (textFrom 0 "[" ts).length + 1 := by
    unfold listText
    rw [strLen_append]
    rfl
  have e1 : ((("[" : String) : Str)).length = 1 := rfl
  omega
theorem tupleText_le (ts : List Str) : (tupleText ts).length ≤ piled ts + 3 := by
  have e : (tupleText ts).length = 1 + (Str.join ", " ts).length + (((if ts.length == 1 then ",)" else ")" : String) : Str)).length := by
    unfold tupleText
    rw [strLen_append, strLen_append]
    rfl
  have e3 : (((if ts.length == 1 then ",)" else ")" : String) : Str)).length ≤ 2 := by split <;> decide
  cases ts with
  | nil =>
    have z : (Str.join ", " ([] : List Str)).length = 0 := rfl
    omega
  | cons t r =>
    have z := join_length_add (t :: r) (by simp)
    omega
theorem shownAll_map : ∀ es : List PyData, PyData.shownAll es = es.map PyData.shown
  | [] => by simp only [PyData.shownAll, List.map_nil]
  | e :: es => by simp only [PyData.shownAll, List.map_cons, shownAll_map es]
theorem piled_le {L : Nat} : ∀ {es : List PyData}, (∀ e ∈ es, e.shown.length ≤ L) → piled (es.map PyData.shown) ≤ (L + 2) * es.length
  | [], _ => Nat.zero_le _
  | e :: es, h => by
    have h1 := h e List.mem_cons_self
    have h2 := piled_le (es := es) fun x hx => h x (List.mem_cons_of_mem _ hx)
    rw [List.map_cons, piled_cons, List.length_cons, Nat.mul_succ]
    omega
theorem showAll_of : ∀ {es : List PyData}, (∀ e ∈ es, e.showable = true) → PyData.showableAll es = true
  | [], _ => by simp only [PyData.showableAll]
  | e :: es, h => by simp only [PyData.showableAll, h e List.mem_cons_self, showAll_of (es := es) fun x hx => h x (List.mem_cons_of_mem _ hx), Bool.and_self]
theorem deepAll_of {k : Nat} : ∀ {es : List PyData}, (∀ e ∈ es, e.depth ≤ k) → PyData.depthAll es ≤ k
  | [], _ => by simp only [PyData.depthAll]; omega
  | e :: es, h => by
    have h1 := h e List.mem_cons_self
    have h2 := deepAll_of (es := es) fun x hx => h x (List.mem_cons_of_mem _ hx)
    simp only [PyData.depthAll]
    omega
theorem shwList {k L m : Nat} {es : List PyData} (h : ∀ e ∈ es, Shw k L e) (hm : es.length ≤ m) : Shw (k + 1) ((L + 2) * m + 2) (.list es) := by
  refine ⟨?_, ?_, ?_⟩
  · simp only [PyData.showable]
    exact showAll_of fun e he => (h e he).ok
  · have z := deepAll_of (k := k) fun e he => (h e he).deep
    simp only [PyData.depth]
    omega
  · simp only [PyData.shown]
    rw [shownAll_map]
    have z := listText_le (es.map PyData.shown)
    have y := piled_le (L := L) (es := es) fun e he => (h e he).len
    have x := Nat.mul_le_mul_left (L + 2) hm
    omega
theorem shwTup {k L m : Nat} {es : List PyData} (h : ∀ e ∈ es, Shw k L e) (hm : es.length ≤ m) : Shw (k + 1) ((L + 2) * m + 3) (.tuple es) := by
  refine ⟨?_, ?_, ?_⟩
  · simp only [PyData.showable]
    exact showAll_of fun e he => (h e he).ok
  · have z := deepAll_of (k := k) fun e he => (h e he).deep
    simp only [PyData.depth]
    omega
  · simp only [PyData.shown]
    rw [shownAll_map]
    have z := tupleText_le (es.map PyData.shown)
    have y := piled_le (L := L) (es := es) fun e he => (h e he).len
    have x := Nat.mul_le_mul_left (L + 2) hm
    omega
theorem intLen {i : Int} {k : Nat} (hk : 0 < k) (h : i.natAbs < 10 ^ k) : (Str.ofString (toString i)).length ≤ k + 1 := by
  by_cases c : 0 ≤ i
  · have z := toString_length_le (v := i) c hk (by
      have e : i = (i.natAbs : Int) := by omega
      rw [e]
      exact_mod_cast h)
    omega
  · obtain ⟨m, rfl⟩ : ∃ m, i = Int.negSucc m := ⟨(-i - 1).toNat, by omega⟩
    have z := toString_length_le (v := ((m + 1 : Nat) : Int)) (by omega) hk (by exact_mod_cast h)
    have e : toString (Int.negSucc m) = "-" ++ toString (((m + 1 : Nat) : Int)) := rfl
    rw [e]
    have q : ∀ a b : String, (Str.ofString (a ++ b)).length = (Str.ofString a).length + (Str.ofString b).length := fun a b => by
      rw [Str.ofString_eq_toList, Str.ofString_eq_toList, Str.ofString_eq_toList]
      simp [Str.length]
    rw [q]
    have o : (Str.ofString "-").length = 1 := rfl
    omega
theorem shwInt {i : Int} (h : i.natAbs < 10 ^ 12) : Shw 0 13 (.int i) := by
  refine ⟨?_, ?_, ?_⟩
  · simp only [PyData.showable]
    refine decide_eq_true ?_
    have z : i.natAbs.log2 ≤ 40 := by
      by_cases c : i.natAbs = 0
      · rw [c]
        decide
      · exact Nat.le_of_lt_succ ((Nat.log2_lt c).mpr (Nat.lt_of_lt_of_le h (by decide)))
    omega
  · simp only [PyData.depth]
    omega
  · simp only [PyData.shown]
    exact intLen (by decide) h

/-! ## How great the numbers of a play grow -/
def Bd (C : Nat) (x : List Int) : Prop := ∀ z ∈ x, z.natAbs ≤ C
theorem Bd.getD {C : Nat} {x : List Int} (h : Bd C x) (i : Nat) : (x.getD i 0).natAbs ≤ C := by
  rw [List.getD_eq_getElem?_getD]
  cases e : x[i]? with
  | none => exact Nat.zero_le _
  | some z => exact h z (List.mem_of_getElem? e)
theorem Bd.mono {C D : Nat} {x : List Int} (h : Bd C x) (d : C ≤ D) : Bd D x := fun z hz => Nat.le_trans (h z hz) d
theorem Bd.set {C : Nat} {x : List Int} (h : Bd C x) {i : Nat} {v : Int} (hv : v.natAbs ≤ C) : Bd C (x.set i v) := fun z hz => by
  rcases List.mem_or_eq_of_mem_set hz with hz | rfl
  · exact h z hz
  · exact hv
theorem Bd.fold {B : Nat} {c : Int} (hc : c.natAbs ≤ B) : ∀ (row y : List Int) (C : Nat), Bd C y → Bd (C + row.length * B) (row.foldl (fun y o => y.set o.toNat (y.getD o.toNat 0 + c)) y)
  | [], y, C, h => by
    rw [List.foldl_nil]
    exact h.mono (by omega)
  | o :: row, y, C, h => by
    rw [List.foldl_cons]
    have z := Bd.fold hc row (y.set o.toNat (y.getD o.toNat 0 + c)) (C + B) ((h.mono (by omega)).set (by
      have q := h.getD o.toNat
      omega))
    refine z.mono ?_
    rw [List.length_cons, Nat.add_mul]
    omega
theorem Bd.flip {C : Nat} {row x : List Int} {v : Nat} (h : Bd C x) (hr : row.length ≤ 80) : Bd (81 * C) (flipL row x v) := by
  have hv := h.getD v
  have z := Bd.fold (c := x.getD v 0) hv row x C h
  have y := Nat.mul_le_mul_right C hr
  refine (z.mono ?_).set ?_
  · omega
  · omega
theorem Bd.follow {N : List (List Int)} (hN : ∀ i, (N.getD i []).length ≤ 80) : ∀ (vs : List Nat) (C : Nat) (x t x' t' : List Int), Bd C x → Bd C t → followL N vs x t = some (x', t') → Bd (81 ^ vs.length * C) x' ∧ Bd (81 ^ vs.length * C) t'
  | [], C, x, t, x', t', hx, ht, e => by
    unfold followL at e
    injection e with e
    injection e with e1 e2
    subst e1 e2
    rw [List.length_nil, Nat.pow_zero, Nat.one_mul]
    exact ⟨hx, ht⟩
  | v :: vs, C, x, t, x', t', hx, ht, e => by
    unfold followL at e
    by_cases c : x.getD v 0 ≥ 0
    · rw [if_pos c] at e
      cases e
    rw [if_neg c] at e
    have hv := hx.getD v
    have z := Bd.follow hN vs (81 * C) _ _ x' t' (hx.flip (hN v)) ((ht.mono (by omega)).set (by
      have q := ht.getD v
      omega)) e
    rw [List.length_cons, Nat.pow_succ, Nat.mul_assoc]
    exact z
theorem Bd.play {N : List (List Int)} {d : PyData} {x x' t' : List Int} (hN : ∀ i, (N.getD i []).length ≤ 80) (hx : Bd 4 x) (hd : lenD d ≤ 25) (e : playD N d x = some (x', t')) : Bd (81 ^ 25 * 4) x' ∧ Bd (81 ^ 25 * 4) t' := by
  cases d with
  | list ds =>
    have hp : playD N (.list ds) x = if ds.all (isNode N.length) = true then followL N (ds.map nodeOf) x (List.replicate N.length 0) else none := rfl
    rw [hp] at e
    by_cases c : ds.all (isNode N.length) = true
    · rw [if_pos c] at e
      have z := Bd.follow hN _ 4 _ _ _ _ hx (fun z hz => by
        rw [(List.mem_replicate.mp hz).2]
        decide) e
      have l : (ds.map nodeOf).length ≤ 25 := by
        rw [List.length_map]
        exact hd
      have p := Nat.mul_le_mul_right 4 (Nat.pow_le_pow_right (show 0 < 81 by decide) l)
      exact ⟨z.1.mono p, z.2.mono p⟩
    · rw [if_neg c] at e
      cases e
  | _ => cases e
theorem shwBig {i : Int} (h : i.natAbs ≤ 81 ^ 25 * 4) : Shw 0 61 (.int i) := by
  have h' : i.natAbs < 10 ^ 60 := Nat.lt_of_le_of_lt h (by decide +kernel)
  refine ⟨?_, ?_, ?_⟩
  · simp only [PyData.showable]
    refine decide_eq_true ?_
    by_cases c : i.natAbs = 0
    · rw [c]
      decide
    · exact Nat.lt_trans ((Nat.log2_lt c).mpr (Nat.lt_trans h' (show 10 ^ 60 < 2 ^ 250 by decide +kernel))) (by decide)
  · simp only [PyData.depth]
    omega
  · simp only [PyData.shown]
    exact intLen (by decide) h'
theorem shwBigs {x : List Int} (h : Bd (81 ^ 25 * 4) x) (hl : x.length ≤ 1000) : Shw 1 63002 (.list (x.map PyData.int)) :=
  (shwList (k := 0) (L := 61) (m := 1000) (fun e he => by
    obtain ⟨v, hv, rfl⟩ := List.mem_map.mp he
    exact shwBig (h v hv)) (by rw [List.length_map]; exact hl))

/-! ## Two negative nodes: both orders meet -/
def cnt (N : List (List Int)) (i j : Nat) : Int := (((N.getD i []).count (j : Int) : Nat) : Int)
structure Sym (N : List (List Int)) : Prop where
  wf : WF N
  sym : ∀ i j, i < N.length → j < N.length → cnt N i j = cnt N j i
  self : ∀ i, i < N.length → cnt N i i = 0
  one : ∀ i j, i < N.length → cnt N i j = 0 ∨ cnt N i j = 1
theorem getSet {x : List Int} {i j : Nat} {z : Int} (h : j < x.length) : (x.set j z).getD i 0 = if i = j then z else x.getD i 0 := by
  rw [List.getD_eq_getElem?_getD, List.getElem?_set, List.getD_eq_getElem?_getD]
  by_cases c : j = i
  · subst c
    rw [if_pos rfl, if_pos h, if_pos rfl]
    rfl
  · rw [if_neg c, if_neg (fun z => c z.symm)]
theorem foldAt (c : Int) : ∀ (row y : List Int) (i : Nat), (∀ o ∈ row, 0 ≤ o ∧ o < y.length) → (row.foldl (fun y o => y.set o.toNat (y.getD o.toNat 0 + c)) y).getD i 0 = y.getD i 0 + ((row.count (i : Int) : Nat) : Int) * c
  | [], y, i, _ => by
    rw [List.foldl_nil, List.count_nil]
    omega
  | o :: row, y, i, h => by
    have ho := h o List.mem_cons_self
    have hl : o.toNat < y.length := by omega
    rw [List.foldl_cons, foldAt c row _ i (fun u hu => by rw [List.length_set]; exact h u (List.mem_cons_of_mem _ hu)), getSet hl, List.count_cons]
    by_cases e : i = o.toNat
    · subst e
      rw [if_pos rfl, show ((o == ((o.toNat : Nat) : Int)) = true) from by rw [beq_iff_eq]; omega, if_pos rfl, Int.natCast_add, Int.add_mul]
      show _ + c + _ = _ + (_ + 1 * c)
      omega
    · rw [if_neg e, if_neg (by rw [beq_iff_eq]; omega), Nat.add_zero]
theorem flipAt {N : List (List Int)} {x : List Int} {v i : Nat} (wf : WF N) (hl : x.length = N.length) (hv : v < N.length) :
    (flipL (N.getD v []) x v).getD i 0 = if i = v then -(x.getD v 0) else x.getD i 0 + cnt N v i * x.getD v 0 := by
  unfold flipL
  rw [getSet (by rw [foldSetLen]; omega)]
  by_cases e : i = v
  · rw [if_pos e, if_pos e]
  · rw [if_neg e, if_neg e, foldAt _ _ _ _ (fun o ho => by rw [hl]; exact wf v hv o ho)]
    rfl
theorem extD {x y : List Int} (hl : x.length = y.length) (h : ∀ i, i < x.length → x.getD i 0 = y.getD i 0) : x = y := by
  apply List.ext_getElem hl
  intro i h1 h2
  have z := h i h1
  rw [List.getD_eq_getElem?_getD, List.getElem?_eq_getElem h1, List.getD_eq_getElem?_getD, List.getElem?_eq_getElem h2] at z
  exact z
section
variable {N : List (List Int)} {x : List Int} {a b : Nat}
/-- the two nodes are not neighbours -/
theorem swap2 (S : Sym N) (hl : x.length = N.length) (ha : a < N.length) (hb : b < N.length) (hab : a ≠ b) (h0 : cnt N a b = 0) :
    flipL (N.getD b []) (flipL (N.getD a []) x a) b = flipL (N.getD a []) (flipL (N.getD b []) x b) a := by
  have h0' : cnt N b a = 0 := by rw [S.sym b a hb ha]; exact h0
  refine extD (by rw [flipLen, flipLen, flipLen, flipLen]) (fun i hi => ?_)
  have l1 : (flipL (N.getD a []) x a).length = N.length := by rw [flipLen]; exact hl
  have l2 : (flipL (N.getD b []) x b).length = N.length := by rw [flipLen]; exact hl
  rw [flipAt S.wf l1 hb, flipAt S.wf l2 ha, flipAt S.wf hl ha, flipAt S.wf hl hb, flipAt S.wf hl ha, flipAt S.wf hl hb, h0, h0', if_neg hab, if_neg hab.symm]
  by_cases c1 : i = b
  · have c2 : ¬ i = a := fun z => hab (z ▸ c1)
    rw [if_pos c1, if_neg c2, if_pos c1]
    subst c1
    rw [h0]
    omega
  · rw [if_neg c1]
    by_cases c2 : i = a
    · rw [if_pos c2, if_pos c2]
      subst c2
      rw [h0']
      omega
    · rw [if_neg c2, if_neg c2, if_neg c1]
      rcases S.one a i ha with e | e <;> rcases S.one b i hb with f | f <;> rw [e, f] <;> omega
theorem swap3 (S : Sym N) (hl : x.length = N.length) (ha : a < N.length) (hb : b < N.length) (hab : a ≠ b) (h1 : cnt N a b = 1) :
    flipL (N.getD a []) (flipL (N.getD b []) (flipL (N.getD a []) x a) b) a = flipL (N.getD b []) (flipL (N.getD a []) (flipL (N.getD b []) x b) a) b := by
  have h1' : cnt N b a = 1 := by rw [S.sym b a hb ha]; exact h1
  refine extD (by rw [flipLen, flipLen, flipLen, flipLen, flipLen, flipLen]) (fun i hi => ?_)
  have l1 : (flipL (N.getD a []) x a).length = N.length := by rw [flipLen]; exact hl
  have l2 : (flipL (N.getD b []) x b).length = N.length := by rw [flipLen]; exact hl
  have l3 : (flipL (N.getD b []) (flipL (N.getD a []) x a) b).length = N.length := by rw [flipLen]; exact l1
  have l4 : (flipL (N.getD a []) (flipL (N.getD b []) x b) a).length = N.length := by rw [flipLen]; exact l2
  rw [flipAt S.wf l3 ha, flipAt S.wf l4 hb, flipAt S.wf l1 hb, flipAt S.wf l2 ha, flipAt S.wf l1 hb, flipAt S.wf l2 ha]
  rw [flipAt S.wf hl ha, flipAt S.wf hl hb, flipAt S.wf hl ha, flipAt S.wf hl hb, flipAt S.wf hl ha, flipAt S.wf hl hb, h1, h1']
  simp only [if_neg hab, if_neg hab.symm, if_true]
  by_cases c1 : i = b
  · have c2 : ¬ i = a := fun z => hab (z ▸ c1)
    rw [if_pos c1, if_neg c2]
    simp only [if_pos c1]
    subst c1
    rw [h1]
    omega
  · by_cases c2 : i = a
    · simp only [if_pos c2, if_neg c1]
      subst c2
      rw [h1']
      omega
    · simp only [if_neg c1, if_neg c2]
      rcases S.one a i ha with e | e <;> rcases S.one b i hb with f | f <;> rw [e, f] <;> omega
end
theorem oneCount (u v k l : Int) : List.count l (if u = k then [v] else []) = (if u = k ∧ v = l then 1 else 0) := by
  by_cases c : u = k
  · by_cases d : v = l
    · rw [if_pos c, if_pos (And.intro c d), d, List.count_singleton_self]
    · rw [if_pos c, if_neg (fun z => d z.2)]
      exact List.count_eq_zero.mpr (fun z => d (List.mem_singleton.mp z).symm)
  · rw [if_neg c, if_neg (fun z => c z.1)]
    rfl
theorem rowCount : ∀ (es : List (Int × Int)) (i j : Int), ((rowOf es i).count j) = (rowOf es j).count i
  | [], _, _ => rfl
  | e :: es, i, j => by
    have q : ∀ k : Int, rowOf (e :: es) k = ((if e.1 = k then [e.2] else []) ++ (if e.2 = k then [e.1] else [])) ++ rowOf es k := fun _ => rfl
    rw [q i, q j, List.count_append, List.count_append, List.count_append, List.count_append, rowCount es i j]
    rw [oneCount, oneCount, oneCount, oneCount]
    congr 1
    split <;> split <;> split <;> split <;> omega
theorem rowLe : ∀ (es : List (Int × Int)) (i j : Int), es.Nodup → (∀ e ∈ es, e.1 < e.2) → (rowOf es i).count j ≤ 1 ∧ (i = j → (rowOf es i).count j = 0) ∧ ((rowOf es i).count j = 1 ↔ ((min i j, max i j) ∈ es))
  | [], _, _, _, _ => ⟨Nat.zero_le _, fun _ => rfl, ⟨fun z => (by cases z), fun z => (by cases z)⟩⟩
  | e :: es, i, j, hn, ha => by
    have q : rowOf (e :: es) i = ((if e.1 = i then [e.2] else []) ++ (if e.2 = i then [e.1] else [])) ++ rowOf es i := rfl
    obtain ⟨h1, h2⟩ := List.nodup_cons.mp hn
    obtain ⟨r1, r2, r3⟩ := rowLe es i j h2 fun u hu => ha u (List.mem_cons_of_mem _ hu)
    have lt := ha e List.mem_cons_self
    rw [q, List.count_append, List.count_append, oneCount, oneCount]
    by_cases c : e = (min i j, max i j)
    · have hno : (rowOf es i).count j = 0 := by
        rcases Nat.eq_zero_or_pos ((rowOf es i).count j) with z | z
        · exact z
        · exact absurd (r3.mp (by omega)) (c ▸ h1)
      have e1 : e.1 = min i j := by rw [c]
      have e2 : e.2 = max i j := by rw [c]
      have tot : (if e.1 = i ∧ e.2 = j then 1 else 0 : Nat) + (if e.2 = i ∧ e.1 = j then 1 else 0) = 1 := by
        by_cases d : i < j
        · rw [if_pos (by omega), if_neg (by omega)]
        · rw [if_neg (by omega), if_pos (by omega)]
      rw [tot, hno]
      exact ⟨by omega, fun z => by omega, ⟨fun _ => c ▸ List.mem_cons_self, fun _ => rfl⟩⟩
    · have n1 : ¬ (e.1 = i ∧ e.2 = j) := fun z => c (by
        rw [show e = (e.1, e.2) from rfl, z.1, z.2]
        have : min i j = i := by omega
        have : max i j = j := by omega
        rw [‹min i j = i›, ‹max i j = j›])
      have n2 : ¬ (e.2 = i ∧ e.1 = j) := fun z => c (by
        rw [show e = (e.1, e.2) from rfl, z.1, z.2]
        have : min i j = j := by omega
        have : max i j = i := by omega
        rw [‹min i j = j›, ‹max i j = i›])
      rw [if_neg n1, if_neg n2, Nat.zero_add]
      refine ⟨r1, r2, r3.trans ⟨fun z => List.mem_cons_of_mem _ z, fun z => ?_⟩⟩
      rcases List.mem_cons.mp z with z | z
      · exact absurd z.symm c
      · exact z
theorem IsNear.symm {n : Nat} {es : List (Int × Int)} {N : List (List Int)} (h : IsNear n es N) (g : GoodE n es) : Sym N := by
  have c : ∀ i j, i < N.length → cnt N i j = (((rowOf es (i : Int)).count (j : Int) : Nat) : Int) := fun i j hi => by
    unfold cnt
    rw [(h.row i (by rw [← h.len]; exact hi)).count_eq]
  have lt : ∀ e ∈ es, e.1 < e.2 := fun e he => (g.node e he).2.1
  refine ⟨h.wf g.node, fun i j hi hj => ?_, fun i hi => ?_, fun i j hi => ?_⟩
  · rw [c i j hi, c j i hj, rowCount]
  · rw [c i i hi, (rowLe es i i g.once lt).2.1 rfl]
    rfl
  · rw [c i j hi]
    have z := (rowLe es (i : Int) (j : Int) g.once lt).1
    omega
theorem IsNear.edge {n : Nat} {es : List (Int × Int)} {N : List (List Int)} (h : IsNear n es N) (g : GoodE n es) {i j : Nat} (hi : i < N.length) : cnt N i j = 1 ↔ (min (i : Int) j, max (i : Int) j) ∈ es := by
  unfold cnt
  rw [(h.row i (by rw [← h.len]; exact hi)).count_eq, ← (rowLe es (i : Int) (j : Int) g.once fun e he => (g.node e he).2.1).2.2]
  omega

end K77

set_option Elab.async false
set_option linter.all false
set_option maxRecDepth 100000
set_option maxHeartbeats 8000000
namespace K77
open PySem PySem.Spec PyProof.Rows L2 FNX
/-! ## Around a law -/
def GX (CG p : Addr) (H : Hp) (g : Addr) (N : List (List Int)) : Prop := ∀ H', SameX p H H' → GAt CG H' g N
theorem GX.at {CG p g : Addr} {H : Hp} {N : List (List Int)} (h : GX CG p H g N) : GAt CG H g N := h H SameX.refl
theorem GX.same {CG p g : Addr} {H H' : Hp} {N : List (List Int)} (h : GX CG p H g N) (s : SameX p H H') : GX CG p H' g N := fun H2 s2 => h H2 (s.trans s2)
theorem SameX.same {p : Addr} {H H' : Hp} (s : SameX p H H') (n : H p = none) : Same H H' := fun b o e => s b o (ne_of_none e n) e
theorem NewN.x {H H1 : Hp} {p q : Addr} {N : List (List Int)} (h : NewN H H1 q N) (hp : PoolAt H p) : NX p H1 q N := fun H2 s => h H2 fun b o n e => s b o (hp.ne n).symm e
theorem gx_of {CG p g dx j nr : Addr} {H H1 : Hp} {N : List (List Int)} (hp : PoolAt H p) (gp : g ≠ p) (hg : H1 g = some (.ins CG dx (gflds (N.length : Int) j nr))) (h : NewN H H1 nr N) : GX CG p H1 g N :=
  fun H2 s => ⟨dx, j, nr, s g _ gp hg, (h.x hp) H2 s⟩
theorem sqLSame {K : PySem.W.Frag} {H H' : Hp} {a : Addr} {xs : List V} (h : SqL K H a xs) (s : Same H H') : SqL K H' a xs := by
  rcases h with (h | ⟨o, h⟩) | h
  · exact .inl (.inl (s _ _ h))
  · exact .inl (.inr ⟨o, s _ _ h⟩)
  · exact .inr h
theorem near_rows {n : Nat} {es : List (Int × Int)} {N : List (List Int)} (h : IsNear n es N) (g : GoodE n es) : ∀ i, (N.getD i []).length ≤ 80 := fun i => by
  by_cases hi : i < n
  · rw [(h.row i hi).length_eq]
    have := rowOf_len es (i : Int)
    have := g.few
    omega
  · rw [List.getD_eq_getElem?_getD, List.getElem?_eq_none (by rw [h.len]; omega)]
    exact Nat.zero_le _
theorem shwLine {k L : Nat} {d : PyData} (h : Shw k L d) (hk : k ≤ 60) (hL : L ≤ 1000000) : d.showable = true ∧ d.depth ≤ 60 ∧ d.shown.length ≤ sizeLine := ⟨h.ok, Nat.le_trans h.deep hk, Nat.le_trans h.len (Nat.le_trans hL (by rw [sizeLine_eq]; decide))⟩

/-! ## Around a law with doors -/
abbrev lamT (Pt : Addr) : List (Addr × Str) := [(Pt, (("law" : Str) ++ ".<locals>.") ++ "<lambda>")]
def spLawT (K : PySem.W.Frag) (cs : List (Addr × Addr)) : Sp := fun vs H Q _ => ∃ (a : Addr) (ns : List Int), vs = [.ref a] ∧ SqL K H a (ns.map V.int) ∧ ns.length ≤ 63 ∧ (∀ p ∈ cs, H p.2 = some (.tbl #[])) ∧ ∀ H', Q (.bl true) H'
theorem tabs0 {H : Hp} {c Pt : Addr} (h : ∀ p ∈ [(c, Pt)], H p.2 = some (.tbl #[])) : LamX.Tabs (lamT Pt) H := fun p hp => by
  rw [List.mem_singleton.mp hp]
  exact .nil (h (c, Pt) (List.mem_singleton.mpr rfl))
theorem posInj {x y : List Int} (h : posD x = posD y) : x = y := by
  have z : x.map PyData.int = y.map PyData.int := by
    injection h
  exact List.map_inj_right (fun _ _ e => by injection e) |>.mp z
theorem sqLExt {K : PySem.W.Frag} {H H' : Hp} {a : Addr} {xs : List V} (h : SqL K H a xs) (s : LamX.ExtN H H') : SqL K H' a xs := by
  rcases h with (h | ⟨o, h⟩) | h
  · exact .inl (.inl (s _ _ h fun _ z => by cases z))
  · exact .inl (.inr ⟨o, s _ _ h fun _ z => by cases z⟩)
  · exact .inr h
theorem naExt {H H' : Hp} {p : Addr} {N : List (List Int)} (h : NAt H p N) (s : LamX.ExtN H H') : NAt H' p N := by
  obtain ⟨rows, h1, h2⟩ := h
  exact ⟨rows, s _ _ h1 (fun _ z => by cases z), h2.1, fun k r e => s _ _ (h2.2 k r e) fun _ z => by cases z⟩
theorem gaExt {CG : Addr} {H H' : Hp} {g : Addr} {N : List (List Int)} (h : GAt CG H g N) (s : LamX.ExtN H H') : GAt CG H' g N := by
  obtain ⟨dx, j, nr, h1, h2⟩ := h
  exact ⟨dx, j, nr, s _ _ h1 (fun _ z => by cases z), naExt h2 s⟩
theorem Same.ext {H H' : Hp} (s : Same H H') : LamX.ExtN H H' := fun b o e _ => s b o e
theorem same_updN {H H' : Hp} {a : Addr} {o : HO} (s : Same H H') (n : H a = none) : Same H (upd H' a o) := fun b u e => by
  rw [upd_ne (ne_of_none e n)]
  exact s b u e
theorem dpNats {K : PySem.W.Frag} {H : Hp} : ∀ x : List Nat, DpAll K H (x.map fun v : Nat => V.int (v : Int)) (x.map fun v : Nat => PyData.int (v : Int))
  | [] => .nil
  | _ :: x => .cons (.int _) (dpNats x)
theorem shapedTup {xs ys : List Int} : SeqAt.shaped (.tuple [posD xs, posD ys]) = true := by
  unfold SeqAt.shaped
  have a1 := layInts xs
  have a2 := layInts ys
  have b1 := depInts xs
  have b2 := depInts ys
  have e1 : PyData.canLay0 (.tuple [posD xs, posD ys]) = true := by
    show (PyData.canLayAll0 (xs.map PyData.int) && (PyData.canLayAll0 (ys.map PyData.int) && true)) = true
    rw [a1, a2]
    rfl
  have e2 : PyData.depth (.tuple [posD xs, posD ys]) ≤ 64 := by
    show max (PyData.depthAll (xs.map PyData.int) + 1) (max (PyData.depthAll (ys.map PyData.int) + 1) 0) + 1 ≤ 64
    omega
  rw [e1, decide_eq_true e2]
  rfl
theorem shwPow {i : Int} {k : Nat} (hk : 0 < k) (k2 : k ≤ 400) (h : i.natAbs < 10 ^ k) : Shw 0 (k + 1) (.int i) := by
  refine ⟨?_, ?_, ?_⟩
  · simp only [PyData.showable]
    refine decide_eq_true ?_
    by_cases c : i.natAbs = 0
    · rw [c]
      decide
    · have z : i.natAbs < 2 ^ (4 * k) := Nat.lt_of_lt_of_le h (by
        rw [Nat.pow_mul]
        exact Nat.pow_le_pow_left (by decide) k)
      have y := (Nat.log2_lt c).mpr z
      exact Nat.lt_trans y (Nat.lt_of_le_of_lt (Nat.mul_le_mul_left 4 k2) (by decide))
  · simp only [PyData.depth]
    omega
  · simp only [PyData.shown]
    exact intLen hk h
theorem shwInts {x : List Int} {k m : Nat} (hk : 0 < k) (k2 : k ≤ 400) (h : ∀ v ∈ x, v.natAbs < 10 ^ k) (hl : x.length ≤ m) : Shw 1 ((k + 3) * m + 2) (posD x) :=
  shwList (k := 0) (L := k + 1) (m := m) (fun e he => by
    obtain ⟨v, hv, rfl⟩ := List.mem_map.mp he
    exact shwPow hk k2 (h v hv)) (by rw [List.length_map]; exact hl)
theorem repOne {α : Type} (n : Nat) (v : α) : (List.replicate n [v]).flatten = List.replicate n v := by
  induction n with
  | zero => rfl
  | succ n ih =>
    rw [List.replicate_succ, List.flatten_cons, ih, List.replicate_succ]
    rfl
theorem dpBls {K : PySem.W.Frag} {H : Hp} : ∀ n : Nat, DpAll K H (List.replicate n (V.bl true)) (List.replicate n (PyData.bool true))
  | 0 => .nil
  | n + 1 => .cons (.bl _) (dpBls n)

/-! ## Told by a door -/
/-- what an exception of the class C with the value v leaves -/
def told (C : Addr) (v : V) (H : Hp) (E : XK) : Prop := ∀ H' dd, Same H H' → H dd = none → H' dd = some (.xd [(("value" : Str), v)]) → E (.ref C) (some dd) H'
theorem toldHead {K : PySem.W.Frag} {C : Addr} {w : Str} {r : List (Addr × Str)} {v : V} {d : PyData} {H : Hp} {Q : VK} (x : PySem.W.exmOne K (.ref C) (.ref C) = some true) (hd : ∀ H', Same H H' → Rd K H' v d)
    (sh : d.showable = true ∧ d.depth ≤ 60 ∧ d.shown.length ≤ sizeLine) (k : ∀ H' p, Same H H' → H' p = none → Q (.ref p) (upd H' p (.lst [.str w, .str d.shown]))) : told C v H (wErr K mkPair Q ((C, w) :: r)) :=
  fun H' dd s _ hx => ⟨true, x, fun _ => ⟨rfl, dd, v, d, rfl, hx, hd H' s, sh.1, sh.2.1, sh.2.2, fun p np => k H' p s np⟩, (fun z => nomatch z)⟩
theorem toldTail {K : PySem.W.Frag} {mk : Str → Str → Hp → (V → Hp → Prop) → Prop} {C C0 : Addr} {w : Str} {r : List (Addr × Str)} {v : V} {H : Hp} {Q : VK} (x : PySem.W.exmOne K (.ref C) (.ref C0) = some false) (t : told C v H (wErr K mk Q r)) : told C v H (wErr K mk Q ((C0, w) :: r)) :=
  fun H' dd s nd hx => ⟨false, x, (fun z => nomatch z), fun _ => t H' dd s nd hx⟩
theorem edExt {H H' : Hp} {q : Addr} {es : List (Int × Int)} (h : EdgesAt H q es) (s : LamX.ExtN H H') : EdgesAt H' q es := by
  obtain ⟨ts, h1, h2, h3⟩ := h
  refine ⟨ts, s _ _ h1 (fun _ z => by cases z), h2, fun k t e => ?_⟩
  obtain ⟨x, a, b⟩ := h3 k t e
  exact ⟨x, a, s _ _ b (fun _ z => by cases z)⟩
theorem edX {H H' : Hp} {p q : Addr} {es : List (Int × Int)} (h : EdgesAt H q es) (hp : PoolAt H p) (n : p ≠ q) (s : SameX p H H') : EdgesAt H' q es := by
  obtain ⟨ts, h1, h2⟩ := h
  exact ⟨ts, s _ _ n.symm h1, h2.sameX hp s⟩
theorem shwI {i : Int} (h : i.natAbs < 10 ^ 30) : (PyData.int i).showable = true ∧ (PyData.int i).depth ≤ 60 ∧ (PyData.int i).shown.length ≤ sizeLine := shwLine (shwPow (k := 30) (by decide) (by decide) h) (by decide) (by decide)

end K77

set_option Elab.async false
set_option linter.all false
set_option maxRecDepth 100000
set_option maxHeartbeats 8000000
namespace K77
open PySem PySem.Spec PyProof.Rows L2 FNX
/-! ## Graphs by their edges, in any order; constructors that refuse; ==, len -/
def ordP (e : Int × Int) : Int × Int := (min e.1 e.2, max e.1 e.2)
structure GoodU (n : Nat) (es : List (Int × Int)) : Prop where
  node : ∀ e ∈ es, 0 ≤ e.1 ∧ e.1 < n ∧ 0 ≤ e.2 ∧ e.2 < n ∧ e.1 ≠ e.2
  once : (es.map ordP).Nodup
  few : es.length ≤ 1000
def SrtE (es : List (Int × Int)) : Prop := es.Pairwise fun a b => a.1 < b.1 ∨ (a.1 = b.1 ∧ a.2 ≤ b.2)
theorem SrtE.uniq {a b : List (Int × Int)} (p : a.Perm b) (ha : SrtE a) (hb : SrtE b) : a = b := List.Perm.eq_of_pairwise (fun a b _ _ h1 h2 => Prod.ext (by omega) (by omega)) ha hb p
theorem GoodU.ord {n : Nat} {es : List (Int × Int)} (h : GoodU n es) (f : es.length ≤ 40) : GoodE n (es.map ordP) := ⟨fun e he => by
  obtain ⟨d, hd, rfl⟩ := List.mem_map.mp he
  have := h.node d hd
  unfold ordP
  dsimp only
  omega, h.once, by rw [List.length_map]; exact f⟩
theorem ordId {e : Int × Int} (h : e.1 < e.2) : ordP e = e := by
  unfold ordP
  exact Prod.ext (show min e.1 e.2 = e.1 by omega) (show max e.1 e.2 = e.2 by omega)
theorem ordMap {n : Nat} {es : List (Int × Int)} (h : GoodE n es) : es.map ordP = es := by
  have z : ∀ e ∈ es, ordP e = e := fun e he => ordId (h.node e he).2.1
  exact (List.map_congr_left z).trans (List.map_id es)
theorem GoodE.toU {n : Nat} {es : List (Int × Int)} (h : GoodE n es) : GoodU n es := ⟨fun e he => by have := h.node e he; omega, by rw [ordMap h]; exact h.once, Nat.le_trans h.few (by decide)⟩
structure GE (CG : Addr) (H : Hp) (g : Addr) (n : Nat) (es : List (Int × Int)) : Prop where
  obj : ∃ dx j nr, H g = some (.ins CG dx (gflds (n : Int) j nr)) ∧ EdgesAt H j es
  good : GoodE n es
  asc : SrtE es
  n1 : 1 ≤ n
  n16 : n ≤ 16
theorem GE.same {CG : Addr} {H H' : Hp} {g : Addr} {n : Nat} {es : List (Int × Int)} (h : GE CG H g n es) (s : Same H H') : GE CG H' g n es := by
  obtain ⟨⟨dx, j, nr, h1, h2⟩, a, b, c, d⟩ := h
  exact ⟨⟨dx, j, nr, s _ _ h1, h2.same s⟩, a, b, c, d⟩
def spIsEdgeU : Sp := fun vs H Q _ => ∃ (n : Nat) (t : Addr) (e : Int × Int), vs = [.int n, .ref t] ∧ H t = some (.tup [.int e.1, .int e.2]) ∧ 0 ≤ e.1 ∧ e.1 < n ∧ 0 ≤ e.2 ∧ e.2 < n ∧ e.1 ≠ e.2 ∧ Q (.bl true) H
def spEdgesU (K : PySem.W.Frag) : Sp := fun vs H Q _ => ∃ (n : Nat) (p : Addr) (es : List (Int × Int)), vs = [.int n, .ref p] ∧ EdgesAt H p es ∧ GoodU n es ∧
  ∀ q H' es', H q = none → Same H H' → EdgesAt H' q es' → es'.Perm (es.map ordP) → SrtE es' → Q (.ref q) H'
def spGInitX (CG CS CM : Addr) : Sp := fun vs H Q E => ∃ (x dx p : Addr) (n : Nat) (es : List (Int × Int)), vs = [.ref x, .int n, .ref p] ∧ H x = some (.ins CG dx []) ∧ EdgesAt H p es ∧ GoodU n es ∧ 1 ≤ n ∧
  (16 < n → told CS (.int n) H E) ∧ (n ≤ 16 → 40 < es.length → told CM (.int es.length) H E) ∧
  (n ≤ 16 → es.length ≤ 40 → ∀ H' j nr es', (∀ b o, b ≠ x → H b = some o → H' b = some o) → H' x = some (.ins CG dx (gflds (n : Int) j nr)) → EdgesAt H' j es' → es'.Perm (es.map ordP) → SrtE es' → H j = none → Q .non H')
def spSizeE (CG : Addr) : Sp := fun vs H Q _ => ∃ g n es, vs = [.ref g] ∧ GE CG H g n es ∧ Q (.int (n : Int)) H
def spEdgesOf (CG : Addr) : Sp := fun vs H Q _ => ∃ g n es, vs = [.ref g] ∧ GE CG H g n es ∧ ∀ q H', H q = none → Same H H' → EdgesAt H' q es → Q (.ref q) H'
def spLenE (CG : Addr) : Sp := fun vs H Q _ => ∃ g n es, vs = [.ref g] ∧ GE CG H g n es ∧ Q (.int (es.length : Int)) H
def RGraph (CG : Addr) (a b : Addr) (H : Hp) : Prop := ∃ n es, GE CG H a n es ∧ GE CG H b n es
theorem fromExt {H H' : Hp} (e : L2.Ext H H') : Same H H' := fun b o h => e b o h
section
variable {P : Program} {w : World} {K : PySem.W.Frag} {mg : Str → Option Value} {base : Heap} {CG CS CM : Addr}
theorem ok_is_edgeU {f : Addr} {fd : FuncData} (F : Fun K "is_edge" "is_edge" s_is_edge f fd) (M : Nms mg) (G : At P w K mg base CX0 3 "is_node" ["size", "thing"] (spIsNode K)) :
    FnOk P w K mg base CX0 4 f fd ["size", "thing"] spIsEdgeU := by
  obtain ⟨c, cd, G, mG, kG, bG⟩ := G
  refine F.ok sc_is_edge (fun vs H Q E h => ?_) (fun cdv A outer s H vs Q E hr h => ?_)
  · obtain ⟨n, t, e, rfl, _⟩ := h
    rfl
  · obtain ⟨n, t, e, rfl, ht, h0, h1, h2, h3, h4, k⟩ := h
    have nd := sc_is_edge.nd
    refine ⟨_, (pss_cons (ps_if (PW.pt (pw_or (pt_not (pt_val (pe_callB call_isi (by rfl) M.isi boot_isi (pa_cons (pv 1) (pa_cons (pe_bltn (v := V.ty "tuple") rfl M.tuple (by decide +kernel) rfl) pa_nil))))) (pw_or1 (pt_cmpR op_ne (pe_callB call_len_seq (by rfl) M.len boot_len1 (pa_cons (pv 1) pa_nil)) pe_int (nomark _))))) (pss_one (ps_ret pe_bl)) pss_nil)
      (pss_cons (ps_asg (pv 1) (pg_tup rfl (pgs_cons (pg_name (i := 2) nd rfl (Or.inl rfl)) (pgs_cons (pg_name (i := 3) nd rfl (Or.inl rfl)) pgs_nil))))
      (pss_one (ps_ret (pe_and (pe_call G hr (by rfl) mG kG bG .nil pass0 (pa_cons (pv 0) (pa_cons (pv 2) pa_nil))) (pe_and (pe_call G hr (by rfl) mG kG bG .nil pass0 (pa_cons (pv 0) (pa_cons (pv 3) pa_nil))) (pe_one (pe_cmpR op_ne (pv 2) (pv 3) (nomark _))))))))), ?_⟩
    refine ⟨_, rfl, .ref t, _, _, _, _, rfl, .ty _, .base (.tup ht), kitT K, _, rfl, iteF ?_⟩
    refine ⟨_, rfl, t, _, rfl, .inr (SqT.of ht), rfl, _, rfl, iteF ?_⟩
    refine ⟨_, rfl, t, _, rfl, SqT.of ht, rfl, _, _, rfl, _, _, rfl, rfl, ?_⟩
    refine ⟨_, rfl, _, rfl, .int e.1, .int e.1, n, rfl, .dat (.int _), _, rfl, ?_⟩
    rw [nodeIn h0 h1]
    refine iteT ⟨_, rfl, _, rfl, .int e.2, .int e.2, n, rfl, .dat (.int _), _, rfl, ?_⟩
    rw [nodeIn h2 h3]
    refine iteT ⟨_, rfl, _, rfl, rfl, ?_⟩
    have ne : decide (V.int e.1 = V.int e.2) = false := decide_eq_false (fun z => by
      injection z with z
      exact h4 z)
    rw [ne]
    exact k
theorem ok_checked_edgesU {f : Addr} {fd : FuncData} (F : Fun K "checked_edges" "checked_edges" s_checked_edges f fd) (M : Nms mg) (G : At P w K mg base CX0 4 "is_edge" ["size", "thing"] spIsEdgeU) :
    FnOk P w K mg base CX0 5 f fd ["size", "edges"] (spEdgesU K) := by
  obtain ⟨c, cd, G, mG, kG, bG⟩ := G
  refine F.ok sc_checked_edges (fun vs H Q E h => ?_) (fun cdv A outer s H vs Q E hr h => ?_)
  · obtain ⟨n, p, es, rfl, _⟩ := h
    rfl
  · obtain ⟨n, p, es, rfl, hp, ge, k⟩ := h
    have nd := sc_checked_edges.nd
    have hu65 : A.units + 3 + 65 < cLine := by
      have := hr.un
      show A.units + 3 + 65 < _
      have z : A.units + 3 + 16 * 4 + 200 < cLine := this
      omega
    refine ⟨_, pss_cons (ps_if (pt_not (pt_val (pe_callB call_isiT (by rfl) M.isi boot_isi (pa_cons (pv 1) (pa_cons (pe_tup (pa_cons (pe_bltn (v := V.ty "list") rfl M.list (by decide +kernel) rfl)
          (pa_cons (pe_bltn (v := V.ty "tuple") rfl M.tuple (by decide +kernel) rfl) pa_nil))) pa_nil))))) (pss_one ps_never) pss_nil)
      (pss_cons (ps_set (i := 2) sc_checked_edges.nd rfl (Or.inl rfl) (pe_lst pa_nil))
      (pss_cons (ps_for PassesOwn.never rfl (pi_list (pv 1)) (pg_name (i := 3) sc_checked_edges.nd rfl (Or.inl rfl))
        (pss_cons (ps_if (pt_not (pt_val (pe_call G hr (by rfl) mG kG bG .nil pass0 (pa_cons (pv 0) (pa_cons (pv 3) pa_nil))))) (pss_one ps_never) pss_nil)
        (pss_cons (ps_set (i := 4) sc_checked_edges.nd rfl (Or.inl rfl) (pe_tup (pa_cons (pe_callB (cr_minT rfl hr.units) (by rfl) M.min boot_min1 (pa_cons (pv 3) pa_nil))
          (pa_cons (pe_callB (cr_maxT rfl hr.units) (by rfl) M.max boot_max1 (pa_cons (pv 3) pa_nil)) pa_nil))))
        (pss_cons (ps_if (pt_cmpR (op_inD hu65) (pv 4) (pv 2) (by rfl)) (pss_one ps_never) pss_nil)
        (pss_one (ps_expr (pe_bm PySem.F.plainAttrs_list PySem.F.slot_list_append PySem.F.type_list_append mt_append (pv 2) (pa_cons (pv 4) pa_nil))))))))
      (pss_one (ps_ret (pe_callB (show CallR _ (.builtin "sorted") (rSortedPO K) from cr_sortedPO) (by rfl) M.sorted boot_sorted1 (pa_cons (pv 2) pa_nil)))))), ?_⟩
    obtain ⟨ts, h1, h2⟩ := id hp
    refine ⟨_, rfl, by show 2 ≤ sizeLine; decide, fun tp ntp => ⟨.ref p, tp, _, _, _, _, rfl, upd_same, .cons (.ty _) (.cons (.ty _) .nil), .base (.lst (same_upd ntp _ _ h1)), kitLT K, _, rfl, iteF ?_⟩⟩
    refine ⟨by show 0 ≤ sizeLine; decide, fun fo nfo => ?_⟩
    have s0 := (same_upd ntp (o := .tup [V.ty "list", V.ty "tuple"])).trans (same_upd nfo (o := .lst []))
    have f0 : H fo = none := Same.free (same_upd ntp) nfo
    have lms : (es.map ordP).length = es.length := List.length_map ..
    have ms : ∀ {i : Nat} {e : Int × Int}, es[i]? = some e → (es.map ordP)[i]? = some (ordP e) := fun {i e} he => by rw [List.getElem?_map, he]; rfl
    refine ⟨_, rfl, p, rfl, ⟨_, SqL.of (s0 _ _ h1)⟩, for_list (K := K) (a := p) (xs := ts.map V.ref) (fun i σ H' => ∃ (o3 o4 : Option V) (fs : List Addr), σ = [some (.int n), some (.ref p), some (.ref fo), o3, o4] ∧
      Same H H' ∧ H' fo = some (.lst (fs.map V.ref)) ∧ TupsAt H' fs ((es.map ordP).take i)) ⟨none, none, [], rfl, s0, upd_same, ⟨rfl, fun k t e => by simp at e⟩⟩ (fun i σ H' _ h => ?_) (fun i y σ H' hi h => ?_) (fun σ H' h => ?_)⟩
    · obtain ⟨_, _, _, _, sm, _, _⟩ := h
      exact SqL.of (sm _ _ h1)
    · obtain ⟨o3, o4, fs, rfl, sm, e1, e2⟩ := h
      obtain ⟨t, ht, rfl⟩ := refAt hi
      obtain ⟨e, he, hte⟩ := h2.2 i t ht
      have good := ge.node e (List.mem_of_getElem? he)
      have hm := ms he
      have hlt : i < es.length := (List.getElem?_eq_some_iff.mp he).1
      have hte' := sm _ _ hte
      refine ⟨_, rfl, _, rfl, n, t, e, rfl, hte', good.1, good.2.1, good.2.2.1, good.2.2.2.1, good.2.2.2.2, _, rfl, iteF ?_⟩
      refine ⟨_, rfl, t, e.1, e.2, rfl, hte', _, rfl, t, e.1, e.2, rfl, hte', by show 2 ≤ sizeLine; decide, fun ed ned => ?_⟩
      have e1' : (upd H' ed (.tup [V.int (min e.1 e.2), V.int (max e.1 e.2)])) fo = some (.lst (fs.map V.ref)) := same_upd ned _ _ e1
      have e2' := e2.same (same_upd ned (o := .tup [V.int (min e.1 e.2), V.int (max e.1 e.2)]))
      refine ⟨_, rfl, _, rfl, pairD (ordP e), ((es.map ordP).take i).map pairD, .tup (SqT.of upd_same) (.cons (.int _) (.cons (.int _) .nil)), .lst (SqL.of e1') (dpTups e2'), rfl, shapedPairs _, _, rfl, ?_⟩
      rw [anyPair (notTaken ge.once hm)]
      refine iteF ⟨_, rfl, .inl ⟨rfl, _, SqL.of e1'⟩, _, rfl, fo, _, _, rfl, rfl, e1', ?_, ?_⟩
      · rw [List.length_map, e2.1, List.length_take, sizeLine_eq]
        have := ge.few
        omega
      refine ⟨_, _, fs ++ [ed], rfl, fun b o z => ?_, by rw [upd_same, List.map_append]; rfl, ?_, fun k t' hk => ?_⟩
      · rw [upd_ne (ne_of_none z f0)]
        exact same_upd ned _ _ (sm _ _ z)
      · rw [takeMore hm, List.length_append, List.length_append, e2.1]
        rfl
      · have efo : ed ≠ fo := (ne_of_none e1 ned).symm
        by_cases hlt : k < fs.length
        · rw [List.getElem?_append_left hlt] at hk
          obtain ⟨x, q1, q2⟩ := e2.2 k t' hk
          refine ⟨x, ?_, ?_⟩
          · rw [takeMore hm, List.getElem?_append_left (by rw [← e2.1]; exact hlt)]
            exact q1
          · rw [upd_ne (ne_of q2 e1 (by intro z; cases z)), upd_ne (ne_of_none q2 ned)]
            exact q2
        · rw [List.getElem?_append_right (by omega)] at hk
          have hk' : k = fs.length := by
            have z := (List.getElem?_eq_some_iff.mp hk).1
            simp at z
            omega
          subst hk'
          rw [Nat.sub_self] at hk
          obtain rfl : ed = t' := Option.some.inj hk
          refine ⟨ordP e, ?_, ?_⟩
          · rw [takeMore hm, e2.1, List.getElem?_append_right (Nat.le_refl _), Nat.sub_self]
            rfl
          · rw [upd_ne efo, upd_same]
            rfl
    · obtain ⟨o3, o4, fs, rfl, sm, e1, e2⟩ := h
      rw [List.length_map, h2.1, ← lms, List.take_length] at e2
      refine ⟨_, rfl, fo, _, keyE H', rfl, SqL.of e1, fun y hy => ?_, fun ys q hsrt hstb nq => ?_⟩
      · obtain ⟨t, ht, rfl⟩ := List.mem_map.mp hy
        obtain ⟨k', hk', he'⟩ := List.mem_iff_getElem.mp ht
        obtain ⟨x, q1, q2⟩ := e2.2 k' t (by rw [List.getElem?_eq_getElem hk', he'])
        exact ⟨t, rfl, by rw [keyE_at q2]; exact q2⟩
      · obtain ⟨ts', es', rfl, r1, r2⟩ := permTups e2 hstb.perm
        refine k q _ es' (sm.free nq) (sm.trans (same_upd nq)) ⟨ts', upd_same, r1.same (same_upd nq)⟩ r2 ?_
        have ek : (ts'.map V.ref).map (keyE H') = es' := by
          apply List.ext_getElem
          · rw [List.length_map, List.length_map, r1.1]
          · intro k h1 h2
            rw [List.length_map, List.length_map] at h1
            obtain ⟨e, q1, q2⟩ := r1.2 k ts'[k] (List.getElem?_eq_getElem h1)
            rw [List.getElem_map, List.getElem_map, keyE_at q2]
            rw [List.getElem?_eq_getElem h2] at q1
            exact (Option.some.inj q1).symm
        unfold SrtE
        rw [← ek]
        refine List.pairwise_map.mpr (hsrt.imp fun {a b} h => ?_)
        have := SrtO.lexB_no.mp h
        omega
theorem ok_ginitX {f : Addr} {fd : FuncData} {dvs : List V} {kws : List (Str × V)} (F : FunD K "__init__" "Graph.__init__" (defArgs s_Graph_init) (defBody s_Graph_init) (defScope s_Graph_init) dvs kws f fd) (T : GTxt K mg CG) (M : Nms mg)
    {t16 t40 : Tok} (m16 : mg "MOST_NODES" = some (.int 16 t16)) (m40 : mg "MOST_EDGES" = some (.int 40 t40)) (ES : Ex P w K mg base "InvalidSize" CS) (tyS : PySem.W.typeIn K (.ref CS) = some (.type "type"))
    (EM : Ex P w K mg base "TooMany" CM) (tyM : PySem.W.typeIn K (.ref CM) = some (.type "type"))
    (GW : At P w K mg base CX0 2 "is_integer_within" ["thing", "low", "high"] (spWithin K)) (GE' : At P w K mg base CX0 5 "checked_edges" ["size", "edges"] (spEdgesU K)) (GN : At P w K mg base CX0 1 "neighbour_lists" ["size", "edges"] (spNear K)) :
    FnOk P w K mg base (L2.CX P w) 6 f fd ["self", "size", "edges"] (spGInitX CG CS CM) := by
  obtain ⟨gw, gwd, GW, mW, kW, bW⟩ := GW
  obtain ⟨ge, ged, GE', mE, kE, bE⟩ := GE'
  obtain ⟨gn, gnd, GN, mN, kN, bN⟩ := GN
  refine F.ok sc_ginit (fun vs H Q E h => ?_) (fun cdv A outer s H vs Q E hr h => ?_)
  · obtain ⟨x, dx, p, n, es, rfl, _⟩ := h
    rfl
  · obtain ⟨x, dx, p, n, es, rfl, hx, hp, good, n1, kS, kM, k⟩ := h
    have hr2 : Room 2 _ := hr.mono (by decide)
    have hr1 : Room 1 _ := hr.mono (by decide)
    refine ⟨_, pss_cons (ps_if (pt_not (pt_val (pe_call GW hr2 (by rfl) mW kW bW .nil pass0 (pa_cons (pv 1) (pa_cons pe_int (pa_cons (pe_glob (v := .int 16) (by rfl) m16 ⟨_, rfl⟩) pa_nil)))))) (pss_one (ps_raiseX rfl ES tyS hr2 (takes_of rfl rfl rfl rfl) rfl (pa_cons (pv 1) pa_nil))) pss_nil)
      (pss_cons (ps_set (i := 3) sc_ginit.nd rfl (Or.inl rfl) (pe_call GE' hr (by rfl) mE kE bE .nil pass0 (pa_cons (pv 1) (pa_cons (pv 2) pa_nil))))
      (pss_cons (ps_if (pt_cmpR op_gt (pe_callB call_len_seq (by rfl) M.len boot_len1 (pa_cons (pv 3) pa_nil)) (pe_glob (v := .int 40) (by rfl) m40 ⟨_, rfl⟩) (nomark _)) (pss_one (ps_raiseX rfl EM tyM hr2 (takes_of rfl rfl rfl rfl) rfl (pa_cons (pe_callB call_len_seq (by rfl) M.len boot_len1 (pa_cons (pv 3) pa_nil)) pa_nil))) pss_nil)
      (pss_cons (ps_fld (pv 0) (pv 1) rfl)
      (pss_cons (ps_fld (pv 0) (pv 3) rfl)
      (pss_one (ps_fld (pv 0) (pe_call GN hr1 (by rfl) mN kN bN .nil pass0 (pa_cons (pv 1) (pa_cons (pv 3) pa_nil))) rfl)))))), ?_⟩
    refine ⟨_, rfl, .int n, .int n, 1, 16, rfl, .dat (.int n), _, rfl, ?_⟩
    by_cases c16 : n ≤ 16
    case neg =>
      have hw : within 1 16 (.int (n : Int)) = false := by
        show (decide ((1 : Int) ≤ n) && decide ((n : Int) ≤ 16)) = false
        rw [decide_eq_true (by omega), decide_eq_false (by omega)]
        rfl
      rw [hw]
      exact iteT ⟨_, rfl, _, rfl, fun dd H' nd s2 hx => kS (by omega) H' dd s2 nd hx⟩
    have hw : within 1 16 (.int (n : Int)) = true := by
      show (decide ((1 : Int) ≤ n) && decide ((n : Int) ≤ 16)) = true
      rw [decide_eq_true (by omega), decide_eq_true (by omega)]
      rfl
    rw [hw]
    refine iteF ?_
    refine ⟨_, rfl, _, rfl, n, p, es, rfl, hp, good, fun q H1 es1 nq s1 hq pe sE => ?_⟩
    obtain ⟨ts, h1, h2⟩ := id hq
    have les : ts.length = es.length := by rw [h2.1, pe.length_eq, List.length_map]
    refine ⟨_, rfl, q, _, rfl, .inl (SqL.of h1), _, _, rfl, rfl, _, rfl, ?_⟩
    by_cases c40 : es.length ≤ 40
    case neg =>
      rw [decide_eq_true (by rw [List.length_map, les]; omega)]
      refine iteT ⟨_, rfl, q, _, rfl, .inl (SqL.of h1), _, rfl, fun dd H' nd s2 hx => ?_⟩
      rw [List.length_map, les] at hx
      exact kM c16 (by omega) H' dd (s1.trans s2) (s1.free nd) hx
    rw [decide_eq_false (by rw [List.length_map, les]; omega)]
    have good1 : GoodE n es1 := (good.ord c40).perm pe
    refine iteF ?_
    have nxq : q ≠ x := (ne_of_none hx nq).symm
    refine ⟨_, rfl, _, rfl, x, CG, dx, _, rfl, s1 _ _ hx, T.cl, T.n1, by decide, ?_⟩
    refine ⟨_, rfl, _, rfl, x, CG, dx, _, rfl, upd_same, T.cl, T.n2, (by show 1 < 1000; decide), ?_⟩
    have hx1 := s1 _ _ hx
    have tx : ∀ (k : Nat) (t : Addr), ts[k]? = some t → t ≠ x := fun k t e => by
      obtain ⟨z, _, q2⟩ := h2.2 k t e
      exact ne_of q2 hx1 (by intro y; cases y)
    refine ⟨_, rfl, _, rfl, n, q, es1, rfl, ?_, good1, by omega, fun r H2 N nr s2 hN near => ?_⟩
    · exact ⟨ts, by rw [upd_ne nxq, upd_ne nxq]; exact h1, h2.1, fun k t e => by
        obtain ⟨z, q1, q2⟩ := h2.2 k t e
        exact ⟨z, q1, by rw [upd_ne (tx k t e), upd_ne (tx k t e)]; exact q2⟩⟩
    have hx2 := s2 _ _ (upd_same (H := upd H1 x (.ins CG dx (putF "node_count" (.int n) []))) (a := x) (o := .ins CG dx (putF "joined" (.ref q) (putF "node_count" (.int n) []))))
    refine ⟨_, rfl, x, CG, dx, _, rfl, hx2, T.cl, T.n3, (by show 2 < 1000; decide), ?_⟩
    have up : ∀ b o, b ≠ x → H1 b = some o → H2 b = some o := fun b o hb e => s2 _ _ (by rw [upd_ne hb, upd_ne hb]; exact e)
    refine k c16 c40 _ q r es1 (fun b o hb e => ?_) ?_ ⟨ts, ?_, h2.1, fun k t e => ?_⟩ pe sE nq
    · rw [upd_ne hb]
      exact up b o hb (s1 _ _ e)
    · rw [upd_same]
      rfl
    · rw [upd_ne nxq]
      exact up q _ nxq h1
    · obtain ⟨z, q1, q2⟩ := h2.2 k t e
      exact ⟨z, q1, by rw [upd_ne (tx k t e)]; exact up t _ (tx k t e) q2⟩
theorem ok_gsizeE {f : Addr} {fd : FuncData} (F : Fun K "size" "Graph.size" s_Graph_size f fd) (T : GTxt K mg CG) : FnOk P w K mg base CX0 1 f fd ["self"] (spSizeE CG) := by
  refine F.ok sc_gsize (fun vs H Q E h => ?_) (fun cdv A outer s H vs Q E hr h => ?_)
  · obtain ⟨g, n, es, rfl, _⟩ := h
    rfl
  · obtain ⟨g, n, es, rfl, ⟨⟨dx, j, nr, h1, h2⟩, _, _, _, _⟩, k⟩ := h
    exact ⟨_, pss_one (ps_ret (pe_fld (pv 0) rfl)), _, rfl, g, CG, dx, _, _, rfl, h1, T.cl, T.n1, gl_n _ _ _, k⟩
theorem sc_gedges : FnScope ["self"] ["self"] (defScope s_Graph_edges) := ⟨rfl, rfl, rfl, by decide +kernel, rfl, by decide +kernel, by decide +kernel⟩
theorem ok_gedges {f : Addr} {fd : FuncData} (F : Fun K "edges" "Graph.edges" s_Graph_edges f fd) (T : GTxt K mg CG) (M : Nms mg) : FnOk P w K mg base CX0 1 f fd ["self"] (spEdgesOf CG) := by
  refine F.ok sc_gedges (fun vs H Q E h => ?_) (fun cdv A outer s H vs Q E hr h => ?_)
  · obtain ⟨g, n, es, rfl, _⟩ := h
    rfl
  · obtain ⟨g, n, es, rfl, ⟨⟨dx, j, nr, h1, ts, h2, h3⟩, _, _, _, _⟩, k⟩ := h
    refine ⟨_, pss_one (ps_ret (pe_callTy call_list_of (by rfl) M.list (by decide +kernel) (pa_cons (pe_fld (pv 0) rfl) pa_nil))), ?_⟩
    refine ⟨_, rfl, g, CG, dx, _, _, rfl, h1, T.cl, T.n2, gl_j _ _ _, j, _, rfl, .inl (SqL.of h2), fun q nq => ?_⟩
    exact k q _ nq (same_upd nq) ⟨ts, upd_same, h3.same (same_upd nq)⟩
theorem sc_glen : FnScope ["self"] ["self"] (defScope s_Graph_len) := ⟨rfl, rfl, rfl, by decide +kernel, rfl, by decide +kernel, by decide +kernel⟩
theorem ok_glen {f : Addr} {fd : FuncData} (F : Fun K "__len__" "Graph.__len__" s_Graph_len f fd) (T : GTxt K mg CG) (M : Nms mg) : FnOk P w K mg base CX0 1 f fd ["self"] (spLenE CG) := by
  refine F.ok sc_glen (fun vs H Q E h => ?_) (fun cdv A outer s H vs Q E hr h => ?_)
  · obtain ⟨g, n, es, rfl, _⟩ := h
    rfl
  · obtain ⟨g, n, es, rfl, ⟨⟨dx, j, nr, h1, ts, h2, h3⟩, _, _, _, _⟩, k⟩ := h
    refine ⟨_, pss_one (ps_ret (pe_callB call_len_seq (by rfl) M.len boot_len1 (pa_cons (pe_fld (pv 0) rfl) pa_nil))), ?_⟩
    refine ⟨_, rfl, g, CG, dx, _, _, rfl, h1, T.cl, T.n2, gl_j _ _ _, j, _, rfl, .inl (SqL.of h2), ?_⟩
    rw [List.length_map, h3.1]
    exact k
theorem sc_geq : FnScope ["self", "other"] ["self", "other"] (defScope s_Graph_eq) := ⟨rfl, rfl, rfl, by decide +kernel, rfl, by decide +kernel, by decide +kernel⟩
theorem ok_geq {f : Addr} {fd : FuncData} (F : Fun K "__eq__" "Graph.__eq__" s_Graph_eq f fd) (T : GTxt K mg CG) (M : Nms mg) (IC : C8.InsC K CG) : FnOk P w K mg base CX0 1 f fd ["self", "other"] (spEq (RGraph CG)) := by
  refine F.ok sc_geq (fun vs H Q E h => ?_) (fun cdv A outer s H vs Q E hr h => ?_)
  · obtain ⟨a, b, rfl, _⟩ := h
    rfl
  · obtain ⟨a, b, rfl, ⟨n, es, ⟨⟨dx, j, nr, h1, ts, h2, h3⟩, _, _, _, _⟩, ⟨⟨dx', j', nr', h1', ts', h2', h3'⟩, _, _, _, _⟩⟩, k⟩ := h
    have hu64 : A.units + 3 + 64 < cLine := hr.units
    refine ⟨_, pss_one (ps_ret (pe_and (pe_callB (C8.call_isC IC) (by rfl) M.isi boot_isi (pa_cons (pv 1) (pa_cons (pe_glob (v := .ref CG) (by rfl) T.mgC rfl) pa_nil)))
      (pe_and (pe_cmpR op_eq (pe_fld (pv 0) rfl) (pe_fld (pv 1) rfl) (nomark _)) (pe_one (pe_cmpR (op_eqD hu64) (pe_fld (pv 0) rfl) (pe_fld (pv 1) rfl) (nomark _)))))), ?_⟩
    refine ⟨_, rfl, b, dx', _, rfl, h1', _, rfl, iteT ?_⟩
    refine ⟨_, rfl, a, CG, dx, _, _, rfl, h1, T.cl, T.n1, gl_n _ _ _, _, rfl, b, CG, dx', _, _, rfl, h1', T.cl, T.n1, gl_n _ _ _, rfl, _, rfl, ?_⟩
    rw [decide_eq_true rfl]
    refine iteT ?_
    refine ⟨_, rfl, a, CG, dx, _, _, rfl, h1, T.cl, T.n2, gl_j _ _ _, _, rfl, b, CG, dx', _, _, rfl, h1', T.cl, T.n2, gl_j _ _ _, .list (es.map pairD), .list (es.map pairD), .lst (SqL.of h2) (dpTups h3), .lst (SqL.of h2') (dpTups h3'), shapedPairs _, shapedPairs _, ?_⟩
    rw [show PyData.eqv (.list (es.map pairD)) (.list (es.map pairD)) = true from eqvSame (shapedPairs _)]
    exact k H (fun _ _ e => e)
theorem make_ok {H : Hp} {n : Nat} {p : Addr} {es : List (Int × Int)} {Q : Addr → Hp → Prop} {E : XK} (hE : EdgesAt H p es) (hU : GoodU n es) (n1 : 1 ≤ n)
    (ok : n ≤ 16 → es.length ≤ 40 → ∀ g H' es', H g = none → Same H H' → GE CG H' g n es' → es'.Perm (es.map ordP) → (∀ dx j nr, H' g = some (.ins CG dx (gflds (n : Int) j nr)) → H j = none) → Q g H')
    (big : 16 < n → told CS (.int n) H E) (many : n ≤ 16 → 40 < es.length → told CM (.int es.length) H E) :
    ∀ x dx, H x = none → H dx = none → dx ≠ x → spGInitX CG CS CM (.ref x :: ([.int n, .ref p] ++ [])) (upd (upd H dx (.own x)) x (.ins CG dx [])) (fun v H2 => v = .non ∧ Q x H2) E := fun x dx nx ndx ne => by
  have sA : Same H (upd H dx (.own x)) := same_upd ndx
  have nx1 : (upd H dx (.own x)) x = none := by rw [upd_ne ne.symm]; exact nx
  have sB : Same (upd H dx (.own x)) (upd (upd H dx (.own x)) x (.ins CG dx [])) := same_upd nx1
  have s := sA.trans sB
  refine ⟨x, dx, p, n, es, rfl, upd_same, hE.same s, hU, n1, fun h H' dd s' nd hx => big h H' dd (s.trans s') (s.free nd) hx, fun h h' H' dd s' nd hx => many h h' H' dd (s.trans s') (s.free nd) hx, fun c16 c40 H' j nr es' up hx' hj pe sE nj => ⟨rfl, ?_⟩⟩
  refine ok c16 c40 x H' es' nx (fun b o e => up b o (ne_of_none e nx) (s _ _ e)) ⟨⟨dx, j, nr, hx', hj⟩, (hU.ord c40).perm pe, sE, n1, c16⟩ pe (fun dx1 j1 nr1 e => ?_)
  rw [hx'] at e
  injection e with e
  injection e with _ _ e
  unfold gflds at e
  injection e with _ e
  injection e with e _
  injection e with _ e
  injection e with e
  rw [← e]
  exact s.free nj
end

end K77

set_option Elab.async false
set_option linter.all false
set_option maxRecDepth 100000
set_option maxHeartbeats 8000000
namespace K77
open PySem PySem.Spec PyProof.Rows L2 FNX
/-! ## unions.py -/
theorem sameThen {D : Addr} {H H1 H' : Hp} (s : Same H H1) (x : SameX D H1 H') (n : H D = none) : Same H H' := fun b o e => x b o (ne_of_none e n) (s b o e)
def rangeI (n : Nat) : List Int := (List.range n).map fun k : Nat => (k : Int)
theorem insPerm {l : List Int} (k : Nat) (a : Int) : (l.take k ++ [a] ++ l.drop k).Perm (l ++ [a]) := by
  have h1 : (l.take k ++ [a] ++ l.drop k).Perm (a :: (l.take k ++ l.drop k)) := by
    rw [List.append_assoc]
    exact List.perm_middle
  rw [List.take_append_drop] at h1
  exact h1.trans (List.perm_append_singleton a l).symm
structure Names (n : Nat) (ns : List Int) : Prop where
  len : ns.length = n
  inj : ∀ i j, i < n → j < n → ns.getD i 0 = ns.getD j 0 → i = j
  bnd : ∀ i, i < n → 0 ≤ ns.getD i 0 ∧ ns.getD i 0 < n
theorem names_of {n : Nat} {ns : List Int} (h : ns.Perm (rangeI n)) : Names n ns := by
  have l : ns.length = n := by
    rw [h.length_eq]
    unfold rangeI
    rw [List.length_map, List.length_range]
  have nd : ns.Nodup := h.nodup_iff.mpr (List.Pairwise.map _ (fun a b hab (z : (a : Int) = b) => hab (by omega)) List.nodup_range)
  have at' : ∀ i (hi : i < n), ns.getD i 0 = ns[i]'(by omega) := fun i hi => by
    rw [List.getD_eq_getElem?_getD, List.getElem?_eq_getElem (by omega)]
    rfl
  refine ⟨l, fun i j hi hj e => ?_, fun i hi => ?_⟩
  · rw [at' i hi, at' j hj] at e
    have pw := List.pairwise_iff_getElem.mp nd
    rcases Nat.lt_trichotomy i j with c | c | c
    · exact absurd e (pw i j (by omega) (by omega) c)
    · exact c
    · exact absurd e.symm (pw j i (by omega) (by omega) c)
  · have m : ns.getD i 0 ∈ ns := by
      rw [at' i hi]
      exact List.getElem_mem _
    obtain ⟨k, hk, e⟩ := List.mem_map.mp (h.mem_iff.mp m)
    have := List.mem_range.mp hk
    omega
def mixE (ns : List Int) (e : Int × Int) : Int × Int := (min (ns.getD e.1.toNat 0) (ns.getD e.2.toNat 0), max (ns.getD e.1.toNat 0) (ns.getD e.2.toNat 0))
theorem mixGood {n : Nat} {ns : List Int} {es : List (Int × Int)} (hn : Names n ns) (g : GoodU n es) (few : es.length ≤ 40) : GoodE n (es.map (mixE ns)) := by
  refine ⟨fun e he => ?_, ?_, by rw [List.length_map]; exact few⟩
  · obtain ⟨d, hd, rfl⟩ := List.mem_map.mp he
    obtain ⟨h1, h2, h3, h4, h5⟩ := g.node d hd
    have b1 := hn.bnd d.1.toNat (by omega)
    have b2 := hn.bnd d.2.toNat (by omega)
    have ne : ns.getD d.1.toNat 0 ≠ ns.getD d.2.toNat 0 := fun z => by
      have := hn.inj _ _ (by omega) (by omega) z
      omega
    show 0 ≤ min _ _ ∧ min (ns.getD d.1.toNat 0) (ns.getD d.2.toNat 0) < max (ns.getD d.1.toNat 0) (ns.getD d.2.toNat 0) ∧ max _ _ < (n : Int)
    omega
  · have z := List.pairwise_map.mp g.once
    refine List.pairwise_map.mpr (z.imp_of_mem fun {d d'} hd hd' hne q => hne ?_)
    obtain ⟨h1, h2, h3, h4, h5⟩ := g.node d hd
    obtain ⟨k1, k2, k3, k4, k5⟩ := g.node d' hd'
    unfold mixE at q
    injection q with q1 q2
    have inj := fun a b ha hb => hn.inj a b ha hb
    have key : (ns.getD d.1.toNat 0 = ns.getD d'.1.toNat 0 ∧ ns.getD d.2.toNat 0 = ns.getD d'.2.toNat 0) ∨ (ns.getD d.1.toNat 0 = ns.getD d'.2.toNat 0 ∧ ns.getD d.2.toNat 0 = ns.getD d'.1.toNat 0) := by
      generalize ns.getD d.1.toNat 0 = a1 at *
      generalize ns.getD d.2.toNat 0 = a2 at *
      generalize ns.getD d'.1.toNat 0 = a3 at *
      generalize ns.getD d'.2.toNat 0 = a4 at *
      omega
    unfold ordP
    rcases key with ⟨e1, e2⟩ | ⟨e1, e2⟩
    · have f1 := inj _ _ (by omega) (by omega) e1
      have f2 := inj _ _ (by omega) (by omega) e2
      rw [show d.1 = d'.1 by omega, show d.2 = d'.2 by omega]
    · have f1 := inj _ _ (by omega) (by omega) e1
      have f2 := inj _ _ (by omega) (by omega) e2
      rw [show d.1 = d'.2 by omega, show d.2 = d'.1 by omega, Int.min_comm, Int.max_comm]
theorem rangeLen (n : Nat) : (rangeI n).length = n := by
  unfold rangeI
  rw [List.length_map, List.length_range]
theorem rangeSorted (n : Nat) : (rangeI n).Pairwise (· ≤ ·) := by
  unfold rangeI
  refine List.pairwise_map.mpr ((List.pairwise_lt_range (n := n)).imp fun {a b} h => ?_)
  omega
theorem rgRange (n : Nat) : rgV 0 (n : Int) = (rangeI n).map V.int := by
  unfold rgV rangeI
  rw [List.map_map, show ((n : Int) - 0).toNat = n by omega]
  refine List.map_congr_left fun i _ => ?_
  show V.int (0 + (i : Int)) = V.int (i : Int)
  rw [Int.zero_add]
theorem eqvAllInts : ∀ x y : List Int, PyData.eqvAll (x.map PyData.int) (y.map PyData.int) = decide (x = y)
  | [], [] => rfl
  | [], _ :: _ => rfl
  | _ :: _, [] => rfl
  | a :: x, b :: y => by
    have e : PyData.eqvAll ((a :: x).map PyData.int) ((b :: y).map PyData.int) = ((a == b) && PyData.eqvAll (x.map PyData.int) (y.map PyData.int)) := by
      first
        | rfl
        | simp [PyData.eqvAll, PyData.eqv]
    rw [e, eqvAllInts x y]
    by_cases c : a = b
    · subst c
      by_cases d : x = y
      · subst d
        simp
      · rw [beq_self_eq_true, Bool.true_and, decide_eq_false d, decide_eq_false (fun z => d (List.cons.inj z).2)]
    · rw [show (a == b) = false from by simpa using c, Bool.false_and, decide_eq_false (fun z => c (List.cons.inj z).1)]
theorem eqvInts (x y : List Int) : PyData.eqv (posD x) (posD y) = decide (x = y) := by
  rw [← eqvAllInts]
  first
    | rfl
    | simp [PyData.eqv, posD]
theorem ordMap2 {es : List (Int × Int)} (h : ∀ e ∈ es, e.1 < e.2) : es.map ordP = es := (List.map_congr_left fun e he => ordId (h e he)).trans (List.map_id es)
def shE (n : Nat) (e : Int × Int) : Int × Int := (e.1 + n, e.2 + n)
theorem unionU {n m : Nat} {es fs : List (Int × Int)} (h : GoodE n es) (g : GoodE m fs) : (es ++ fs.map (shE n)).map ordP = es ++ fs.map (shE n) ∧ GoodU (n + m) (es ++ fs.map (shE n)) := by
  have lt : ∀ e ∈ es ++ fs.map (shE n), e.1 < e.2 := fun e he => by
    rcases List.mem_append.mp he with he | he
    · exact (h.node e he).2.1
    · obtain ⟨d, hd, rfl⟩ := List.mem_map.mp he
      have := (g.node d hd).2.1
      show d.1 + (n : Int) < d.2 + n
      omega
  have om := ordMap2 lt
  refine ⟨om, fun e he => ?_, ?_, ?_⟩
  · rcases List.mem_append.mp he with he | he
    · have := h.node e he
      omega
    · obtain ⟨d, hd, rfl⟩ := List.mem_map.mp he
      have := g.node d hd
      show 0 ≤ d.1 + (n : Int) ∧ d.1 + (n : Int) < ((n + m : Nat) : Int) ∧ 0 ≤ d.2 + (n : Int) ∧ d.2 + (n : Int) < ((n + m : Nat) : Int) ∧ d.1 + (n : Int) ≠ d.2 + n
      omega
  · rw [om]
    refine List.nodup_append.mpr ⟨h.once, ?_, fun a ha b hb e => ?_⟩
    · refine List.pairwise_map.mpr (g.once.imp fun {a b} hab z => hab ?_)
      have z1 : a.1 + (n : Int) = b.1 + n := congrArg Prod.fst z
      have z2 : a.2 + (n : Int) = b.2 + n := congrArg Prod.snd z
      exact Prod.ext (by omega) (by omega)
    · obtain ⟨d, hd, rfl⟩ := List.mem_map.mp hb
      have h1 := h.node a ha
      have h2 := g.node d hd
      have z1 : a.1 = d.1 + (n : Int) := congrArg Prod.fst e
      omega
  · rw [List.length_append, List.length_map]
    have := h.few
    have := g.few
    omega
/-! pairs gathered by a comprehension -/
def PairsTo (H' : Hp) (Z : Addr) (es : List (Int × Int)) (F : Int × Int → Int × Int) (i : Nat) (H2 : Hp) : Prop := Same H' H2 ∧ ∃ us : List Addr, H2 Z = some (.lst (us.map V.ref)) ∧ TupsAt H2 us ((es.take i).map F)
theorem pairsZero {H' : Hp} {Z : Addr} {es : List (Int × Int)} {F : Int × Int → Int × Int} (nZ : H' Z = none) : PairsTo H' Z es F 0 (upd H' Z (.lst [])) := ⟨same_upd nZ, [], upd_same, ⟨rfl, fun k t e => by simp at e⟩⟩
theorem pairsStep {H' H2 : Hp} {Z T : Addr} {es : List (Int × Int)} {F : Int × Int → Int × Int} {i : Nat} {e : Int × Int} (nZ : H' Z = none) (h : PairsTo H' Z es F i H2) (hei : es[i]? = some e) (l : es.length ≤ 1000) (nT : H2 T = none) :
    ∃ xs, (upd H2 T (.tup [V.int (F e).1, V.int (F e).2])) Z = some (.lst xs) ∧ xs.length < sizeLine ∧ PairsTo H' Z es F (i + 1) (upd (upd H2 T (.tup [V.int (F e).1, V.int (F e).2])) Z (.lst (xs ++ [V.ref T]))) := by
  obtain ⟨sm, us, f1, f2⟩ := h
  have s3 := same_upd nT (o := .tup [V.int (F e).1, V.int (F e).2])
  have lus : us.length ≤ 1000 := by
    rw [f2.1, List.length_map, List.length_take]
    omega
  have tp := (f2.same s3).push (t := T) (e := F e) upd_same
  refine ⟨_, s3 _ _ f1, by rw [List.length_map, sizeLine_eq]; omega, fun b o z => ?_, us ++ [T], by rw [upd_same, List.map_append]; rfl, ?_⟩
  · rw [upd_ne (ne_of_none z nZ)]
    exact s3 _ _ (sm _ _ z)
  · rw [takeMore hei, List.map_append]
    refine ⟨tp.1, fun k t hk => ?_⟩
    obtain ⟨z, z1, z2⟩ := tp.2 k t hk
    exact ⟨z, z1, by rw [upd_ne (ne_of z2 (s3 _ _ f1) (by intro y; cases y))]; exact z2⟩
theorem pairsDone {H' H2 : Hp} {Z : Addr} {ts : List Addr} {es : List (Int × Int)} {F : Int × Int → Int × Int} (l : ts.length = es.length) (h : PairsTo H' Z es F (ts.map V.ref).length H2) : Same H' H2 ∧ EdgesAt H2 Z (es.map F) := by
  obtain ⟨sm, us, f1, f2⟩ := h
  rw [List.length_map, l, List.take_length] at f2
  exact ⟨sm, us, f1, f2⟩
def mapO (x : List Int) (e : Int × Int) : Int × Int := (x.getD e.1.toNat 0, x.getD e.2.toNat 0)
theorem orderU {n : Nat} {x : List Int} {es : List (Int × Int)} (h : x.Perm (rangeI n)) (g : GoodE n es) : GoodU n (es.map (mapO x)) ∧ (es.map (mapO x)).map ordP = es.map (mixE x) := by
  have hn := names_of h
  have e0 : (es.map (mapO x)).map ordP = es.map (mixE x) := by
    rw [List.map_map]
    rfl
  have mg := mixGood hn g.toU g.few
  refine ⟨⟨fun e he => ?_, by rw [e0]; exact mg.once, by rw [List.length_map]; have := g.few; omega⟩, e0⟩
  obtain ⟨d, hd, rfl⟩ := List.mem_map.mp he
  have nd := g.node d hd
  have b1 := hn.bnd d.1.toNat (by omega)
  have b2 := hn.bnd d.2.toNat (by omega)
  refine ⟨b1.1, b1.2, b2.1, b2.2, fun z => ?_⟩
  have := hn.inj d.1.toNat d.2.toNat (by omega) (by omega) z
  omega
def spUnion (CG CS CM : Addr) : Sp := fun vs H Q E => ∃ g h n m es fs, vs = [.ref g, .ref h] ∧ GE CG H g n es ∧ GE CG H h m fs ∧ (16 < n + m → told CS (.int ((n + m : Nat) : Int)) H E) ∧ (n + m ≤ 16 → 40 < es.length + fs.length → told CM (.int ((es.length + fs.length : Nat) : Int)) H E) ∧
  (n + m ≤ 16 → es.length + fs.length ≤ 40 → ∀ q H' us, H q = none → Same H H' → GE CG H' q (n + m) us → us.Perm (es ++ fs.map (shE n)) → Q (.ref q) H')
def spCheckOrder (K : PySem.W.Frag) (CO : Addr) : Sp := fun vs H Q E => ∃ (n : Nat) (v : V) (d : PyData), vs = [.int (n : Int), v] ∧ Rd K H v d ∧ lenD d ≤ 100000 ∧ n ≤ 1000 ∧ ((∀ x, d = posD x → ¬ x.Perm (rangeI n)) → told CO v H E) ∧ (∀ x, d = posD x → x.Perm (rangeI n) → ∀ H', Same H H' → Q .non H')
def spRenum (K : PySem.W.Frag) (CG CO : Addr) : Sp := fun vs H Q E => ∃ g n es v d, vs = [.ref g, v] ∧ GE CG H g n es ∧ Rd K H v d ∧ lenD d ≤ 100000 ∧ ((∀ x, d = posD x → ¬ x.Perm (rangeI n)) → told CO v H E) ∧
  (∀ x, d = posD x → x.Perm (rangeI n) → ∀ q H' us, H q = none → Same H H' → GE CG H' q n us → us.Perm (es.map (mixE x)) → Q (.ref q) H')
def spRenumP (K : PySem.W.Frag) (CG CP CO : Addr) : Sp := fun vs H Q E => ∃ g n es qv dp v d, vs = [.ref g, qv, v] ∧ GE CG H g n es ∧ Rd K H qv dp ∧ lenD dp ≤ 100000 ∧ Rd K H v d ∧ lenD d ≤ 100000 ∧ (isIL n dp = false → told CP qv H E) ∧
  (∀ z, dp = posD z → z.length = n → ((∀ x, d = posD x → ¬ x.Perm (rangeI n)) → told CO v H E) ∧
    (∀ x, d = posD x → x.Perm (rangeI n) → ∀ (q : Addr) (H' : Hp) (y : List Int), H q = none → Same H H' → H' q = some (.lst (y.map V.int)) → y.length = n → (∀ i, i < n → y.getD (x.getD i 0).toNat 0 = z.getD i 0) → Q (.ref q) H'))
section
variable {P : Program} {w : World} {K : PySem.W.Frag} {mg : Str → Option Value} {base : Heap} {CG CS CM CO CP : Addr}
theorem sc_union : FnScope ["graph", "other", "shift", "edges", "one", "two"] ["graph", "other"] (defScope s_union) := ⟨rfl, rfl, rfl, by decide +kernel, rfl, by decide +kernel, by decide +kernel⟩
theorem ok_union {f fI : Addr} {fd fdI : FuncData} (F : Fun K "union" "union" s_union f fd) (T : GTxt K mg CG) (GS : MAt P w K mg base CG CX0 1 "size" ["self"] (spSizeE CG)) (GE' : MAt P w K mg base CG CX0 1 "edges" ["self"] (spEdgesOf CG))
    (MK : Mk K CG fI) (GI : FnOk P w K mg base (L2.CX P w) 6 fI fdI ["self", "size", "edges"] (spGInitX CG CS CM)) (bI : L2.Binds K fdI ["self", "size", "edges"] []) : FnOk P w K mg base (L2.CX P w) 8 f fd ["graph", "other"] (spUnion CG CS CM) := by
  obtain ⟨fS, fdS, GS, mS, bS⟩ := GS
  obtain ⟨fE, fdE, GE', mE, bE⟩ := GE'
  refine F.okX sc_union (fun vs H Q E h => ?_) (fun cdv A outer s H vs Q E hr h => ?_)
  · obtain ⟨g, h, n, m, es, fs, rfl, _⟩ := h
    rfl
  · obtain ⟨g, h, n, m, es, fs, rfl, hg, hh, kS, kM, k⟩ := h
    have hr1 : Room 1 _ := hr.mono (by decide)
    have nd := sc_union.nd
    have mI := T.mgC
    refine ⟨_, (pss_cons (ps_set (i := 2) nd rfl (Or.inr rfl) (pe_meth0 (pv 0) T.cl mS GS hr1 bS .nil pass0))
      (pss_cons (ps_set (i := 3) nd rfl (Or.inl rfl) (pe_op op_cat (pe_meth0 (pv 0) T.cl mE GE' hr1 bE .nil pass0) (pe_lc (own := [("one", 4), ("two", 5)]) (g := gTup K 2 (gCons (gName 4) (gCons (gName 5) (gNil)))) (tt := tYes) rfl nd (pi_list (pe_meth0 (pv 1) T.cl mE GE' hr1 bE .nil pass0)) (blkOk_by (own := [("one", 4), ("two", 5)]) (N := ["graph", "other", "shift", "edges", "one", "two"]) (sc := defScope s_union) (by decide +kernel)) (fun _ _ _ _ _ => pg_tup rfl (pgs_cons (pg_name (i := 4) nd rfl (Or.inl rfl)) (pgs_cons (pg_name (i := 5) nd rfl (Or.inl rfl)) pgs_nil))) (fun _ _ _ _ _ => pts_nil) (fun _ _ _ _ _ => (pe_tup (pa_cons (pe_op op_add (pv 4) (pv 2)) (pa_cons (pe_op op_add (pv 5) (pv 2)) pa_nil)))))))
      (pss_one (ps_ret (pe_make MK GI (hr.mono (by decide)) (by rfl) mI bI .nil (passes_call (E := E) (takes_of rfl rfl rfl rfl) (fun _ _ _ _ h => h)) (pa_cons (pe_op op_add (pv 2) (pe_meth0 (pv 1) T.cl mS GS hr1 bS .nil pass0)) (pa_cons (pv 3) pa_nil))))))), ?_⟩
    obtain ⟨uo, uU⟩ := unionU hg.good hh.good
    obtain ⟨dx, j, nr, g1, _⟩ := hg.obj
    obtain ⟨dx', j', nr', g1', _⟩ := hh.obj
    have few1 := hg.good.few
    have few2 := hh.good.few
    refine ⟨_, rfl, g, dx, _, rfl, g1, rfl, g, n, es, rfl, hg, ?_⟩
    refine ⟨_, rfl, g, dx, _, rfl, g1, rfl, g, n, es, rfl, hg, fun A1 H1 nA s1 hA => ?_⟩
    obtain ⟨ta, ea, ea2⟩ := id hA
    have hh1 := hh.same s1
    refine ⟨_, rfl, h, dx', _, rfl, s1 _ _ g1', rfl, h, m, fs, rfl, hh1, fun B1 H2 nB s2 hB => ?_⟩
    obtain ⟨tb, eb, eb2⟩ := id hB
    refine ⟨B1, rfl, ⟨_, SqL.of eb⟩, fun Z nZ => ?_⟩
    refine lc_list (K := K) (a := B1) (xs := tb.map V.ref) (PairsTo H2 Z fs (shE n)) (pairsZero nZ) (fun i H3 _ hP => SqL.of (hP.1 _ _ eb)) (fun i v H3 hv hP => ?_) (fun H3 hP => ?_)
    · obtain ⟨t, ht, rfl⟩ := refAt hv
      obtain ⟨e, hei, het⟩ := eb2.2 i t ht
      refine ⟨t, _, rfl, SqT.of (hP.1 _ _ het), rfl, _, _, rfl, _, _, rfl, rfl, rfl, ?_⟩
      refine ⟨_, rfl, _, rfl, _, _, rfl, rfl, _, rfl, _, rfl, _, _, rfl, rfl, by show 2 ≤ sizeLine; decide, fun T nT => ?_⟩
      exact pairsStep nZ hP hei (by omega) nT
    obtain ⟨s3, hZ⟩ := pairsDone eb2.1 hP
    obtain ⟨tz, ez, ez2⟩ := id hZ
    have s23 := s2.trans s3
    refine ⟨A1, Z, _, _, rfl, rfl, s23 _ _ ea, ez, ?_, fun R nR => ?_⟩
    · rw [List.length_map, List.length_map, ea2.1, ez2.1, List.length_map, sizeLine_eq]
      omega
    have sR := same_upd nR (o := .lst (ta.map V.ref ++ tz.map V.ref))
    have hR : EdgesAt (upd H3 R (.lst (ta.map V.ref ++ tz.map V.ref))) R (es ++ fs.map (shE n)) := by
      refine ⟨ta ++ tz, by rw [upd_same, List.map_append], ?_⟩
      have q1 := (ea2.same s23).same sR
      have q2 := ez2.same sR
      refine ⟨by rw [List.length_append, List.length_append, q1.1, q2.1], fun k t hk => ?_⟩
      by_cases c : k < ta.length
      · rw [List.getElem?_append_left c] at hk
        obtain ⟨e, w1, w2⟩ := q1.2 k t hk
        exact ⟨e, by rw [List.getElem?_append_left (by rw [← q1.1]; exact c)]; exact w1, w2⟩
      · rw [List.getElem?_append_right (by omega)] at hk
        obtain ⟨e, w1, w2⟩ := q2.2 _ t hk
        exact ⟨e, by rw [List.getElem?_append_right (by rw [← q1.1]; omega), ← q1.1]; exact w1, w2⟩
    generalize (upd H3 R (.lst (ta.map V.ref ++ tz.map V.ref))) = H4 at sR hR ⊢
    have s4 := (s1.trans s23).trans sR
    have hh4 := hh.same s4
    refine ⟨_, rfl, _, rfl, h, dx', _, rfl, s4 _ _ g1', rfl, h, m, fs, rfl, hh4, _, _, rfl, rfl, _, rfl, ?_⟩
    have en : (n : Int) + (m : Int) = ((n + m : Nat) : Int) := by omega
    have ll : (es ++ fs.map (shE n)).length = es.length + fs.length := by rw [List.length_append, List.length_map]
    have mk := make_ok (CG := CG) (CS := CS) (CM := CM) (Q := fun g => Q (.ref g)) (E := E) hR uU (by have := hg.n1; omega)
      (fun c16 c40 g' H' es' ng s' hG pe _ => k c16 (by omega) g' H' es' (s4.free ng) (s4.trans s') hG (by rw [uo] at pe; exact pe))
      (fun h H' dd s' nd hx => kS h H' dd (s4.trans s') (s4.free nd) hx)
      (fun h h' H' dd s' nd hx => kM h (by omega) H' dd (s4.trans s') (s4.free nd) (by rw [ll] at hx; exact hx))
    intro x dx nx ndx ne
    have z := mk x dx nx ndx ne
    rw [← en] at z
    exact z
theorem sc_check_order : FnScope ["size", "order"] ["size", "order"] (defScope s_check_order) := ⟨rfl, rfl, rfl, by decide +kernel, rfl, by decide +kernel, by decide +kernel⟩
theorem ok_check_order {f : Addr} {fd : FuncData} (F : Fun K "check_order" "check_order" s_check_order f fd) (M : Nms mg) (EO : Ex P w K mg base "InvalidOrder" CO) (tyO : PySem.W.typeIn K (.ref CO) = some (.type "type"))
    (GL : At P w K mg base CX0 2 "is_integer_list" ["thing", "length"] (spIntList K)) : FnOk P w K mg base (L2.CX P w) 3 f fd ["size", "order"] (spCheckOrder K CO) := by
  obtain ⟨fL, fdL, GL, mL, kL, bL⟩ := GL
  refine F.okX sc_check_order (fun vs H Q E h => ?_) (fun cdv A outer s H vs Q E hr h => ?_)
  · obtain ⟨n, v, d, rfl, _⟩ := h
    rfl
  · obtain ⟨n, v, d, rfl, hd, hdl, hn, kO, k⟩ := h
    have nd := sc_check_order.nd
    have hr2 : Room 2 _ := hr.mono (by decide)
    have hu64 : A.units + 3 + 64 < cLine := hr.units
    refine ⟨_, (pss_one (ps_if (PW.pt (pw_or (pt_not (pt_val (pe_call GL hr2 (by rfl) mL kL bL .nil pass0 (pa_cons (pv 1) (pa_cons (pv 0) pa_nil))))) (pw_or1 (pt_cmpR (op_neD hu64) (pe_callB (show CallR _ (.builtin "sorted") (rSortedI K) from cr_sortedI) (by rfl) M.sorted boot_sorted1 (pa_cons (pv 1) pa_nil)) (pe_listRg rfl (by rfl) M.list (prg_1 (by rfl) M.range (pv 0))) (nomark _))))) (pss_one (ps_raiseX rfl EO tyO hr2 (takes_of rfl rfl rfl rfl) rfl (pa_cons (pv 1) pa_nil))) pss_nil)), ?_⟩
    refine ⟨_, rfl, _, rfl, v, d, n, rfl, hd, hdl, fun H1 s1 => ⟨_, rfl, ?_⟩⟩
    cases hil : isIL n d with
    | false =>
      refine iteT ⟨_, rfl, _, rfl, fun dd H' nd s2 hx => kO (fun x e p => ?_) H' dd (s1.trans s2) (s1.free nd) hx⟩
      rw [e, ilPos (by rw [p.length_eq, rangeLen])] at hil
      cases hil
    | true =>
      obtain ⟨x, rfl, hl⟩ := ilD hil
      obtain ⟨p, rfl, hx⟩ := rdPos hd
      have hx1 := s1.seq hx
      refine iteF ⟨_, rfl, p, x, rfl, hx1, fun u q pu su nq => ?_⟩
      obtain ⟨H2, q2, s2, h2⟩ := newAt (.lst (u.map V.int)) nq
      rw [q2]
      refine ⟨_, rfl, _, rfl, RgOk.of_le (by omega) (by omega) (by omega) (by omega), fun R nR => ?_⟩
      rw [rgRange]
      obtain ⟨H3, q3, s3, h3⟩ := newAt (.lst ((rangeI n).map V.int)) nR
      rw [q3]
      refine ⟨posD u, posD (rangeI n), .lst (SqL.of (s3 _ _ h2)) (dpInts _), .lst (SqL.of h3) (dpInts _), shapedInts _, shapedInts _, _, rfl, ?_⟩
      rw [eqvInts]
      have s13 := s1.trans (s2.trans s3)
      by_cases c : u = rangeI n
      · rw [decide_eq_true c]
        exact iteF (k x rfl (by rw [← c]; exact pu.symm) H3 s13)
      · rw [decide_eq_false c]
        refine iteT ⟨_, rfl, _, rfl, fun dd H' nd s2 hx => kO (fun x' e pe => c ?_) H' dd (s13.trans s2) (s13.free nd) hx⟩
        obtain rfl := posInj e
        exact List.Perm.eq_of_pairwise (fun a b _ _ => Int.le_antisymm) su (rangeSorted n) (pu.trans pe)
theorem sc_renum : FnScope ["graph", "order", "one", "two"] ["graph", "order"] (defScope s_renumbered) := ⟨rfl, rfl, rfl, by decide +kernel, rfl, by decide +kernel, by decide +kernel⟩
theorem ok_renum {f fI : Addr} {fd fdI : FuncData} (F : Fun K "renumbered" "renumbered" s_renumbered f fd) (T : GTxt K mg CG) (GS : MAt P w K mg base CG CX0 1 "size" ["self"] (spSizeE CG)) (GE' : MAt P w K mg base CG CX0 1 "edges" ["self"] (spEdgesOf CG))
    (GO : At P w K mg base (L2.CX P w) 3 "check_order" ["size", "order"] (spCheckOrder K CO))
    (MK : Mk K CG fI) (GI : FnOk P w K mg base (L2.CX P w) 6 fI fdI ["self", "size", "edges"] (spGInitX CG CS CM)) (bI : L2.Binds K fdI ["self", "size", "edges"] []) : FnOk P w K mg base (L2.CX P w) 8 f fd ["graph", "order"] (spRenum K CG CO) := by
  obtain ⟨fS, fdS, GS, mS, bS⟩ := GS
  obtain ⟨fE, fdE, GE', mE, bE⟩ := GE'
  obtain ⟨fO, fdO, GO, mO, kO', bO⟩ := GO
  refine F.okX sc_renum (fun vs H Q E h => ?_) (fun cdv A outer s H vs Q E hr h => ?_)
  · obtain ⟨g, n, es, v, d, rfl, _⟩ := h
    rfl
  · obtain ⟨g, n, es, v, d, rfl, hg, hd, hdl, kO, k⟩ := h
    have hr1 : Room 1 _ := hr.mono (by decide)
    have hr3 : Room 3 _ := hr.mono (by decide)
    have nd := sc_renum.nd
    have mI := T.mgC
    refine ⟨_, (pss_cons (ps_expr (pe_call GO hr3 (by rfl) mO kO' bO .nil (passes_call (E := E) (takes_of rfl rfl rfl rfl) (fun _ _ _ _ h => h)) (pa_cons (pe_meth0 (pv 0) T.cl mS GS hr1 bS .nil pass0) (pa_cons (pv 1) pa_nil))))
      (pss_one (ps_ret (pe_make MK GI (hr.mono (by decide)) (by rfl) mI bI .nil (passes_call (E := E) (takes_of rfl rfl rfl rfl) (fun _ _ _ _ h => h)) (pa_cons (pe_meth0 (pv 0) T.cl mS GS hr1 bS .nil pass0) (pa_cons (pe_lc (own := [("one", 2), ("two", 3)]) (g := gTup K 2 (gCons (gName 2) (gCons (gName 3) (gNil)))) (tt := tYes) rfl nd (pi_list (pe_meth0 (pv 0) T.cl mE GE' hr1 bE .nil pass0)) (blkOk_by (own := [("one", 2), ("two", 3)]) (N := ["graph", "order", "one", "two"]) (sc := defScope s_renumbered) (by decide +kernel)) (fun _ _ _ _ _ => pg_tup rfl (pgs_cons (pg_name (i := 2) nd rfl (Or.inl rfl)) (pgs_cons (pg_name (i := 3) nd rfl (Or.inl rfl)) pgs_nil))) (fun _ _ _ _ _ => pts_nil) (fun _ _ _ _ _ => (pe_tup (pa_cons (pe_ix (r := rIxL K) ix_list (pv 1) (pv 2) (fun _ _ => rfl)) (pa_cons (pe_ix (r := rIxL K) ix_list (pv 1) (pv 3) (fun _ _ => rfl)) pa_nil))))) pa_nil)))))), ?_⟩
    obtain ⟨dx, j, nr, g1, _⟩ := hg.obj
    have few1 := hg.good.few
    have n16 := hg.n16
    refine ⟨_, rfl, g, dx, _, rfl, g1, rfl, g, n, es, rfl, hg, _, rfl, n, v, d, rfl, hd, hdl, by omega, kO, fun x ex px H1 s1 => ?_⟩
    subst ex
    obtain ⟨p, rfl, hx⟩ := rdPos hd
    have hn := names_of px
    have hx1 := s1.seq hx
    have hg1 := hg.same s1
    refine ⟨_, rfl, g, dx, _, rfl, s1 _ _ g1, rfl, g, n, es, rfl, hg1, ?_⟩
    refine ⟨_, rfl, g, dx, _, rfl, s1 _ _ g1, rfl, g, n, es, rfl, hg1, fun A1 H2 nA s2 hA => ?_⟩
    obtain ⟨ta, ea, ea2⟩ := id hA
    refine ⟨A1, rfl, ⟨_, SqL.of ea⟩, fun Z nZ => ?_⟩
    refine lc_list (K := K) (a := A1) (xs := ta.map V.ref) (PairsTo H2 Z es (mapO x)) (pairsZero nZ) (fun i H3 _ hP => SqL.of (hP.1 _ _ ea)) (fun i v H3 hv hP => ?_) (fun H3 hP => ?_)
    · obtain ⟨t, ht, rfl⟩ := refAt hv
      obtain ⟨e, hei, het⟩ := ea2.2 i t ht
      have ne := hg.good.node e (List.mem_of_getElem? hei)
      have hx3 := (s2.trans hP.1).seq hx1
      have lx := hn.len
      refine ⟨t, _, rfl, SqT.of (hP.1 _ _ het), rfl, _, _, rfl, _, _, rfl, rfl, rfl, ?_⟩
      refine ⟨_, rfl, _, rfl, p, _, _, _, rfl, rfl, hx3, atInt (by omega) (by omega), _, rfl, _, rfl, p, _, _, _, rfl, rfl, hx3, atInt (by omega) (by omega), by show 2 ≤ sizeLine; decide, fun T nT => ?_⟩
      exact pairsStep nZ hP hei (by omega) nT
    obtain ⟨s3, hZ⟩ := pairsDone ea2.1 hP
    obtain ⟨oU, oM⟩ := orderU px hg.good
    have s13 := s1.trans (s2.trans s3)
    have n1 := hg.n1
    exact make_ok (CG := CG) (CS := CS) (CM := CM) (Q := fun g => Q (.ref g)) (E := E) hZ oU n1
      (fun c16 c40 g' H' es' ng s' hG pe _ => k x rfl px g' H' es' (s13.free ng) (s13.trans s') hG (by rw [oM] at pe; exact pe))
      (fun h => by omega) (fun _ h => by rw [List.length_map] at h; omega)
theorem sc_renumP : FnScope ["graph", "position", "order", "moved", "node", "number"] ["graph", "position", "order"] (defScope s_renumbered_position) := ⟨rfl, rfl, rfl, by decide +kernel, rfl, by decide +kernel, by decide +kernel⟩
theorem ok_renumP {f : Addr} {fd : FuncData} (F : Fun K "renumbered_position" "renumbered_position" s_renumbered_position f fd) (T : GTxt K mg CG) (M : Nms mg) (n_zip : mg "zip" = none) (GS : MAt P w K mg base CG CX0 1 "size" ["self"] (spSizeE CG))
    (GP : At P w K mg base (L2.CX P w) 3 "check_position" ["size", "position"] (spCheckPos K CP)) (GO : At P w K mg base (L2.CX P w) 3 "check_order" ["size", "order"] (spCheckOrder K CO)) : FnOk P w K mg base (L2.CX P w) 4 f fd ["graph", "position", "order"] (spRenumP K CG CP CO) := by
  obtain ⟨fS, fdS, GS, mS, bS⟩ := GS
  obtain ⟨fP, fdP, GP, mP, kP, bP⟩ := GP
  obtain ⟨fO, fdO, GO, mO, kO', bO⟩ := GO
  refine F.okX sc_renumP (fun vs H Q E h => ?_) (fun cdv A outer s H vs Q E hr h => ?_)
  · obtain ⟨g, n, es, qv, dp, v, d, rfl, _⟩ := h
    rfl
  · obtain ⟨g, n, es, qv, dp, v, d, rfl, hg, hp, hpl, hd, hdl, kP', k⟩ := h
    have hr1 : Room 1 _ := hr.mono (by decide)
    have hr3 : Room 3 _ := hr
    have nd := sc_renumP.nd
    refine ⟨_, (pss_cons (ps_expr (pe_call GP hr3 (by rfl) mP kP bP .nil (passes_call (E := E) (takes_of rfl rfl rfl rfl) (fun _ _ _ _ h => h)) (pa_cons (pe_meth0 (pv 0) T.cl mS GS hr1 bS .nil pass0) (pa_cons (pv 1) pa_nil))))
      (pss_cons (ps_expr (pe_call GO hr3 (by rfl) mO kO' bO .nil (passes_call (E := E) (takes_of rfl rfl rfl rfl) (fun _ _ _ _ h => h)) (pa_cons (pe_meth0 (pv 0) T.cl mS GS hr1 bS .nil pass0) (pa_cons (pv 2) pa_nil))))
      (pss_cons (ps_set (i := 3) nd rfl (Or.inl rfl) (pe_callTy call_list_of (by rfl) M.list (by decide +kernel) (pa_cons (pv 1) pa_nil)))
      (pss_cons (ps_for PassesOwn.leaving rfl (pi_zip (by rfl) n_zip (pa_cons (pv 2) (pa_cons (pv 1) pa_nil))) (pg_tup rfl (pgs_cons (pg_name (i := 4) nd rfl (Or.inl rfl)) (pgs_cons (pg_name (i := 5) nd rfl (Or.inl rfl)) pgs_nil))) (pss_one (ps_asg (pv 5) (pg_sub (pv 3) (pv 4) set_list))))
      (pss_one (ps_ret (pv 3))))))), ?_⟩
    obtain ⟨dx, j, nr, g1, _⟩ := hg.obj
    have n16 := hg.n16
    refine ⟨_, rfl, g, dx, _, rfl, g1, rfl, g, n, es, rfl, hg, _, rfl, qv, dp, n, rfl, hp, hpl, fun H1 s1 hil => ?_, fun H' dd sm nd hx hil => kP' hil H' dd sm nd hx⟩
    obtain ⟨z, rfl, lz⟩ := ilD hil
    obtain ⟨kO, k2⟩ := k z rfl lz
    obtain ⟨pz, rfl, hz⟩ := rdPos hp
    refine ⟨_, rfl, g, dx, _, rfl, s1 _ _ g1, rfl, g, n, es, rfl, hg.same s1, _, rfl, n, v, d, rfl, rdSame s1 hd, hdl, by omega, fun hno H' dd s' nd hx => kO hno H' dd (s1.trans s') (s1.free nd) hx, fun x ex px H2 s2 => ?_⟩
    subst ex
    obtain ⟨p, rfl, hx⟩ := rdPos hd
    have hn := names_of px
    have lx := hn.len
    have s12 := s1.trans s2
    have hz2 := s12.seq hz
    have hx2 := s12.seq hx
    refine ⟨_, rfl, pz, _, rfl, .inl hz2, fun D nD => ?_⟩
    obtain ⟨H3, q3, s3, h3⟩ := newAt (.lst (z.map V.int)) nD
    rw [q3]
    have hz3 := s3.seq hz2
    have hx3 := s3.seq hx2
    have fD : H D = none := s12.free nD
    refine ⟨_, rfl, _, rfl, p, pz, _, _, rfl, hx3, hz3, for_it (walk_zip (K := K) (a := p) (b := pz) (xs := x.map V.int) (ys := z.map V.int) (n := n) (by rw [List.length_map, List.length_map]; omega)) (fun i σ H' => ∃ (o4 o5 : Option V) (y : List Int),
        σ = [some (.ref g), some (.ref pz), some (.ref p), some (.ref D), o4, o5] ∧ Same H2 H' ∧ H' D = some (.lst (y.map V.int)) ∧ y.length = n ∧ ∀ j, j < i → y.getD (x.getD j 0).toNat 0 = z.getD j 0)
      ⟨none, none, z, rfl, s3, h3, lz, fun j hj => by omega⟩ (fun i σ H' _ h => ?_) (fun i u σ H' H'' hi h hy => ?_) (fun σ H' h => ?_)⟩
    · obtain ⟨_, _, _, _, sm, _⟩ := h
      exact ⟨sm.seq hx2, sm.seq hz2⟩
    · obtain ⟨o4, o5, y, rfl, sm, hD, ly, hy'⟩ := h
      obtain ⟨T', a', b', rfl, nT, rfl, e1, e2⟩ := hy
      obtain ⟨xi, hxi, rfl⟩ := intsAt e1
      obtain ⟨zi, hzi, rfl⟩ := intsAt e2
      have exi : x.getD i 0 = xi := by rw [List.getD_eq_getElem?_getD, hxi]; rfl
      have ezi : z.getD i 0 = zi := by rw [List.getD_eq_getElem?_getD, hzi]; rfl
      have bi := hn.bnd i hi
      rw [exi] at bi
      have sT := same_upd nT (o := .tup [V.int xi, V.int zi])
      refine ⟨T', _, rfl, SqT.of upd_same, rfl, _, _, rfl, _, _, rfl, rfl, ?_⟩
      have hD2 := sT _ _ hD
      have sm2 := sm.trans sT
      generalize (upd H' T' (.tup [V.int xi, V.int zi])) = H4 at hD2 sm2 ⊢
      refine ⟨_, rfl, _, rfl, _, rfl, D, _, xi, _, rfl, rfl, hD2, ixInt bi.1 (by omega), ?_⟩
      refine ⟨some (.int xi), some (.int zi), y.set xi.toNat zi, rfl, fun b o e => ?_, by rw [upd_same, mapSet], by rw [List.length_set]; exact ly, fun j hj => ?_⟩
      · rw [upd_ne (ne_of_none e nD)]
        exact sm2 _ _ e
      · rw [getSet (by omega)]
        by_cases c : j = i
        · rw [c, exi, if_pos rfl, ezi]
        · have bj := hn.bnd j (by omega)
          have ne := hn.inj j i (by omega) hi
          rw [exi] at ne
          rw [if_neg (fun q => c (ne (by omega)))]
          exact hy' j (by omega)
    · obtain ⟨o4, o5, y, rfl, sm, hD, ly, hy'⟩ := h
      exact ⟨_, rfl, k2 x rfl px D H' y fD (s12.trans sm) hD ly hy'⟩
end

end K77

set_option Elab.async false
set_option linter.all false
set_option maxRecDepth 100000
set_option maxHeartbeats 8000000
namespace K77
open PySem PySem.Spec PyProof.Rows L2 FNX
/-! ## _law_error -/
theorem sc_error : FnScope ["_law_door", "_law_kept", "e"] ["_law_door"] (defScope s__law_error) := ⟨rfl, rfl, rfl, by decide +kernel, rfl, by decide +kernel, by decide +kernel⟩
abbrev cl77 (C0 C1 C2 C3 : Addr) : List (Addr × MkC) := [(C0, mkV "size"), (C1, mkV "many"), (C2, mkR "position"), (C3, mkR "order")]
theorem err_gives {X : Cx} {g C0 C1 C2 C3 : Addr} {cdg : Value} {q : Str} (hgd : X.A.guards = some []) (hr : Room 2 X.A) (mR : X.mg "repr" = none)
    (E0 : Ex X.prog X.w X.K X.mg X.base "InvalidSize" C0) (E1 : Ex X.prog X.w X.K X.mg X.base "TooMany" C1) (E2 : Ex X.prog X.w X.K X.mg X.base "InvalidPosition" C2) (E3 : Ex X.prog X.w X.K X.mg X.base "InvalidOrder" C3) :
    LamX.GivesTo X ["_law_door", "_law_kept", "e"] "_law_error" (defScope s__law_error) g cdg (defBody s__law_error) "_law_door" q (TErrG X.K (cl77 C0 C1 C2 C3)) := by
  intro f c' s H Q tl act hc h
  have nd := sc_error.nd
  have hu : X.A.units + 3 + 64 < cLine := (hr.deeper X.env).units
  refine ⟨_, pss_cons (ps_set (i := 1) nd rfl (Or.inl rfl) pe_non) (pss_cons (ps_try_mas (i := 2) (tb := tDoor f c' q tl) rfl rfl nd rfl rfl takes0
      (fun W pn xe tk _ => ⟨fun pins s' σ H' D I h' => by
        obtain ⟨Ech, hW, h1, h2, h3⟩ := h'
        exact (pss_one (ps_expr (act _ pn xe Ech _ _ (takes_len tk) (fun cls d σ' H' e l => hW cls d H' σ' e l)))).run pins s' σ H' D I ⟨h1, h2, h3⟩⟩)
      (.cons ⟨rfl, by decide, .inl E0.mgC⟩ (fun z oz cls d pn hz hf => pss_one (ps_set (i := 1) nd rfl (Or.inl rfl) (pe_lst (pa_cons pe_str (pa_cons (pe_byX E0.xc hz hf (pv 2)) pa_nil)))))
      (.cons ⟨rfl, by decide, .inl E1.mgC⟩ (fun z oz cls d pn hz hf => pss_one (ps_set (i := 1) nd rfl (Or.inl rfl) (pe_lst (pa_cons pe_str (pa_cons (pe_byX E1.xc hz hf (pv 2)) pa_nil)))))
      (.cons ⟨rfl, by decide, .inl E2.mgC⟩ (fun z oz cls d pn hz hf => pss_one (ps_set (i := 1) nd rfl (Or.inl rfl) (pe_lst (pa_cons pe_str (pa_cons (pe_callB (show CallR _ (.builtin "repr") (rRepr X.K) from call_repr hgd hu) (by rfl) mR boot_repr1 (pa_cons (pe_byX E2.xc hz hf (pv 2)) pa_nil)) pa_nil)))))
      (.cons ⟨rfl, by decide, .inl E3.mgC⟩ (fun z oz cls d pn hz hf => pss_one (ps_set (i := 1) nd rfl (Or.inl rfl) (pe_lst (pa_cons pe_str (pa_cons (pe_callB (show CallR _ (.builtin "repr") (rRepr X.K) from call_repr hgd hu) (by rfl) mR boot_repr1 (pa_cons (pe_byX E3.xc hz hf (pv 2)) pa_nil)) pa_nil)))))
      .nil))))) (pss_one (ps_ret (pv 1)))), ?_⟩
  refine ⟨wErrG X.K Q (cl77 C0 C1 C2 C3), fun cls d H' σ' w l => ?_, rfl, hc, h⟩
  obtain ⟨a, b, c, rfl⟩ := len3 l
  obtain ⟨b0, e0, yes0, no0⟩ := w
  refine ⟨b0, e0, fun t0 z nz => ?_, fun n0 => ?_⟩
  · obtain ⟨rfl, dd, v, dt, rfl, hd, hv, m⟩ := yes0 t0
    exact ⟨_, rfl, rfl, rfl, dd, _, rfl, hd, by show 2 ≤ sizeLine; decide, fun p np => ⟨_, rfl, m p np⟩⟩
  obtain ⟨b1, e1, yes1, no1⟩ := no0 n0
  refine ⟨b1, e1, fun t1 z nz => ?_, fun n1 => ?_⟩
  · obtain ⟨rfl, dd, v, dt, rfl, hd, hv, m⟩ := yes1 t1
    exact ⟨_, rfl, rfl, rfl, dd, _, rfl, hd, by show 2 ≤ sizeLine; decide, fun p np => ⟨_, rfl, m p np⟩⟩
  obtain ⟨b2, e2, yes2, no2⟩ := no1 n1
  refine ⟨b2, e2, fun t2 z nz => ?_, fun n2 => ?_⟩
  · obtain ⟨rfl, dd, v, dt, rfl, hd, hv, sh1, sh2, sh3, m⟩ := yes2 t2
    exact ⟨_, rfl, rfl, rfl, dd, _, rfl, hd, v, dt, rfl, hv, sh1, sh2, sh3, by show 2 ≤ sizeLine; decide, fun p np => ⟨_, rfl, m p np⟩⟩
  obtain ⟨b3, e3, yes3, no3⟩ := no2 n2
  refine ⟨b3, e3, fun t3 z nz => ?_, fun n3 => ?_⟩
  · obtain ⟨rfl, dd, v, dt, rfl, hd, hv, sh1, sh2, sh3, m⟩ := yes3 t3
    exact ⟨_, rfl, rfl, rfl, dd, _, rfl, hd, v, dt, rfl, hv, sh1, sh2, sh3, by show 2 ≤ sizeLine; decide, fun p np => ⟨_, rfl, m p np⟩⟩
  exact (no3 n3).elim

/-! ## _law_order, _law_union_right -/
theorem toldHeadG {K : PySem.W.Frag} {C : Addr} {m : MkC} {r : List (Addr × MkC)} {v : V} {d : PyData} {H : Hp} {Q : VK} (x : PySem.W.exmOne K (.ref C) (.ref C) = some true) (hd : ∀ H', Same H H' → Rd K H' v d)
    (k : ∀ H', Same H H' → m v d H' Q) : told C v H (wErrG K Q ((C, m) :: r)) :=
  fun H' dd s _ hx => ⟨true, x, fun _ => ⟨rfl, dd, v, d, rfl, hx, hd H' s, k H' s⟩, (fun z => nomatch z)⟩
theorem toldTailG {K : PySem.W.Frag} {C C0 : Addr} {m : MkC} {r : List (Addr × MkC)} {v : V} {H : Hp} {Q : VK} (x : PySem.W.exmOne K (.ref C) (.ref C0) = some false) (t : told C v H (wErrG K Q r)) : told C v H (wErrG K Q ((C0, m) :: r)) :=
  fun H' dd s nd hx => ⟨false, x, (fun z => nomatch z), fun _ => t H' dd s nd hx⟩
theorem toldHeadV {K : PySem.W.Frag} {C : Addr} {word : Str} {r : List (Addr × MkC)} {i : Int} {H : Hp} {Q : VK} (x : PySem.W.exmOne K (.ref C) (.ref C) = some true)
    (k : ∀ H' p, Same H H' → H' p = none → Q (.ref p) (upd H' p (.lst [.str word, .int i]))) : told C (.int i) H (wErrG K Q ((C, mkV word) :: r)) :=
  fun H' dd s _ hx => ⟨true, x, fun _ => ⟨rfl, dd, .int i, .int i, rfl, hx, .dat (.int i), fun p np => k H' p s np⟩, (fun z => nomatch z)⟩
theorem geExt {CG : Addr} {H H' : Hp} {g : Addr} {n : Nat} {es : List (Int × Int)} (h : GE CG H g n es) (s : LamX.ExtN H H') : GE CG H' g n es := by
  obtain ⟨⟨dx, j, nr, h1, h2⟩, a, b, c, d⟩ := h
  exact ⟨⟨dx, j, nr, s _ _ h1 (fun _ z => by cases z), edExt h2 s⟩, a, b, c, d⟩
theorem GE.x {CG p : Addr} {H H' : Hp} {g : Addr} {n : Nat} {es : List (Int × Int)} (h : GE CG H g n es) (hp : PoolAt H p) (s : SameX p H H') : GE CG H' g n es := by
  obtain ⟨⟨dx, j, nr, h1, h2⟩, a, b, c, d⟩ := h
  obtain ⟨ts, e1, e2⟩ := id h2
  have gp : p ≠ g := by
    obtain ⟨_, _, z, _⟩ := hp
    exact (ne_of h1 z (by intro y; cases y)).symm
  have jp : p ≠ j := by
    obtain ⟨c1, c2, z, _⟩ := hp
    refine (ne_of e1 z (fun y => ?_)).symm
    injection y with y
    cases ts with
    | nil => cases y
    | cons t r => injection y with y _; cases y
  exact ⟨⟨dx, j, nr, s _ _ gp.symm h1, edX h2 hp jp s⟩, a, b, c, d⟩
abbrev lam2 (Pu Pr : Addr) : List (Addr × Str) := [(Pu, (("_law_union_right" : Str) ++ ".<locals>.") ++ "<lambda>"), (Pr, (("_law_refused" : Str) ++ ".<locals>.") ++ "<lambda>")]
theorem lam2u {Pu Pr : Addr} (hne : Pu ≠ Pr) : ∀ p ∈ lam2 Pu Pr, p.1 = Pu → p.2 = (("_law_union_right" : Str) ++ ".<locals>.") ++ "<lambda>" := fun p hp e => by
  rcases List.mem_cons.mp hp with rfl | hp
  · rfl
  · rw [List.mem_singleton.mp hp] at e
    exact absurd e.symm hne
theorem lam2r {Pu Pr : Addr} (hne : Pu ≠ Pr) : ∀ p ∈ lam2 Pu Pr, p.1 = Pr → p.2 = (("_law_refused" : Str) ++ ".<locals>.") ++ "<lambda>" := fun p hp e => by
  rcases List.mem_cons.mp hp with rfl | hp
  · exact absurd e hne
  · rw [List.mem_singleton.mp hp]
theorem tabs2 {H : Hp} {cu Pu cr Pr : Addr} (h : ∀ p ∈ [(cu, Pu), (cr, Pr)], H p.2 = some (.tbl #[])) : LamX.Tabs (lam2 Pu Pr) H := fun p hp => by
  rcases List.mem_cons.mp hp with rfl | hp
  · exact .nil (h (cu, Pu) List.mem_cons_self)
  · rw [List.mem_singleton.mp hp]
    exact .nil (h (cr, Pr) (List.mem_cons_of_mem _ List.mem_cons_self))
theorem edApp {H : Hp} {p : Addr} {ta tz : List Addr} {es fs : List (Int × Int)} (q1 : TupsAt H ta es) (q2 : TupsAt H tz fs) (h : H p = some (.lst ((ta ++ tz).map V.ref))) : EdgesAt H p (es ++ fs) := by
  refine ⟨ta ++ tz, h, by rw [List.length_append, List.length_append, q1.1, q2.1], fun k t hk => ?_⟩
  by_cases c : k < ta.length
  · rw [List.getElem?_append_left c] at hk
    obtain ⟨e, w1, w2⟩ := q1.2 k t hk
    exact ⟨e, by rw [List.getElem?_append_left (by rw [← q1.1]; exact c)]; exact w1, w2⟩
  · rw [List.getElem?_append_right (by omega)] at hk
    obtain ⟨e, w1, w2⟩ := q2.2 _ t hk
    exact ⟨e, by rw [List.getElem?_append_right (by rw [← q1.1]; omega), ← q1.1]; exact w1, w2⟩
theorem shapedWI (w : Str) (hw : PyData.canLay0 (.str w) = true) (i : Int) : SeqAt.shaped (.list [.str w, .int i]) = true := by
  unfold SeqAt.shaped
  have e1 : PyData.canLay0 (.list [.str w, .int i]) = true := by
    show (PyData.canLay0 (.str w) && (true && true)) = true
    rw [hw]
    rfl
  rw [e1, decide_eq_true (by show max 0 (max 0 0) + 1 ≤ 64; decide)]
  rfl
def spOrder : Sp := fun vs H Q _ => ∃ (p : Addr) (n : Nat), vs = [.ref p, .int (n : Int)] ∧ PoolAt H p ∧ n ≤ 1000 ∧
  ∀ (q : Addr) (H' : Hp) (ns : List Int), H q = none → SameX p H H' → PoolAt H' p → H' q = some (.lst (ns.map V.int)) → ns.Perm (rangeI n) → Q (.ref q) H'
def spUR (K : PySem.W.Frag) (CG Pu Pr : Addr) : Sp := fun vs H Q _ => ∃ (g h : Addr) (n m : Nat) (es fs : List (Int × Int)), vs = [.ref g, .ref h] ∧ GE CG H g n es ∧ GE CG H h m fs ∧ LamX.Tabs (lam2 Pu Pr) H ∧ ∀ H', LamX.ExtN H H' → LamX.Tabs (lam2 Pu Pr) H' → Q (.bl true) H'
section
variable {P : Program} {w : World} {K : PySem.W.Frag} {mg : Str → Option Value} {base : Heap} {CG CS CM CO CP : Addr}
theorem sc_order : FnScope ["_law_pool_here", "_law_many", "_law_found", "_law_node"] ["_law_pool_here", "_law_many"] (defScope s__law_order) := ⟨rfl, rfl, rfl, by decide +kernel, rfl, by decide +kernel, by decide +kernel⟩
theorem ok_order {f : Addr} {fd : FuncData} (F : Fun K "_law_order" "_law_order" s__law_order f fd) (M : Nms mg) (GT : At P w K mg base CX0 1 "_law_take" ["_law_pool_here", "_law_sides"] spTake) : FnOk P w K mg base CX0 2 f fd ["_law_pool_here", "_law_many"] spOrder := by
  obtain ⟨fT, fdT, GT, mT, kT, bT⟩ := GT
  refine F.ok sc_order (fun vs H Q E h => ?_) (fun cdv A outer s H vs Q E hr h => ?_)
  · obtain ⟨p, n, rfl, _⟩ := h
    rfl
  · obtain ⟨p, n, rfl, hp, hn, k⟩ := h
    have nd := sc_order.nd
    have hr1 : Room 1 _ := hr
    refine ⟨_, (pss_cons (ps_set (i := 2) nd rfl (Or.inl rfl) (pe_lst pa_nil))
      (pss_cons (ps_for PassesOwn.never rfl (pi_range1 rfl M.range (pa_cons (pv 1) pa_nil)) (pg_name (i := 3) nd rfl (Or.inl rfl)) (pss_one (ps_expr (pe_bm PySem.F.plainAttrs_list PySem.F.slot_list_insert PySem.F.type_list_insert mt_insert (pv 2) (pa_cons (pe_call GT hr1 (by rfl) mT kT bT .nil pass0 (pa_cons (pv 0) (pa_cons (pe_op op_add (pe_callB call_len_seq (by rfl) M.len boot_len1 (pa_cons (pv 2) pa_nil)) pe_int) pa_nil))) (pa_cons (pv 3) pa_nil))))))
      (pss_one (ps_ret (pv 2))))), ?_⟩
    refine ⟨by show 0 ≤ sizeLine; decide, fun D nD => ?_⟩
    obtain ⟨H1, q1, s1, h1⟩ := newAt (.lst []) nD
    rw [q1]
    have hDp : D ≠ p := (hp.ne nD).symm
    refine ⟨_, rfl, n, rfl, by omega, by omega, for_range (lo := 0) (fun i σ H' => ∃ (o3 : Option V) (ns : List Int), σ = [some (.ref p), some (.int (n : Int)), some (.ref D), o3] ∧ PoolAt H' p ∧
        (∀ b o, b ≠ p → b ≠ D → H1 b = some o → H' b = some o) ∧ H' D = some (.lst (ns.map V.int)) ∧ ns.Perm (rangeI i))
      ⟨none, [], rfl, hp.same s1, fun b o _ _ e => e, h1, .refl _⟩ (fun i σ H' hi h => ?_) (fun σ H' h => ?_)⟩
    · obtain ⟨o5, ns, rfl, hpp, sx, hD, pm⟩ := h
      have lns : ns.length = i := by rw [pm.length_eq, rangeLen]
      refine ⟨_, rfl, .inl ⟨rfl, _, SqL.of hD⟩, _, rfl, _, rfl, D, _, rfl, .inl (SqL.of hD), _, _, rfl, rfl, p, ((i + 1 : Nat) : Int), by rw [List.length_map, lns]; rfl, hpp, by omega, by omega, fun r H2 r0 r1 hp2 t2 => ⟨_, rfl, ?_⟩⟩
      have hD2 : H2 D = some (.lst (ns.map V.int)) := (t2 D hDp).trans hD
      refine ⟨D, _, r, _, rfl, rfl, hD2, by rw [List.length_map, lns, sizeLine_eq]; omega, r0, by omega, ?_⟩
      refine ⟨_, ns.take r.toNat ++ [(0 : Int) + i] ++ ns.drop r.toNat, rfl, ?_, fun b o hb hbD e => ?_, ?_, ?_⟩
      · obtain ⟨c1, c2, z, y⟩ := hp2
        exact ⟨c1, c2, by rw [upd_ne hDp.symm]; exact z, y⟩
      · rw [upd_ne hbD]
        exact (t2 b hb).trans (sx b o hb hbD e)
      · rw [upd_same, List.map_append, List.map_append, List.map_take, List.map_drop]
        rfl
      · refine (insPerm _ _).trans ?_
        have e : rangeI (i + 1) = rangeI i ++ [(i : Int)] := by
          unfold rangeI
          rw [List.range_succ, List.map_append]
          rfl
        rw [e, Int.zero_add]
        exact pm.append_right _
    obtain ⟨o5, ns, rfl, hpp, sx, hD, pm⟩ := h
    exact ⟨_, rfl, k D H' ns nD (fun b o hb e => sx b o hb (ne_of_none e nD) (s1 _ _ e)) hpp hD (by simpa using pm)⟩
theorem sc_ur : FnScope ["_law_first", "_law_second", "_law_size", "_law_count", "_law_due", "_law_found", "_law_one", "_law_two"] ["_law_first", "_law_second"] (defScope s__law_union_right) := ⟨rfl, rfl, rfl, by decide +kernel, rfl, by decide +kernel, by decide +kernel⟩
theorem ok_ur {f fI fE c Pu Pr : Addr} {fd fdI fdE : FuncData} (F : FunC K "_law_union_right" "_law_union_right" s__law_union_right f fd c) (M : Nms mg) (T : GTxt K mg CG) (hne : Pu ≠ Pr) (TBu : LamX.TabB base mg c Pu)
    (FE : Fun K "_law_error" "_law_error" s__law_error fE fdE) (mE : mg "_law_error" = some (.ref fE)) (bE : L2.Binds K fdE ["_law_door"] [])
    (E0 : Ex P w K mg base "InvalidSize" CS) (E1 : Ex P w K mg base "TooMany" CM) (E2 : Ex P w K mg base "InvalidPosition" CP) (E3 : Ex P w K mg base "InvalidOrder" CO)
    (x00 : PySem.W.exmOne K (.ref CS) (.ref CS) = some true) (x10 : PySem.W.exmOne K (.ref CM) (.ref CS) = some false) (x11 : PySem.W.exmOne K (.ref CM) (.ref CM) = some true)
    (GS : MAt P w K mg base CG CX0 1 "size" ["self"] (spSizeE CG)) (GE' : MAt P w K mg base CG CX0 1 "edges" ["self"] (spEdgesOf CG)) (GLn : MAt P w K mg base CG CX0 1 "__len__" ["self"] (spLenE CG)) (GQ : MAt P w K mg base CG CX0 1 "__eq__" ["self", "other"] (spEq (RGraph CG)))
    (GU : At P w K mg base (L2.CX P w) 8 "union" ["graph", "other"] (spUnion CG CS CM))
    (MK : Mk K CG fI) (GI : FnOk P w K mg base (L2.CX P w) 6 fI fdI ["self", "size", "edges"] (spGInitX CG CS CM)) (bI : L2.Binds K fdI ["self", "size", "edges"] []) :
    GOk P w K mg base 11 f fd ["_law_first", "_law_second"] (spUR K CG Pu Pr) := by
  obtain ⟨fS, fdS, GS, mS, bS⟩ := GS
  obtain ⟨fE', fdE', GE', mEd, bEd⟩ := GE'
  obtain ⟨fL, fdL, GLn, mLn, bLn⟩ := GLn
  obtain ⟨fQ, fdQ, GQ, mQ, bQ⟩ := GQ
  obtain ⟨fU, fdU, GU, mU, kU, bU⟩ := GU
  refine okGC F sc_ur (fun vs H Q E h => ?_) (fun A outer s H vs Q E hgd hr9 h => ?_)
  · obtain ⟨g, h, n, m, es, fs, rfl, _⟩ := h
    rfl
  · obtain ⟨g, h, n, m, es, fs, rfl, hg, hh, hTab, k⟩ := h
    have nd := sc_ur.nd
    have hr := hr9
    have hr1 : Room 1 _ := hr.mono (by decide)
    have hr2 : Room 2 _ := hr.mono (by decide)
    have hr7 : Room 7 _ := hr.mono (by decide)
    have hr8 : Room 8 _ := hr.mono (by decide)
    have hu64 : A.units + 3 + 64 < cLine := hr.units
    have mI := T.mgC
    refine ⟨_, (pss_cons (ps_par (i := 2) (j := 3) (by rfl) nd rfl rfl (by decide) rfl rfl (pa_cons (pe_op op_add (pe_meth0 (pv 0) T.cl mS GS hr1 bS .nil pass0) (pe_meth0 (pv 1) T.cl mS GS hr1 bS .nil pass0)) (pa_cons (pe_op op_add (pe_callB (show CallR _ (.builtin "len") (rLenI CG (spLenE CG) E) from call_lenI GLn mLn.1 mLn.fn bLn pass0 hr2) (by rfl) M.len boot_len1 (pa_cons (pv 0) pa_nil)) (pe_callB (show CallR _ (.builtin "len") (rLenI CG (spLenE CG) E) from call_lenI GLn mLn.1 mLn.fn bLn pass0 hr2) (by rfl) M.len boot_len1 (pa_cons (pv 1) pa_nil))) pa_nil)) (by rfl))
      (pss_cons (ps_set (i := 4) nd rfl (Or.inl rfl) (pe_ifExp (pt_cmpR op_gt (pv 2) pe_int (nomark _)) (pe_lst (pa_cons pe_str (pa_cons (pv 2) pa_nil))) pe_non))
      (pss_cons (ps_if (PW.pt (pw_and (pt_cmpR op_isN (pv 4) pe_non (nomark _)) (pw_and1 (pt_cmpR op_gt (pv 3) pe_int (nomark _))))) (pss_one (ps_set (i := 4) nd rfl (Or.inl rfl) (pe_lst (pa_cons pe_str (pa_cons (pv 3) pa_nil))))) pss_nil)
      (pss_cons (ps_if (pt_cmpR op_notN (pv 4) pe_non (nomark _)) (pss_one (ps_ret (pe_cmpR (op_eqD hu64) (pe_doorN (x := "_law_error") (T := lam2 Pu Pr) (TT := TErrG K (cl77 CS CM CP CO)) (by rfl) mE FE bE sc_error (Or.inl rfl) (fun cdg => err_gives hgd hr2 M.repr E0 E1 E2 E3) TBu rfl List.mem_cons_self
              (lam2u hne) hr9 (show LamX.LamS (defScope s__law_union_right) _ from LamX.lamS_by (by decide +kernel)) rfl (fun _ _ _ _ _ => rfl)
              (fun A outer s H E f c' hr => (pe_call GU (hr.mono (by decide)) (by rfl) mU kU bU .nil (passes_call (E := E) (takes_of rfl rfl rfl rfl) (fun _ _ _ _ h => h)) (pa_cons (pv 0) (pa_cons (pv 1) pa_nil))))) (pv 4) (nomark _)))) pss_nil)
      (pss_cons (ps_set (i := 5) nd rfl (Or.inl rfl) (pe_op op_cat (pe_meth0 (pv 0) T.cl mEd GE' hr1 bEd .nil pass0) (pe_lc (own := [("_law_one", 6), ("_law_two", 7)]) (g := gTup K 2 (gCons (gName 6) (gCons (gName 7) (gNil)))) (tt := tYes) rfl nd (pi_list (pe_meth0 (pv 1) T.cl mEd GE' hr1 bEd .nil pass0)) (blkOk_by (own := [("_law_one", 6), ("_law_two", 7)]) (N := ["_law_first", "_law_second", "_law_size", "_law_count", "_law_due", "_law_found", "_law_one", "_law_two"]) (sc := defScope s__law_union_right) (by decide +kernel)) (fun _ _ _ _ _ => pg_tup rfl (pgs_cons (pg_name (i := 6) nd rfl (Or.inl rfl)) (pgs_cons (pg_name (i := 7) nd rfl (Or.inl rfl)) pgs_nil))) (fun _ _ _ _ _ => pts_nil) (fun _ _ _ _ _ => (pe_tup (pa_cons (pe_op op_add (pv 6) (pe_meth0 (pv 0) T.cl mS GS hr1 bS .nil pass0)) (pa_cons (pe_op op_add (pv 7) (pe_meth0 (pv 0) T.cl mS GS hr1 bS .nil pass0)) pa_nil)))))))
      (pss_one (ps_ret (pe_cmpR (show OpR _ (compareOp .Eq) (rEqG (DIns CG (RGraph CG))) from op_eqG (rcG_ins (E := E) GQ mQ.1 mQ.fn bQ pass0) hr1) (pe_call GU hr8 (by rfl) mU kU bU .nil passL (pa_cons (pv 0) (pa_cons (pv 1) pa_nil))) (pe_make MK GI hr7 (by rfl) mI bI .nil passL (pa_cons (pv 2) (pa_cons (pv 5) pa_nil))) (nomark _))))))))), ?_⟩
    obtain ⟨uo, uU⟩ := unionU hg.good hh.good
    obtain ⟨dx, j, nr, g1, _⟩ := hg.obj
    obtain ⟨dx', j', nr', g1', _⟩ := hh.obj
    have few1 := hg.good.few
    have few2 := hh.good.few
    have no0 := hg.n1
    have ll : (es ++ fs.map (shE n)).length = es.length + fs.length := by rw [List.length_append, List.length_map]
    refine ⟨_, rfl, g, dx, _, rfl, g1, rfl, g, n, es, rfl, hg, _, rfl, h, dx', _, rfl, g1', rfl, h, m, fs, rfl, hh, _, _, rfl, rfl, ?_⟩
    rw [show ((fun i j : Int => V.int (i + j)) (n : Int) (m : Int)) = V.int ((n + m : Nat) : Int) from congrArg V.int (by omega)]
    refine ⟨_, rfl, g, dx, _, rfl, g1, g, n, es, rfl, hg, (es.length : Int), rfl, by omega, by omega, _, rfl, h, dx', _, rfl, g1', h, m, fs, rfl, hh, (fs.length : Int), rfl, by omega, by omega, _, _, rfl, rfl, ?_⟩
    rw [show ((fun i j : Int => V.int (i + j)) (es.length : Int) (fs.length : Int)) = V.int ((es.length + fs.length : Nat) : Int) from congrArg V.int (by omega)]
    refine ⟨_, _, rfl, ?_⟩
    refine ⟨_, rfl, _, _, rfl, rfl, _, rfl, ?_⟩
    by_cases c16 : n + m ≤ 16
    case neg =>
      rw [decide_eq_true (by omega)]
      refine iteT ⟨_, rfl, by show 2 ≤ sizeLine; decide, fun D nD => ?_⟩
      obtain ⟨H1, q1, s1, h1⟩ := newAt (.lst [V.str "size", V.int ((n + m : Nat) : Int)]) nD
      rw [q1]
      refine ⟨_, rfl, rfl, _, rfl, ?_⟩
      rw [decide_eq_false (fun z => by cases z)]
      refine iteF ⟨_, rfl, rfl, _, rfl, ?_⟩
      rw [decide_eq_false (fun z => by cases z)]
      refine iteT ⟨Same.tabs s1 hTab, fun D1 xt1 tb1 => ?_⟩
      have xt := (Same.ext s1).trans xt1
      refine ⟨_, rfl, _, rfl, ?_⟩
      dsimp only [tNil, tCons, tC]
      change spUnion CG CS CM [V.ref g, V.ref h] D1 _ _
      refine ⟨g, h, n, m, es, fs, rfl, geExt hg xt, geExt hh xt, fun _ => toldHeadV x00 (fun D2 p sp2 np => ?_), fun q => by omega, fun q => by omega⟩
      obtain ⟨D3, q3, s3, h3⟩ := newAt (.lst [V.str "size", V.int ((n + m : Nat) : Int)]) np
      rw [q3]
      have s23 := sp2.trans s3
      have hD3 := s23 _ _ (xt1 _ _ h1 (fun _ z => by cases z))
      refine ⟨_, rfl, .list [.str "size", .int ((n + m : Nat) : Int)], .list [.str "size", .int ((n + m : Nat) : Int)], .lst (SqL.of h3) (.cons (.str _) (.cons (.int _) .nil)), .lst (SqL.of hD3) (.cons (.str _) (.cons (.int _) .nil)), shapedWI _ (by decide +kernel) _, shapedWI _ (by decide +kernel) _, ?_⟩
      rw [eqvSame (shapedWI "size" (by decide +kernel) _)]
      exact k _ (xt.trans (Same.ext s23)) (Same.tabs s23 tb1)
    rw [decide_eq_false (by omega)]
    refine iteF ⟨_, rfl, rfl, _, rfl, ?_⟩
    rw [decide_eq_true rfl]
    refine iteT ⟨_, rfl, _, _, rfl, rfl, _, rfl, ?_⟩
    by_cases c40 : es.length + fs.length ≤ 40
    case neg =>
      rw [decide_eq_true (by omega)]
      refine iteT ⟨_, rfl, by show 2 ≤ sizeLine; decide, fun D nD => ?_⟩
      obtain ⟨H1, q1, s1, h1⟩ := newAt (.lst [V.str "many", V.int ((es.length + fs.length : Nat) : Int)]) nD
      rw [q1]
      refine ⟨_, rfl, rfl, _, rfl, ?_⟩
      rw [decide_eq_false (fun z => by cases z)]
      refine iteT ⟨Same.tabs s1 hTab, fun D1 xt1 tb1 => ?_⟩
      have xt := (Same.ext s1).trans xt1
      refine ⟨_, rfl, _, rfl, ?_⟩
      dsimp only [tNil, tCons, tC]
      change spUnion CG CS CM [V.ref g, V.ref h] D1 _ _
      refine ⟨g, h, n, m, es, fs, rfl, geExt hg xt, geExt hh xt, fun q => by omega, fun _ _ => toldTailG x10 (toldHeadV x11 (fun D2 p sp2 np => ?_)), fun _ q => by omega⟩
      obtain ⟨D3, q3, s3, h3⟩ := newAt (.lst [V.str "many", V.int ((es.length + fs.length : Nat) : Int)]) np
      rw [q3]
      have s23 := sp2.trans s3
      have hD3 := s23 _ _ (xt1 _ _ h1 (fun _ z => by cases z))
      refine ⟨_, rfl, .list [.str "many", .int ((es.length + fs.length : Nat) : Int)], .list [.str "many", .int ((es.length + fs.length : Nat) : Int)], .lst (SqL.of h3) (.cons (.str _) (.cons (.int _) .nil)), .lst (SqL.of hD3) (.cons (.str _) (.cons (.int _) .nil)), shapedWI _ (by decide +kernel) _, shapedWI _ (by decide +kernel) _, ?_⟩
      rw [eqvSame (shapedWI "many" (by decide +kernel) _)]
      exact k _ (xt.trans (Same.ext s23)) (Same.tabs s23 tb1)
    rw [decide_eq_false (by omega)]
    refine iteF ⟨_, rfl, rfl, _, rfl, ?_⟩
    rw [decide_eq_true rfl]
    refine iteF ?_
    refine ⟨_, rfl, g, dx, _, rfl, g1, rfl, g, n, es, rfl, hg, fun A1 H1 nA s1 hA => ?_⟩
    obtain ⟨ta, ea, ea2⟩ := id hA
    refine ⟨_, rfl, h, dx', _, rfl, s1 _ _ g1', rfl, h, m, fs, rfl, hh.same s1, fun B1 H2 nB s2 hB => ?_⟩
    obtain ⟨tb, eb, eb2⟩ := id hB
    have s12 := s1.trans s2
    refine ⟨B1, rfl, ⟨_, SqL.of eb⟩, fun Z nZ => ?_⟩
    refine lc_list (K := K) (a := B1) (xs := tb.map V.ref) (PairsTo H2 Z fs (shE n)) (pairsZero nZ) (fun i H3 _ hP => SqL.of (hP.1 _ _ eb)) (fun i v H3 hv hP => ?_) (fun H3 hP => ?_)
    · obtain ⟨t, ht, rfl⟩ := refAt hv
      obtain ⟨e, hei, het⟩ := eb2.2 i t ht
      have sP := s12.trans hP.1
      refine ⟨t, _, rfl, SqT.of (hP.1 _ _ het), rfl, _, _, rfl, _, _, rfl, rfl, rfl, ?_⟩
      refine ⟨_, rfl, _, rfl, g, dx, _, rfl, sP _ _ g1, rfl, g, n, es, rfl, hg.same sP, _, _, rfl, rfl, _, rfl, _, rfl, g, dx, _, rfl, sP _ _ g1, rfl, g, n, es, rfl, hg.same sP, _, _, rfl, rfl, by show 2 ≤ sizeLine; decide, fun T nT => ?_⟩
      exact pairsStep nZ hP hei (by omega) nT
    obtain ⟨s3, hZ⟩ := pairsDone eb2.1 hP
    obtain ⟨tz, ez, ez2⟩ := id hZ
    have s23 := s2.trans s3
    refine ⟨A1, Z, _, _, rfl, rfl, s23 _ _ ea, ez, ?_, fun R nR => ?_⟩
    · rw [List.length_map, List.length_map, ea2.1, ez2.1, List.length_map, sizeLine_eq]
      omega
    have sR := same_upd nR (o := .lst (ta.map V.ref ++ tz.map V.ref))
    have hR := edApp (p := R) ((ea2.same s23).same sR) (ez2.same sR) (by rw [upd_same, List.map_append])
    generalize (upd H3 R (.lst (ta.map V.ref ++ tz.map V.ref))) = H4 at sR hR ⊢
    have s4 := (s1.trans s23).trans sR
    refine ⟨_, rfl, _, rfl, g, h, n, m, es, fs, rfl, hg.same s4, hh.same s4, fun q => by omega, fun _ q => by omega, fun _ _ q' H5 us nq s5 hG pe => ?_⟩
    refine ⟨_, rfl, _, rfl, ?_⟩
    dsimp only [tNil, tCons, tC]
    intro x dx3 nx ndx ne
    refine make_ok (CG := CG) (CS := CS) (CM := CM) (es := es ++ fs.map (shE n)) (Q := fun x H2 => rEqG (DIns CG (RGraph CG)) (.ref q') (.ref x) H2 Q) (E := L2.E0) (hR.same s5) uU (by omega) (fun _ _ g' H6 es' ng s6 hG' pe' _ => ?_) (fun q => by omega) (fun _ q => by omega) x dx3 nx ndx ne
    rw [uo] at pe'
    obtain rfl := SrtE.uniq (pe.trans pe'.symm) hG.asc hG'.asc
    have hG6 := hG.same s6
    obtain ⟨dx1, j1, nr1, o1, _⟩ := hG6.obj
    obtain ⟨dx2, j2, nr2, o2, _⟩ := hG'.obj
    refine ⟨⟨q', g', dx1, dx2, _, _, rfl, rfl, o1, o2, n + m, us, hG6, hG'⟩, fun H7 e7 => ?_⟩
    have s7 := (s4.trans (s5.trans s6)).trans (fromExt e7)
    exact k H7 (Same.ext s7) (Same.tabs s7 hTab)
end

end K77

set_option Elab.async false
set_option linter.all false
set_option maxRecDepth 100000
set_option maxHeartbeats 8000000
namespace K77
open PySem PySem.Spec PyProof.Rows L2 FNX
/-! ## _law_refused -/
theorem dpAllApp {K : PySem.W.Frag} {H : Hp} : ∀ {xs ys : List V} {ds es : List PyData}, DpAll K H xs ds → DpAll K H ys es → DpAll K H (xs ++ ys) (ds ++ es)
  | [], _, _, _, h, g => by
    cases h
    exact g
  | _ :: _, _, _, _, h, g => by
    cases h with
    | cons a b => exact .cons a (dpAllApp b g)
def cutL (vs : List Int) (lo hi : Option Int) : List Int := List.take (HT.sIx vs.length vs.length hi - HT.sIx vs.length 0 lo) (List.drop (HT.sIx vs.length 0 lo) vs)
theorem cut_map (vs : List Int) (lo hi : Option Int) : cutV (vs.map V.int) lo hi = (cutL vs lo hi).map V.int := by
  unfold cutV cutL
  rw [List.length_map, List.map_take, List.map_drop]
theorem cut_mem {vs : List Int} {lo hi : Option Int} {v : Int} (h : v ∈ cutL vs lo hi) : v ∈ vs := List.mem_of_mem_drop (List.mem_of_mem_take h)
theorem cutL1 {x : List Int} (h : 1 ≤ x.length) : (cutL x (some 1) none).length < x.length := by
  have e : HT.sIx x.length 0 (some 1) = 1 := by
    unfold HT.sIx
    simp
    omega
  unfold cutL
  rw [e, List.length_take, List.length_drop]
  omega
theorem dpReps {K : PySem.W.Frag} {H : Hp} {v : V} {d : PyData} (h : Dp K H v d) : ∀ n : Nat, DpAll K H (List.replicate n v) (List.replicate n d)
  | 0 => .nil
  | n + 1 => .cons h (dpReps h n)
theorem repNoI {n m : Nat} {d : PyData} (h : isI d = false) (n1 : 1 ≤ n) : isIL m (.list (List.replicate n d)) = false := by
  obtain ⟨n', rfl⟩ : ∃ n', n = n' + 1 := ⟨n - 1, by omega⟩
  show (_ && ((d :: List.replicate n' d).all isI)) = false
  rw [List.all_cons, h]
  exact Bool.and_false _
theorem shwReps {n : Nat} {d : PyData} (h : Shw 0 6 d) (n1 : n ≤ 16) : Shw 3 4000 (.list (List.replicate n d)) :=
  (shwList (k := 0) (L := 6) (m := 16) (fun e he => by rw [(List.mem_replicate.mp he).2]; exact h) (by rw [List.length_replicate]; omega)).mono (by decide) (by decide)
theorem repC (c : Int) (n : Nat) : (List.replicate n [V.int c]).flatten = (List.replicate n c).map V.int := by
  induction n with
  | zero => rfl
  | succ n ih =>
    rw [List.replicate_succ, List.flatten_cons, ih, List.replicate_succ, List.map_cons]
    rfl
theorem repV (c : V) (n : Nat) : (List.replicate n [c]).flatten = List.replicate n c := by
  induction n with
  | zero => rfl
  | succ n ih =>
    rw [List.replicate_succ, List.flatten_cons, ih, List.replicate_succ]
    rfl
theorem cutLast (x : List Int) (h : 1 ≤ x.length) : cutL x none (some (-1)) = x.dropLast := by
  unfold cutL
  rw [HT.sIx_none, List.drop_zero, Nat.sub_zero, List.dropLast_eq_take]
  congr 1
  show (if (-1 : Int) < 0 then ((-1 : Int) + (x.length : Int)).toNat else min (-1 : Int).toNat x.length) = _
  rw [if_pos (by decide)]
  omega
theorem inRange {n : Nat} {v : Int} (h : v ∈ rangeI n) : 0 ≤ v ∧ v < n := by
  unfold rangeI at h
  obtain ⟨k, hk, rfl⟩ := List.mem_map.mp h
  have := List.mem_range.mp hk
  omega
theorem noPerm {n : Nat} {x : List Int} {v : Int} (h : v ∈ x) (b : v < 0 ∨ (n : Int) ≤ v) : ¬ x.Perm (rangeI n) := fun p => by
  have := inRange (p.mem_iff.mp h)
  omega
theorem noLen {n : Nat} {x : List Int} (h : x.length ≠ n) : ¬ x.Perm (rangeI n) := fun p => h (by rw [p.length_eq, rangeLen])
theorem rangeNodup (n : Nat) : (rangeI n).Nodup := List.Pairwise.map _ (fun a b hab (z : (a : Int) = b) => hab (by omega)) List.nodup_range
theorem noRep {n : Nat} {c : Int} (h : 2 ≤ n) : ¬ (List.replicate n c).Perm (rangeI n) := fun p => by
  have nd := p.nodup_iff.mpr (rangeNodup n)
  have := List.nodup_replicate.mp nd
  omega
def spRF (K : PySem.W.Frag) (CG Pu Pr : Addr) : Sp := fun vs H Q _ => ∃ (g h o : Addr) (n : Nat) (es : List (Int × Int)) (z x : List Int), vs = [.ref g, .int (n : Int), .ref h, .ref o] ∧ GE CG H g n es ∧ H h = some (.lst (z.map V.int)) ∧ z.length = n ∧ (∀ v ∈ z, v.natAbs ≤ 100000000000000000000000000000000000000) ∧
  H o = some (.lst (x.map V.int)) ∧ x.Perm (rangeI n) ∧ LamX.Tabs (lam2 Pu Pr) H ∧ ∀ H', LamX.ExtN H H' → LamX.Tabs (lam2 Pu Pr) H' → Q (.bl true) H'
section
variable {P : Program} {w : World} {K : PySem.W.Frag} {mg : Str → Option Value} {base : Heap} {CG CS CM CO CP : Addr}
theorem sc_rf : FnScope ["_law_graph", "_law_many", "_law_here", "_law_order_here", "_law_some", "_law_bad"] ["_law_graph", "_law_many", "_law_here", "_law_order_here"] (defScope s__law_refused) := ⟨rfl, rfl, rfl, by decide +kernel, rfl, by decide +kernel, by decide +kernel⟩
theorem ok_rf {f fE c Pu Pr : Addr} {fd fdE : FuncData} (F : FunC K "_law_refused" "_law_refused" s__law_refused f fd c) (M : Nms mg) (hne : Pu ≠ Pr) (TBr : LamX.TabB base mg c Pr)
    (FE : Fun K "_law_error" "_law_error" s__law_error fE fdE) (mE : mg "_law_error" = some (.ref fE)) (bE : L2.Binds K fdE ["_law_door"] [])
    (E0 : Ex P w K mg base "InvalidSize" CS) (E1 : Ex P w K mg base "TooMany" CM) (E2 : Ex P w K mg base "InvalidPosition" CP) (E3 : Ex P w K mg base "InvalidOrder" CO)
    (x20 : PySem.W.exmOne K (.ref CP) (.ref CS) = some false) (x21 : PySem.W.exmOne K (.ref CP) (.ref CM) = some false) (x22 : PySem.W.exmOne K (.ref CP) (.ref CP) = some true)
    (x30 : PySem.W.exmOne K (.ref CO) (.ref CS) = some false) (x31 : PySem.W.exmOne K (.ref CO) (.ref CM) = some false) (x32 : PySem.W.exmOne K (.ref CO) (.ref CP) = some false) (x33 : PySem.W.exmOne K (.ref CO) (.ref CO) = some true)
    (GN : At P w K mg base (L2.CX P w) 8 "renumbered" ["graph", "order"] (spRenum K CG CO)) (GM : At P w K mg base (L2.CX P w) 4 "renumbered_position" ["graph", "position", "order"] (spRenumP K CG CP CO)) :
    GOk P w K mg base 11 f fd ["_law_graph", "_law_many", "_law_here", "_law_order_here"] (spRF K CG Pu Pr) := by
  obtain ⟨fN, fdN, GN, mN, kN, bN⟩ := GN
  obtain ⟨fM, fdM, GM, mM, kM, bM⟩ := GM
  refine okGC F sc_rf (fun vs H Q E h => ?_) (fun A outer s H vs Q E hgd hr9 h => ?_)
  · obtain ⟨g, h, o, n, es, z, x, rfl, _⟩ := h
    rfl
  · obtain ⟨g, h, o, n, es, z, x, rfl, hg, hz, lz, bz, ho, px, hTab, k⟩ := h
    have nd := sc_rf.nd
    have hr := hr9
    have hr2 : Room 2 _ := hr.mono (by decide)
    have hu64 : A.units + 3 + 64 < cLine := hr.units
    refine ⟨_, (pss_cons (ps_set (i := 4) nd rfl (Or.inl rfl) (pe_lst (pa_cons (pe_op op_cat (pe_slice sl_list (pv 3) po_none (po_some (pe_un un_neg pe_int))) (pe_lst (pa_cons (pv 1) pa_nil))) (pa_cons (pe_op op_cat (pe_slice sl_list (pv 3) po_none (po_some (pe_un un_neg pe_int))) (pe_lst (pa_cons (pe_un un_neg pe_int) pa_nil))) (pa_cons (pe_ifExp (pt_cmpR op_gt (pv 1) pe_int (nomark _)) (pe_op op_rep (pe_lst (pa_cons (pe_ix (r := rIxL K) ix_list (pv 3) pe_int (fun _ _ => rfl)) pa_nil)) (pv 1)) (pe_lst (pa_cons pe_int pa_nil))) pa_nil)))))
      (pss_cons (ps_for PassesOwn.never rfl (pi_list (pe_op op_cat (pv 4) (pe_lst (pa_cons pe_non (pa_cons (pe_op op_cat (pv 3) (pe_lst (pa_cons pe_int pa_nil))) (pa_cons (pe_slice sl_list (pv 3) (po_some pe_int) po_none) (pa_cons (pe_callTy call_tuple_of (by rfl) M.tuple (by decide +kernel) (pa_cons (pv 3) pa_nil)) (pa_cons (pe_op op_rep (pe_lst (pa_cons pe_bl pa_nil)) (pv 1)) (pa_cons (pe_op op_rep (pe_lst (pa_cons pe_str pa_nil)) (pv 1)) (pa_cons pe_dnewK pa_nil)))))))))) (pg_name (i := 5) nd rfl (Or.inr rfl)) (pss_cons (ps_if (pt_cmpR (op_neS hu64) (pe_doorN (x := "_law_error") (T := lam2 Pu Pr) (TT := TErrG K (cl77 CS CM CP CO)) (by rfl) mE FE bE sc_error (Or.inl rfl) (fun cdg => err_gives hgd hr2 M.repr E0 E1 E2 E3) TBr rfl (List.mem_cons_of_mem _ List.mem_cons_self)
              (lam2r hne) hr9 (show LamX.LamS (defScope s__law_refused) _ from LamX.lamS_by (by decide +kernel)) rfl (fun _ _ _ _ _ => rfl)
              (fun A outer s H E f c' hr => (pe_call GN (hr.mono (by decide)) (by rfl) mN kN bN .nil (passes_call (E := E) (takes_of rfl rfl rfl rfl) (fun _ _ _ _ h => h)) (pa_cons (pv 0) (pa_cons (pv 5) pa_nil))))) (pe_lst (pa_cons pe_str (pa_cons (pe_callB (show CallR _ (.builtin "repr") (rRepr K) from call_repr hgd hr.units) (by rfl) M.repr boot_repr1 (pa_cons (pv 5) pa_nil)) pa_nil))) (nomark _)) (pss_one (ps_ret pe_bl)) pss_nil)
      (pss_cons (ps_if (pt_cmpR (op_neS hu64) (pe_doorN (x := "_law_error") (T := lam2 Pu Pr) (TT := TErrG K (cl77 CS CM CP CO)) (by rfl) mE FE bE sc_error (Or.inl rfl) (fun cdg => err_gives hgd hr2 M.repr E0 E1 E2 E3) TBr rfl (List.mem_cons_of_mem _ List.mem_cons_self)
              (lam2r hne) hr9 (show LamX.LamS (defScope s__law_refused) _ from LamX.lamS_by (by decide +kernel)) rfl (fun _ _ _ _ _ => rfl)
              (fun A outer s H E f c' hr => (pe_call GM (hr.mono (by decide)) (by rfl) mM kM bM .nil (passes_call (E := E) (takes_of rfl rfl rfl rfl) (fun _ _ _ _ h => h)) (pa_cons (pv 0) (pa_cons (pv 2) (pa_cons (pv 5) pa_nil)))))) (pe_lst (pa_cons pe_str (pa_cons (pe_callB (show CallR _ (.builtin "repr") (rRepr K) from call_repr hgd hr.units) (by rfl) M.repr boot_repr1 (pa_cons (pv 5) pa_nil)) pa_nil))) (nomark _)) (pss_one (ps_ret pe_bl)) pss_nil)
      (pss_one (ps_if (pt_cmpR (op_neS hu64) (pe_doorN (x := "_law_error") (T := lam2 Pu Pr) (TT := TErrG K (cl77 CS CM CP CO)) (by rfl) mE FE bE sc_error (Or.inl rfl) (fun cdg => err_gives hgd hr2 M.repr E0 E1 E2 E3) TBr rfl (List.mem_cons_of_mem _ List.mem_cons_self)
              (lam2r hne) hr9 (show LamX.LamS (defScope s__law_refused) _ from LamX.lamS_by (by decide +kernel)) rfl (fun _ _ _ _ _ => rfl)
              (fun A outer s H E f c' hr => (pe_call GM (hr.mono (by decide)) (by rfl) mM kM bM .nil (passes_call (E := E) (takes_of rfl rfl rfl rfl) (fun _ _ _ _ h => h)) (pa_cons (pv 0) (pa_cons (pe_op op_cat (pv 2) (pe_lst (pa_cons pe_int pa_nil))) (pa_cons (pv 5) pa_nil)))))) (pe_lst (pa_cons pe_str (pa_cons (pe_callB (show CallR _ (.builtin "repr") (rRepr K) from call_repr hgd hr.units) (by rfl) M.repr boot_repr1 (pa_cons (pe_op op_cat (pv 2) (pe_lst (pa_cons pe_int pa_nil))) pa_nil)) pa_nil))) (nomark _)) (pss_one (ps_ret pe_bl)) pss_nil)))))
      (pss_one (ps_ret pe_bl)))), ?_⟩
    have hn := names_of px
    have lx := hn.len
    have n1 := hg.n1
    have n16 := hg.n16
    have bx : ∀ v ∈ x, 0 ≤ v ∧ v < n := fun v hv => inRange (px.mem_iff.mp hv)
    have dl : x.dropLast.length = x.length - 1 := List.length_dropLast
    have lenP : ∀ z : List Int, z.length ≤ 1000 → lenD (posD z) ≤ 100000 := fun z hz => by
      show (z.map PyData.int).length ≤ 100000
      rw [List.length_map]
      omega
    refine ⟨_, rfl, _, rfl, (-1 : Int), rfl, o, _, rfl, SqL.of ho, fun C1 nC1 => ?_⟩
    rw [cut_map, cutLast _ (by omega)]
    obtain ⟨G1, q1, g1, k1⟩ := newAt (.lst (x.dropLast.map V.int)) nC1
    rw [q1]
    refine ⟨_, rfl, by show 1 ≤ sizeLine; decide, fun y1 ny1 => ?_⟩
    obtain ⟨G2, q2, g2, k2⟩ := newAt (.lst [V.int (n : Int)]) ny1
    rw [q2]
    refine ⟨C1, y1, _, _, rfl, rfl, g2 _ _ k1, k2, by rw [List.length_map, sizeLine_eq]; show x.dropLast.length + 1 ≤ _; omega, fun R1 nR1 => ?_⟩
    obtain ⟨G3, q3, g3, k3⟩ := newAt (.lst ((x.dropLast ++ [(n : Int)]).map V.int)) nR1
    rw [show (x.dropLast.map V.int ++ [V.int (n : Int)]) = (x.dropLast ++ [(n : Int)]).map V.int from by rw [List.map_append]; rfl, q3]
    have m3 := g1.trans (g2.trans g3)
    refine ⟨_, rfl, _, rfl, (-1 : Int), rfl, o, _, rfl, SqL.of (m3 _ _ ho), fun C2 nC2 => ?_⟩
    rw [cut_map, cutLast _ (by omega)]
    obtain ⟨G4, q4, g4, k4⟩ := newAt (.lst (x.dropLast.map V.int)) nC2
    rw [q4]
    refine ⟨_, rfl, by show 1 ≤ sizeLine; decide, fun y2 ny2 => ?_⟩
    obtain ⟨G5, q5, g5, k5⟩ := newAt (.lst [V.int (-1)]) ny2
    rw [q5]
    refine ⟨C2, y2, _, _, rfl, rfl, g5 _ _ k4, k5, by rw [List.length_map, sizeLine_eq]; show x.dropLast.length + 1 ≤ _; omega, fun R2 nR2 => ?_⟩
    obtain ⟨G6, q6, g6, k6⟩ := newAt (.lst ((x.dropLast ++ [-1]).map V.int)) nR2
    rw [show (x.dropLast.map V.int ++ [V.int (-1)]) = (x.dropLast ++ [-1]).map V.int from by rw [List.map_append]; rfl, q6]
    have m46 := g4.trans (g5.trans g6)
    have m6 := m3.trans m46
    refine ⟨_, rfl, _, _, rfl, rfl, _, rfl, ?_⟩
    by_cases c1 : 1 < n
    case' pos =>
      rw [decide_eq_true (by omega)]
      refine iteT ⟨_, rfl, o, _, (0 : Int), _, rfl, rfl, SqL.of (m6 _ _ ho), atInt (by omega) (by omega), by show 1 ≤ sizeLine; decide, fun y3 ny3 => ?_⟩
      obtain ⟨G7, q7, g7, k7⟩ := newAt (.lst [V.int (x.getD (0 : Int).toNat 0)]) ny3
      rw [q7]
      refine ⟨_, rfl, y3, n, _, rfl, rfl, k7, by omega, by omega, by show 1 * ((n : Int).toNat) ≤ sizeLine; rw [sizeLine_eq]; omega, fun R3 nR3 => ?_⟩
      obtain ⟨u3, hu3⟩ : ∃ u3 : List Int, u3 = List.replicate n (x.getD (0 : Int).toNat 0) := ⟨_, rfl⟩
      rw [show (List.replicate ((n : Int).toNat) [V.int (x.getD (0 : Int).toNat 0)]).flatten = u3.map V.int from by rw [hu3]; exact repC _ n]
      have no3 : ¬ u3.Perm (rangeI n) := by rw [hu3]; exact noRep (by omega)
      have l3 : u3.length ≤ 16 := by rw [hu3, List.length_replicate]; exact n16
      have b3 : ∀ v ∈ u3, v.natAbs ≤ 16 := fun v hv => by
        rw [hu3] at hv
        rw [(List.mem_replicate.mp hv).2]
        have := hn.bnd 0 (by omega)
        show (x.getD 0 0).natAbs ≤ 16
        omega
      obtain ⟨G8, q8, g8, k8⟩ := newAt (.lst (u3.map V.int)) nR3
      rw [q8]
      have m68 := g7.trans g8
    case' neg =>
      rw [decide_eq_false (by omega)]
      refine iteF ⟨by show 1 ≤ sizeLine; decide, fun R3 nR3 => ?_⟩
      obtain ⟨u3, hu3⟩ : ∃ u3 : List Int, u3 = [1] := ⟨_, rfl⟩
      rw [show [V.int 1] = u3.map V.int from by rw [hu3]; rfl]
      have no3 : ¬ u3.Perm (rangeI n) := noPerm (v := 1) (by rw [hu3]; exact List.mem_cons_self) (by omega)
      have l3 : u3.length ≤ 16 := by rw [hu3]; decide
      have b3 : ∀ v ∈ u3, v.natAbs ≤ 16 := fun v hv => by
        rw [hu3] at hv
        rw [List.mem_singleton.mp hv]
        decide
      obtain ⟨G8, q8, g8, k8⟩ := newAt (.lst (u3.map V.int)) nR3
      rw [q8]
      have m68 := g8
    all_goals
      refine ⟨by show 3 ≤ sizeLine; decide, fun S nS => ?_⟩
      obtain ⟨G9, q9, g9, k9⟩ := newAt (.lst [V.ref R1, V.ref R2, V.ref R3]) nS
      rw [q9]
      have m9 := m6.trans (m68.trans g9)
      have ho9 := m9 _ _ ho
      refine ⟨_, rfl, _, rfl, by show 1 ≤ sizeLine; decide, fun y4 ny4 => ?_⟩
      obtain ⟨B1, p1, b1, u1⟩ := newAt (.lst [V.int 0]) ny4
      rw [p1]
      refine ⟨o, y4, _, _, rfl, rfl, b1 _ _ ho9, u1, by rw [List.length_map, sizeLine_eq]; show x.length + 1 ≤ _; omega, fun R4 nR4 => ?_⟩
      obtain ⟨B2, p2, b2, u2⟩ := newAt (.lst ((x ++ [0]).map V.int)) nR4
      rw [show (x.map V.int ++ [V.int 0]) = (x ++ [0]).map V.int from by rw [List.map_append]; rfl, p2]
      have b12 := b1.trans b2
      refine ⟨_, rfl, (1 : Int), rfl, o, _, rfl, SqL.of (b12 _ _ ho9), fun R5 nR5 => ?_⟩
      rw [cut_map]
      obtain ⟨B3, p3, b3', u3'⟩ := newAt (.lst ((cutL x (some 1) none).map V.int)) nR5
      rw [p3]
      have b13 := b12.trans b3'
      refine ⟨_, rfl, o, _, rfl, .inl ⟨SqL.of (b13 _ _ ho9), fun R6 nR6 => ?_⟩⟩
      obtain ⟨B4, p4, b4, u4⟩ := newAt (.tup (x.map V.int)) nR6
      rw [p4]
      refine ⟨by show 1 ≤ sizeLine; decide, fun y5 ny5 => ?_⟩
      obtain ⟨B5, p5, b5, u5⟩ := newAt (.lst [V.bl true]) ny5
      rw [p5]
      refine ⟨_, rfl, y5, n, _, rfl, rfl, u5, by omega, by omega, by show 1 * ((n : Int).toNat) ≤ sizeLine; rw [sizeLine_eq]; omega, fun R7 nR7 => ?_⟩
      rw [show (List.replicate ((n : Int).toNat) [V.bl true]).flatten = List.replicate n (V.bl true) from repV _ n]
      obtain ⟨B6, p6, b6, u6⟩ := newAt (.lst (List.replicate n (V.bl true))) nR7
      rw [p6]
      refine ⟨by show 1 ≤ sizeLine; decide, fun y6 ny6 => ?_⟩
      obtain ⟨B7, p7, b7, u7⟩ := newAt (.lst [V.str "0"]) ny6
      rw [p7]
      refine ⟨_, rfl, y6, n, _, rfl, rfl, u7, by omega, by omega, by show 1 * ((n : Int).toNat) ≤ sizeLine; rw [sizeLine_eq]; omega, fun R8 nR8 => ?_⟩
      rw [show (List.replicate ((n : Int).toNat) [V.str "0"]).flatten = List.replicate n (V.str "0") from repV _ n]
      obtain ⟨B8, p8, b8, u8⟩ := newAt (.lst (List.replicate n (V.str "0"))) nR8
      rw [p8]
      intro R9 nR9
      obtain ⟨B9, p9, b9, u9⟩ := newAt (.dK []) nR9
      rw [p9]
      refine ⟨by show 7 ≤ sizeLine; decide, fun L7 nL7 => ?_⟩
      obtain ⟨B10, p10, b10, u10⟩ := newAt (.lst [V.non, V.ref R4, V.ref R5, V.ref R6, V.ref R7, V.ref R8, V.ref R9]) nL7
      rw [p10]
      have t9 := b9.trans b10
      have t8 := b8.trans t9
      have t7 := b7.trans t8
      have t6 := b6.trans t7
      have t5 := b5.trans t6
      have t4 := b4.trans t5
      have t3 := b3'.trans t4
      have t2 := b2.trans t3
      have t1 := b1.trans t2
      refine ⟨S, L7, _, _, rfl, rfl, t1 _ _ k9, u10, by show 3 + 7 ≤ sizeLine; rw [sizeLine_eq]; decide, fun L nL => ?_⟩
      obtain ⟨D0, qL, sL, hL⟩ := newAt (.lst [V.ref R1, V.ref R2, V.ref R3, V.non, V.ref R4, V.ref R5, V.ref R6, V.ref R7, V.ref R8, V.ref R9]) nL
      have qL' : upd B10 L (.lst ([V.ref R1, V.ref R2, V.ref R3] ++ [V.non, V.ref R4, V.ref R5, V.ref R6, V.ref R7, V.ref R8, V.ref R9])) = D0 := qL
      rw [qL']
      have m9D := t1.trans sL
      have tD := m9.trans m9D
      have r1 := m9D _ _ ((m46.trans (m68.trans g9)) _ _ k3)
      have r2 := m9D _ _ ((m68.trans g9) _ _ k6)
      have r3 := m9D _ _ (g9 _ _ k8)
      have r4 := (t3.trans sL) _ _ u2
      have r5 := (t4.trans sL) _ _ u3'
      have r6 := (t5.trans sL) _ _ u4
      have r7 := (t7.trans sL) _ _ u6
      have r8 := (t9.trans sL) _ _ u8
      have r9 := (b10.trans sL) _ _ u9
      have hTD := Same.tabs tD hTab
      have hgD := hg.same tD
      have hzD := tD _ _ hz
      clear p1 p2 p3 p4 p5 p6 p7 p8 p9 p10 q1 q2 q3 q4 q5 q6 q8 q9 qL qL' t1 t2 t3 t4 t5 t6 t7 t8 t9 m9D
      refine ⟨L, rfl, ⟨_, SqL.of hL⟩, for_list (K := K) (a := L) (xs := [V.ref R1, V.ref R2, V.ref R3, V.non, V.ref R4, V.ref R5, V.ref R6, V.ref R7, V.ref R8, V.ref R9]) (fun i6 σ G => ∃ o5 : Option V, σ = [some (.ref g), some (.int (n : Int)), some (.ref h), some (.ref o), some (.ref S), o5] ∧ LamX.ExtN D0 G ∧ LamX.Tabs (lam2 Pu Pr) G)
        ⟨none, rfl, LamX.ExtN.refl D0, hTD⟩ (fun i6 σ G _ h6 => ?_) (fun i6 y σ G hi6 h6 => ?_) (fun σ G h6 => ?_)⟩
      · obtain ⟨_, _, xt, _⟩ := h6
        exact sqLExt (SqL.of hL) xt
      · obtain ⟨o5, rfl, xt, tb⟩ := h6
        have intsX : ∀ (u : List Int) (R : Addr), D0 R = some (.lst (u.map V.int)) → ¬ u.Perm (rangeI n) → u.length ≤ 17 → (∀ v ∈ u, v.natAbs ≤ 16) → ∃ d, (∀ H4, LamX.ExtN D0 H4 → Rd K H4 (.ref R) d) ∧ (∀ x', d = posD x' → ¬ x'.Perm (rangeI n)) ∧ lenD d ≤ 100000 ∧ Shw 3 30000 d := fun u R hR no l b =>
          ⟨posD u, fun H4 z => .dat (.lst (SqL.of (z _ _ hR (fun _ c => by cases c))) (dpInts u)), fun x' e => by rw [← posInj e]; exact no, lenP u (by omega), (shwInts (k := 12) (m := 20) (by decide) (by decide) (fun v hv => Nat.lt_of_le_of_lt (b v hv) (by decide +kernel)) (by omega)).mono (by decide) (by decide)⟩
        have reps : ∀ (b : V) (e : PyData), Shw 0 6 e → (∀ H4, Dp K H4 b e) → isI e = false → ∀ R : Addr, D0 R = some (.lst (List.replicate n b)) → ∃ d, (∀ H4, LamX.ExtN D0 H4 → Rd K H4 (.ref R) d) ∧ (∀ x', d = posD x' → ¬ x'.Perm (rangeI n)) ∧ lenD d ≤ 100000 ∧ Shw 3 30000 d := fun b e she hbe hei R hR =>
          ⟨.list (List.replicate n e), fun H4 z => .dat (.lst (SqL.of (z _ _ hR (fun _ c => by cases c))) (dpReps (hbe H4) n)), (fun x' ex _ => by
            have z := repNoI (m := n) hei n1
            have e2 : (List.replicate n e).length = (x'.map PyData.int).length := congrArg lenD ex
            rw [List.length_replicate, List.length_map] at e2
            rw [ex, ilPos e2.symm] at z
            cases z), (by show (List.replicate n e).length ≤ 100000; rw [List.length_replicate]; omega), (shwReps she n16).mono (by decide) (by decide)⟩
        obtain ⟨d, hd, hw, hdl, hsh⟩ : ∃ d, (∀ H4, LamX.ExtN D0 H4 → Rd K H4 y d) ∧ (∀ x', d = posD x' → ¬ x'.Perm (rangeI n)) ∧ lenD d ≤ 100000 ∧ Shw 3 30000 d := by
          have hlt : i6 < 10 := (List.getElem?_eq_some_iff.mp hi6).1
          have mem1 : ∀ t : Int, t ∈ x.dropLast ++ [t] := fun t => List.mem_append.mpr (.inr List.mem_cons_self)
          have bdl : ∀ (t : Int), t.natAbs ≤ 16 → ∀ v ∈ x.dropLast ++ [t], v.natAbs ≤ 16 := fun t ht v hv => by
            rcases List.mem_append.mp hv with hv | hv
            · have := bx v ((List.dropLast_sublist x).subset hv)
              omega
            · rw [List.mem_singleton.mp hv]
              exact ht
          obtain rfl | rfl | rfl | rfl | rfl | rfl | rfl | rfl | rfl | rfl : i6 = 0 ∨ i6 = 1 ∨ i6 = 2 ∨ i6 = 3 ∨ i6 = 4 ∨ i6 = 5 ∨ i6 = 6 ∨ i6 = 7 ∨ i6 = 8 ∨ i6 = 9 := by omega
          · obtain rfl : V.ref R1 = y := Option.some.inj hi6
            exact intsX _ R1 r1 (noPerm (mem1 _) (by omega)) (by rw [List.length_append, List.length_singleton]; omega) (bdl _ (by omega))
          · obtain rfl : V.ref R2 = y := Option.some.inj hi6
            exact intsX _ R2 r2 (noPerm (mem1 _) (by omega)) (by rw [List.length_append, List.length_singleton]; omega) (bdl _ (by decide))
          · obtain rfl : V.ref R3 = y := Option.some.inj hi6
            exact intsX _ R3 r3 no3 (by omega) b3
          · obtain rfl : V.non = y := Option.some.inj hi6
            exact ⟨.none, fun _ _ => .dat .non, (fun x' e => by cases e), by decide, by decide +kernel, by decide +kernel, by decide +kernel⟩
          · obtain rfl : V.ref R4 = y := Option.some.inj hi6
            exact intsX _ R4 r4 (noLen (by rw [List.length_append, List.length_singleton]; omega)) (by rw [List.length_append, List.length_singleton]; omega) (fun v hv => by
              rcases List.mem_append.mp hv with hv | hv
              · have := bx v hv
                omega
              · rw [List.mem_singleton.mp hv]
                decide)
          · obtain rfl : V.ref R5 = y := Option.some.inj hi6
            have lc := cutL1 (x := x) (by omega)
            exact intsX _ R5 r5 (noLen (by omega)) (by omega) (fun v hv => by
              have := bx v (cut_mem hv)
              omega)
          · obtain rfl : V.ref R6 = y := Option.some.inj hi6
            refine ⟨.tuple (x.map PyData.int), fun H4 z => .dat (.tup (SqT.of (z _ _ r6 (fun _ c => by cases c))) (dpInts _)), (fun x' e => by cases e), Nat.zero_le _, (shwTup (k := 0) (L := 13) (m := 17) (fun e he => ?_) ?_).mono (by decide) (by decide)⟩
            · obtain ⟨v, hv, rfl⟩ := List.mem_map.mp he
              have := bx v hv
              exact shwInt (Nat.lt_of_le_of_lt (show v.natAbs ≤ 16 by omega) (by decide +kernel))
            · rw [List.length_map]
              omega
          · obtain rfl : V.ref R7 = y := Option.some.inj hi6
            exact reps (.bl true) (.bool true) ⟨by decide +kernel, by decide +kernel, by decide +kernel⟩ (fun _ => .bl _) rfl R7 r7
          · obtain rfl : V.ref R8 = y := Option.some.inj hi6
            exact reps (.str "0") (.str "0") ⟨by decide +kernel, by decide +kernel, by decide +kernel⟩ (fun _ => .str _) rfl R8 r8
          · obtain rfl : V.ref R9 = y := Option.some.inj hi6
            exact ⟨.dict [], fun H4 z => .dct [] (z _ _ r9 (fun _ c => by cases c)), (fun x' e => by cases e), Nat.zero_le _, by simp only [PyData.showable, PyData.showableKv], by decide +kernel, by decide +kernel⟩
        obtain ⟨sY1, sY2, sY3⟩ := shwLine hsh (by decide) (by decide)
        have tellO : ∀ {Ha : Hp} {Q' : VK}, LamX.ExtN D0 Ha → (∀ D2 p, Same Ha D2 → D2 p = none → Q' (.ref p) (upd D2 p (.lst [.str "order", .str d.shown]))) → told CO y Ha (wErrG K Q' (cl77 CS CM CP CO)) := fun {Ha Q'} xa kq =>
          toldTailG x30 (toldTailG x31 (toldTailG x32 (toldHeadG x33 (fun H3 s3 => hd _ (xa.trans (Same.ext s3))) (fun D2 sp2 => ⟨sY1, sY2, sY3, fun p np => kq D2 p sp2 np⟩))))
        refine ⟨tb, fun D1 xt1 tb1 => ?_⟩
        have xt2 := xt.trans xt1
        refine ⟨_, rfl, _, rfl, ?_⟩
        dsimp only [tNil, tCons, tC]
        change spRenum K CG CO [V.ref g, y] D1 _ _
        refine ⟨g, n, es, y, d, rfl, geExt hgD xt2, hd _ xt2, hdl, fun _ => tellO xt2 (fun D2 pa sp2 npa => ?_), fun x' ex px' => absurd px' (hw x' ex)⟩
        obtain ⟨D3, qa, sa, ha⟩ := newAt (.lst [V.str "order", V.str d.shown]) npa
        rw [qa]
        have xt3 := xt2.trans (Same.ext (sp2.trans sa))
        have tb3 := Same.tabs (sp2.trans sa) tb1
        refine ⟨_, rfl, y, d, rfl, hd _ xt3, sY1, sY2, sY3, by show 2 ≤ sizeLine; decide, fun pb npb => ?_⟩
        obtain ⟨D4, qb, sb, hb⟩ := newAt (.lst [V.str "order", V.str d.shown]) npb
        rw [qb]
        refine ⟨pa, pb, ["order", d.shown], rfl, rfl, SqL.of (sb _ _ ha), SqL.of hb, _, rfl, iteF ?_⟩
        have xt4 := xt3.trans (Same.ext sb)
        have tb4 := Same.tabs sb tb3
        refine ⟨tb4, fun E1' yt1 ub1 => ?_⟩
        have yt2 := xt4.trans yt1
        refine ⟨_, rfl, _, rfl, _, rfl, ?_⟩
        dsimp only [tNil, tCons, tC]
        change spRenumP K CG CP CO [V.ref g, V.ref h, y] E1' _ _
        refine ⟨g, n, es, .ref h, posD z, y, d, rfl, geExt hgD yt2, .dat (.lst (SqL.of (yt2 _ _ hzD (fun _ c => by cases c))) (dpInts z)), lenP z (by omega), hd _ yt2, hdl, (fun q => by rw [ilPos lz] at q; cases q), fun z' ez lz' => ⟨fun _ => tellO yt2 (fun D2 pa sp2 npa => ?_), fun x' ex px' => absurd px' (hw x' ex)⟩⟩
        obtain ⟨D5, qc, sc, hc⟩ := newAt (.lst [V.str "order", V.str d.shown]) npa
        rw [qc]
        have yt3 := yt2.trans (Same.ext (sp2.trans sc))
        have ub3 := Same.tabs (sp2.trans sc) ub1
        refine ⟨_, rfl, y, d, rfl, hd _ yt3, sY1, sY2, sY3, by show 2 ≤ sizeLine; decide, fun pb npb => ?_⟩
        obtain ⟨D6, qd, sd, hd'⟩ := newAt (.lst [V.str "order", V.str d.shown]) npb
        rw [qd]
        refine ⟨pa, pb, ["order", d.shown], rfl, rfl, SqL.of (sd _ _ hc), SqL.of hd', _, rfl, iteF ?_⟩
        have yt4 := yt3.trans (Same.ext sd)
        have ub4 := Same.tabs sd ub3
        have shB : Shw 1 ((120 + 3) * 17 + 2) (posD (z ++ [0])) := shwInts (by decide) (by decide) (fun v hv => by
          rcases List.mem_append.mp hv with hv | hv
          · exact Nat.lt_of_le_of_lt (bz v hv) (by decide +kernel)
          · rw [List.mem_singleton.mp hv]
            decide +kernel) (by rw [List.length_append, List.length_singleton]; omega)
        obtain ⟨sB1, sB2, sB3⟩ := shwLine shB (by decide) (by decide)
        have lB : (z ++ [0]).length = n + 1 := by rw [List.length_append, List.length_singleton, lz]
        have lBn : (z.map V.int).length + 1 ≤ sizeLine := by rw [List.length_map, sizeLine_eq]; omega
        refine ⟨ub4, fun F1 zt1 vb1 => ?_⟩
        have zt2 := yt4.trans zt1
        have hz2 := zt2 _ _ hzD (fun _ c => by cases c)
        refine ⟨_, rfl, _, rfl, by show 1 ≤ sizeLine; decide, fun w1 nw1 => ?_⟩
        obtain ⟨F2, qe, se, he⟩ := newAt (.lst [V.int 0]) nw1
        rw [qe]
        refine ⟨h, w1, _, _, rfl, rfl, se _ _ hz2, he, lBn, fun w2 nw2 => ?_⟩
        obtain ⟨F3, qf, sf, hf⟩ := newAt (.lst ((z ++ [0]).map V.int)) nw2
        rw [show (z.map V.int ++ [V.int 0]) = (z ++ [0]).map V.int from by rw [List.map_append]; rfl, qf]
        have sef := se.trans sf
        have zt3 := zt2.trans (Same.ext sef)
        refine ⟨_, rfl, ?_⟩
        dsimp only [tNil, tCons, tC]
        change spRenumP K CG CP CO [V.ref g, V.ref w2, y] F3 _ _
        refine ⟨g, n, es, .ref w2, posD (z ++ [0]), y, d, rfl, geExt hgD zt3, .dat (.lst (SqL.of hf) (dpInts _)), lenP _ (by omega), hd _ zt3, hdl, fun _ => toldTailG x20 (toldTailG x21 (toldHeadG (d := posD (z ++ [0])) x22 (fun H3 s3 => .dat (.lst (SqL.of (s3 _ _ hf)) (dpInts _))) (fun D2 sp2 => ⟨sB1, sB2, sB3, fun pa npa => ?_⟩))), fun z' ez lz' => by rw [← posInj ez] at lz'; omega⟩
        obtain ⟨F4, qg, sg, hg'⟩ := newAt (.lst [V.str "position", V.str (posD (z ++ [0])).shown]) npa
        rw [qg]
        have s24 := sef.trans (sp2.trans sg)
        refine ⟨_, rfl, by show 1 ≤ sizeLine; decide, fun w3 nw3 => ?_⟩
        obtain ⟨F5, qh, sh, hh⟩ := newAt (.lst [V.int 0]) nw3
        rw [qh]
        refine ⟨h, w3, _, _, rfl, rfl, sh _ _ (s24 _ _ hz2), hh, lBn, fun w4 nw4 => ?_⟩
        obtain ⟨F6, qi, si, hi⟩ := newAt (.lst ((z ++ [0]).map V.int)) nw4
        rw [show (z.map V.int ++ [V.int 0]) = (z ++ [0]).map V.int from by rw [List.map_append]; rfl, qi]
        refine ⟨.ref w4, posD (z ++ [0]), rfl, .dat (.lst (SqL.of hi) (dpInts _)), sB1, sB2, sB3, by show 2 ≤ sizeLine; decide, fun pb npb => ?_⟩
        obtain ⟨F7, qj, sj, hj⟩ := newAt (.lst [V.str "position", V.str (posD (z ++ [0])).shown]) npb
        rw [qj]
        have s47 := sh.trans (si.trans sj)
        refine ⟨pa, pb, ["position", (posD (z ++ [0])).shown], rfl, rfl, SqL.of (s47 _ _ hg'), SqL.of hj, _, rfl, iteF ?_⟩
        exact ⟨_, rfl, zt2.trans (Same.ext (s24.trans s47)), Same.tabs (s24.trans s47) vb1⟩
      · obtain ⟨o5, rfl, xt, tb⟩ := h6
        exact k _ ((Same.ext tD).trans xt) tb
end

end K77

set_option Elab.async false
set_option linter.all false
set_option maxRecDepth 100000
set_option maxHeartbeats 8000000
namespace K77
open PySem PySem.Spec PyProof.Rows L2 FNX
/-! ## what the law needs beside -/
theorem nodupLen : ∀ (n : Nat) (l : List Int), l.Nodup → (∀ v ∈ l, 0 ≤ v ∧ v < n) → l.length ≤ n
  | 0, l, _, h => by
    cases l with
    | nil => exact Nat.le_refl _
    | cons a r =>
      have := h a List.mem_cons_self
      omega
  | n + 1, l, nd, h => by
    by_cases c : (n : Int) ∈ l
    · have e := nodupLen n (l.erase (n : Int)) (nd.erase _) (fun v hv => by
        have h1 := h v (List.mem_of_mem_erase hv)
        have h2 : v ≠ n := (nd.mem_erase_iff.mp hv).1
        omega)
      rw [List.length_erase_of_mem c] at e
      omega
    · have := nodupLen n l nd (fun v hv => by
        have h1 := h v hv
        have h2 : v ≠ n := fun z => c (z ▸ hv)
        omega)
      omega
theorem rangeSucc (n : Nat) : rangeI (n + 1) = rangeI n ++ [(n : Int)] := by
  unfold rangeI
  rw [List.range_succ, List.map_append]
  rfl
theorem permOf : ∀ (n : Nat) (l : List Int), l.Nodup → l.length = n → (∀ v ∈ l, 0 ≤ v ∧ v < n) → l.Perm (rangeI n)
  | 0, l, _, hl, _ => by
    rw [List.eq_nil_of_length_eq_zero hl]
    exact .refl _
  | n + 1, l, nd, hl, h => by
    have c : (n : Int) ∈ l := by
      by_cases c : (n : Int) ∈ l
      · exact c
      · have := nodupLen n l nd (fun v hv => by
          have h1 := h v hv
          have h2 : v ≠ n := fun z => c (z ▸ hv)
          omega)
        omega
    have ih := permOf n (l.erase (n : Int)) (nd.erase _) (by rw [List.length_erase_of_mem c]; omega) (fun v hv => by
      have h1 := h v (List.mem_of_mem_erase hv)
      have h2 : v ≠ n := (nd.mem_erase_iff.mp hv).1
      omega)
    rw [rangeSucc]
    exact (List.perm_cons_erase c).trans ((ih.cons _).trans (List.perm_append_singleton _ _).symm)
structure Back (n : Nat) (x b : List Int) : Prop where
  len : b.length = n
  bnd : ∀ i, i < n → 0 ≤ b.getD i 0 ∧ b.getD i 0 < n
  inv : ∀ i, i < n → x.getD (b.getD i 0).toNat 0 = i
theorem Back.perm {n : Nat} {x b : List Int} (h : Back n x b) : b.Perm (rangeI n) := by
  have at' : ∀ i (hi : i < b.length), b.getD i 0 = b[i] := fun i hi => by
    rw [List.getD_eq_getElem?_getD, List.getElem?_eq_getElem hi]
    rfl
  refine permOf n b (List.pairwise_iff_getElem.mpr fun i j hi hj hij e => ?_) h.len (fun v hv => ?_)
  · rw [← at' i hi, ← at' j hj] at e
    have h1 := h.inv i (by rw [← h.len]; exact hi)
    have h2 := h.inv j (by rw [← h.len]; exact hj)
    rw [e, h2] at h1
    omega
  · obtain ⟨i, hi, rfl⟩ := List.getElem_of_mem hv
    have := h.bnd i (by rw [← h.len]; exact hi)
    rw [at' i hi] at this
    exact this
theorem Back.at {n : Nat} {x b : List Int} (hx : Names n x) (h : Back n x b) {u : Int} (u0 : 0 ≤ u) (u1 : u < n) : b.getD (x.getD u.toNat 0).toNat 0 = u := by
  have bu := hx.bnd u.toNat (by omega)
  have i := h.inv (x.getD u.toNat 0).toNat (by omega)
  have bw := h.bnd (x.getD u.toNat 0).toNat (by omega)
  have := hx.inj (b.getD (x.getD u.toNat 0).toNat 0).toNat u.toNat (by omega) (by omega) (by omega)
  omega
theorem mixBack {n : Nat} {x b : List Int} (hx : Names n x) (h : Back n x b) {e : Int × Int} (he : 0 ≤ e.1 ∧ e.1 < e.2 ∧ e.2 < n) : mixE b (mixE x e) = e := by
  have b1 := h.at hx (u := e.1) (by omega) (by omega)
  have b2 := h.at hx (u := e.2) (by omega) (by omega)
  unfold mixE
  dsimp only
  by_cases c : x.getD e.1.toNat 0 ≤ x.getD e.2.toNat 0
  · rw [show min (x.getD e.1.toNat 0) (x.getD e.2.toNat 0) = x.getD e.1.toNat 0 by omega, show max (x.getD e.1.toNat 0) (x.getD e.2.toNat 0) = x.getD e.2.toNat 0 by omega, b1, b2]
    exact Prod.ext (show min e.1 e.2 = e.1 by omega) (show max e.1 e.2 = e.2 by omega)
  · rw [show min (x.getD e.1.toNat 0) (x.getD e.2.toNat 0) = x.getD e.2.toNat 0 by omega, show max (x.getD e.1.toNat 0) (x.getD e.2.toNat 0) = x.getD e.1.toNat 0 by omega, b1, b2]
    exact Prod.ext (show min e.2 e.1 = e.1 by omega) (show max e.2 e.1 = e.2 by omega)
theorem mixBackMap {n : Nat} {x b : List Int} {es : List (Int × Int)} (hx : Names n x) (h : Back n x b) (g : GoodE n es) : (es.map (mixE x)).map (mixE b) = es := by
  rw [List.map_map]
  have z : ∀ e ∈ es, (mixE b ∘ mixE x) e = e := fun e he => mixBack hx h (g.node e he)
  exact (List.map_congr_left z).trans (List.map_id es)
theorem GoodU.take {n : Nat} {es : List (Int × Int)} (h : GoodU n es) (k : Nat) : GoodU n (es.take k) := ⟨fun e he => h.node e (List.mem_of_mem_take he), by
  rw [List.map_take]
  exact h.once.sublist (List.take_sublist _ _), by
  have := h.few
  rw [List.length_take]
  omega⟩
def denseE (j : Nat) : List (Int × Int) := (List.range j).flatMap fun a : Nat => (List.range a).map fun b : Nat => ((a : Int), (b : Int))
theorem denseSucc (j : Nat) : denseE (j + 1) = denseE j ++ (List.range j).map fun b : Nat => ((j : Int), (b : Int)) := by
  unfold denseE
  rw [List.range_succ, List.flatMap_append]
  simp
theorem denseLe : ∀ j, j ≤ 8 → (denseE j).length ≤ 28 := by decide +kernel
theorem denseGood : GoodU 8 (denseE 8) := ⟨by decide +kernel, by decide +kernel, by decide +kernel⟩
theorem cutRef (ts : List Addr) (k : Nat) (h : k ≤ ts.length) : cutV (ts.map V.ref) none (some (k : Int)) = (ts.take k).map V.ref := by
  unfold cutV
  rw [HT.sIx_none, List.drop_zero, Nat.sub_zero, HT.sIx_nat, List.length_map, Nat.min_eq_left h, List.map_take]
theorem TupsAt.take {H : Hp} {ts : List Addr} {es : List (Int × Int)} (h : TupsAt H ts es) (k : Nat) : TupsAt H (ts.take k) (es.take k) := ⟨by rw [List.length_take, List.length_take, h.1], fun i t e => by
  have hi : i < k := by
    have := (List.getElem?_eq_some_iff.mp e).1
    rw [List.length_take] at this
    omega
  rw [List.getElem?_take, if_pos hi] at e
  obtain ⟨z, z1, z2⟩ := h.2 i t e
  exact ⟨z, by rw [List.getElem?_take, if_pos hi]; exact z1, z2⟩⟩
theorem poolExt {p : Addr} {H H' : Hp} (h : PoolAt H p) (s : LamX.ExtN H H') : PoolAt H' p := by
  obtain ⟨c1, c2, z, y⟩ := h
  exact ⟨c1, c2, s _ _ z (fun _ q => by cases q), y⟩
/-- a graph whose list of edges is not the object at A -/
structure GJ (CG A : Addr) (H : Hp) (g : Addr) (n : Nat) (es : List (Int × Int)) : Prop where
  obj : ∃ dx j nr, H g = some (.ins CG dx (gflds (n : Int) j nr)) ∧ EdgesAt H j es ∧ j ≠ A
  good : GoodE n es
  asc : SrtE es
  n1 : 1 ≤ n
  n16 : n ≤ 16
theorem GJ.ge {CG A : Addr} {H : Hp} {g : Addr} {n : Nat} {es : List (Int × Int)} (h : GJ CG A H g n es) : GE CG H g n es := by
  obtain ⟨⟨dx, j, nr, h1, h2, _⟩, a, b, c, d⟩ := h
  exact ⟨⟨dx, j, nr, h1, h2⟩, a, b, c, d⟩
theorem GJ.same {CG A : Addr} {H H' : Hp} {g : Addr} {n : Nat} {es : List (Int × Int)} (h : GJ CG A H g n es) (s : Same H H') : GJ CG A H' g n es := by
  obtain ⟨⟨dx, j, nr, h1, h2, h3⟩, a, b, c, d⟩ := h
  exact ⟨⟨dx, j, nr, s _ _ h1, h2.same s, h3⟩, a, b, c, d⟩
theorem GJ.x {CG A p : Addr} {H H' : Hp} {g : Addr} {n : Nat} {es : List (Int × Int)} (h : GJ CG A H g n es) (hp : PoolAt H p) (s : SameX p H H') : GJ CG A H' g n es := by
  obtain ⟨⟨dx, j, nr, h1, h2, h3⟩, a, b, c, d⟩ := h
  obtain ⟨ts, e1, e2⟩ := id h2
  have gp : p ≠ g := by
    obtain ⟨_, _, z, _⟩ := hp
    exact (ne_of h1 z (by intro y; cases y)).symm
  have jp : p ≠ j := by
    obtain ⟨c1, c2, z, _⟩ := hp
    refine (ne_of e1 z (fun y => ?_)).symm
    injection y with y
    cases ts with
    | nil => cases y
    | cons t r => injection y with y _; cases y
  exact ⟨⟨dx, j, nr, s _ _ gp.symm h1, edX h2 hp jp s, h3⟩, a, b, c, d⟩
theorem GJ.upd {CG A : Addr} {H : Hp} {g : Addr} {n : Nat} {es : List (Int × Int)} {xs ys : List V} (h : GJ CG A H g n es) (hA : H A = some (.lst xs)) : GJ CG A (upd H A (.lst ys)) g n es := by
  obtain ⟨⟨dx, j, nr, h1, ⟨ts, e1, e2, e3⟩, h3⟩, a, b, c, d⟩ := h
  refine ⟨⟨dx, j, nr, by rw [upd_ne (ne_of h1 hA (by intro y; cases y))]; exact h1, ⟨ts, by rw [upd_ne h3]; exact e1, e2, fun k t ek => ?_⟩, h3⟩, a, b, c, d⟩
  obtain ⟨z, z1, z2⟩ := e3 k t ek
  exact ⟨z, z1, by rw [upd_ne (ne_of z2 hA (by intro y; cases y))]; exact z2⟩
theorem GE.gj {CG A : Addr} {H H' : Hp} {g : Addr} {n : Nat} {es : List (Int × Int)} {o : HO} (h : GE CG H' g n es) (hj : ∀ dx j nr, H' g = some (.ins CG dx (gflds (n : Int) j nr)) → H j = none) (hA : H A = some o) : GJ CG A H' g n es := by
  obtain ⟨⟨dx, j, nr, h1, h2⟩, a, b, c, d⟩ := h
  exact ⟨⟨dx, j, nr, h1, h2, (ne_of_none hA (hj dx j nr h1)).symm⟩, a, b, c, d⟩
theorem flatInts (x : List Int) : (x.map V.int).all flatV = true := by
  rw [List.all_eq_true]
  intro v hv
  obtain ⟨z, _, rfl⟩ := List.mem_map.mp hv
  rfl
theorem findIn {n : Nat} {x : List Int} (px : x.Perm (rangeI n)) {i : Nat} (hi : i < n) : ∃ j, j < n ∧ x.getD j 0 = (i : Int) ∧ x[j]? = some (i : Int) := by
  have hn := names_of px
  have m : (i : Int) ∈ x := px.mem_iff.mpr (List.mem_map.mpr ⟨i, List.mem_range.mpr hi, rfl⟩)
  obtain ⟨j, hj, e⟩ := List.getElem_of_mem m
  have hj' : j < n := by rw [← hn.len]; exact hj
  refine ⟨j, hj', ?_, by rw [List.getElem?_eq_getElem hj, e]⟩
  rw [List.getD_eq_getElem?_getD, List.getElem?_eq_getElem hj, e]
  rfl
theorem preS {CG : Addr} {H : Hp} {x dx : Addr} (nx : H x = none) (ndx : H dx = none) (ne : dx ≠ x) : Same H (upd (upd H dx (.own x)) x (.ins CG dx [])) := by
  have sA : Same H (upd H dx (.own x)) := same_upd ndx
  have nx1 : (upd H dx (.own x)) x = none := by rw [upd_ne ne.symm]; exact nx
  exact sA.trans (same_upd nx1)
theorem made {CG : Addr} {H H' : Hp} {x dx j nr : Addr} {n : Nat} {es es' : List (Int × Int)} (nx : H x = none) (ndx : H dx = none) (ne : dx ≠ x) (hU : GoodU n es) (n1 : 1 ≤ n) (c16 : n ≤ 16) (c40 : es.length ≤ 40)
    (up : ∀ b o, b ≠ x → (upd (upd H dx (.own x)) x (.ins CG dx [])) b = some o → H' b = some o) (hx' : H' x = some (.ins CG dx (gflds (n : Int) j nr))) (hj : EdgesAt H' j es') (pe : es'.Perm (es.map ordP)) (sE : SrtE es')
    (nj : (upd (upd H dx (.own x)) x (.ins CG dx [])) j = none) : Same H H' ∧ GE CG H' x n es' ∧ (∀ dx j nr, H' x = some (.ins CG dx (gflds (n : Int) j nr)) → H j = none) := by
  have s := preS (CG := CG) nx ndx ne
  refine ⟨fun b o e => up b o (ne_of_none e nx) (s _ _ e), ⟨⟨dx, j, nr, hx', hj⟩, (hU.ord c40).perm pe, sE, n1, c16⟩, fun dx1 j1 nr1 e => ?_⟩
  rw [hx'] at e
  injection e with e
  injection e with _ _ e
  unfold gflds at e
  injection e with _ e
  injection e with e _
  injection e with _ e
  injection e with e
  rw [← e]
  exact s.free nj
theorem tabsX {T : List (Addr × Str)} {p : Addr} {H H' : Hp} (t : LamX.Tabs T H) (hp : PoolAt H p) (s : SameX p H H') : LamX.Tabs T H' := fun q hq => by
  obtain ⟨ps, h1, h2, h3⟩ := t q hq
  obtain ⟨c1, c2, z, _⟩ := hp
  refine ⟨ps, s _ _ (ne_of h1 z (by intro y; cases y)) h1, h2, fun pos cv hc => ?_⟩
  obtain ⟨c, e1, e2⟩ := h3 pos cv hc
  exact ⟨c, e1, s _ _ (ne_of e2 z (by intro y; unfold LamX.CodeO at y; cases y)) e2⟩
theorem intEqV (a b : Int) : eqV (.int a) (.int b) = decide (a = b) := by
  show (a == b) = decide (a = b)
  by_cases c : a = b
  · rw [decide_eq_true c]
    exact beq_iff_eq.mpr c
  · rw [decide_eq_false c]
    exact beq_eq_false_iff_ne.mpr c

end K77

set_option Elab.async false
set_option linter.all false
set_option maxRecDepth 100000
set_option maxHeartbeats 8000000
namespace K77
open PySem PySem.Spec PyProof.Rows L2 FNX
/-! ## law -/
section
variable {P : Program} {w : World} {K : PySem.W.Frag} {mg : Str → Option Value} {base : Heap} {CG CS CM CO CP : Addr}
theorem sc_law : FnScope ["_law_script", "_law_k", "_law_pool_here", "_law_graphs", "_law_turn", "_law_many", "_law_dense", "_law_one", "_law_near", "_law_first", "_law_second", "_law_graph", "_law_here", "_law_order_here", "_law_seen", "_law_due", "_law_back", "_law_found", "_law_two", "_law_node"] ["_law_script"] (defScope s_law) := ⟨rfl, rfl, rfl, by decide +kernel, rfl, by decide +kernel, by decide +kernel⟩
theorem ok_law {f fI cu Pu cr Pr : Addr} {fd fdI : FuncData} (F : Fun K "law" "law" s_law f fd) (M : Nms mg) (T : GTxt K mg CG)
    (hne1 : PySem.W.findIn K (.ref CG) "__ne__" = some (some (.builtin "object.__ne__"))) (hmO : PySem.W.mroIn K CG (.type "object") = some true)
    (GS : MAt P w K mg base CG CX0 1 "size" ["self"] (spSizeE CG)) (GE' : MAt P w K mg base CG CX0 1 "edges" ["self"] (spEdgesOf CG)) (GQ : MAt P w K mg base CG CX0 1 "__eq__" ["self", "other"] (spEq (RGraph CG)))
    (GP : At P w K mg base CX0 1 "_law_pool" ["_law_script", "_law_k"] (spPool K)) (GT : At P w K mg base CX0 1 "_law_take" ["_law_pool_here", "_law_sides"] spTake)
    (GJ' : At P w K mg base CX0 2 "_law_joins" ["_law_pool_here", "_law_many", "_law_top"] spJoins) (GNu : At P w K mg base CX0 3 "_law_numbers" ["_law_pool_here", "_law_many"] spNumbers)
    (GOr : At P w K mg base CX0 2 "_law_order" ["_law_pool_here", "_law_many"] spOrder)
    (GN : At P w K mg base (L2.CX P w) 8 "renumbered" ["graph", "order"] (spRenum K CG CO)) (GM : At P w K mg base (L2.CX P w) 4 "renumbered_position" ["graph", "position", "order"] (spRenumP K CG CP CO))
    (GUR : AtG P w K mg base 11 "_law_union_right" ["_law_first", "_law_second"] (spUR K CG Pu Pr)) (GRF : AtG P w K mg base 11 "_law_refused" ["_law_graph", "_law_many", "_law_here", "_law_order_here"] (spRF K CG Pu Pr))
    (MK : Mk K CG fI) (GI : FnOk P w K mg base (L2.CX P w) 6 fI fdI ["self", "size", "edges"] (spGInitX CG CS CM)) (bI : L2.Binds K fdI ["self", "size", "edges"] []) :
    GOk P w K mg base 12 f fd ["_law_script"] (spLawT K [(cu, Pu), (cr, Pr)]) := by
  obtain ⟨fS, fdS, GS, mS, bS⟩ := GS
  obtain ⟨fE', fdE', GE', mEd, bEd⟩ := GE'
  obtain ⟨fQ, fdQ, GQ, mQ, bQ⟩ := GQ
  obtain ⟨fP, fdP, GP, mP, kP, bP⟩ := GP
  obtain ⟨fT, fdT, GT, mT, kT, bT⟩ := GT
  obtain ⟨fJ, fdJ, GJ', mJ, kJ, bJ⟩ := GJ'
  obtain ⟨fNu, fdNu, GNu, mNu, kNu, bNu⟩ := GNu
  obtain ⟨fOr, fdOr, GOr, mOr, kOr, bOr⟩ := GOr
  obtain ⟨fN, fdN, GN, mN, kN, bN⟩ := GN
  obtain ⟨fM, fdM, GM, mM, kM, bM⟩ := GM
  obtain ⟨fUR, fdUR, GUR, mUR, kUR, bUR⟩ := GUR
  obtain ⟨fRF, fdRF, GRF, mRF, kRF, bRF⟩ := GRF
  refine okG F sc_law (fun vs H Q E h => ?_) (fun cdv A outer s H vs Q E hgd hr11 h => ?_)
  · obtain ⟨a, ns, rfl, _⟩ := h
    rfl
  · obtain ⟨a, ns, rfl, hS, hlen, hT0, kont⟩ := h
    have nd := sc_law.nd
    have hr := hr11
    have hr1 : Room 1 _ := hr.mono (by decide)
    have hr2 : Room 2 _ := hr.mono (by decide)
    have hr3 : Room 3 _ := hr.mono (by decide)
    have hr4 : Room 4 _ := hr.mono (by decide)
    have hr7 : Room 7 _ := hr.mono (by decide)
    have hr8 : Room 8 _ := hr.mono (by decide)
    have hu64 : A.units + 3 + 64 < cLine := hr.units
    have mI := T.mgC
    refine ⟨_, (pss_cons (ps_for PassesOwn.never rfl (pi_range1 rfl M.range (pa_cons (pe_callB (call_max2 rfl) (by rfl) M.max boot_max1 (pa_cons pe_int (pa_cons (pe_callB (call_min2 rfl) (by rfl) M.min boot_min1 (pa_cons (pe_callB call_len_seq (by rfl) M.len boot_len1 (pa_cons (pv 0) pa_nil)) (pa_cons pe_int pa_nil))) pa_nil))) pa_nil)) (pg_name (i := 1) nd rfl (Or.inl rfl)) (pss_cons (ps_set (i := 2) nd rfl (Or.inl rfl) (pe_call GP hr1 (by rfl) mP kP bP .nil pass0 (pa_cons (pv 0) (pa_cons (pv 1) pa_nil))))
      (pss_cons (ps_set (i := 3) nd rfl (Or.inl rfl) (pe_lst pa_nil))
      (pss_cons (ps_for PassesOwn.never rfl (pi_range1 rfl M.range (pa_cons pe_int pa_nil)) (pg_name (i := 4) nd rfl (Or.inl rfl)) (pss_cons (ps_set (i := 5) nd rfl (Or.inl rfl) (pe_op op_add pe_int (pe_call GT hr1 (by rfl) mT kT bT .nil pass0 (pa_cons (pv 2) (pa_cons pe_int pa_nil)))))
      (pss_one (ps_expr (pe_bm PySem.F.plainAttrs_list PySem.F.slot_list_append PySem.F.type_list_append mt_append (pv 3) (pa_cons (pe_make MK GI hr7 (by rfl) mI bI .nil passL (pa_cons (pv 5) (pa_cons (pe_call GJ' hr2 (by rfl) mJ kJ bJ .nil pass0 (pa_cons (pv 2) (pa_cons (pv 5) (pa_cons pe_int pa_nil)))) pa_nil))) pa_nil))))))
      (pss_cons (ps_set (i := 6) nd rfl (Or.inl rfl) (pe_lst pa_nil))
      (pss_cons (ps_for PassesOwn.never rfl (pi_range1 rfl M.range (pa_cons pe_int pa_nil)) (pg_name (i := 7) nd rfl (Or.inr rfl)) (pss_one (ps_set (i := 6) nd rfl (Or.inl rfl) (pe_op op_cat (pv 6) (pe_lc (own := [("_law_two", 18)]) (g := gName 18) (tt := tYes) rfl nd (pi_range1 rfl M.range (pa_cons (pv 7) pa_nil)) (blkOk_by (own := [("_law_two", 18)]) (N := ["_law_script", "_law_k", "_law_pool_here", "_law_graphs", "_law_turn", "_law_many", "_law_dense", "_law_one", "_law_near", "_law_first", "_law_second", "_law_graph", "_law_here", "_law_order_here", "_law_seen", "_law_due", "_law_back", "_law_found", "_law_two", "_law_node"]) (sc := defScope s_law) (by decide +kernel)) (fun _ _ _ _ _ => pg_name (i := 18) nd rfl (Or.inl rfl)) (fun _ _ _ _ _ => pts_nil) (fun _ _ _ _ _ => (pe_tup (pa_cons (pv 7) (pa_cons (pv 18) pa_nil)))))))))
      (pss_cons (ps_set (i := 8) nd rfl (Or.inl rfl) (pe_make MK GI hr7 (by rfl) mI bI .nil passL (pa_cons pe_int (pa_cons (pe_slice sl_list (pv 6) po_none (po_some (pe_op op_add pe_int (pe_call GT hr1 (by rfl) mT kT bT .nil pass0 (pa_cons (pv 2) (pa_cons pe_int pa_nil)))))) pa_nil))))
      (pss_cons (ps_for PassesOwn.never rfl (pi_list (pe_lst (pa_cons (pv 3) (pa_cons (pe_lst (pa_cons (pe_ix (r := rIxL K) ix_list (pv 3) pe_int (fun _ _ => rfl)) (pa_cons (pe_ix (r := rIxL K) ix_list (pv 3) pe_int (fun _ _ => rfl)) pa_nil))) (pa_cons (pe_lst (pa_cons (pe_make MK GI hr7 (by rfl) mI bI .nil passL (pa_cons pe_int (pa_cons (pv 6) pa_nil))) (pa_cons (pv 8) pa_nil))) pa_nil))))) (pg_lst rfl (pgs_cons (pg_name (i := 9) nd rfl (Or.inl rfl)) (pgs_cons (pg_name (i := 10) nd rfl (Or.inl rfl)) pgs_nil))) (pss_one (ps_if (pt_not (pt_val (pe_callG hgd GUR hr11 (by rfl) mUR kUR bUR pass0 (pa_cons (pv 9) (pa_cons (pv 10) pa_nil))))) (pss_one (ps_ret pe_bl)) pss_nil)))
      (pss_cons (ps_par (i := 11) (j := 5) (by rfl) nd rfl rfl (by decide) rfl rfl (pa_cons (pe_ix (r := rIxL K) ix_list (pv 3) pe_int (fun _ _ => rfl)) (pa_cons (pe_meth0 (pe_ix (r := rIxL K) ix_list (pv 3) pe_int (fun _ _ => rfl)) T.cl mS GS hr1 bS .nil pass0) pa_nil)) (by rfl))
      (pss_cons (ps_asg (pe_tup (pa_cons (pe_call GNu hr3 (by rfl) mNu kNu bNu .nil pass0 (pa_cons (pv 2) (pa_cons (pv 5) pa_nil))) (pa_cons (pe_call GOr hr2 (by rfl) mOr kOr bOr .nil pass0 (pa_cons (pv 2) (pa_cons (pv 5) pa_nil))) pa_nil))) (pg_tup rfl (pgs_cons (pg_name (i := 12) nd rfl (Or.inl rfl)) (pgs_cons (pg_name (i := 13) nd rfl (Or.inr rfl)) pgs_nil))))
      (pss_cons (ps_set (i := 14) nd rfl (Or.inl rfl) (pe_callB (show CallR _ (.builtin "repr") (rReprL K) from call_reprL hgd hr.units) (by rfl) M.repr boot_repr1 (pa_cons (pe_lst (pa_cons (pv 12) (pa_cons (pv 13) pa_nil))) pa_nil)))
      (pss_cons (ps_set (i := 15) nd rfl (Or.inl rfl) (pe_make MK GI hr7 (by rfl) mI bI .nil passL (pa_cons (pv 5) (pa_cons (pe_lc (own := [("_law_one", 7), ("_law_two", 18)]) (g := gTup K 2 (gCons (gName 7) (gCons (gName 18) (gNil)))) (tt := tYes) rfl nd (pi_list (pe_meth0 (pv 11) T.cl mEd GE' hr1 bEd .nil pass0)) (blkOk_by (own := [("_law_one", 7), ("_law_two", 18)]) (N := ["_law_script", "_law_k", "_law_pool_here", "_law_graphs", "_law_turn", "_law_many", "_law_dense", "_law_one", "_law_near", "_law_first", "_law_second", "_law_graph", "_law_here", "_law_order_here", "_law_seen", "_law_due", "_law_back", "_law_found", "_law_two", "_law_node"]) (sc := defScope s_law) (by decide +kernel)) (fun _ _ _ _ _ => pg_tup rfl (pgs_cons (pg_name (i := 7) nd rfl (Or.inl rfl)) (pgs_cons (pg_name (i := 18) nd rfl (Or.inl rfl)) pgs_nil))) (fun _ _ _ _ _ => pts_nil) (fun _ _ _ _ _ => (pe_tup (pa_cons (pe_ix (r := rIxL K) ix_list (pv 13) (pv 7) (fun _ _ => rfl)) (pa_cons (pe_ix (r := rIxL K) ix_list (pv 13) (pv 18) (fun _ _ => rfl)) pa_nil))))) pa_nil))))
      (pss_cons (ps_setLc (i := 16) (own := [("_law_node", 19)]) (g := gName 19) (tt := tYes) (by rfl) nd rfl rfl (sw_true rfl rfl rfl (by decide +kernel)) (pi_range1 rfl M.range (pa_cons (pv 5) pa_nil)) (blkOk_by (own := [("_law_node", 19)]) (N := ["_law_script", "_law_k", "_law_pool_here", "_law_graphs", "_law_turn", "_law_many", "_law_dense", "_law_one", "_law_near", "_law_first", "_law_second", "_law_graph", "_law_here", "_law_order_here", "_law_seen", "_law_due", "_law_back", "_law_found", "_law_two", "_law_node"]) (sc := defScope s_law) (by decide +kernel)) (fun _ _ _ _ _ => pg_name (i := 19) nd rfl (Or.inl rfl)) (fun _ _ _ _ _ => pts_nil) (fun _ _ _ _ _ => (show PE _ _ (tBM K "list" (rIndex K) (tVar 13) (tCons (tVar 19) tNil)) from pe_bm PySem.F.plainAttrs_list PySem.F.slot_list_index PySem.F.type_list_index (show MtR _ "list.index" (rIndex K) from mt_index) (pv 13) (pa_cons (pv 19) pa_nil))))
      (pss_cons (ps_if (PW.pt (pw_or (pt_cmpR (show OpR _ (compareOp .NotEq) (rNeG (DIns CG (RGraph CG))) from op_neG (rcNG_ins (E := E) GQ mQ.1 hne1 hmO mQ.fn bQ pass0) hr2) (pe_call GN hr8 (by rfl) mN kN bN .nil passL (pa_cons (pv 11) (pa_cons (pv 13) pa_nil))) (pv 15) (nomark _)) (pw_or1 (pt_cmpR (show OpR _ (compareOp .NotEq) (rNeG (DIns CG (RGraph CG))) from op_neG (rcNG_ins (E := E) GQ mQ.1 hne1 hmO mQ.fn bQ pass0) hr2) (pe_call GN hr8 (by rfl) mN kN bN .nil passL (pa_cons (pv 15) (pa_cons (pv 16) pa_nil))) (pv 11) (nomark _))))) (pss_one (ps_ret pe_bl)) pss_nil)
      (pss_cons (ps_set (i := 17) nd rfl (Or.inr rfl) (pe_call GM hr4 (by rfl) mM kM bM .nil passL (pa_cons (pv 11) (pa_cons (pv 12) (pa_cons (pv 13) pa_nil)))))
      (pss_cons (ps_if (PW.pt (pw_or (pt_cmpR (op_neD hu64) (pe_lc (own := [("_law_node", 19)]) (g := gName 19) (tt := tYes) rfl nd (pi_range1 rfl M.range (pa_cons (pv 5) pa_nil)) (blkOk_by (own := [("_law_node", 19)]) (N := ["_law_script", "_law_k", "_law_pool_here", "_law_graphs", "_law_turn", "_law_many", "_law_dense", "_law_one", "_law_near", "_law_first", "_law_second", "_law_graph", "_law_here", "_law_order_here", "_law_seen", "_law_due", "_law_back", "_law_found", "_law_two", "_law_node"]) (sc := defScope s_law) (by decide +kernel)) (fun _ _ _ _ _ => pg_name (i := 19) nd rfl (Or.inl rfl)) (fun _ _ _ _ _ => pts_nil) (fun _ _ _ _ _ => (pe_ix (r := rIxL K) ix_list (pv 17) (pe_ix (r := rIxL K) ix_list (pv 13) (pv 19) (fun _ _ => rfl)) (fun _ _ => rfl)))) (pv 12) (nomark _)) (pw_or (pt_cmpR op_ne (pe_callB call_len_seq (by rfl) M.len boot_len1 (pa_cons (pv 17) pa_nil)) (pv 5) (nomark _)) (pw_or1 (pt_cmpR op_ne (pe_callB (show CallR _ (.builtin "repr") (rReprL K) from call_reprL hgd hr.units) (by rfl) M.repr boot_repr1 (pa_cons (pe_lst (pa_cons (pv 12) (pa_cons (pv 13) pa_nil))) pa_nil)) (pv 14) (nomark _)))))) (pss_one (ps_ret pe_bl)) pss_nil)
      (pss_one (ps_if (pt_not (pt_val (pe_callG hgd GRF hr11 (by rfl) mRF kRF bRF pass0 (pa_cons (pv 11) (pa_cons (pv 5) (pa_cons (pv 12) (pa_cons (pv 13) pa_nil))))))) (pss_one (ps_ret pe_bl)) pss_nil))))))))))))))))))
      (pss_one (ps_ret pe_bl))), ?_⟩
    have bnd : ∀ l : Nat, 1 ≤ (if (if (6 : Int) < (l : Int) then (6 : Int) else (l : Int)) > 1 then (if (6 : Int) < (l : Int) then (6 : Int) else (l : Int)) else 1) ∧
        (if (if (6 : Int) < (l : Int) then (6 : Int) else (l : Int)) > 1 then (if (6 : Int) < (l : Int) then (6 : Int) else (l : Int)) else 1) ≤ 6 := fun l => by
      split <;> split <;> omega
    have bl := bnd (ns.map V.int).length
    have lenP : ∀ z : List Int, z.length ≤ 1000 → lenD (posD z) ≤ 100000 := fun z hz => by
      show (z.map PyData.int).length ≤ 100000
      rw [List.length_map]
      omega
    refine ⟨_, rfl, a, _, rfl, .inl hS, _, _, rfl, _, _, rfl, _, rfl, by omega, by omega, for_range (lo := 0) (fun i σ H' => ∃ v1 v2 v3 v4 v5 v6 v7 v8 v9 v10 v11 v12 v13 v14 v15 v16 v17 v18 v19 : Option V,
      σ = [some (.ref a), v1, v2, v3, v4, v5, v6, v7, v8, v9, v10, v11, v12, v13, v14, v15, v16, v17, v18, v19] ∧ SqL K H' a (ns.map V.int) ∧ LamX.Tabs (lam2 Pu Pr) H') ⟨none, none, none, none, none, none, none, none, none, none, none, none, none, none, none, none, none, none, none, rfl, hS, tabs2 hT0⟩ ?_ ?_⟩
    case refine_2 =>
      rintro σ H' ⟨v1, v2, v3, v4, v5, v6, v7, v8, v9, v10, v11, v12, v13, v14, v15, v16, v17, v18, v19, rfl, _⟩
      exact kont H'
    rintro i σ H0 hi ⟨v1, v2, v3, v4, v5, v6, v7, v8, v9, v10, v11, v12, v13, v14, v15, v16, v17, v18, v19, rfl, hS0, hTab⟩
    have hi6 : i < 6 := by omega
    refine ⟨_, rfl, _, rfl, a, ns, (0 : Int) + i, rfl, hS0, by omega, by omega, fun p H1 np s1 hp1 => ?_⟩
    refine ⟨by show 0 ≤ sizeLine; decide, fun Gs nGs => ?_⟩
    obtain ⟨H2, q2, s2, h2⟩ := newAt (.lst []) nGs
    rw [q2]
    have hp2 := hp1.same s2
    have Gsp : Gs ≠ p := (hp1.ne nGs).symm
    have nGs0 : H0 Gs = none := s1.free nGs
    refine ⟨2, rfl, by decide, by decide, for_range (lo := 0) (fun j σ H' => ∃ (gs : List Addr) (o4 o5 : Option V),
      σ = [some (.ref a), some (.int (0 + i)), some (.ref p), some (.ref Gs), o4, o5, v6, v7, v8, v9, v10, v11, v12, v13, v14, v15, v16, v17, v18, v19] ∧ SameX p H1 H' ∧ PoolAt H' p ∧ H' Gs = some (.lst (gs.map V.ref)) ∧ gs.length = j ∧
      ∀ (k : Nat) (g : Addr), gs[k]? = some g → ∃ n es, GJ CG Gs H' g n es ∧ n ≤ 10)
      ⟨[], v4, v5, rfl, Same.x s2, hp2, h2, rfl, fun k g e => by simp at e⟩ ?_ ?_⟩
    · rintro j σ H' hj ⟨gs, o4, o5, rfl, sx, hpp, hGs, lgs, hall⟩
      refine ⟨_, rfl, p, 10, rfl, hpp, by omega, by omega, fun r H3 r0 r1 hp3 t3 => ⟨_, _, rfl, rfl, ?_⟩⟩
      obtain ⟨n, hn⟩ : ∃ n : Nat, (1 : Int) + r = (n : Int) := ⟨(1 + r).toNat, by omega⟩
      rw [show ((fun i j : Int => V.int (i + j)) 1 r) = V.int (n : Int) from congrArg V.int hn]
      have hGs3 := (t3 Gs Gsp).trans hGs
      refine ⟨_, rfl, .inl ⟨rfl, _, SqL.of hGs3⟩, ?_⟩
      refine ⟨_, rfl, _, rfl, _, rfl, p, n, 25, rfl, hp3, by omega, by omega, by omega, fun q H4 es nq s4 hp4 hE good => ?_⟩
      have hGs4 := s4 _ _ Gsp hGs3
      intro x dx nx ndx ne
      have sx0 := preS (CG := CG) nx ndx ne
      have few := good.few
      refine ⟨x, dx, q, n, es, rfl, upd_same, hE.same sx0, good.toU, by omega, fun c => by omega, fun _ c => by omega, fun _ _ H5 j' nr' us up hx' hj' pe sE nj => ⟨rfl, ?_⟩⟩
      obtain ⟨s5, hG, hj5⟩ := made nx ndx ne good.toU (by omega) (by omega) (by omega) up hx' hj' pe sE nj
      have hGs5 := s5 _ _ hGs4
      have hp5 := hp4.same s5
      refine ⟨Gs, _, _, rfl, rfl, hGs5, by rw [List.length_map, lgs, sizeLine_eq]; omega, ?_⟩
      have sx35 : SameX p H' H5 := ((sameX_take t3).trans s4).trans (Same.x s5)
      have gj := hG.gj hj5 hGs4
      refine ⟨gs ++ [x], _, _, rfl, fun b o hb e => ?_, ?_, by rw [upd_same, List.map_append]; rfl, by rw [List.length_append, lgs]; rfl, fun k g' hk => ?_⟩
      · rw [upd_ne (ne_of_none e nGs)]
        exact sx35 _ _ hb (sx _ _ hb e)
      · obtain ⟨c1, c2, w1, w2⟩ := hp5
        exact ⟨c1, c2, by rw [upd_ne Gsp.symm]; exact w1, w2⟩
      · by_cases c : k < gs.length
        · rw [List.getElem?_append_left c] at hk
          obtain ⟨n', es', hg', b'⟩ := hall k g' hk
          exact ⟨n', es', (hg'.x hpp sx35).upd hGs5, b'⟩
        · rw [List.getElem?_append_right (by omega)] at hk
          have hk' : k = gs.length := by
            have z := (List.getElem?_eq_some_iff.mp hk).1
            simp at z
            omega
          subst hk'
          rw [Nat.sub_self] at hk
          obtain rfl : x = g' := Option.some.inj hk
          exact ⟨n, us, gj.upd hGs5, by omega⟩
    rintro σ H3 ⟨gs, o4, o5, rfl, sx13, hp3, hGs, lgs, hall⟩
    obtain ⟨ga, gb, rfl⟩ : ∃ ga gb, gs = [ga, gb] := by
      have lgs' : gs.length = 2 := by simpa using lgs
      match gs, lgs' with
      | [x, y], _ => exact ⟨x, y, rfl⟩
    obtain ⟨na, ea, hga, ba⟩ := hall 0 ga rfl
    obtain ⟨n, es, hgb, bb⟩ := hall 1 gb rfl
    clear hall
    have hga := hga.ge
    have hgb := hgb.ge
    have hGs : H3 Gs = some (.lst [V.ref ga, V.ref gb]) := hGs
    have sx03 : SameX p H0 H3 := (Same.x s1).trans sx13
    clear sx13
    refine ⟨by show 0 ≤ sizeLine; decide, fun d0 nd0 => ?_⟩
    obtain ⟨J0, w0, j0, u0⟩ := newAt (.lst []) nd0
    rw [w0]
    refine ⟨8, rfl, by decide, by decide, for_range (lo := 0) (fun j σ H' => ∃ (D : Addr) (o7 o18 : Option V), σ = [some (.ref a), some (.int (0 + i)), some (.ref p), some (.ref Gs), o4, o5, some (.ref D), o7, v8, v9, v10, v11, v12, v13, v14, v15, v16, v17, o18, v19] ∧ Same H3 H' ∧ EdgesAt H' D (denseE j))
      ⟨d0, v7, v18, rfl, j0, ⟨[], u0, rfl, fun k t e => by simp at e⟩⟩ ?_ ?_⟩
    · rintro j σ H' hj ⟨D, o7, o18, rfl, sm, hD⟩
      have hj8 : j < 8 := hj
      obtain ⟨td, d1, d2⟩ := id hD
      rw [Int.zero_add]
      refine ⟨_, rfl, _, rfl, (j : Int), rfl, by omega, by omega, fun Z nZ => ?_⟩
      refine lc_range (lo := 0) (n := j) (PairsTo H' Z ((List.range j).map fun b : Nat => ((j : Int), (b : Int))) id) (pairsZero nZ) (fun k H4 hk hP => ?_) (fun H4 hP => ?_)
      · rw [Int.zero_add]
        have hk' : k < j := by omega
        refine ⟨rfl, ?_⟩
        refine ⟨_, rfl, _, rfl, by show 2 ≤ sizeLine; decide, fun T nT => ?_⟩
        exact pairsStep (e := ((j : Int), (k : Int))) nZ hP (by rw [List.getElem?_map, List.getElem?_range hk']; rfl) (by rw [List.length_map, List.length_range]; omega) nT
      obtain ⟨s4, us, f1, f2⟩ := hP
      rw [List.take_of_length_le (by rw [List.length_map, List.length_range]; omega), List.map_id] at f2
      have lus : us.length = j := by rw [f2.1, List.length_map, List.length_range]
      have ltd : td.length ≤ 28 := by rw [d2.1]; exact denseLe j (by omega)
      refine ⟨D, Z, _, _, rfl, rfl, s4 _ _ d1, f1, by rw [List.length_map, List.length_map, sizeLine_eq]; omega, fun R nR => ?_⟩
      have sR := same_upd nR (o := .lst (td.map V.ref ++ us.map V.ref))
      have hR := edApp (p := R) ((d2.same s4).same sR) (f2.same sR) (by rw [upd_same, List.map_append])
      exact ⟨R, some (.int (j : Int)), o18, rfl, sm.trans (s4.trans sR), by rw [denseSucc]; exact hR⟩
    rintro σ H4 ⟨D, o7, o18, rfl, s34, hD⟩
    have hD : EdgesAt H4 D (denseE 8) := hD
    obtain ⟨td, d1, d2⟩ := id hD
    have ltd : td.length = 28 := by rw [d2.1]; decide +kernel
    have ld8 : (denseE 8).length = 28 := by decide +kernel
    have hp4 := hp3.same s34
    have Dp : D ≠ p := by
      obtain ⟨c1, c2, z, _⟩ := hp4
      refine ne_of d1 z (fun y => ?_)
      injection y with y
      have := congrArg List.length y
      rw [List.length_map, ltd] at this
      simp at this
    refine ⟨_, rfl, _, rfl, p, 3, rfl, hp4, by decide, by decide, fun r5 H5 r50 r51 hp5 t5 => ⟨_, _, rfl, rfl, ((12 + r5).toNat : Int), congrArg V.int (by omega), D, _, rfl, SqL.of ((t5 D Dp).trans d1), fun C nC => ?_⟩⟩
    obtain ⟨kk, hkk⟩ : ∃ kk : Nat, (12 + r5).toNat = kk := ⟨_, rfl⟩
    have kk14 : kk ≤ 14 := by omega
    rw [hkk, cutRef _ _ (by omega)]
    obtain ⟨H6, w6, s6, u6⟩ := newAt (.lst ((td.take kk).map V.ref)) nC
    rw [w6]
    have d25 : TupsAt H5 td (denseE 8) := d2.sameX hp4 (sameX_take t5)
    have hC : EdgesAt H6 C ((denseE 8).take kk) := ⟨_, u6, (d25.take kk).same s6⟩
    have lC : ((denseE 8).take kk).length ≤ 14 := by
      rw [List.length_take]
      omega
    have hp6 := hp5.same s6
    have sx36 : SameX p H3 H6 := ((Same.x s34).trans (sameX_take t5)).trans (Same.x s6)
    have hGs6 := sx36 _ _ Gsp hGs
    have hga6 := hga.x hp3 sx36
    have hgb6 := hgb.x hp3 sx36
    have d16 := s6 _ _ ((t5 D Dp).trans d1)
    have hD6 : EdgesAt H6 D (denseE 8) := ⟨td, d16, d25.same s6⟩
    intro ng dx nx ndx ne
    have sx0 := preS (CG := CG) nx ndx ne
    refine ⟨ng, dx, C, 8, _, rfl, upd_same, hC.same sx0, denseGood.take kk, by decide, fun c => by omega, fun _ c => by omega, fun _ _ H7 j7 nr7 us7 up7 hx7 hj7 pe7 sE7 nj7 => ⟨rfl, ?_⟩⟩
    obtain ⟨s7, hNg, _⟩ := made nx ndx ne (denseGood.take kk) (by decide) (by decide) (by omega) up7 hx7 hj7 pe7 sE7 nj7
    clear up7 hx7 hj7 pe7 sE7 nj7 sx0 nx ndx ne
    have hGs7 := s7 _ _ hGs6
    refine ⟨_, rfl, _, rfl, Gs, _, (0 : Int), _, rfl, rfl, SqL.of hGs7, rfl, _, rfl, Gs, _, (0 : Int), _, rfl, rfl, SqL.of hGs7, rfl, by show 2 ≤ sizeLine; decide, fun W1 nW1 => ?_⟩
    obtain ⟨H8, w8, s8, u8⟩ := newAt (.lst [V.ref ga, V.ref ga]) nW1
    rw [w8]
    have s68 := s7.trans s8
    refine ⟨_, rfl, fun gd dx nx ndx ne => ?_⟩
    have sx0 := preS (CG := CG) nx ndx ne
    refine ⟨gd, dx, D, 8, _, rfl, upd_same, (hD6.same s68).same sx0, denseGood, by decide, fun c => by omega, fun _ c => by omega, fun _ _ H9 j9 nr9 us9 up9 hx9 hj9 pe9 sE9 nj9 => ⟨rfl, ?_⟩⟩
    obtain ⟨s9, hGd, _⟩ := made nx ndx ne denseGood (by decide) (by decide) (by omega) up9 hx9 hj9 pe9 sE9 nj9
    clear up9 hx9 hj9 pe9 sE9 nj9 sx0 nx ndx ne
    refine ⟨_, rfl, by show 2 ≤ sizeLine; decide, fun W2 nW2 => ?_⟩
    obtain ⟨H10, w10, s10, u10⟩ := newAt (.lst [V.ref gd, V.ref ng]) nW2
    rw [w10]
    refine ⟨by show 3 ≤ sizeLine; decide, fun W nW => ?_⟩
    obtain ⟨G0, wG, sG, hW⟩ := newAt (.lst [V.ref Gs, V.ref W1, V.ref W2]) nW
    rw [wG]
    have s8G := s9.trans (s10.trans sG)
    have s6G := s68.trans s8G
    have hp0 := hp6.same s6G
    have hGs0 := s6G _ _ hGs6
    have hga0 := hga6.same s6G
    have hgb0 := hgb6.same s6G
    have s0G : Same H0 G0 := (sx03.trans (sx36.trans (Same.x s6G))).same np
    have hTG := Same.tabs s0G hTab
    have u8G := s8G _ _ u8
    have u10G := sG _ _ u10
    have hNgG := (hNg.same s8).same s8G
    have hGdG := hGd.same (s10.trans sG)
    have pairs : ∀ j y, [V.ref Gs, V.ref W1, V.ref W2][j]? = some y → ∃ A' b1 b2 n1 n2 e1 e2, y = V.ref A' ∧ G0 A' = some (.lst [V.ref b1, V.ref b2]) ∧ GE CG G0 b1 n1 e1 ∧ GE CG G0 b2 n2 e2 := fun j y hj => by
      have hlt : j < 3 := (List.getElem?_eq_some_iff.mp hj).1
      obtain rfl | rfl | rfl : j = 0 ∨ j = 1 ∨ j = 2 := by omega
      · exact ⟨Gs, ga, gb, _, _, _, _, (Option.some.inj hj).symm, hGs0, hga0, hgb0⟩
      · exact ⟨W1, ga, ga, _, _, _, _, (Option.some.inj hj).symm, u8G, hga0, hga0⟩
      · exact ⟨W2, gd, ng, _, _, _, _, (Option.some.inj hj).symm, u10G, hGdG, hNgG⟩
    refine ⟨W, rfl, ⟨_, SqL.of hW⟩, for_list (K := K) (a := W) (xs := [V.ref Gs, V.ref W1, V.ref W2]) (fun j σ G => ∃ o9 o10 : Option V,
        σ = [some (.ref a), some (.int (0 + i)), some (.ref p), some (.ref Gs), o4, o5, some (.ref D), o7, some (.ref ng), o9, o10, v11, v12, v13, v14, v15, v16, v17, o18, v19] ∧ LamX.ExtN G0 G ∧ LamX.Tabs (lam2 Pu Pr) G)
      ⟨v9, v10, rfl, LamX.ExtN.refl G0, hTG⟩ (fun j σ G _ h => ?_) (fun j y σ G hj h => ?_) (fun σ G h => ?_)⟩
    · obtain ⟨_, _, _, xt, _⟩ := h
      exact sqLExt (SqL.of hW) xt
    · obtain ⟨o9, o10, rfl, xt, tb⟩ := h
      obtain ⟨A', b1, b2, n1, n2, e1, e2, rfl, hA, g1, g2⟩ := pairs j y hj
      refine ⟨A', _, rfl, sqLExt (SqL.of hA) xt, rfl, _, _, rfl, _, _, rfl, rfl, ?_⟩
      refine ⟨_, rfl, _, rfl, b1, b2, n1, n2, e1, e2, rfl, geExt g1 xt, geExt g2 xt, tb, fun G' xt' tb' => ⟨_, rfl, iteF ⟨_, _, rfl, xt.trans xt', tb'⟩⟩⟩
    obtain ⟨o9, o10, rfl, xt, tb⟩ := h
    have hpG := poolExt hp0 xt
    have hGsG := xt _ _ hGs0 (fun _ c => by cases c)
    have hg := geExt hgb0 xt
    have xt0 := (Same.ext s0G).trans xt
    clear pairs hga hga6 hga0 hgb hgb6 hgb0 hTG hNg hNgG hGd hGdG hC hD6 hD d1 d2 d16 d25 u6 u8 u10 u8G u10G hW hGs hGs6 hGs7 hGs0 hp3 hp4 hp5 hp6 hp0
    obtain ⟨dxb, jb, nrb, gb1, _⟩ := hg.obj
    refine ⟨_, rfl, Gs, _, (1 : Int), _, rfl, rfl, SqL.of hGsG, rfl, _, rfl, Gs, _, (1 : Int), _, rfl, rfl, SqL.of hGsG, rfl, gb, dxb, _, rfl, gb1, rfl, gb, n, es, rfl, hg, ?_⟩
    refine ⟨_, _, rfl, ?_⟩
    refine ⟨_, rfl, _, rfl, p, n, rfl, hpG, by omega, fun h K1 z nh sK1 hpK1 hz lz bz => ?_⟩
    refine ⟨_, rfl, _, rfl, p, n, rfl, hpK1, by omega, fun o K2 x no sK2 hpK2 ho px => ⟨by show 2 ≤ sizeLine; decide, fun T' nT => ?_⟩⟩
    obtain ⟨K3, wk, sK3, uT⟩ := newAt (.tup [V.ref h, V.ref o]) nT
    rw [wk]
    refine ⟨T', _, rfl, SqT.of uT, rfl, _, _, rfl, _, _, rfl, rfl, ?_⟩
    have hhp : h ≠ p := (hpG.ne nh).symm
    have sxG3 : SameX p G K3 := (sK1.trans sK2).trans (Same.x sK3)
    have hz3 := sK3 _ _ (sK2 _ _ hhp hz)
    have ho3 := sK3 _ _ ho
    have hg3 := hg.x hpG sxG3
    have gb3 := sxG3 gb _ (by
      obtain ⟨_, _, zz, _⟩ := hpG
      exact ne_of gb1 zz (by intro y; cases y)) gb1
    have hS3 := sqLExt hS0 (show LamX.ExtN H0 K3 from fun b o e nt => sxG3 b o (ne_of_none e np) (xt0 b o e nt))
    have hT3 := tabsX tb hpG sxG3
    clear hg hGsG xt xt0 tb hpG sxG3 hpK1 hpK2 sK1 sK2 hz ho uT gb1
    have hn := names_of px
    have lx := hn.len
    have n1 := hg3.n1
    have bx : ∀ v ∈ x, 0 ≤ v ∧ v < n := fun v hv => inRange (px.mem_iff.mp hv)
    have shZ : Shw 1 ((120 + 3) * 16 + 2) (posD z) := shwInts (by decide) (by decide) (fun v hv => Nat.lt_of_le_of_lt (bz v hv) (by decide +kernel)) (by omega)
    have shX : Shw 1 ((120 + 3) * 16 + 2) (posD x) := shwInts (by decide) (by decide) (fun v hv => by
      have := bx v hv
      exact Nat.lt_of_le_of_lt (show v.natAbs ≤ 16 by omega) (by decide +kernel)) (by omega)
    have shS : Shw 2 20000 (.list [posD z, posD x]) := (shwList (k := 1) (L := 8000) (m := 2) (fun e he => by
      rcases List.mem_cons.mp he with rfl | he
      · exact shZ.mono (by decide) (by decide)
      · rw [List.mem_singleton.mp he]
        exact shX.mono (by decide) (by decide)) (by show 2 ≤ 2; decide)).mono (by decide) (by decide)
    obtain ⟨sS1, sS2, sS3⟩ := shwLine shS (by decide) (by decide)
    have rS : ∀ H', Same K3 H' → RdAll K H' [V.ref h, V.ref o] [posD z, posD x] := fun H' s => .cons (.dat (.lst (SqL.of (s _ _ hz3)) (dpInts z))) (.cons (.dat (.lst (SqL.of (s _ _ ho3)) (dpInts x))) .nil)
    refine ⟨_, rfl, _, rfl, by show 2 ≤ sizeLine; decide, fun A4 nA4 => ?_⟩
    obtain ⟨K4, wk4, sK4, uA4⟩ := newAt (.lst [V.ref h, V.ref o]) nA4
    rw [wk4]
    refine ⟨A4, _, _, rfl, SqL.of uA4, rS K4 sK4, by simp, sS1, sS2, sS3, ?_⟩
    have hg4 := hg3.same sK4
    have gb4 := sK4 _ _ gb3
    have ho4 := sK4 _ _ ho3
    refine ⟨_, rfl, _, rfl, gb, dxb, _, rfl, gb4, rfl, gb, n, es, rfl, hg4, fun A5 K5 nA5 sK5 hA5 => ?_⟩
    obtain ⟨ta, ea1, ea2⟩ := id hA5
    refine ⟨A5, rfl, ⟨_, SqL.of ea1⟩, fun Z nZ => ?_⟩
    have few1 := hg4.good.few
    refine lc_list (K := K) (a := A5) (xs := ta.map V.ref) (PairsTo K5 Z es (mapO x)) (pairsZero nZ) (fun i H3 _ hP => SqL.of (hP.1 _ _ ea1)) (fun i v H3 hv hP => ?_) (fun K6 hP => ?_)
    · obtain ⟨t, ht, rfl⟩ := refAt hv
      obtain ⟨e, hei, het⟩ := ea2.2 i t ht
      have ne := hg4.good.node e (List.mem_of_getElem? hei)
      have hx3 := SqL.of (K := K) ((sK5.trans hP.1) _ _ ho4)
      refine ⟨t, _, rfl, SqT.of (hP.1 _ _ het), rfl, _, _, rfl, _, _, rfl, rfl, rfl, ?_⟩
      refine ⟨_, rfl, _, rfl, o, _, _, _, rfl, rfl, hx3, atInt (by omega) (by omega), _, rfl, _, rfl, o, _, _, _, rfl, rfl, hx3, atInt (by omega) (by omega), by show 2 ≤ sizeLine; decide, fun T nT => ?_⟩
      exact pairsStep nZ hP hei (by omega) nT
    obtain ⟨s56, hZ⟩ := pairsDone ea2.1 hP
    obtain ⟨oU, oM⟩ := orderU px hg4.good
    have n16 := hg4.n16
    intro du dx nx ndx ne
    have sx0 := preS (CG := CG) nx ndx ne
    refine ⟨du, dx, Z, n, _, rfl, upd_same, hZ.same sx0, oU, n1, fun c => by omega, fun _ c => by rw [List.length_map] at c; omega, fun _ _ K7 j7 nr7 us up7 hx7 hj7 pe7 sE7 nj7 => ⟨rfl, ?_⟩⟩
    obtain ⟨s67, hDu, _⟩ := made nx ndx ne oU n1 n16 (by rw [List.length_map]; omega) up7 hx7 hj7 pe7 sE7 nj7
    rw [oM] at pe7
    clear up7 hx7 hj7 sE7 nj7 sx0 nx ndx ne
    have s37 := sK4.trans (sK5.trans (s56.trans s67))
    have hg7 := hg3.same s37
    have ho7 := s37 _ _ ho3
    have hz7 := s37 _ _ hz3
    refine ⟨_, rfl, n, rfl, by omega, by omega, fun B nB => ?_⟩
    refine lc_range (lo := 0) (n := n) (fun k H' => Same K7 H' ∧ ∃ l : List Int, H' B = some (.lst (l.map V.int)) ∧ l.length = k ∧ ∀ m, m < k → 0 ≤ l.getD m 0 ∧ l.getD m 0 < n ∧ x.getD (l.getD m 0).toNat 0 = m)
      ⟨same_upd nB, [], upd_same, rfl, fun m hm => by omega⟩ (fun k H' hk h' => ?_) (fun K8 h' => ?_)
    · obtain ⟨sm, l, hl, ll, hall⟩ := h'
      rw [Int.zero_add]
      have hk' : k < n := by omega
      obtain ⟨j, hj, e1, e2⟩ := findIn px hk'
      have hoH := sm _ _ ho7
      refine ⟨rfl, ?_⟩
      refine ⟨_, rfl, .inl ⟨rfl, _, SqL.of hoH⟩, _, rfl, o, _, .int (k : Int), j, .int (k : Int), rfl, rfl, SqL.of hoH, rfl, flatInts x, by rw [List.getElem?_map, e2]; rfl, by rw [intEqV, decide_eq_true rfl], fun m z' hm hz' => ?_, ?_⟩
      · rw [List.getElem?_map] at hz'
        cases em : x[m]? with
        | none => rw [em] at hz'; cases hz'
        | some q =>
          rw [em] at hz'
          obtain rfl := Option.some.inj hz'
          show eqV (.int q) (.int (k : Int)) = false
          rw [intEqV]
          refine decide_eq_false fun c => ?_
          have eq : x.getD m 0 = q := by rw [List.getD_eq_getElem?_getD, em]; rfl
          have := hn.inj m j (by omega) hj (by rw [eq, e1, c])
          omega
      refine ⟨_, hl, by rw [List.length_map, ll, sizeLine_eq]; omega, fun b u z => ?_, l ++ [(j : Int)], by rw [upd_same, List.map_append]; rfl, by rw [List.length_append, ll]; rfl, fun m hm => ?_⟩
      · rw [upd_ne (ne_of_none z nB)]
        exact sm _ _ z
      · by_cases c : m < k
        · have e : (l ++ [(j : Int)]).getD m 0 = l.getD m 0 := by
            rw [List.getD_eq_getElem?_getD, List.getElem?_append_left (by omega), List.getD_eq_getElem?_getD]
          rw [e]
          exact hall m c
        · have e : (l ++ [(j : Int)]).getD m 0 = (j : Int) := by
            rw [List.getD_eq_getElem?_getD, List.getElem?_append_right (by omega), show m - l.length = 0 by omega]
            rfl
          rw [e]
          refine ⟨by omega, by omega, ?_⟩
          rw [Int.toNat_natCast, e1]
          omega
    obtain ⟨s78, bk, hB, lB, hall⟩ := h'
    have hBk : Back n x bk := ⟨lB, fun i hi => ⟨(hall i hi).1, (hall i hi).2.1⟩, fun i hi => (hall i hi).2.2⟩
    have pB := hBk.perm
    clear hall
    have hg8 := hg7.same s78
    have ho8 := s78 _ _ ho7
    have hz8 := s78 _ _ hz7
    have hDu8 := hDu.same s78
    refine ⟨_, rfl, _, rfl, ?_⟩
    dsimp only [tNil, tCons, tC]
    change spRenum K CG CO [V.ref gb, V.ref o] K8 _ _
    refine ⟨gb, n, es, .ref o, posD x, rfl, hg8, .dat (.lst (SqL.of ho8) (dpInts x)), lenP x (by omega), fun hno => absurd px (hno x rfl), fun x' ex px' q1 K9 ws nq1 s89 hq1 pw => ?_⟩
    obtain rfl := posInj ex
    obtain rfl := SrtE.uniq (pw.trans pe7.symm) hq1.asc hDu8.asc
    obtain ⟨dx1, j1, nr1, o1, _⟩ := hq1.obj
    have hDu9 := hDu8.same s89
    obtain ⟨dx2, j2, nr2, o2, _⟩ := hDu9.obj
    refine ⟨_, rfl, ⟨q1, du, dx1, dx2, _, _, rfl, rfl, o1, o2, n, ws, hq1, hDu9⟩, fun K10 e10 => ⟨_, rfl, iteF ?_⟩⟩
    have s910 := fromExt e10
    have s810 := s89.trans s910
    have hDu10 := hDu9.same s910
    have hg10 := hg8.same s810
    have hB10 := s810 _ _ hB
    refine ⟨_, rfl, _, rfl, ?_⟩
    dsimp only [tNil, tCons, tC]
    change spRenum K CG CO [V.ref du, V.ref B] K10 _ _
    refine ⟨du, n, ws, .ref B, posD bk, rfl, hDu10, .dat (.lst (SqL.of hB10) (dpInts bk)), lenP bk (by omega), fun hno => absurd pB (hno bk rfl), fun x' ex px' q2 K11 vs nq2 s1011 hq2 pv2 => ?_⟩
    obtain rfl := posInj ex
    have pve : vs.Perm es := by
      refine pv2.trans ((pe7.map (mixE bk)).trans ?_)
      rw [mixBackMap hn hBk hg3.good]
    obtain rfl := SrtE.uniq pve hq2.asc hg10.asc
    obtain ⟨dx3, j3, nr3, o3', _⟩ := hq2.obj
    have hg11 := hg10.same s1011
    obtain ⟨dx4, j4, nr4, o4', _⟩ := hg11.obj
    refine ⟨_, rfl, ⟨q2, gb, dx3, dx4, _, _, rfl, rfl, o3', o4', n, vs, hq2, hg11⟩, fun K12 e12 => ⟨_, rfl, iteF ?_⟩⟩
    have s812 := s810.trans (s1011.trans (fromExt e12))
    have hg12 := hg8.same s812
    have ho12 := s812 _ _ ho8
    have hz12 := s812 _ _ hz8
    refine ⟨_, rfl, _, rfl, _, rfl, ?_⟩
    dsimp only [tNil, tCons, tC]
    change spRenumP K CG CP CO [V.ref gb, V.ref h, V.ref o] K12 _ _
    refine ⟨gb, n, vs, .ref h, posD z, .ref o, posD x, rfl, hg12, .dat (.lst (SqL.of hz12) (dpInts z)), lenP z (by omega), .dat (.lst (SqL.of ho12) (dpInts x)), lenP x (by omega), (fun q => by rw [ilPos lz] at q; cases q), fun z' ez lz' => ?_⟩
    obtain rfl := posInj ez
    refine ⟨fun hno => absurd px (hno x rfl), fun x' ex px' Fd K13 y nFd s1213 hFd ly hy => ?_⟩
    obtain rfl := posInj ex
    have s813 := s812.trans s1213
    have ho13 := s813 _ _ ho8
    have hz13 := s813 _ _ hz8
    refine ⟨_, rfl, n, rfl, by omega, by omega, fun L nL => ?_⟩
    refine lc_range (lo := 0) (n := n) (fun k H' => Same K13 H' ∧ H' L = some (.lst ((z.take k).map V.int))) ⟨same_upd nL, upd_same⟩ (fun k H' hk h' => ?_) (fun K14 h' => ?_)
    · obtain ⟨sm, hl⟩ := h'
      rw [Int.zero_add]
      have hk' : k < n := by omega
      have bk' := hn.bnd k hk'
      refine ⟨rfl, ?_⟩
      refine ⟨_, rfl, _, rfl, _, rfl, o, _, (k : Int), _, rfl, rfl, SqL.of (sm _ _ ho13), atInt (by omega) (by omega), Fd, _, _, _, rfl, rfl, SqL.of (sm _ _ hFd), atInt (by rw [Int.toNat_natCast]; omega) (by rw [Int.toNat_natCast]; omega), ?_⟩
      have ez : z[k]? = some (z.getD k 0) := by
        rw [List.getD_eq_getElem?_getD, List.getElem?_eq_getElem (by omega)]
        rfl
      refine ⟨_, hl, by rw [List.length_map, List.length_take, sizeLine_eq]; omega, fun b u e => ?_, ?_⟩
      · rw [upd_ne (ne_of_none e nL)]
        exact sm _ _ e
      · rw [upd_same, takeMore ez, List.map_append, Int.toNat_natCast, hy k hk']
        rfl
    obtain ⟨s1314, hL⟩ := h'
    rw [List.take_of_length_le (by omega)] at hL
    have hz14 := s1314 _ _ hz13
    refine ⟨_, rfl, posD z, posD z, .lst (SqL.of hL) (dpInts _), .lst (SqL.of hz14) (dpInts _), shapedInts _, shapedInts _, _, rfl, ?_⟩
    rw [eqvInts, decide_eq_true rfl]
    refine iteF ⟨_, rfl, Fd, _, rfl, .inl (SqL.of (s1314 _ _ hFd)), _, rfl, rfl, _, rfl, ?_⟩
    rw [List.length_map, ly, decide_eq_true rfl]
    refine iteF ⟨_, rfl, _, rfl, by show 2 ≤ sizeLine; decide, fun A5' nA5' => ?_⟩
    obtain ⟨K15, wk15, sK15, uA15⟩ := newAt (.lst [V.ref h, V.ref o]) nA5'
    rw [wk15]
    have s815 := s813.trans (s1314.trans sK15)
    have s315 := s37.trans (s78.trans s815)
    refine ⟨A5', _, _, rfl, SqL.of uA15, rS K15 s315, by simp, sS1, sS2, sS3, _, rfl, rfl, _, rfl, ?_⟩
    rw [decide_eq_true rfl]
    refine iteF ?_
    refine ⟨_, rfl, _, rfl, _, rfl, _, rfl, gb, h, o, n, vs, z, x, rfl, hg3.same s315, s315 _ _ hz3, lz, bz, s315 _ _ ho3, px, Same.tabs s315 hT3, fun K16 xt16 tb16 => ⟨_, rfl, iteF ?_⟩⟩
    exact ⟨_, _, _, _, _, _, _, _, _, _, _, _, _, _, _, _, _, _, _, rfl, sqLExt (sqLSame hS3 s315) xt16, tb16⟩
end

end K77

set_option Elab.async false
set_option linter.all false
set_option maxRecDepth 100000
set_option maxHeartbeats 8000000
namespace K77
open PySem PySem.Spec PyProof.Rows L2 FNX
section
variable {P : Program} {w : World} {K : PySem.W.Frag} {mg : Str → Option Value} {base : Heap} {CG : Addr} {CX : CXT} {k : Nat} {x qual : Str} {st : Stmt} {f : Addr} {ps : List Str} {sp : Sp}
theorem at_of (F : FnF K mg x st f) (ok : ∀ fd, Fun K x x st f fd → FnOk P w K mg base CX k f fd ps sp)
    (b : ∀ (kV doc pm : Value) (an : Option Addr) (cdv ct : Value) (us : List Value), us.length = ps.length → bindArgs (PySem.W.fnOf x x (defArgs st) (defBody st) (defScope st) .none kV doc pm an cdv ct) ⟨us, []⟩ = pure (ps.zip us)) : At P w K mg base CX k x ps sp := by
  obtain ⟨g, fd, F⟩ := F
  exact ⟨f, fd, ok fd F, g, F.kp, F.binds b⟩
theorem atG_of (F : FnF K mg x st f) (ok : ∀ fd, Fun K x x st f fd → GOk P w K mg base k f fd ps sp)
    (b : ∀ (kV doc pm : Value) (an : Option Addr) (cdv ct : Value) (us : List Value), us.length = ps.length → bindArgs (PySem.W.fnOf x x (defArgs st) (defBody st) (defScope st) .none kV doc pm an cdv ct) ⟨us, []⟩ = pure (ps.zip us)) : AtG P w K mg base k x ps sp := by
  obtain ⟨g, fd, F⟩ := F
  exact ⟨f, fd, ok fd F, g, F.kp, F.binds b⟩
theorem mat_of (F : MtF K CG x qual st f) (ok : ∀ fd, Fun K x qual st f fd → FnOk P w K mg base CX k f fd ps sp)
    (b : ∀ (kV doc pm : Value) (an : Option Addr) (cdv ct : Value) (us : List Value), us.length = ps.length → bindArgs (PySem.W.fnOf x qual (defArgs st) (defBody st) (defScope st) .none kV doc pm an cdv ct) ⟨us, []⟩ = pure (ps.zip us)) : MAt P w K mg base CG CX k x ps sp := by
  obtain ⟨m, fd, F⟩ := F
  exact ⟨f, fd, ok fd F, m, F.binds b⟩
end
theorem tInvalidSize : InitTxt s_InvalidSize_init := ⟨⟨rfl, rfl, rfl, by decide +kernel, rfl, by decide +kernel, by decide +kernel⟩, ⟨_, _, _, _, rfl⟩, fun _ _ _ _ _ _ _ us hl => match us, hl with | [_, _], _ => rfl, fun _ _ _ _ _ _ _ _ _ => rfl⟩
theorem tTooMany : InitTxt s_TooMany_init := ⟨⟨rfl, rfl, rfl, by decide +kernel, rfl, by decide +kernel, by decide +kernel⟩, ⟨_, _, _, _, rfl⟩, fun _ _ _ _ _ _ _ us hl => match us, hl with | [_, _], _ => rfl, fun _ _ _ _ _ _ _ _ _ => rfl⟩
theorem tInvalidPosition : InitTxt s_InvalidPosition_init := ⟨⟨rfl, rfl, rfl, by decide +kernel, rfl, by decide +kernel, by decide +kernel⟩, ⟨_, _, _, _, rfl⟩, fun _ _ _ _ _ _ _ us hl => match us, hl with | [_, _], _ => rfl, fun _ _ _ _ _ _ _ _ _ => rfl⟩
theorem tInvalidOrder : InitTxt s_InvalidOrder_init := ⟨⟨rfl, rfl, rfl, by decide +kernel, rfl, by decide +kernel, by decide +kernel⟩, ⟨_, _, _, _, rfl⟩, fun _ _ _ _ _ _ _ us hl => match us, hl with | [_, _], _ => rfl, fun _ _ _ _ _ _ _ _ _ => rfl⟩
theorem all_mk {l : PySem.W.OpenLaw} {w : World} {K : PySem.W.Frag} {h : Heap} {mg : Str → Option Value} {fa fL fE fD0 cD0 tD0 fD1 cD1 tD1 f0 f1 f2 f3 f4 f5 f6 f7 f8 f9 f10 f11 f12 f13 f14 f15 f16 f17 f18 f19 f20 f21 c0 c1 c2 c3 CG fI eT : Addr} {t0 t1 : Tok} (X : K.In h) (G : h.Ns mainGlobals mg) (hfa : mg "law" = some (.ref fa))
    (C0 : Cl K mg "InvalidSize" c0) (ty0 : PySem.W.typeIn K (.ref c0) = some (.type "type"))
    (C1 : Cl K mg "TooMany" c1) (ty1 : PySem.W.typeIn K (.ref c1) = some (.type "type"))
    (C2 : Cl K mg "InvalidPosition" c2) (ty2 : PySem.W.typeIn K (.ref c2) = some (.type "type"))
    (C3 : Cl K mg "InvalidOrder" c3) (ty3 : PySem.W.typeIn K (.ref c3) = some (.type "type"))
    (gG : PySem.W.nsIn K mainGlobals "Graph" = some (some (.ref CG)))
    (cl : Cls K CG) (n1 : PySem.W.findIn K (.ref CG) "node_count" = some none) (n2 : PySem.W.findIn K (.ref CG) "joined" = some none) (n3 : PySem.W.findIn K (.ref CG) "near" = some none) (FI : InF K CG "Graph.__init__" s_Graph_init fI eT)
    (g0 : PySem.W.findIn K (.ref CG) "__class__" = some (some (.builtin "object.__class__")))
    (g1 : PySem.W.specialIn K (.builtin "object.__class__") "__get__" = some (some (.builtin "getset_descriptor.__get__")))
    (g2 : PySem.W.takesIn K (.builtin "object.__class__") = some true)
    (g3 : PySem.W.mroIn K CG (.type "object") = some true)
    (g4 : PySem.W.kitOne K (.ref CG) (.ref CG) = some true)
    (g5 : PySem.W.findIn K (.ref CG) "__ne__" = some (some (.builtin "object.__ne__")))
    (F0 : FnF K mg "is_integer" s_is_integer f0)
    (F1 : FnF K mg "is_integer_within" s_is_integer_within f1)
    (F2 : FnF K mg "is_integer_list" s_is_integer_list f2)
    (F3 : FnF K mg "is_node" s_is_node f3)
    (F4 : FnF K mg "check_position" s_check_position f4)
    (F5 : FnF K mg "is_edge" s_is_edge f5)
    (F6 : FnF K mg "checked_edges" s_checked_edges f6)
    (F7 : FnF K mg "neighbour_lists" s_neighbour_lists f7)
    (F8 : MtF K CG "size" "Graph.size" s_Graph_size f8)
    (F9 : MtF K CG "edges" "Graph.edges" s_Graph_edges f9)
    (F10 : MtF K CG "__len__" "Graph.__len__" s_Graph_len f10)
    (F11 : MtF K CG "__eq__" "Graph.__eq__" s_Graph_eq f11)
    (F12 : FnF K mg "check_order" s_check_order f12)
    (F13 : FnF K mg "union" s_union f13)
    (F14 : FnF K mg "renumbered" s_renumbered f14)
    (F15 : FnF K mg "renumbered_position" s_renumbered_position f15)
    (F16 : FnF K mg "_law_pool" s__law_pool f16)
    (F17 : FnF K mg "_law_take" s__law_take f17)
    (F18 : FnF K mg "_law_joins" s__law_joins f18)
    (F19 : FnF K mg "_law_number" s__law_number f19)
    (F20 : FnF K mg "_law_numbers" s__law_numbers f20)
    (F21 : FnF K mg "_law_order" s__law_order f21)
    (FE : FnF K mg "_law_error" s__law_error fE)
    (FD0 : FnC K mg "_law_union_right" s__law_union_right fD0 cD0 tD0)
    (FD1 : FnC K mg "_law_refused" s__law_refused fD1 cD1 tD1)
    (hne : tD0 ≠ tD1)
    (FL : FnF K mg "law" s_law fL)
    (i0 : PySem.W.nsIn K mainGlobals "MOST_NODES" = some (some (.int 16 t0)))
    (i1 : PySem.W.nsIn K mainGlobals "MOST_EDGES" = some (some (.int 40 t1)))
    (z0 : PySem.W.nsIn K mainGlobals "isinstance" = some none)
    (z1 : PySem.W.nsIn K mainGlobals "int" = some none)
    (z2 : PySem.W.nsIn K mainGlobals "bool" = some none)
    (z3 : PySem.W.nsIn K mainGlobals "list" = some none)
    (z4 : PySem.W.nsIn K mainGlobals "tuple" = some none)
    (z5 : PySem.W.nsIn K mainGlobals "len" = some none)
    (z6 : PySem.W.nsIn K mainGlobals "all" = some none)
    (z7 : PySem.W.nsIn K mainGlobals "range" = some none)
    (z8 : PySem.W.nsIn K mainGlobals "enumerate" = some none)
    (z9 : PySem.W.nsIn K mainGlobals "min" = some none)
    (z10 : PySem.W.nsIn K mainGlobals "max" = some none)
    (z11 : PySem.W.nsIn K mainGlobals "sorted" = some none)
    (z12 : PySem.W.nsIn K mainGlobals "repr" = some none)
    (z13 : PySem.W.nsIn K mainGlobals "zip" = some none)
    (x0 : PySem.W.exmOne K (.ref c0) (.ref c0) = some true)
    (x1 : PySem.W.exmOne K (.ref c1) (.ref c0) = some false)
    (x2 : PySem.W.exmOne K (.ref c1) (.ref c1) = some true)
    (x3 : PySem.W.exmOne K (.ref c2) (.ref c0) = some false)
    (x4 : PySem.W.exmOne K (.ref c2) (.ref c1) = some false)
    (x5 : PySem.W.exmOne K (.ref c2) (.ref c2) = some true)
    (x6 : PySem.W.exmOne K (.ref c3) (.ref c0) = some false)
    (x7 : PySem.W.exmOne K (.ref c3) (.ref c1) = some false)
    (x8 : PySem.W.exmOne K (.ref c3) (.ref c2) = some false)
    (x9 : PySem.W.exmOne K (.ref c3) (.ref c3) = some true)
    : ∃ (fd : FuncData) (cs : List (Addr × Addr)), (∀ p ∈ cs, ∃ y, Door K mg ["_law_union_right", "_law_refused"] y p.1 p.2) ∧ (∀ (s : Shared) (v : Value), BindsTo s fd ⟨[v], []⟩ [("_law_script", v)]) ∧
        (∀ (H : Hp) (a : Addr) (ns : List Int), ns.length ≤ 63 → (∀ p ∈ cs, H p.2 = some (.tbl #[])) → SqL K H a (ns.map V.int) → spLawT K cs [.ref a] H (fun v _ => v = .bl true) fun _ _ _ => False) ∧
        ∀ base : Heap, K.In base → base.Ns mainGlobals mg → (∀ p ∈ cs, LamX.TabB base mg p.1 p.2) → GOk l.prog w K mg base 12 fa fd ["_law_script"] (spLawT K cs) := by
  obtain ⟨gL, fdL, FL⟩ := FL
  have e := hfa.symm.trans gL
  cases e
  obtain ⟨gE, fdE, FE⟩ := FE
  obtain ⟨gD0, ⟨fdD0, FD0⟩, DD0⟩ := FD0
  obtain ⟨gD1, ⟨fdD1, FD1⟩, DD1⟩ := FD1
  refine ⟨fdL, [(cD0, tD0), (cD1, tD1)], fun p hp => by
    rcases List.mem_cons.mp hp with rfl | hp
    · exact ⟨_, DD0.more List.mem_cons_self⟩
    · rw [List.mem_singleton.mp hp]
      exact ⟨_, DD1.more (List.mem_cons_of_mem _ List.mem_cons_self)⟩, fun s v => ?_, fun H a ns hl hT hS => ⟨a, ns, rfl, hS, hl, hT, fun _ => rfl⟩, fun base KB NB TBs => ?_⟩
  · obtain ⟨oc, od, kV, doc, pm, an, cdv, ct, osl, rfl, _, _⟩ := FL.ex
    exact .of_eq rfl
  have TD0 := TBs (cD0, tD0) List.mem_cons_self
  have TD1 := TBs (cD1, tD1) (List.mem_cons_of_mem _ List.mem_cons_self)
  have bE : L2.Binds K fdE ["_law_door"] [] := FE.binds (fun _ _ _ _ _ _ us hl => match us, hl with | [_], _ => rfl)
  have no : ∀ {x : Str}, PySem.W.nsIn K mainGlobals x = some none → mg x = none := fun z => PySem.W.mg_none_of X G z
  have M : Nms mg := {isi := no z0, int := no z1, bool := no z2, list := no z3, tuple := no z4, len := no z5, all := no z6, range := no z7, enumerate := no z8, min := no z9, max := no z10, sorted := no z11, repr := no z12 }
  have n_zip : mg "zip" = none := no z13
  have i_MOST_NODES := PySem.W.mg_of X G i0
  have i_MOST_EDGES := PySem.W.mg_of X G i1
  have T : GTxt K mg CG := ⟨cl, n1, n2, n3, PySem.W.mg_of X G gG⟩
  have ES : Ex l.prog w K mg base "InvalidSize" c0 := C0.ex
  have EM : Ex l.prog w K mg base "TooMany" c1 := C1.ex
  have EP : Ex l.prog w K mg base "InvalidPosition" c2 := C2.ex
  have EO : Ex l.prog w K mg base "InvalidOrder" c3 := C3.ex

  have a_is_integer : At l.prog w K mg base CX0 1 "is_integer" ["thing"] (spIsInteger K) := at_of F0 (fun fd F => ok_is_integer F M) (fun _ _ _ _ _ _ us hl => match us, hl with | [_], _ => rfl)
  have a_is_integer_within : At l.prog w K mg base CX0 2 "is_integer_within" ["thing", "low", "high"] (spWithin K) := at_of F1 (fun fd F => ok_within F a_is_integer) (fun _ _ _ _ _ _ us hl => match us, hl with | [_, _, _], _ => rfl)
  have a_is_integer_list : At l.prog w K mg base CX0 2 "is_integer_list" ["thing", "length"] (spIntList K) := at_of F2 (fun fd F => ok_int_list F M a_is_integer) (fun _ _ _ _ _ _ us hl => match us, hl with | [_, _], _ => rfl)
  have a_is_node : At l.prog w K mg base CX0 3 "is_node" ["size", "thing"] (spIsNode K) := at_of F3 (fun fd F => ok_is_node F a_is_integer_within) (fun _ _ _ _ _ _ us hl => match us, hl with | [_, _], _ => rfl)
  have a_check_position : At l.prog w K mg base (L2.CX l.prog w) 3 "check_position" ["size", "position"] (spCheckPos K c2) := at_of F4 (fun fd F => ok_check_position F EP ty2 a_is_integer_list) (fun _ _ _ _ _ _ us hl => match us, hl with | [_, _], _ => rfl)
  have a_is_edge : At l.prog w K mg base CX0 4 "is_edge" ["size", "thing"] spIsEdgeU := at_of F5 (fun fd F => ok_is_edgeU F M a_is_node) (fun _ _ _ _ _ _ us hl => match us, hl with | [_, _], _ => rfl)
  have a_checked_edges : At l.prog w K mg base CX0 5 "checked_edges" ["size", "edges"] (spEdgesU K) := at_of F6 (fun fd F => ok_checked_edgesU F M a_is_edge) (fun _ _ _ _ _ _ us hl => match us, hl with | [_, _], _ => rfl)
  have a_neighbour_lists : At l.prog w K mg base CX0 1 "neighbour_lists" ["size", "edges"] (spNear K) := at_of F7 (fun fd F => ok_near F M) (fun _ _ _ _ _ _ us hl => match us, hl with | [_, _], _ => rfl)
  have a_size : MAt l.prog w K mg base CG CX0 1 "size" ["self"] (spSizeE CG) := mat_of F8 (fun fd F => ok_gsizeE F T) (fun _ _ _ _ _ _ us hl => match us, hl with | [_], _ => rfl)
  have a_edges : MAt l.prog w K mg base CG CX0 1 "edges" ["self"] (spEdgesOf CG) := mat_of F9 (fun fd F => ok_gedges F T M) (fun _ _ _ _ _ _ us hl => match us, hl with | [_], _ => rfl)
  have a___len__ : MAt l.prog w K mg base CG CX0 1 "__len__" ["self"] (spLenE CG) := mat_of F10 (fun fd F => ok_glen F T M) (fun _ _ _ _ _ _ us hl => match us, hl with | [_], _ => rfl)
  have a___eq__ : MAt l.prog w K mg base CG CX0 1 "__eq__" ["self", "other"] (spEq (RGraph CG)) := mat_of F11 (fun fd F => ok_geq F T M ⟨cl, g0, g1, g2, g3, g4⟩) (fun _ _ _ _ _ _ us hl => match us, hl with | [_, _], _ => rfl)
  obtain ⟨MK, fdI, FI⟩ := FI
  have GI := ok_ginitX (P := l.prog) (w := w) (base := base) FI T M i_MOST_NODES i_MOST_EDGES ES ty0 EM ty1 a_is_integer_within a_checked_edges a_neighbour_lists
  have bI : L2.Binds K fdI ["self", "size", "edges"] [] := by
    obtain ⟨ds, hd, hb⟩ := FI.binds1 (ps := ["self", "size", "edges"]) 3 1 (by simp) rfl (fun T kV doc pm an cdv ct us its h1 h2 => match us, its, h1, h2 with | [_, _, _], [_], _, _ => ⟨_, rfl, rfl⟩)
    cases hd
    exact hb
  have a_check_order : At l.prog w K mg base (L2.CX l.prog w) 3 "check_order" ["size", "order"] (spCheckOrder K c3) := at_of F12 (fun fd F => ok_check_order F M EO ty3 a_is_integer_list) (fun _ _ _ _ _ _ us hl => match us, hl with | [_, _], _ => rfl)
  have a_union : At l.prog w K mg base (L2.CX l.prog w) 8 "union" ["graph", "other"] (spUnion CG c0 c1) := at_of F13 (fun fd F => ok_union F T a_size a_edges MK GI bI) (fun _ _ _ _ _ _ us hl => match us, hl with | [_, _], _ => rfl)
  have a_renumbered : At l.prog w K mg base (L2.CX l.prog w) 8 "renumbered" ["graph", "order"] (spRenum K CG c3) := at_of F14 (fun fd F => ok_renum F T a_size a_edges a_check_order MK GI bI) (fun _ _ _ _ _ _ us hl => match us, hl with | [_, _], _ => rfl)
  have a_renumbered_position : At l.prog w K mg base (L2.CX l.prog w) 4 "renumbered_position" ["graph", "position", "order"] (spRenumP K CG c2 c3) := at_of F15 (fun fd F => ok_renumP F T M n_zip a_size a_check_position a_check_order) (fun _ _ _ _ _ _ us hl => match us, hl with | [_, _, _], _ => rfl)
  have a__law_pool : At l.prog w K mg base CX0 1 "_law_pool" ["_law_script", "_law_k"] (spPool K) := at_of F16 (fun fd F => ok_pool F M.len) (fun _ _ _ _ _ _ us hl => match us, hl with | [_, _], _ => rfl)
  have a__law_take : At l.prog w K mg base CX0 1 "_law_take" ["_law_pool_here", "_law_sides"] spTake := at_of F17 (fun fd F => ok_take F) (fun _ _ _ _ _ _ us hl => match us, hl with | [_, _], _ => rfl)
  have a__law_joins : At l.prog w K mg base CX0 2 "_law_joins" ["_law_pool_here", "_law_many", "_law_top"] spJoins := at_of F18 (fun fd F => ok_joins F M a__law_take) (fun _ _ _ _ _ _ us hl => match us, hl with | [_, _, _], _ => rfl)
  have a__law_number : At l.prog w K mg base CX0 2 "_law_number" ["_law_pool_here"] spNumber := at_of F19 (fun fd F => ok_number F a__law_take) (fun _ _ _ _ _ _ us hl => match us, hl with | [_], _ => rfl)
  have a__law_numbers : At l.prog w K mg base CX0 3 "_law_numbers" ["_law_pool_here", "_law_many"] spNumbers := at_of F20 (fun fd F => ok_numbers F M a__law_number) (fun _ _ _ _ _ _ us hl => match us, hl with | [_, _], _ => rfl)
  have a__law_order : At l.prog w K mg base CX0 2 "_law_order" ["_law_pool_here", "_law_many"] spOrder := at_of F21 (fun fd F => ok_order F M a__law_take) (fun _ _ _ _ _ _ us hl => match us, hl with | [_, _], _ => rfl)
  have a__law_union_right : AtG l.prog w K mg base 11 "_law_union_right" ["_law_first", "_law_second"] (spUR K CG tD0 tD1) := ⟨fD0, fdD0, ok_ur FD0 M T hne TD0 FE gE bE ES EM EP EO x0 x1 x2 a_size a_edges a___len__ a___eq__ a_union MK GI bI, gD0, FD0.kp, FD0.fn.binds (fun _ _ _ _ _ _ us hl => match us, hl with | [_, _], _ => rfl)⟩
  have a__law_refused : AtG l.prog w K mg base 11 "_law_refused" ["_law_graph", "_law_many", "_law_here", "_law_order_here"] (spRF K CG tD0 tD1) := ⟨fD1, fdD1, ok_rf FD1 M hne TD1 FE gE bE ES EM EP EO x3 x4 x5 x6 x7 x8 x9 a_renumbered a_renumbered_position, gD1, FD1.kp, FD1.fn.binds (fun _ _ _ _ _ _ us hl => match us, hl with | [_, _, _, _], _ => rfl)⟩
  exact ok_law FL M T g5 g3 a_size a_edges a___eq__ a__law_pool a__law_take a__law_joins a__law_numbers a__law_order a_renumbered a_renumbered_position a__law_union_right a__law_refused MK GI bI
end K77

set_option Elab.async false
set_option linter.all false
open PySem PySem.W PyProof.Rows
set_option maxRecDepth 100000 in
set_option maxHeartbeats 0 in
theorem PySem.Challenge.cw_firenegatives_k77_unions_and_numbers_holds : PySem.Challenge.rw_firenegatives_k77_unions_and_numbers.Holds := by
  w_on; o_law; k_head; (case hw => w_witness2)
  k_fill
  refine FNX.walkGK (l := PySem.Challenge.rw_firenegatives_k77_unions_and_numbers) (n := 63) (k := 12) (x := "_law_script") K77.spLawT ["_law_union_right", "_law_refused"] rfl (by decide) rfl ⟨rfl, by decide, by decide⟩ (by decide +kernel) (fun w h Y => PySem.W.km_in_of Y) ?F
  case F =>
    intro w mg fa h KX G hmg
    refine' K77.all_mk KX G hmg
      (FNX.mkCl KX G ?_ (FNX.mkXC F.excBase_ValueError FNX.chainVal ?_ ?_ ?_ ?_ ?_ ?_ ?_ ?_ ?_ ?_ ?_) K77.tInvalidSize ?_ ?_ ?_ ?_ ?_) ?_
      (FNX.mkCl KX G ?_ (FNX.mkXC F.excBase_OverflowError FNX.chainOver ?_ ?_ ?_ ?_ ?_ ?_ ?_ ?_ ?_ ?_ ?_) K77.tTooMany ?_ ?_ ?_ ?_ ?_) ?_
      (FNX.mkCl KX G ?_ (FNX.mkXC F.excBase_ValueError FNX.chainVal ?_ ?_ ?_ ?_ ?_ ?_ ?_ ?_ ?_ ?_ ?_) K77.tInvalidPosition ?_ ?_ ?_ ?_ ?_) ?_
      (FNX.mkCl KX G ?_ (FNX.mkXC F.excBase_ValueError FNX.chainVal ?_ ?_ ?_ ?_ ?_ ?_ ?_ ?_ ?_ ?_ ?_) K77.tInvalidOrder ?_ ?_ ?_ ?_ ?_) ?_
      ?_ ⟨?_, ?_, ?_, ?_⟩ ?_ ?_ ?_ (FNX.mkIn ?_ ?_ ?_ ?_ ?_ ?_ ?_ ?_)
      ?qgx0 ?qgx1 ?qgx2 ?qgx3 ?qgx4 ?qgx5
      (FNX.mkF KX G ?_ ?_ ?_ ?_) (FNX.mkF KX G ?_ ?_ ?_ ?_) (FNX.mkF KX G ?_ ?_ ?_ ?_) (FNX.mkF KX G ?_ ?_ ?_ ?_) (FNX.mkF KX G ?_ ?_ ?_ ?_) (FNX.mkF KX G ?_ ?_ ?_ ?_) (FNX.mkF KX G ?_ ?_ ?_ ?_) (FNX.mkF KX G ?_ ?_ ?_ ?_) (FNX.mkMt ?_ ?_ ?_ ?_ ?_) (FNX.mkMt ?_ ?_ ?_ ?_ ?_) (FNX.mkMt ?_ ?_ ?_ ?_ ?_) (FNX.mkMt ?_ ?_ ?_ ?_ ?_) (FNX.mkF KX G ?_ ?_ ?_ ?_) (FNX.mkF KX G ?_ ?_ ?_ ?_) (FNX.mkF KX G ?_ ?_ ?_ ?_) (FNX.mkF KX G ?_ ?_ ?_ ?_) (FNX.mkF KX G ?_ ?_ ?_ ?_) (FNX.mkF KX G ?_ ?_ ?_ ?_) (FNX.mkF KX G ?_ ?_ ?_ ?_) (FNX.mkF KX G ?_ ?_ ?_ ?_) (FNX.mkF KX G ?_ ?_ ?_ ?_) (FNX.mkF KX G ?_ ?_ ?_ ?_) (FNX.mkF KX G ?_ ?_ ?_ ?_) (FNX.mkFC KX G ?_ ?_ ?_ ?_ ?_ ?uD0 ?hd0 ?no0) (FNX.mkFC KX G ?_ ?_ ?_ ?_ ?_ ?uD1 ?hd1 ?no1) ?qhne (FNX.mkF KX G ?_ ?_ ?_ ?_)
      ?_ ?_ ?_ ?_ ?_ ?_ ?_ ?_ ?_ ?_ ?_ ?_ ?_ ?_ ?_ ?_ ?x0 ?x1 ?x2 ?x3 ?x4 ?x5 ?x6 ?x7 ?x8 ?x9
    any_goals k_is
    case uD0 => rfl
    case hd0 => kernel_rfl
    case no0 => kernel_rfl
    case uD1 => rfl
    case hd1 => kernel_rfl
    case no1 => kernel_rfl
    case x0 => kernel_rfl
    case x1 => kernel_rfl
    case x2 => kernel_rfl
    case x3 => kernel_rfl
    case x4 => kernel_rfl
    case x5 => kernel_rfl
    case x6 => kernel_rfl
    case x7 => kernel_rfl
    case x8 => kernel_rfl
    case x9 => kernel_rfl
    all_goals first | decide | kernel_rfl
#print axioms PySem.Challenge.cw_firenegatives_k77_unions_and_numbers_holds
