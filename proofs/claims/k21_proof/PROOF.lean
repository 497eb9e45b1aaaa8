import PyProof.Rows.All
import Wide.All
import OpenK.AllK
import Wide.FinOn
import HandS.ForExc
import HandS.ExcInit
import HandS.IsInst
import KE.KExcIs
import HandS.ForMost
import KE.DataMinMax
import HandS.Defaults
import HandS.EndTab
import HandS.TryMany
import KE.KNestM
import HandS.DeepEq
import PyProof.Conv_int_bool
import HandS.Wide
import HandS.Flow
import HandS.Style
import HandS.Deep
import HandS.SortRule
import HandS.SortInts
import HandS.Walk
import HandS.Nested
import PySem.Challenge.RW_firenegatives_k21_whole_cycles_in_closed
set_option Elab.async false
set_option linter.all false
set_option maxRecDepth 100000
set_option maxHeartbeats 4000000
/-! ## Built-in bases of the package's exceptions -/
namespace FNX
open PySem PySem.F

/-- no class of the chain refuses a store -/
def Pass (l : List Value) : Prop := ∀ self : Value, refuseLoop self "__setattr__" l = pure ()
theorem passRun : Pass [.type "RuntimeError", .type "Exception", .type "BaseException", .type "object"] := fun self => by kernel_rfl
theorem passOver : Pass [.type "OverflowError", .type "ArithmeticError", .type "Exception", .type "BaseException", .type "object"] := fun self => by kernel_rfl
theorem passLook : Pass [.type "LookupError", .type "Exception", .type "BaseException", .type "object"] := fun self => by kernel_rfl
theorem passKey : Pass [.type "KeyError", .type "LookupError", .type "Exception", .type "BaseException", .type "object"] := fun self => by kernel_rfl
theorem passIndex : Pass [.type "IndexError", .type "LookupError", .type "Exception", .type "BaseException", .type "object"] := fun self => by kernel_rfl
theorem passVal : Pass [.type "ValueError", .type "Exception", .type "BaseException", .type "object"] := fun self => by kernel_rfl
theorem Pass.ref {l : List Value} (h : Pass l) (c : Addr) : Pass (.ref c :: l) := fun self => by
  rw [refuseLoop_ref]
  exact h self
end FNX

/-! ## C(..), C an exception class of the program with an `__init__` of its own -/
namespace FNX
open PySem PySem.W PySem.Calls PyProof.Rows PySem.HandSPX
/-- what the chain of the class behind itself has, and has not -/
structure Chain (B : String) (bm : List Value) : Prop where
  base : bm.contains (.type B) = true
  obj : bm.contains (.type "object") = true
  noA : bm.contains (.type "AttributeError") = false
  noN : bm.contains (.type "NameError") = false
  some1 : bm.isEmpty = false
  pass : Pass bm
section
variable {prog : Program} {w : World} {A : Around} {E : Value → Shared → Prop} {R : Result → Shared → Prop}
variable {h : Heap} {g : Array GenState} {d : Drawn} {t : Nat} {os : OsState} {nm q : Str} {C N : Addr} {bs bm bmB : List Value}
variable {hdct : Bool} {sn : List Str} {sub : List Value} {ab : Bool} {col : Option Bool} {dd : Option Addr}
variable {k0 k1 k2 k3 k5 : Option Value} {B newId initId : String} {us : List Value} {kw : List (Str × Value)}

theorem newChecked {M : Model} {Q : Unit → Shared → Prop} (F : ExcBaseFacts B newId initId bmB) (L : Chain B bm)
    (hC : h.get? C = some (excClassObj nm q C N bs bm hdct sn sub ab col dd k0 k1 k2 k3 k5 newId)) (hq : Q () ⟨h, g, d, t, os⟩) :
    wpAny M A (checkBuiltinCall newId ⟨.ref C :: us, kw⟩) Q E ⟨h, g, d, t, os⟩ := by
  have in1 : (Value.ref C :: bm).contains (.type B) = true := by simp only [List.contains_cons, L.base, Bool.or_true]
  have star := F.noStar
  simp only [checkBuiltinCall, F.newKind, F.newSplit, F.newRow]
  repeat (first
    | refine wpAny_loadPart_at hC ?_
    | (refine wpAny_isSubtype_exc hC ?_; rw [in1])
    | refine wpAny_staticBase_exc hC ?_
    | refine wpAny_madeBy_exc hC ?_
    | simp only [bne_self_eq_false, Bool.false_eq_true, if_false]
    | wp_step)
  exact hq

theorem newMade (F : ExcBaseFacts B newId initId bmB) (L : Chain B bm)
    (hC : h.get? C = some (excClassObj nm q C N bs bm hdct sn sub ab col dd k0 k1 k2 k3 k5 newId)) (hl : us.length ≤ sizeLine)
    (hq : R (.ok (.ret (.ref (h.objs.size + 1)))) ⟨(h.push (kdv_tup us)).push (excO C h.objs.size), g, d, t, os⟩) :
    codeAny (model prog w) A (.builtin newId ⟨.ref C :: us, kw⟩) R ⟨h, g, d, t, os⟩ := by
  have ends := F.ends
  have in1 : (Value.ref C :: bm).contains (.type B) = true := by simp only [List.contains_cons, L.base, Bool.or_true]
  have no1 : (Value.ref C :: bm).contains (.type "AttributeError") = false := by simp only [List.contains_cons, L.noA]; rfl
  have no2 : (Value.ref C :: bm).contains (.type "NameError") = false := by simp only [List.contains_cons, L.noN]; rfl
  refine codeAny_builtinAt F.entry ?_
  unfold Builtin.«BaseException.__new__»
  refine PySem.wpAt_bind ?_
  show PySem.wpAt _ _ _ (stack >>= _) _ _ _
  refine PySem.wpAt_bind (PySem.wpAt_stack fun p below => PySem.wpAt_of_wpAny ?_)
  wp_walk
  refine PySem.wpAt_of_wpAny ?_
  rw [F.owner]
  repeat (first
    | with_reducible refine wpAny_madeHere_exc F.canon hC ?_
    | with_reducible refine wpAny_loadPart_at hC ?_
    | (with_reducible refine wpAny_isSubtype_exc hC ?_; first | rw [in1] | rw [no1] | rw [no2])
    | wp_step)
  show R _ _
  rw [Heap.size_push]
  exact hq

theorem typeCalled {fI : Addr} {Q : Fin → Shared → Prop} (F : ExcBaseFacts B newId initId bmB) (L : Chain B bm)
    (hC : h.get? C = some (excClassObj nm q C N bs bm hdct sn sub ab col dd k0 k1 k2 k3 k5 newId)) (hl : us.length ≤ sizeLine)
    (hi : Looks (model prog w) h (typeLookup (.ref C) "__init__") (some (.ref fI)))
    (hb : ∀ self, Looks (model prog w) h (bindSpecial (.ref fI) self) (.ref fI, [self]))
    (hq : codeAny (model prog w) A (.call (.ref fI) ⟨.ref (h.objs.size + 1) :: us, kw⟩)
      (fun r s' => match r with
        | .ok (.ret v) => v = .none ∧ Q (.done (.ret (.ref (h.objs.size + 1)))) s'
        | .ok _ => False
        | .error e => E e s')
      ⟨(h.push (kdv_tup us)).push (excO C h.objs.size), g, d, t, os⟩) :
    wpAny (model prog w) A (Builtin.«type.__call__» ⟨.ref C :: us, kw⟩) Q E ⟨h, g, d, t, os⟩ := by
  repeat (first | with_reducible refine wpAny_loadPart_at hC ?_ | with_reducible refine wpAny_madeBy_exc hC ?_ | wp_step)
  refine codeAny_call_builtin_code (Code.quiet_builtin _ F.quiet) (newChecked F L hC (newMade F L hC hl ?_))
  show wpAny _ _ _ _ _ _
  have old : ∀ b o, h.get? b = some o → ((h.push (kdv_tup us)).push (excO C h.objs.size)).get? b = some o :=
    fun b o e => Heap.get?_push_of_some _ (Heap.get?_push_of_some _ e)
  have hC2 := old _ _ hC
  have at1 : ((h.push (kdv_tup us)).push (excO C h.objs.size)).get? (h.objs.size + 1) = some (excO C h.objs.size) := by heap_get
  have self1 : (Value.ref C :: bm).contains (.ref C) = true := by simp
  have i2 := hi.keeps old
  have b2 := (hb (.ref (h.objs.size + 1))).keeps old
  unfold isInstance
  repeat (first
    | with_reducible refine wpAny_loadPart_at at1 ?_
    | (with_reducible refine wpAny_isSubtype_exc hC2 ?_; rw [self1])
    | wp_step)
  show wpAny _ _ (typeLookup (.ref C) _) _ _ _
  refine i2.at (wpAny_holding (wpAny_bind (b2.at ?_)))
  refine wpAny_bind (wpAny_call (codeAny_mono hq fun r s' z => ?_))
  rcases r with e | (v | _ | _ | _) <;> first | exact z | exact z.elim | skip
  obtain ⟨rfl, z⟩ := z
  first
    | exact wpAny_pure (wpAny_pure z)
    | (wp_walk; exact z)

theorem called {fI : Addr} (F : ExcBaseFacts B newId initId bmB) (L : Chain B bm)
    (hC : h.get? C = some (excClassObj nm q C N bs bm hdct sn sub ab col dd k0 k1 k2 k3 k5 newId)) (hl : us.length ≤ sizeLine)
    (hi : Looks (model prog w) h (typeLookup (.ref C) "__init__") (some (.ref fI)))
    (hb : ∀ self, Looks (model prog w) h (bindSpecial (.ref fI) self) (.ref fI, [self]))
    (hq : codeAny (model prog w) (A.under (.builtin "type.__call__" ⟨.ref C :: us, kw⟩)) (.call (.ref fI) ⟨.ref (h.objs.size + 1) :: us, kw⟩)
      (InitBack (h.objs.size + 1) R) ⟨(h.push (kdv_tup us)).push (excO C h.objs.size), g, d, t, os⟩) :
    codeAny (model prog w) A (.call (.ref C) ⟨us, kw⟩) R ⟨h, g, d, t, os⟩ := by
  have f1 := tc_lookup
  have f2 := tc_bind (.ref C)
  have ty : (⟨h, g, d, t, os⟩ : Shared).TypeIs (.ref C) "type" := ⟨_, hC, rfl⟩
  refine codeAny_of_tree ?_
  show wpAny _ _ (callAny (.ref C) _) _ _ _
  repeat (any_goals (first | assumption | with_reducible refine wpAny_loadPart_at hC ?_ | wp_step))
  refine ⟨rfl, codeAny_call_builtin_at (Code.quiet_builtin _ (by decide +kernel)) entry_typeCall
    (wpAny_check_type_call_sub hC (typeCalled F L hC hl hi hb (codeAny_mono hq fun r s' z => ?_)))⟩
  rcases r with e | (v | _ | _ | _) <;> exact z
end

/-! ## self.name = v on an exception without a dict -/
section
open PySem.Builtin PySem.Builtin.ObjectAttr
variable {prog : Program} {w : World} {A : Around} {R : Result → Shared → Prop} {hp : Heap} {g : Array GenState} {d : Drawn} {t : Nat} {os : OsState}
theorem stored {K : Frag} {name : Str} {tk : Tok} {v : Value} {x C : Addr} {fv : Array Value} {cd : ClassData}
    (X : K.In hp) (hx : hp.get? x = some { cls := .ref C, data := .fields fv }) (hcd : clsIn K C = some cd)
    (hp1 : Pass cd.mro) (hob : cd.mro.contains (.type "object") = true) (hne : cd.mro.isEmpty = false)
    (hh : cd.hasDict = true) (ha : findIn K (.ref C) name = some none)
    (hq : ∀ h' tk' dx, (∀ b o, b ≠ x → hp.get? b = some o → h'.get? b = some o) → hp.objs.size ≤ dx → dx ≠ x →
      h'.get? x = some { cls := .ref C, dict := some dx, data := .fields fv } → h'.Ns1 dx (fun y => if y = name then some v else none) →
      R (.ok (.ret .none)) ⟨h', g, d, tk', os⟩) :
    codeAny (model prog w) A (.call (.builtin "object.__setattr__") ⟨[.ref x, .str name tk, v], []⟩) R ⟨hp, g, d, t, os⟩ := by
  have I : InstAt hp x { cls := .ref C, data := .fields fv } C none := ⟨hx, rfl, rfl, trivial⟩
  have SF := F.store_object
  have nx : x ≠ hp.objs.size := Nat.ne_of_lt (Heap.lt_size hx)
  have mro : mroIn K C (.type "object") = some true := by
    unfold mroIn
    rw [hcd, Option.bind_some, if_neg (by rw [hne]; decide), hob]
  have isO : Looks (model prog w) hp (isInstance (.ref x) (.type "object")) true := I.type.andThen (looks_mroIn X mro)
  refine codeAny_call_builtin SF.slot.plain SF.entry (@check_slot (model prog w) _ _ ⟨hp, g, d, t, os⟩ "object.__setattr__" "object"
    "__setattr__" (.ref x) [.str name tk, v] [] _ SF.kind SF.split isO (SF.args (.ref x) (.str name tk) v) ?_)
  have m1 : Looks (model prog w) hp (mroOf (.ref C)) cd.mro := (looks_clsIn X hcd).andThen .now
  have m2 : Looks (model prog w) hp (storeTaker? none) none := .now
  have m3 : Looks (model prog w) hp (classData C) cd := looks_clsIn X hcd
  rw [osa_eq, refuse_eq]
  refine wpAny_bind (wpAny_bind (I.type.at (wpAny_bind (m1.at ?_))))
  rw [hp1 _]
  refine wpAny_pure (wpAny_bind (I.type.at (wpAny_bind ((looks_findIn X ha).at (wpAny_bind (m2.at ?_))))))
  show wpAny _ _ (storeInOwnDict (.ref x) (.ref C) (.str name tk) name v false) _ _ _
  obtain ⟨nm, bs, mro, ns, qn, hd, sn, sb, ab, col, del⟩ := cd
  dsimp only at hh
  subst hh
  unfold storeInOwnDict ownDictForStores
  repeat (first
    | with_reducible refine store_in_new ?_ ?_
    | with_reducible refine wpAny_loadPart_at hx ?_
    | with_reducible refine m3.at ?_
    | wp_step)
  · exact ⟨_, #[], _, (Heap.get?_update_ne _ _ _ _ nx.symm).trans (Heap.get?_push_at rfl rfl), rfl, fun e he => absurd he (by simp), fun _ => rfl⟩
  · intro h' tk' hn' hs
    have hx1 : (hp.push { cls := .type "dict", data := .dict #[] }).get? x = some { cls := .ref C, data := .fields fv } :=
      Heap.get?_push_of_some _ hx
    refine hq h' tk' hp.objs.size (fun b o hb ho => ?_) (Nat.le_refl _) nx.symm ?_ hn'
    · refine (hs.2 b (Nat.ne_of_lt (Heap.lt_size ho))).trans ?_
      exact (Heap.get?_update_ne _ _ _ _ hb).trans (Heap.get?_push_of_some _ ho)
    · exact (hs.2 x nx).trans (Heap.get?_update_self _ hx1 rfl)
end
end FNX

set_option Elab.async false
set_option linter.all false
set_option maxRecDepth 100000
set_option maxHeartbeats 4000000
/-! ## Exceptions that the program holds as values: `exo` at a, its own dict `exd` at d -/
namespace FNX
open PySem PySem.Spec PyProof.Rows L2

/-- what the written part says of an exception class -/
structure XC (K : PySem.W.Frag) (C : Addr) : Prop where
  cls : ∃ nm q N bs bm sn sub ab col dd k0 k1 k2 k3 k5 B newId initId bmB,
    K.lookup C = some (excClassObj nm q C N bs bm true sn sub ab col dd k0 k1 k2 k3 k5 newId) ∧ ExcBaseFacts B newId initId bmB ∧ Chain B bm
  sa : PySem.W.findIn K (.ref C) "__setattr__" = some (some (.builtin "object.__setattr__"))
  ga : PySem.W.findIn K (.ref C) "__getattribute__" = some (some (.builtin "BaseException.__getattribute__"))
  gg : PySem.W.findIn K (.ref C) "__getattr__" = some none
  noV : PySem.W.findIn K (.ref C) "value" = some none
  exC : PySem.W.subIn K (.ref C) (.type "BaseException") = some true
  kC : PySem.W.keepIn K (.ref C) = true
  hdC : PySem.W.hasDictIn K C = true
  ic : PySem.W.isClsIn K C = true
  cC : PySem.W.findIn K (.ref C) "__class__" = some (some (.builtin "object.__class__"))
  mC : PySem.W.mroIn K C (.type "object") = some true
/-- and of `__class__` -/
structure XK0 (K : PySem.W.Frag) : Prop where
  sg : PySem.W.specialIn K (.builtin "object.__class__") "__get__" = some (some (.builtin "getset_descriptor.__get__"))
  st : PySem.W.takesIn K (.builtin "object.__class__") = some true

/-- an exception of the class at C with value = v -/
def XAt (H : Hp) (a C : Addr) (v : V) : Prop := ∃ d, H a = some (exo a C (some d)) ∧ H d = some (exd d [("value", v)])
theorem XAt.same {H H' : Hp} {a C : Addr} {v : V} (x : XAt H a C v) (s : Same H H') : XAt H' a C v := by
  obtain ⟨d, h1, h2⟩ := x
  exact ⟨d, s _ _ h1, s _ _ h2⟩
/-- one without a value of its own -/
def XAt0 (H : Hp) (a C : Addr) : Prop := H a = some (exo a C none)

theorem mut_exo {a C : Addr} {d : Option Addr} {H : Hp} (e : H a = some (exo a C d)) : Mut (H a) := by
  rw [e]
  exact True.intro

section
variable {X : Cx} {pins : List (Addr × Obj)} {σ : L2.St} {H : Hp} {s : Shared} {a C : Addr} {y : V} {u : Value}

/-- self.value = y -/
theorem xst_new {Q : Unit → Shared → Prop} {E : Value → Shared → Prop} {A : Around} (T : XC X.K C) (I : Inv X pins σ H s) (e : H a = some (exo a C none)) (ry : RelV y u)
    (h : ∀ dx s', H dx = none → dx ≠ a → Inv X pins σ (upd (upd H dx (exd dx [("value", y)])) a (exo a C (some dx))) s' → Q () s') :
    wpAny (model X.prog X.w) A (setAttr (.ref a) "value" u) Q E s := by
  obtain ⟨nm, q, N, bs, bm, sn, sub, ab, col, dd, k0, k1, k2, k3, k5, B, newId, initId, bmB, hC, F, L⟩ := T.cls
  have hcl : PySem.W.clsIn X.K C = some ⟨nm, bs, .ref C :: bm, N, q, true, sn, sub, ab, col, false⟩ := by
    unfold PySem.W.clsIn
    rw [hC] <;> rfl
  obtain ⟨t1, ho⟩ := exo_at I.hok e
  obtain ⟨hp, g, d, t, os⟩ := s
  refine PySem.W.set_plain I.kIn (ox := { cls := .ref C, dict := none, data := .fields #[.ref t1, .none, .none, .none, .bool false, .none] })
    (od := none) ⟨ho, rfl, rfl, trivial⟩ T.sa ?_
  refine stored I.kIn ho hcl (L.pass.ref C) (by simp only [List.contains_cons, L.obj, Bool.or_true]) rfl rfl T.noV
    (fun h' tk' dx k dn dne hx hn => ?_)
  have fresh : H dx = none := I.hok.fresh dn
  have nd : ∀ {b : Addr} {o : Obj}, hp.get? b = some o → b ≠ dx := fun q => Nat.ne_of_lt (Nat.lt_of_lt_of_le (Heap.lt_size q) dn)
  have na : ∀ {b : Addr}, H b = none → b ≠ a := fun {b} n z => by
    rw [z, e] at n
    cases n
  have U : Un X.fs [] H (upd (upd H dx (exd dx [("value", y)])) a (exo a C (some dx))) hp h' := {
    keep := fun b o q n _ _ => k b o (na n) q
    slot := fun b o q n _ _ => ⟨o.slots, k b o (na n) q⟩
    free := fun b o q n _ => by
      rw [upd_ne (na n), upd_ne (nd q)]
      exact n
    there := fun b o q _ => by
      by_cases hb : b = a
      · exact ⟨_, by rw [hb]; exact hx⟩
      · exact ⟨o, k b o hb q⟩
    tups := fun b xs q => by
      rw [upd_ne (at_ne e q exo_tup), upd_ne (ne_of_none q fresh)]
      exact q
    frzs := fun b o v q => by
      rw [upd_ne (at_ne e q exo_frz), upd_ne (ne_of_none q fresh)]
      exact q
    tbls := fun b ps q => ⟨#[], by
      rw [upd_ne (at_ne e q exo_tbl), upd_ne (ne_of_none q fresh), q]
      simp⟩ }
  refine h dx _ fresh dne (I.un (t' := tk') U fun b o q => ?_)
  by_cases hb : b = a
  · subst hb
    rw [upd_same] at q
    cases q
    exact exo_ok hx
  rw [upd_ne hb] at q
  by_cases hd : b = dx
  · subst hd
    rw [upd_same] at q
    cases q
    exact exd_ok hn (relO_put (fs := []) ry fun g => True.intro)
  rw [upd_ne hd] at q
  refine (I.hok b o q).stay (fun c v hc z => k c v ?_ z) (fun c hc => ?_) (fun c xs hc => ?_)
  · rcases hc with hc | hc
    · rw [hc]
      exact hb
    · exact at_ne e hc exo_own
  · rw [upd_ne (at_ne e hc exo_own), upd_ne (ne_of_none hc fresh)]
    exact hc
  · rw [upd_ne (at_ne e hc exo_tup), upd_ne (ne_of_none hc fresh)]
    exact hc
end

/-- self.value = e, self a new exception -/
def tXst (K : PySem.W.Frag) (to te : TE) : TS := fun D σ H => te σ H fun y H1 => to σ H1 fun x H2 => ∃ a C : Addr, x = .ref a ∧ XC K C ∧
  H2 a = some (exo a C none) ∧ ∀ dx, H2 dx = none → dx ≠ a → D.nx σ (upd (upd H2 dx (exd dx [("value", y)])) a (exo a C (some dx)))
section
variable {X : Cx} {o e : Expr} {to te : TE} {p' pos : Pos}
theorem ps_xst (ho : PE X o to) (he : PE X e te) (hs : swapsWith e (some (.Attribute o "value" p')) pos.line X.env = pure false := by rfl) :
    PS X (.Assign [.Attribute o "value" p'] e pos) (tXst X.K to te) := by
  refine ⟨fun pins s σ H D I h => ?_⟩
  refine plainObj_wpAny_Assign_Attribute (thn (he.run pins s σ H _ I h) fun v s1 hv => ?_) hs
  obtain ⟨y, H1, I1, r1, q1⟩ := hv
  refine thn (ho.run pins s1 σ H1 _ I1 q1) fun u s2 hu => ?_
  obtain ⟨x, H2, I2, r2, a, C, rfl, T, ea, q⟩ := hu
  obtain rfl : u = Value.ref a := r2
  exact xst_new T I2 ea r1 fun dx s' n ne J => ⟨σ, _, J, q dx n ne⟩
end

/-- what `__init__` promises -/
def spX (C : Addr) : Sp := fun vs H Q _ => ∃ (a : Addr) (v : V), vs = [.ref a, v] ∧ H a = some (exo a C none) ∧
  ∀ dx, H dx = none → dx ≠ a → Q .non (upd (upd H dx (exd dx [("value", v)])) a (exo a C (some dx)))
section
variable {P : Program} {w : World} {K : PySem.W.Frag} {mg : Str → Option Value} {base : Heap}
theorem xinit_ok {st : Stmt} {qual : Str} {f C : Addr} {fd : FuncData} (F : Fun K "__init__" qual st f fd)
    (S : FnScope ["self", "value"] ["self", "value"] (defScope st))
    (hb : ∃ q1 q2 q3 q4, defBody st = [.Assign [.Attribute (.Name "self" q1) "value" q2] (.Name "value" q3) q4]) (T : XC K C) :
    FnOk P w K mg base CX0 1 f fd ["self", "value"] (spX C) := by
  obtain ⟨q1, q2, q3, q4, hb⟩ := hb
  have vis : ∀ x ∈ (["self", "value"] : List Str), Vis (defScope st) x := fun x hx => by
    rcases S.par x hx with z | z
    · exact .inl z
    · exact .inr (.inl z)
  refine F.ok S (fun vs H Q E h => ?_) (fun cdv A outer s H vs Q E hr h => ?_)
  · obtain ⟨a, v, rfl, _⟩ := h
    rfl
  · obtain ⟨a, v, rfl, ha, k⟩ := h
    rw [hb]
    refine ⟨_, pss_one (ps_xst (pv 0 rfl (vis _ (by simp))) (pv 1 rfl (vis _ (by simp)))), ?_⟩
    exact ⟨_, rfl, _, rfl, a, C, rfl, T, ha, fun dx n ne => k dx n ne⟩
end

/-- the class x of the program stands at C; its `__init__` keeps its promise -/
structure Ex (P : Program) (w : World) (K : PySem.W.Frag) (mg : Str → Option Value) (base : Heap) (x : Str) (C : Addr) : Prop where
  xc : XC K C
  mgC : mg x = some (.ref C)
  mkd : ∃ fI fd, PySem.W.findIn K (.ref C) "__init__" = some (some (.ref fI)) ∧ PySem.W.typeIn K (.ref fI) = some (.type "function") ∧
    FnOk P w K mg base CX0 1 fI fd ["self", "value"] (spX C) ∧ Binds K fd ["self", "value"] [] ∧
    ∀ (s : Shared) (u v : Value), BindsTo s fd ⟨[u], [(("value" : Str), v)]⟩ ((["self", "value"] : List Str).zip [u, v])

theorem upd_again {H : Hp} {a d : Addr} {o1 o2 o3 : HO} (h : d ≠ a) : upd (upd (upd H a o1) d o2) a o3 = upd (upd H d o2) a o3 := by
  funext b
  by_cases hb : b = a
  · rw [hb, upd_same, upd_same]
  · rw [upd_ne hb, upd_ne hb]
    by_cases hd : b = d
    · rw [hd, upd_same, upd_same]
    · rw [upd_ne hd, upd_ne hd, upd_ne hb]

/-- the reading of C(e), C(value=e) -/
def wMk (C : Addr) (v : V) (H : Hp) (Q : VK) : Prop := ∀ a H', H a = none → Same H H' → XAt H' a C v → Q (.ref a) H'
section
variable {X : Cx} {x : Str} {C : Addr} {e : Expr} {te : TE} {p pos kpos : Pos} {pins : List (Addr × Obj)} {σ : L2.St} {H : Hp} {s : Shared} {v : V} {u : Value} {Q : VK} {ta : TA}
theorem xmade (T : Ex X.prog X.w X.K X.mg X.base x C) (hr : Room 2 X.A) (I : Inv X pins σ H s) (r : RelV v u) (q : wMk C v H Q)
    {us : List Value} {kw : List (Str × Value)} (hform : (us = [u] ∧ kw = []) ∨ (us = [] ∧ kw = [(("value" : Str), u)])) :
    wpAny (model X.prog X.w) X.A (call (.ref C) us kw) (EP X pins σ Q) X.xe s := by
  obtain ⟨fI, fd, iC, tI, F1, hb, hk⟩ := T.mkd
  obtain ⟨nm, qn, N, bs, bm, sn, sub, ab, col, dd, k0, k1, k2, k3, k5, B, newId, initId, bmB, hC, F, L⟩ := T.xc.cls
  obtain ⟨hp, g, dr, tk, os⟩ := s
  have sz : hp.objs.size ≤ hp.objs.size + 1 := Nat.le_succ _
  have hn : H (hp.objs.size + 1) = none := I.hok.fresh sz
  have old : ∀ b o, hp.get? b = some o → ((hp.push (PySem.W.kdv_tup us)).push (PySem.HandSPX.excO C hp.objs.size)).get? b = some o :=
    fun b o z => Heap.get?_push_of_some _ (Heap.get?_push_of_some _ z)
  have at1 : ((hp.push (PySem.W.kdv_tup us)).push (PySem.HandSPX.excO C hp.objs.size)).get? (hp.objs.size + 1) =
      some (PySem.HandSPX.excO C hp.objs.size) := by heap_get
  have I2 : Inv X pins σ (upd H (hp.objs.size + 1) (exo (hp.objs.size + 1) C none))
      ⟨(hp.push (PySem.W.kdv_tup us)).push (PySem.HandSPX.excO C hp.objs.size), g, dr, tk, os⟩ :=
    I.laid (t' := tk) (o := exo (hp.objs.size + 1) C none) old sz (exo_ok at1)
  have r2 : Vals [V.ref (hp.objs.size + 1), v] [Value.ref (hp.objs.size + 1), u] := .cons rfl (.cons r .nil)
  have hus : us.length ≤ sizeLine := by
    rcases hform with ⟨rfl, _⟩ | ⟨rfl, _⟩
    · rw [sizeLine_eq]; exact (by decide : 1 ≤ 16777216)
    · rw [sizeLine_eq]; exact (by decide : 0 ≤ 16777216)
  have bind : ∀ s' : Shared, X.K.In s'.heap → BindsTo s' fd ⟨Value.ref (hp.objs.size + 1) :: us, kw⟩ ((["self", "value"] : List Str).zip [Value.ref (hp.objs.size + 1), u]) := fun s' ks => by
    rcases hform with ⟨rfl, rfl⟩ | ⟨rfl, rfl⟩
    · exact hb s' [Value.ref (hp.objs.size + 1), u] ks rfl
    · exact hk s' _ _
  have hsp : spX C [V.ref (hp.objs.size + 1), v] (upd H (hp.objs.size + 1) (exo (hp.objs.size + 1) C none))
      (fun z H2 => z = .non ∧ Q (.ref (hp.objs.size + 1)) H2) (fun _ _ _ => False) := by
    refine ⟨_, _, rfl, upd_same, fun dx n ne => ⟨rfl, ?_⟩⟩
    rw [upd_ne ne] at n
    rw [upd_again ne]
    refine q _ _ hn (fun b o z => ?_) ⟨dx, upd_same, ?_⟩
    · rw [upd_ne (ne_of_none z hn), upd_ne (ne_of_none z n)]
      exact z
    · rw [upd_ne ne, upd_same]
  refine wpAny_call (called F L (I.kIn _ _ hC) hus (PySem.W.looks_findIn I.kIn iC) (fun self => PySem.W.bind_fn I.kIn self tI)
    (codeAny_mono (F1.run _ X.stack _ _ ⟨Value.ref (hp.objs.size + 1) :: us, kw⟩ _ _ _ (fun _ _ _ => False) (hr.make C us kw)
      (I2.env0.make C us kw) (bind _ I2.kIn) r2 hsp) fun r s' hq' => ?_))
  cases r with
  | error er => exact False.elim hq'
  | ok fl =>
    cases fl with
    | ret u' =>
      obtain ⟨z, H2, J, rz, ez, q2⟩ := I2.after hq'
      subst ez
      exact ⟨rz, .ref (hp.objs.size + 1), H2, J, rfl, q2⟩
    | next => exact False.elim hq'
    | brk => exact False.elim hq'
    | cont => exact False.elim hq'

/-- C(e) -/
def tX (C : Addr) (t : TA) : TE := fun σ H Q => t σ H fun vs H1 => ∃ v, vs = [v] ∧ wMk C v H1 Q
theorem pe_x (T : Ex X.prog X.w X.K X.mg X.base x C) (hr : Room 2 X.A) (hg : Gl X x) (ha : PA X (e :: []) ta)
    (hdb : (x == ("__debug__" : Str)) = false := by decide) (he : starEach (e :: []) X.env = (false, eval e X.env) :: starEach [] X.env := by rfl)
    (hpl : (backTo pos (starEach [] X.env)).any (·.1) = false := by rfl) :
    PE X (.Call (.Name x p) [e] [] pos) (tX C ta) := by
  refine ⟨fun pins s σ H Q I h => ?_⟩
  refine wpAny_Call_Name_kw (ld_glob I hg T.mgC ?_ hdb)
  refine PySem.W.callWith_K (h₀ := X.base) I.ok.mod.kin T.xc.kC (thn (ha.run pos pins s σ H _ I h) fun us s1 hu => ?_) he hpl
  obtain ⟨vs, H1, I1, r1, v, rfl, q⟩ := hu
  refine ⟨I1.kIn, ?_⟩
  cases r1 with
  | cons rv rn =>
    cases rn
    exact xmade T hr I1 rv q (.inl ⟨rfl, rfl⟩)
/-- C(value=e) -/
theorem pe_xk (T : Ex X.prog X.w X.K X.mg X.base x C) (hr : Room 2 X.A) (hg : Gl X x) (ha : PK X [⟨some "value", e, kpos⟩] ta)
    (hdb : (x == ("__debug__" : Str)) = false := by decide)
    (hall : (backToKw pos (keywordEach [⟨some "value", e, kpos⟩] X.env)).all (·.1.isSome) = true := by rfl)
    (hks : (backToKw pos (keywordEach [⟨some "value", e, kpos⟩] X.env)).filterMap (·.1) = [("value" : Str)] := by rfl)
    (hpl : ((backTo pos (starEach [] X.env)).any (·.1) || (backToKw pos (keywordEach [⟨some "value", e, kpos⟩] X.env)).any (·.1.isNone)) = false := by rfl) :
    PE X (.Call (.Name x p) [] [⟨some "value", e, kpos⟩] pos) (tX C ta) := by
  refine ⟨fun pins s σ H Q I h => ?_⟩
  refine wpAny_Call_Name_kw (ld_glob I hg T.mgC ?_ hdb)
  refine PySem.W.callWith_KW0 (h₀ := X.base) I.ok.mod.kin T.xc.kC hall (thn (ha.run pos pins s σ H _ I h) fun us s1 hu => ?_) hpl
  obtain ⟨vs, H1, I1, r1, v, rfl, q⟩ := hu
  refine ⟨I1.kIn, ?_⟩
  rw [hks]
  cases r1 with
  | cons rv rn =>
    cases rn
    exact xmade T hr I1 rv q (.inr ⟨rfl, rfl⟩)
end

/-! ### e.value, isinstance(e, D) -/
section
variable {X : Cx} {e : Expr} {te : TE} {pos : Pos}
def tXv (K : PySem.W.Frag) (te : TE) : TE := fun σ H Q => te σ H fun x H1 => ∃ a C v, x = .ref a ∧ XC K C ∧ XAt H1 a C v ∧ Q v H1
theorem inst_of {pins : List (Addr × Obj)} {σ : L2.St} {H : Hp} {s : Shared} {a C : Addr} {v : V} (I : Inv X pins σ H s) (x : XAt H a C v) :
    ∃ oe od, PySem.W.InstAt s.heap a oe C (some od) ∧ ∃ u, RelV v u ∧ PySem.W.lookIn "value" od = some (some u) := by
  obtain ⟨d, h1, h2⟩ := x
  obtain ⟨t1, ho⟩ := exo_at I.hok h1
  obtain ⟨mA, hns, rel⟩ := exd_at I.hok h2
  obtain ⟨od, h3, hl⟩ := lookIn_ns hns
  have l : List.lookup ("value" : Str) [(("value" : Str), v)] = some v := by simp [List.lookup]
  obtain ⟨u, hu, ru⟩ := RelO.some_of (v := v) (o := mA "value") (by rw [← l]; exact rel "value")
  exact ⟨_, od, ⟨ho, rfl, rfl, h3⟩, u, ru, by rw [hl, hu]⟩
theorem pe_xv (he : PE X e te) (hb : attributeBase e "value" X.env (eval e X.env) = eval e X.env := by rfl) : PE X (.Attribute e "value" pos) (tXv X.K te) := by
  refine ⟨fun pins s σ H Q I h => ?_⟩
  refine attr_of hb (thn (he.run pins s σ H _ I h) fun u s1 hh => ?_)
  obtain ⟨x, H1, I1, rx, a, C, v, rfl, T, xa, q⟩ := hh
  obtain rfl : u = Value.ref a := rx
  obtain ⟨oe, od, J, z, rz, hl⟩ := inst_of I1 xa
  exact HandSPX.exc_get I1.kIn J T.ga T.gg T.exC (PySem.W.findObj_own T.hdC T.noV rfl hl) (handed_of rz) ⟨v, H1, I1.tok _, rz, q⟩
/-- isinstance(e, D) -/
def rIsX (K : PySem.W.Frag) : List V → Hp → VK → Prop := fun xs H Q => ∃ (a C : Addr) (c : V) (u : Value) (b : Bool), xs = [.ref a, c] ∧ ClsV c u ∧
  (XAt0 H a C ∨ ∃ v, XAt H a C v) ∧ XC K C ∧ XK0 K ∧ PySem.W.kitOne K (.ref C) u = some b ∧ Q (.bl b) H
theorem call_isx : CallR X (.builtin "isinstance") (rIsX X.K) := by
  intro pins s σ H xs us Q I r h
  obtain ⟨a, C, c, u, b, rfl, k, hx, T, Z, e, q⟩ := h
  obtain ⟨u1, u2, rfl, r1, r2⟩ := vals2 r
  have e2 := k.eq r2
  subst e2
  obtain rfl : u1 = Value.ref a := r1
  rcases hx with hx | ⟨v, hx⟩
  · obtain ⟨t1, ho⟩ := exo_at I.hok hx
    have J : PySem.W.InstAt s.heap a _ C none := ⟨ho, rfl, rfl, trivial⟩
    exact PySem.W.kia_one (PySem.W.kitx_exc T.ic T.ga T.gg T.exC T.cC Z.sg Z.st T.mC) I.kIn J e (fun z => nomatch z) fun tk => ⟨.bl b, H, I.tok tk, rfl, q⟩
  · obtain ⟨oe, od, J, _⟩ := inst_of I hx
    exact PySem.W.kia_one (PySem.W.kitx_exc T.ic T.ga T.gg T.exC T.cC Z.sg Z.st T.mC) I.kIn J e (fun z => nomatch z) fun tk => ⟨.bl b, H, I.tok tk, rfl, q⟩
end
end FNX

set_option Elab.async false
set_option linter.all false
set_option maxRecDepth 100000
set_option maxHeartbeats 4000000
/-! ## An exception made of nothing, under IndexError -/
namespace FNX
open PySem PySem.Spec PyProof.Rows L2

abbrev ixTail : List Value := [.type "IndexError", .type "LookupError", .type "Exception", .type "BaseException", .type "object"]
def sp0 (C : Addr) : Sp := fun vs H Q _ => ∃ (a : Addr), vs = [.ref a] ∧ H a = some (exo a C none) ∧ Q .non H
structure XC0 (K : PySem.W.Frag) (C : Addr) : Prop where
  xc : XC K C
  cls : ∃ nm q N bs sn sub ab col dd k0 k1 k2 k3 k5, K.lookup C = some (excClassObj nm q C N bs ixTail true sn sub ab col dd k0 k1 k2 k3 k5 "IndexError.__new__")
  vI : PySem.W.findCls K (.type "IndexError") (.type "type") "__init__" = some (.val (.builtin "IndexError.__init__"))
structure Ex0 (P : Program) (w : World) (K : PySem.W.Frag) (mg : Str → Option Value) (base : Heap) (x : Str) (C : Addr) : Prop where
  x0 : XC0 K C
  mgC : mg x = some (.ref C)
  mkd : ∃ fI fd, PySem.W.findIn K (.ref C) "__init__" = some (some (.ref fI)) ∧ PySem.W.typeIn K (.ref fI) = some (.type "function") ∧
    FnOk P w K mg base CX0 1 fI fd ["self"] (sp0 C) ∧ Binds K fd ["self"] []

theorem typIx : typeOf (.type "IndexError") = pure (.type "type") := by kernel_rfl
def tIxI (K : PySem.W.Frag) (ta : TA) : TE := fun σ H Q => ta σ H fun vs H1 => ∃ (a C : Addr), vs = [.ref a] ∧ XC0 K C ∧ H1 a = some (exo a C none) ∧ Q .non H1
section
variable {X : Cx} {e : Expr} {ta : TA} {p1 p2 pos : Pos}
theorem pe_ixinit {pl : Sem Bool} (hg : Gl X "IndexError") (hm : X.mg "IndexError" = none)
    (vI : PySem.W.findCls X.K (.type "IndexError") (.type "type") "__init__" = some (.val (.builtin "IndexError.__init__"))) (ha : PA X [e] ta)
    (hc : eval (.Call (.Attribute (.Name "IndexError" p1) "__init__" p2) [e] [] pos) X.env = (do
      let ov ← eval (.Name "IndexError" p1) X.env
      standAt p2.atName
      let (f, first) ← holding [ov] (getMethod ov "__init__" pl)
      callWith pos f first (backTo pos (starEach [e] X.env)) (backToKw pos (keywordEach [] X.env))) := by rfl)
    (he : starEach [e] X.env = (false, eval e X.env) :: starEach [] X.env := by rfl) (hpl : (backTo pos (starEach [] X.env)).any (·.1) = false := by rfl) :
    PE X (.Call (.Attribute (.Name "IndexError" p1) "__init__" p2) [e] [] pos) (tIxI X.K ta) := by
  refine ⟨fun pins s σ H Q I h => ?_⟩
  refine PySem.W.methodCall_KW (ld_blt I hg hm PyProof.Rows.Boot.«IndexError» ?_ (by decide) (by decide)) hc
  obtain ⟨m, fr⟩ := I.fr
  refine PySem.W.method_type fr I.ok.mod.kin typIx (by decide +kernel) vI (by decide +kernel) ?_
  show wpAny _ _ (callWith pos (Value.builtin "IndexError.__init__") [] (backTo pos (starEach [e] X.env)) []) _ _ _
  refine PyProof.Rows.callWith_method1 (thn (ha.run pos pins _ σ H _ (I.tok _) h) fun us s1 hu => ?_) he hpl
  obtain ⟨vs, H1, I1, r1, a, C, rfl, T, ea, q⟩ := hu
  obtain ⟨nm, qn, N, bs, sn, sub, ab, col, dd, k0, k1, k2, k3, k5, hC⟩ := T.cls
  obtain ⟨t1, ho⟩ := exo_at I1.hok ea
  cases r1 with
  | @cons _ u0 _ ur ra rw' =>
    cases rw'
    obtain rfl : u0 = Value.ref a := ra
    obtain ⟨hp, g, d, t, os⟩ := s1
    refine wpAny_call (PySem.HandSPX.init_base F.excBase_IndexError (fun Y => rfl) (I1.kIn _ _ hC) ho (by rw [sizeLine_eq]; exact (by decide : 0 ≤ 16777216)) fun h' t2 k hx => ?_)
    have J := I1.write (t' := t) (x := a) (e := a) (o := exo a C none) (mut_exo ea) (.inl rfl) k ⟨_, hx⟩ (exo_ok hx)
    have eu : upd H1 a (exo a C none) = H1 := by
      funext b
      by_cases hb : b = a
      · rw [hb, upd_same, ea]
      · rw [upd_ne hb]
    rw [eu] at J
    exact ⟨.non, H1, J, rfl, q⟩
end
section
variable {X : Cx} {x : Str} {C : Addr} {p pos : Pos} {pins : List (Addr × Obj)} {σ : L2.St} {H : Hp} {s : Shared} {Q : VK}
def wMk0 (C : Addr) (H : Hp) (Q : VK) : Prop := ∀ a H', H a = none → Same H H' → XAt0 H' a C → Q (.ref a) H'
theorem xmade0 (T : Ex0 X.prog X.w X.K X.mg X.base x C) (hr : Room 2 X.A) (I : Inv X pins σ H s) (q : wMk0 C H Q) :
    wpAny (model X.prog X.w) X.A (call (.ref C) []) (EP X pins σ Q) X.xe s := by
  obtain ⟨fI, fd, iC, tI, F1, hb⟩ := T.mkd
  obtain ⟨nm, qn, N, bs, bm, sn, sub, ab, col, dd, k0, k1, k2, k3, k5, B, newId, initId, bmB, hC, F, L⟩ := T.x0.xc.cls
  obtain ⟨hp, g, dr, tk, os⟩ := s
  have sz : hp.objs.size ≤ hp.objs.size + 1 := Nat.le_succ _
  have hn : H (hp.objs.size + 1) = none := I.hok.fresh sz
  have old : ∀ b o, hp.get? b = some o → ((hp.push (PySem.W.kdv_tup [])).push (PySem.HandSPX.excO C hp.objs.size)).get? b = some o :=
    fun b o z => Heap.get?_push_of_some _ (Heap.get?_push_of_some _ z)
  have at1 : ((hp.push (PySem.W.kdv_tup [])).push (PySem.HandSPX.excO C hp.objs.size)).get? (hp.objs.size + 1) =
      some (PySem.HandSPX.excO C hp.objs.size) := by heap_get
  have I2 : Inv X pins σ (upd H (hp.objs.size + 1) (exo (hp.objs.size + 1) C none))
      ⟨(hp.push (PySem.W.kdv_tup [])).push (PySem.HandSPX.excO C hp.objs.size), g, dr, tk, os⟩ :=
    I.laid (t' := tk) (o := exo (hp.objs.size + 1) C none) old sz (exo_ok at1)
  have hsp : sp0 C [V.ref (hp.objs.size + 1)] (upd H (hp.objs.size + 1) (exo (hp.objs.size + 1) C none))
      (fun z H2 => z = .non ∧ Q (.ref (hp.objs.size + 1)) H2) (fun _ _ _ => False) := by
    refine ⟨_, rfl, upd_same, rfl, q _ _ hn (fun b o z => ?_) upd_same⟩
    rw [upd_ne (ne_of_none z hn)]
    exact z
  have rv : Vals [V.ref (hp.objs.size + 1)] [Value.ref (hp.objs.size + 1)] := .cons rfl .nil
  refine wpAny_call (called F L (I.kIn _ _ hC) (by rw [sizeLine_eq]; exact (by decide : 0 ≤ 16777216)) (PySem.W.looks_findIn I.kIn iC) (fun self => PySem.W.bind_fn I.kIn self tI)
    (codeAny_mono (F1.run _ X.stack _ _ ⟨[Value.ref (hp.objs.size + 1)], []⟩ [Value.ref (hp.objs.size + 1)] _ _ (fun _ _ _ => False) (hr.make C [] [])
      (I2.env0.make C [] []) (hb _ [Value.ref (hp.objs.size + 1)] I2.kIn rfl) rv hsp) fun r s' hq' => ?_))
  cases r with
  | error er => exact False.elim hq'
  | ok fl =>
    cases fl with
    | ret u' =>
      obtain ⟨z, H2, J, rz, ez, q2⟩ := I2.after hq'
      subst ez
      exact ⟨rz, .ref (hp.objs.size + 1), H2, J, rfl, q2⟩
    | next => exact False.elim hq'
    | brk => exact False.elim hq'
    | cont => exact False.elim hq'
/-- C() -/
theorem pe_x0 (T : Ex0 X.prog X.w X.K X.mg X.base x C) (hr : Room 2 X.A) (hg : Gl X x) (hdb : (x == ("__debug__" : Str)) = false := by decide) :
    PE X (.Call (.Name x p) [] [] pos) (fun _ H Q => wMk0 C H Q) := by
  refine ⟨fun pins s σ H Q I h => ?_⟩
  refine wpAny_Call_Name_kw (ld_glob I hg T.mgC ?_ hdb)
  exact PySem.W.callWith_K0 I.kIn T.x0.xc.kC (xmade0 T hr I h)
end
end FNX

set_option Elab.async false
set_option linter.all false
set_option maxRecDepth 100000
set_option maxHeartbeats 4000000
/-! ## repr of data, where no repr runs further out; defs that are called there -/
namespace FNX
open PySem PySem.Spec PyProof.Rows L2

/-- what stands at a value, as data: HandS's, and a dict of texts and ints -/
inductive Rd (K : PySem.W.Frag) (H : Hp) : V → PyData → Prop
  | dat {v : V} {d : PyData} (h : Dp K H v d) : Rd K H v d
  | dct {a : Addr} (kvs : List (Str × Int)) (h : H a = some (.dK (kvs.map fun p => (Sum.inr p.1, V.int p.2)))) :
      Rd K H (.ref a) (.dict (kvs.map fun p => (.str p.1, .int p.2)))
mutual
theorem dpNoDict {K : PySem.W.Frag} {H : Hp} : ∀ (d : PyData) (v : V), Dp K H v d → d.hasDict = false
  | .none, _, _ => by simp only [PyData.hasDict]
  | .bool _, _, _ => by simp only [PyData.hasDict]
  | .int _, _, _ => by simp only [PyData.hasDict]
  | .str _, _, _ => by simp only [PyData.hasDict]
  | .list xs, _, h => by
    cases h with
    | lst _ hs =>
      simp only [PyData.hasDict]
      exact dpNoDictAll xs _ hs
  | .tuple xs, _, h => by
    cases h with
    | tup _ hs =>
      simp only [PyData.hasDict]
      exact dpNoDictAll xs _ hs
  | .dict _, _, h => by cases h
theorem dpNoDictAll {K : PySem.W.Frag} {H : Hp} : ∀ (ds : List PyData) (vs : List V), DpAll K H vs ds → PyData.hasDictAll ds = false
  | [], _, _ => by simp only [PyData.hasDictAll]
  | d :: ds, _, h => by
    cases h with
    | cons h1 h2 => simp only [PyData.hasDictAll, dpNoDict d _ h1, dpNoDictAll ds _ h2, Bool.or_self]
end

theorem readsKeys {P : Program} {w : World} {h : Heap} : ∀ (kvs : List (Str × Int)) (vs : List (Key × Value)) (es : List DictEntry),
    KV (kvs.map fun p => ((Sum.inr p.1 : Key), V.int p.2)) vs → Pairs (mixKind P w) es vs →
    ReadsAll h (es.map (·.key)) ((kvs.map fun p => ((PyData.str p.1, PyData.int p.2) : PyData × PyData)).map (·.1)) [] ∧
    ReadsAll h (es.map (·.val)) ((kvs.map fun p => ((PyData.str p.1, PyData.int p.2) : PyData × PyData)).map (·.2)) []
  | [], _, _, r, p => by
    cases r
    cases p
    exact ⟨.nil, .nil⟩
  | (x, i) :: kvs, _, _, r, p => by
    cases r with
    | cons r1 r2 =>
      rename_i q vs
      obtain ⟨k, u⟩ := q
      obtain ⟨rfl, t, rfl⟩ := r1
      cases p with
      | @cons e _ es _ p1 p3 p2 =>
        obtain ⟨h1, h2⟩ := readsKeys (h := h) kvs vs _ r2 p2
        have p1 : keyIs (Sum.inr x) _ = true := p1
        rcases keyIs_shape p1 with ⟨j, t', e1, e2⟩ | ⟨y, t', e1, e2⟩
        · cases e1
        · injection e1 with e1
          subst e1
          constructor
          · show ReadsAll h (e.key :: _) _ []
            rw [e2]
            exact ReadsAll.cons (as := []) (.str x t') h1
          · show ReadsAll h (e.val :: _) _ []
            rw [p3]
            exact ReadsAll.cons (as := []) (.int i t) h2

section
variable {X : Cx} {pins : List (Addr × Obj)} {σ : L2.St} {H : Hp} {s : Shared}
theorem rdReads (I : Inv X pins σ H s) {v : V} {d : PyData} {u : Value} (h : Rd X.K H v d) (r : RelV v u) :
    ∃ as, Reads s.heap u d as ∧ (d.hasDict = true → sysModules ∉ as) := by
  cases h with
  | dat h =>
    obtain ⟨as, q⟩ := Dp.reads I d v u h r
    exact ⟨as, q, PyData.noDict_hsm (dpNoDict d v h)⟩
  | @dct a kvs h =>
    obtain rfl : u = Value.ref a := r
    obtain ⟨_, hs, vs, rv, o, es, ep, ho, hx, hd, _, hp, _⟩ := (show ObjOk X.prog X.w H s.heap a (.dK _) from I.hok a _ h)
    obtain ⟨h1, h2⟩ := readsKeys (h := s.heap) kvs vs es.toList rv hp
    refine ⟨_, Reads.dict ho hx.1 hd h1 h2, fun _ z => ?_⟩
    have z : sysModules ∈ [a] := by simpa using z
    have z := List.mem_singleton.mp z
    rw [← z] at hs
    simp at hs
/-- repr(x) -/
def rRepr (K : PySem.W.Frag) : List V → Hp → VK → Prop := fun xs H Q => ∃ v d, xs = [v] ∧ Rd K H v d ∧ d.showable = true ∧ d.depth ≤ 60 ∧
  d.shown.length ≤ sizeLine ∧ Q (.str d.shown) H
theorem call_repr (hg : X.A.guards = some []) (hu : X.A.units + 64 < cLine) : CallR X (.builtin "repr") (rRepr X.K) := by
  intro pins s σ H xs us Q I r h
  obtain ⟨v, d, rfl, hd, h1, h2, h3, q⟩ := h
  cases r with
  | cons r1 r2 =>
    cases r2
    rename_i u
    obtain ⟨as, hr, hsm⟩ := rdReads I hd r1
    have done : ∀ h' u' tk, (∀ b o, s.heap.get? b = some o → h'.get? b = some o) → EP X pins σ Q (.str d.shown u') { s with heap := h', toks := tk } :=
      fun h' u' tk k => ⟨.str d.shown, H, I.un (t' := tk) (Un.kept k) (I.hok.kept k), ⟨u', rfl⟩, q⟩
    have fin : ∀ {x : Str} {u' : Tok}, x = d.shown → EP X pins σ Q (.str x u') { s with toks := s.toks + 1 } := fun {x u'} e => by
      rw [e]
      exact done s.heap u' (s.toks + 1) fun _ _ z => z
    cases hr with
    | none => exact PySem.P.repr_of_none (fin (by simp only [PyData.shown]))
    | bool b => exact PySem.P.repr_of_bool (fin (by simp only [PyData.shown]))
    | int i t => exact PySem.P.repr_of_int (by simpa [PyData.showable] using h1) (fin (by simp only [PyData.shown]))
    | str x t => exact PySem.P.repr_of_str (fin (by simp only [PyData.shown])) (by simpa only [PyData.shown] using h3)
    | list a1 a2 a3 a4 => exact repr_of_reads' (.list a1 a2 a3 a4) h1 hsm hg (by omega) (fun _ _ e => e) (fun h' u tk k => done h' u tk k) h3
    | tuple a1 a2 a3 a4 => exact repr_of_reads' (.tuple a1 a2 a3 a4) h1 hsm hg (by omega) (fun _ _ e => e) (fun h' u tk k => done h' u tk k) h3
    | dict a1 a2 a3 a4 a5 => exact repr_of_reads' (.dict a1 a2 a3 a4 a5) h1 hsm hg (by omega) (fun _ _ e => e) (fun h' u tk k => done h' u tk k) h3
end

/-! ### defs that are called where no repr runs -/
structure GOk (P : Program) (w : World) (K : PySem.W.Frag) (mg : Str → Option Value) (base : Heap) (k : Nat) (f : Addr) (fd : FuncData) (ps : List Str) (sp : Sp) : Prop where
  len : ∀ vs H Q E, sp vs H Q E → vs.length = ps.length
  run : ∀ (A : Around) (outer : List Env) (s : Shared) (H : Hp) (args : Args) (us : List Value) (vs : List V) (Q : VK) (E : XK), A.guards = some [] → Room k A →
    Env0 P w K mg base A outer s H → BindsTo s fd args (ps.zip us) → Vals vs us → sp vs H Q E → codeAny (model P w) A (.call (.ref f) args) (CR CX0 outer P w H s Q E) s
section
variable {P : Program} {w : World} {K : PySem.W.Frag} {mg : Str → Option Value} {base : Heap}
theorem okG {x qual : Str} {st : Stmt} {f : Addr} {fd : FuncData} {N ps : List Str} {k : Nat} {sp : Sp} (F : Fun K x qual st f fd) (S : FnScope N ps (defScope st))
    (len : ∀ vs H Q E, sp vs H Q E → vs.length = ps.length)
    (hbody : ∀ (cdv : Value) (A : Around) (outer : List Env) (s : Shared) (H : Hp) (vs : List V) (Q : VK) (E : XK), A.guards = some [] →
      Room k (A.deeper (envOfC qual (defScope st) s.heap.objs.size f cdv)) → sp vs H Q E →
      ∃ t, PSs (cxOf CX0 P w K mg base N qual (defScope st) f cdv A outer s H E).nox (defBody st) t ∧ t { nx := fun _ H' => Q .non H', rt := Q } (start N vs) H) :
    GOk P w K mg base (k + 1) f fd ps sp := by
  refine ⟨len, fun A outer s H args us vs Q E hg hr e0 hb r hs => ?_⟩
  -- a promise that is kept around this A alone
  obtain ⟨oc, od, kV, doc, pm, an, cdv, ct, osl, rfl, lk, hcd⟩ := F.ex
  have KX : K.In s.heap := e0.mod.kin.keeps fun b o e => (e0.bs b o e).1
  have lim : s.heap.NoLimit := e0.mod.nolimit.keeps fun b o e => (e0.bs b o e).1
  have hl := len _ _ _ _ hs
  have kinds : ∀ y ∈ ps.zip us, (defScope st).names.lookup y.1 = some .local ∨
      ((defScope st).names.lookup y.1 = some .cell ∧ ((cellsFrom (s.heap.objs.size + 1) (defScope st).names []).lookup y.1).isSome = true) := fun y hy => by
    rcases S.par y.1 (List.of_mem_zip (show (y.1, y.2) ∈ ps.zip us from hy)).1 with z | z
    · exact .inl z
    · exact .inr ⟨z, PySem.W.cellsFrom_some _ _ _ (.inl z)⟩
  refine codeAny_call_function hr.depth (KX _ _ lk) rfl S.co S.gen rfl (PySem.W.codeRec_of KX hcd) (hb _ _ _ _ ?_)
  refine wpAny_newFunctionEnv_cells S.kind kinds fun env he s1 x => ?_
  subst he
  refine ⟨lim.keeps x.toInCall.keep, codeAny_func ?_⟩
  obtain ⟨t, ht, hq⟩ := hbody cdv A outer s H vs Q E hg (hr.deeper _) hs
  have I := inv_start (CX := CX0) (E := E) S hr.hd e0 hl r x
  refine wpAny_mono (ht.nox.run [] s1 _ H _ I hq) (fun fl s' z => ?_) fun e s' z => z
  cases fl with
  | ret u =>
    obtain ⟨v, σ', H', J, rv, q⟩ := z
    exact ⟨v, H', J.os, J.bare, J.base, J.hok, rv, q⟩
  | next =>
    obtain ⟨σ', H', J, q⟩ := z
    exact ⟨V.non, H', J.os, J.bare, J.base, J.hok, rfl, q⟩
  | brk =>
    obtain ⟨_, _, _, q⟩ := z
    exact q.elim
  | cont =>
    obtain ⟨_, _, _, q⟩ := z
    exact q.elim
end
end FNX

set_option Elab.async false
set_option linter.all false
set_option maxRecDepth 100000
set_option maxHeartbeats 4000000
/-! ## The law's own call, made where no repr runs -/
namespace FNX
open PySem PySem.Spec PyProof.Rows L2

section
variable {P : Program} {w : World} {K : PySem.W.Frag} {mg mb : Str → Option Value} {k : Nat} {fa a : Addr} {fd : FuncData} {x : Str} {sp : Sp} {s : Shared} {vs : List Value} {ns : List Int}
abbrev LawEnd (s : Shared) (r : Result) (s' : Shared) : Prop := r = .ok (.ret (.bool true)) ∧ OldK s.heap s'.heap ∧ s'.os = s.os ∧ AllBare s'.gens

/-- from an abstract heap that tracks the script at most -/
theorem lawFrom {H : Hp} (KX : K.In s.heap) (hns : s.heap.Ns mainGlobals mg) (hb : s.heap.Ns builtinsNs mb) (hbb : ∀ x : Str, x ≠ "__name__" → mb x = bootBuiltins x)
    (hlim : s.heap.NoLimit) (hg : s.gens = #[]) (hr : Room k callerA)
    (F : ∀ base : Heap, K.In base → base.Ns mainGlobals mg → GOk P w K mg base k fa fd [x] sp) (hbind : ∀ (s : Shared) (u : Value), BindsTo s fd ⟨[u], []⟩ [(x, u)])
    (hsp : sp [.ref a] H (fun v _ => v = .bl true) fun _ _ _ => False) (hok : HOk P w H s.heap)
    (hlist : ∀ b u, H b = some u → (∃ o xs, u = .frz o (.lst xs)) ∧ K.lookup b = none ∧ ∀ o es ep, s.heap.get? b = some o → o.data ≠ .dict es ep) :
    codeAny (model P w) callerA (.call (.ref fa) ⟨[.ref a], []⟩) (LawEnd s) s := by
  have seen : ∀ {b : Addr} {o : Obj}, s.heap.get? b = some o → H b = none → (hidT s.heap H).get? b = some o := fun e n => hidT_get e n
  have noD : ∀ {b : Addr} {o : Obj} {es : Array DictEntry} {ep : Nat}, s.heap.get? b = some o → o.data = .dict es ep → H b = none := fun {b o es ep} e d => by
    cases q : H b with
    | none => rfl
    | some u => exact absurd d ((hlist b u q).2.2 o es ep e)
  have keep : ∀ {b : Addr} {m : Str → Option Value}, s.heap.Ns b m → (hidT s.heap H).Ns b m := fun n => by
    obtain ⟨o, es, ep, e, d, r⟩ := n
    exact ⟨o, es, ep, seen e (noD e d), d, r⟩
  have kin : K.In (hidT s.heap H) := fun b o e => seen (KX b o e) (by
    cases q : H b with
    | none => rfl
    | some u =>
      have z := (hlist b u q).2.1
      rw [z] at e
      cases e)
  have mod : Mod K mg (hidT s.heap H) := ⟨kin, keep hns, ⟨mb, keep hb, hbb⟩, by
    obtain ⟨mc, h1, h2⟩ := hlim
    exact ⟨mc, keep h1, h2⟩⟩
  have e0 : Env0 P w K mg (hidT s.heap H) callerA [] s H :=
    ⟨rfl, mod, fun b o e => of_hidT e, Nat.le_of_eq (hidT_size _ _), trivial, fun b hb => absurd (show b ∈ ([] : List Addr) from hb) (by simp), hok, .of_eq hg⟩
  have rv : Vals [V.ref a] [Value.ref a] := .cons rfl .nil
  refine codeAny_mono ((F _ kin (keep hns)).run callerA [] s H ⟨[.ref a], []⟩ [.ref a] [.ref a] _ _ rfl hr e0 (hbind s (.ref a)) rv hsp) fun r s' z => ?_
  cases r with
  | error e => exact False.elim z
  | ok fl =>
    cases fl with
    | next => exact False.elim z
    | brk => exact False.elim z
    | cont => exact False.elim z
    | ret u =>
      obtain ⟨v, H', os, bare, un, hok', rv', q⟩ := z
      obtain rfl : v = .bl true := q
      obtain rfl : u = Value.bool true := rv'
      refine ⟨rfl, OldK.of_keep fun b o e => ?_, os, bare⟩
      cases q : H b with
      | none => exact un.keep b o e q (fun z => absurd (show b ∈ ([] : List Addr) from z) (by simp)) (by simp)
      | some t =>
        obtain ⟨⟨ob, xs, rfl⟩, _, _⟩ := hlist b t q
        obtain ⟨e1, _⟩ := hok b _ q
        obtain ⟨e2, _⟩ := hok' b _ (un.frzs b ob _ q)
        rw [e] at e1
        cases e1
        exact e2

theorem lawCalled (KX : K.In s.heap) (hns : s.heap.Ns mainGlobals mg) (hb : s.heap.Ns builtinsNs mb) (hbb : ∀ x : Str, x ≠ "__name__" → mb x = bootBuiltins x)
    (hlim : s.heap.NoLimit) (hg : s.gens = #[]) (ha : s.heap.get? a = some { cls := .type "list", data := .seq vs.toArray }) (hi : IntsAre vs ns) (hl : ns.length ≤ sizeLine)
    (hr : Room k callerA) (F : ∀ base : Heap, K.In base → base.Ns mainGlobals mg → GOk P w K mg base k fa fd [x] sp)
    (hbind : ∀ (s : Shared) (u : Value), BindsTo s fd ⟨[u], []⟩ [(x, u)])
    (hsp : ∀ H : Hp, SqL K H a (ns.map V.int) → sp [.ref a] H (fun v _ => v = .bl true) fun _ _ _ => False) :
    codeAny (model P w) callerA (.call (.ref fa) ⟨[.ref a], []⟩) (LawEnd s) s := by
  have rv := vals_ints hi
  have lenV := hi.length
  cases hk : K.lookup a with
  | some o =>
    have e := KX a o hk
    rw [ha] at e
    cases e
    refine lawFrom (H := fun _ => none) KX hns hb hbb hlim hg hr F hbind (hsp _ (.inr ⟨_, vs.toArray, _, hk, rfl, rfl, rfl, ?_, ?_⟩)) (fun b u z => nomatch z) (fun b u z => nomatch z)
    · rw [List.size_toArray, lenV]
      exact hl
    · simpa using rv
  | none =>
    have at1 : ∀ {b : Addr} {u : HO}, (if b = a then some (HO.frz { cls := .type "list", data := .seq vs.toArray } (.lst (ns.map V.int))) else none) = some u →
        b = a ∧ u = .frz { cls := .type "list", data := .seq vs.toArray } (.lst (ns.map V.int)) := fun {b u} z => by
      by_cases h : b = a
      · rw [if_pos h] at z
        exact ⟨h, (Option.some.inj z).symm⟩
      · rw [if_neg h] at z
        cases z
    refine lawFrom (H := fun b => if b = a then some (.frz { cls := .type "list", data := .seq vs.toArray } (.lst (ns.map V.int))) else none) KX hns hb hbb hlim hg hr F hbind
      (hsp _ (.inl (.inr ⟨_, if_pos rfl⟩))) (fun b u z => ?_) (fun b u z => ?_)
    · obtain ⟨rfl, rfl⟩ := at1 z
      exact ⟨ha, by rw [List.length_map]; exact hl, vs, _, rv, ha⟩
    · obtain ⟨rfl, rfl⟩ := at1 z
      refine ⟨⟨_, _, rfl⟩, hk, fun o es ep e d => ?_⟩
      rw [ha] at e
      cases e
      have d' : Data.seq vs.toArray _ = Data.dict es ep := d
      cases d'
end

/-- what the head leaves, from the law's promise -/
theorem walkG {l : PySem.W.OpenLaw} {n k : Nat} {q : Program} {loose : List Str} {XP : (Str → Option Value) → Heap → Prop} {YP : World → Heap → Prop} {d : DefRec} {K : Params → PySem.W.Frag} {sp : World → Sp} {x : Str}
    (hn : l.most = some n) (hn2 : n ≤ sizeLine) (hdf : d.params.defaults = []) (hr : Room k callerA) (hY : ∀ (w : World) (h : Heap), YP w h → (K w.params).In h)
    (F : ∀ (w : World) (mg : Str → Option Value) (fa : Addr) (h : Heap), (K w.params).In h → h.Ns mainGlobals mg → mg d.name = some (.ref fa) →
      ∃ fd : FuncData, (∀ (s : Shared) (u : Value), BindsTo s fd ⟨[u], []⟩ [(x, u)]) ∧
        ∀ base : Heap, (K w.params).In base → base.Ns mainGlobals mg → GOk l.prog w (K w.params) mg base k fa fd [x] (sp w))
    (hsp : ∀ (w : World) (H : Hp) (a : Addr) (ns : List Int), ns.length ≤ n → SqL (K w.params) H a (ns.map V.int) → sp w [.ref a] H (fun v _ => v = .bl true) fun _ _ _ => False) :
    PySem.W.WalkO q loose XP YP l.row.toRowW d [] (fun f vs => PySem.call f vs) := by
  refine Att.attach_call hn hdf fun w s₀ s₁ mg mb fa o pm cd doc a vs ns G Y ho hd hcd hmg hobj hints hlen hg => ?_
  have KX := hY w _ Y
  obtain ⟨fd, hb, hF⟩ := F w mg fa _ KX G.T.g hmg
  exact lawCalled KX G.T.g G.T.b G.T.builtins G.T.nolimit hg hobj hints (Nat.le_trans hlen hn2) hr hF hb fun H hS => hsp w H a ns hlen hS
end FNX

set_option Elab.async false
set_option linter.all false
set_option maxRecDepth 100000
set_option maxHeartbeats 4000000
/-! ## List comprehensions of one name whose elements change nothing that is tracked -/
namespace FNX
open PySem PySem.Spec PyProof.Rows L2
theorem range_more {α : Type} (n : Nat) (f : Nat → α) : (List.range (n + 1)).map f = (List.range n).map f ++ [f n] := by
  rw [List.range_succ, List.map_append]
  rfl
theorem same_upd {H : Hp} {p : Addr} {o : HO} (h : H p = none) : Same H (upd H p o) := fun b u e => by
  rw [upd_ne (ne_of_none e h)]
  exact e
/-- a turn's end: the element y, the heap behind it -/
def LcT (B : Hp) (D : Addr) (f : Nat → V) (i : Nat) (y : V) (H : Hp) : Prop := ∃ acc, H D = some (.lst acc) ∧ acc.length < sizeLine ∧
  (Same B (upd H D (.lst (acc ++ [y]))) ∧ upd H D (.lst (acc ++ [y])) D = some (.lst ((List.range (i + 1)).map f)))
theorem lcT {B H H' : Hp} {D : Addr} {f : Nat → V} {i : Nat} {y : V} (hD : B D = none) (hi : i < 1000000) (sB : Same B H) (hd : H D = some (.lst ((List.range i).map f)))
    (s : Same H H') (e : y = f i) : LcT B D f i y H' := by
  refine ⟨_, s _ _ hd, ?_, fun b o z => ?_, ?_⟩
  · rw [List.length_map, List.length_range]
    exact Nat.lt_trans hi (by rw [sizeLine_eq]; decide)
  · rw [upd_ne (ne_of_none z hD)]
    exact s _ _ (sB _ _ z)
  · rw [upd_same, range_more, e]
section
variable {K : PySem.W.Frag} {te : TE} {vs : List Nat} {σ : L2.St} {B : Hp} {D : Addr} {Qd : Hp → Prop}
theorem lc_map {a : Addr} {xs : List V} {j : Nat} (f : Nat → V) (hD : B D = none) (hl : SqL K B a xs)
    (hw : ∀ x, wipe ((wipe σ vs).set j (some x)) vs = wipe σ vs)
    (hs : ∀ i x H, xs[i]? = some x → Same B H → H D = some (.lst ((List.range i).map f)) → te ((wipe σ vs).set j (some x)) H (LcT B D f i))
    (hd : ∀ H, Same B H → H D = some (.lst ((List.range xs.length).map f)) → Qd H) :
    ∃ W : Nat → Nat → Hp → Prop, (∃ m, W 0 m (upd B D (.lst []))) ∧ ∀ i m H, W i m H →
      ((Itl K a).stop i H ∧ Qd H) ∨ ((Itl K a).go i H ∧ ∃ Nx : Hp → Prop, (∀ H', Nx H' → ∃ m', m' < m ∧ W (i + 1) m' H') ∧
        ∀ x H', (Itl K a).yld i H x H' → gName j x (wipe σ vs) H' fun σ2 H2 => wipe σ2 vs = wipe σ vs ∧ tYes σ2 H2 fun b H3 =>
          if b = true then te σ2 H3 fun y H4 => ∃ acc, H4 D = some (.lst acc) ∧ acc.length < sizeLine ∧ Nx (upd H4 D (.lst (acc ++ [y]))) else Nx H3) :=
  lc_list (K := K) (a := a) (xs := xs) (fun i H => Same B H ∧ H D = some (.lst ((List.range i).map f))) ⟨same_upd hD, upd_same⟩
    (fun i H _ h => h.1.seq hl) (fun i x H hx h => ⟨hw x, hs i x H hx h.1 h.2⟩) fun H h => hd H h.1 h.2
theorem lc_mapR {lo : Int} {n j : Nat} (f : Nat → V) (hD : B D = none)
    (hw : ∀ x, wipe ((wipe σ vs).set j (some x)) vs = wipe σ vs)
    (hs : ∀ i H, i < n → Same B H → H D = some (.lst ((List.range i).map f)) → te ((wipe σ vs).set j (some (.int (lo + i)))) H (LcT B D f i))
    (hd : ∀ H, Same B H → H D = some (.lst ((List.range n).map f)) → Qd H) :
    ∃ W : Nat → Nat → Hp → Prop, (∃ m, W 0 m (upd B D (.lst []))) ∧ ∀ i m H, W i m H →
      ((Itr lo n).stop i H ∧ Qd H) ∨ ((Itr lo n).go i H ∧ ∃ Nx : Hp → Prop, (∀ H', Nx H' → ∃ m', m' < m ∧ W (i + 1) m' H') ∧
        ∀ x H', (Itr lo n).yld i H x H' → gName j x (wipe σ vs) H' fun σ2 H2 => wipe σ2 vs = wipe σ vs ∧ tYes σ2 H2 fun b H3 =>
          if b = true then te σ2 H3 fun y H4 => ∃ acc, H4 D = some (.lst acc) ∧ acc.length < sizeLine ∧ Nx (upd H4 D (.lst (acc ++ [y]))) else Nx H3) :=
  lc_range (lo := lo) (n := n) (fun i H => Same B H ∧ H D = some (.lst ((List.range i).map f))) ⟨same_upd hD, upd_same⟩
    (fun i H hi h => ⟨hw _, hs i H hi h.1 h.2⟩) fun H h => hd H h.1 h.2
end
end FNX

set_option Elab.async false
set_option linter.all false
set_option maxRecDepth 100000
set_option maxHeartbeats 4000000
/-! ## raise C(e), and e.value in an except suite -/
namespace FNX
open PySem PySem.Spec PyProof.Rows L2
section
variable {X : Cx} {x : Str} {C : Addr} {e : Expr} {ta : TA} {p pos : Pos}
/-- C(e), to be raised: its own dict d is new and holds the value -/
def tMkX (C : Addr) (ta : TA) : L2.St → Hp → XK → Prop := fun σ H Q => ta σ H fun vs H1 => ∃ v, vs = [v] ∧
  ∀ d H', H1 d = none → Same H1 H' → H' d = some (.xd [(("value" : Str), v)]) → Q (.ref C) (some d) H'
theorem pmk_x (T : Ex X.prog X.w X.K X.mg X.base x C) (tyC : PySem.W.typeIn X.K (.ref C) = some (.type "type")) (hr : Room 2 X.A) (hg : Gl X x) (ha : PA X (e :: []) ta)
    (hdb : (x == ("__debug__" : Str)) = false := by decide) (he : starEach (e :: []) X.env = (false, eval e X.env) :: starEach [] X.env := by rfl)
    (hpl : (backTo pos (starEach [] X.env)).any (·.1) = false := by rfl) : PMk X (.Call (.Name x p) [e] [] pos) (tMkX C ta) := by
  intro pins s σ H Q I h
  refine wpAny_Call_Name_kw (ld_glob I hg T.mgC ?_ hdb)
  refine PySem.W.callWith_K (h₀ := X.base) I.ok.mod.kin T.xc.kC (thn (ha.run pos pins s σ H _ I h) fun us s1 hu => ?_) he hpl
  obtain ⟨vs, H1, I1, r1, v, rfl, q⟩ := hu
  refine ⟨I1.kIn, ?_⟩
  obtain ⟨fI, fd, iC, tI, F1, hb, hk⟩ := T.mkd
  obtain ⟨nm, qn, N, bs, bm, sn, sub, ab, col, dd, k0, k1, k2, k3, k5, B, newId, initId, bmB, hC, F, L⟩ := T.xc.cls
  cases r1 with
  | cons rv rn =>
    cases rn
    rename_i u
    show wpAny _ _ (call (.ref C) [u]) _ _ _
    obtain ⟨hp, g, dr, tk, os⟩ := s1
    have sz : hp.objs.size ≤ hp.objs.size + 1 := Nat.le_succ _
    have hn : H1 (hp.objs.size + 1) = none := I1.hok.fresh sz
    have old : ∀ b o, hp.get? b = some o → ((hp.push (PySem.W.kdv_tup [u])).push (PySem.HandSPX.excO C hp.objs.size)).get? b = some o :=
      fun b o z => Heap.get?_push_of_some _ (Heap.get?_push_of_some _ z)
    have at1 : ((hp.push (PySem.W.kdv_tup [u])).push (PySem.HandSPX.excO C hp.objs.size)).get? (hp.objs.size + 1) =
        some (PySem.HandSPX.excO C hp.objs.size) := by heap_get
    have I2 : Inv X pins σ (upd H1 (hp.objs.size + 1) (exo (hp.objs.size + 1) C none))
        ⟨(hp.push (PySem.W.kdv_tup [u])).push (PySem.HandSPX.excO C hp.objs.size), g, dr, tk, os⟩ :=
      I1.laid (t' := tk) (o := exo (hp.objs.size + 1) C none) old sz (exo_ok at1)
    have r2 : Vals [V.ref (hp.objs.size + 1), v] [Value.ref (hp.objs.size + 1), u] := .cons rfl (.cons rv .nil)
    have hsp : spX C [V.ref (hp.objs.size + 1), v] (upd H1 (hp.objs.size + 1) (exo (hp.objs.size + 1) C none))
        (fun z H2 => z = .non ∧ ∃ d : Addr, H2 (hp.objs.size + 1) = some (exo (hp.objs.size + 1) C (some d)) ∧ H2 d = some (exd d [("value", v)]) ∧ H1 d = none ∧
          Q (.ref C) (some d) (upd (del H2 (hp.objs.size + 1)) d (.xd [("value", v)]))) (fun _ _ _ => False) := by
      refine ⟨_, _, rfl, upd_same, fun dx n ne => ⟨rfl, dx, upd_same, by rw [upd_ne ne, upd_same], ?_, ?_⟩⟩
      · rw [upd_ne ne] at n
        exact n
      rw [upd_ne ne] at n
      refine q dx _ n (fun b o z => ?_) upd_same
      have h1 : b ≠ dx := ne_of_none z n
      have h2 : b ≠ hp.objs.size + 1 := ne_of_none z hn
      rw [upd_ne h1, del_ne h2, upd_ne h2, upd_ne h1, upd_ne h2]
      exact z
    refine wpAny_call (called F L (I1.kIn _ _ hC) (by rw [sizeLine_eq]; exact (by decide : 1 ≤ 16777216)) (PySem.W.looks_findIn I1.kIn iC) (fun self => PySem.W.bind_fn I1.kIn self tI)
      (codeAny_mono (F1.run _ X.stack _ _ ⟨[Value.ref (hp.objs.size + 1), u], []⟩ [Value.ref (hp.objs.size + 1), u] _ _ (fun _ _ _ => False) (hr.make C [u] [])
        (I2.env0.make C [u] []) (hb _ [Value.ref (hp.objs.size + 1), u] I2.kIn rfl) r2 hsp) fun r s' hq' => ?_))
    cases r with
    | error er => exact False.elim hq'
    | ok fl =>
      cases fl with
      | ret u' =>
        obtain ⟨z, H2, os2, bare2, un2, hok2, rz, ez, d, ea, ed, hd1, q2⟩ := hq'
        subst ez
        obtain ⟨h2, g2, d2, t2, os'⟩ := s'
        exact ⟨rz, mk_end (raises_own T.xc.exC tyC) I1 sz old un2 hok2 os2 bare2 ea ed hd1 q2⟩
      | next => exact False.elim hq'
      | brk => exact False.elim hq'
      | cont => exact False.elim hq'
/-- raise C(e) -/
def tRaiseX (C : Addr) (W : WX) (ta : TA) : TS := fun _ σ H => tMkX C ta σ H fun cls d H' => W cls d σ H'
theorem ps_raiseX {W : WX} {pos2 : Pos} (hc : X.calm = true) (T : Ex X.prog X.w X.K X.mg X.base x C) (tyC : PySem.W.typeIn X.K (.ref C) = some (.type "type")) (hr : Room 2 X.A) (tk : Takes X W)
    (hg : Gl X x) (ha : PA X (e :: []) ta) (hdb : (x == ("__debug__" : Str)) = false := by decide)
    (he : starEach (e :: []) X.env = (false, eval e X.env) :: starEach [] X.env := by rfl) (hpl : (backTo pos (starEach [] X.env)).any (·.1) = false := by rfl) :
    PS X (.Raise (some (.Call (.Name x p) [e] [] pos)) none pos2) (tRaiseX C W ta) := ps_raise hc tk (pmk_x T tyC hr hg ha hdb he hpl)
/-- e.value, e the exception that the suite holds at a -/
def tByX (C : Addr) (a : Addr) (cls : Value) (d : Option Addr) (te : TE) : TE := fun σ H Q => te σ H fun y H1 => y = .ref a ∧ cls = .ref C ∧ ∃ (dd : Addr) (v : V), d = some dd ∧
  H1 dd = some (.xd [(("value" : Str), v)]) ∧ Q v H1
theorem pe_byX {a : Addr} {oe : Obj} {cls : Value} {d : Option Addr} {pn : List (Addr × Obj)} {te : TE} (T : XC X.K C) (hz : Zc cls d oe) (hf : ∃ vs, oe.data = .fields vs) (he : PE (X.suite a ((a, oe) :: pn)) e te)
    (hb : attributeBase e "value" X.env (eval e X.env) = eval e X.env := by rfl) : PE (X.suite a ((a, oe) :: pn)) (.Attribute e "value" pos) (tByX C a cls d te) := by
  refine ⟨fun pins s σ H Q I h => ?_⟩
  refine attr_of hb (thn (he.run pins s σ H _ I h) fun u s1 hh => ?_)
  obtain ⟨y, H1, I1, rx, rfl, rfl, dd, v, rfl, ea, q⟩ := hh
  obtain rfl : u = Value.ref a := rx
  obtain ⟨ha, _⟩ := I1.pin (a, oe) (List.mem_append_left _ List.mem_cons_self)
  obtain ⟨vs, hd⟩ := hf
  obtain ⟨mA, hns, hr⟩ := (show ObjOk X.prog X.w H1 s1.heap dd (.xd [(("value" : Str), v)]) from I1.hok dd _ ea)
  obtain ⟨od, ho, hl⟩ := lookIn_ns hns
  have l : List.lookup ("value" : Str) [(("value" : Str), v)] = some v := by simp [List.lookup]
  obtain ⟨u, hu, ru⟩ := RelO.some_of (v := v) (o := mA "value") (by rw [← l]; exact hr "value")
  have J : PySem.W.InstAt s1.heap a oe C (some od) := ⟨ha, hz.1, by unfold PySem.W.notCls; rw [hd] <;> rfl, by rw [hz.2]; exact ho⟩
  exact HandSPX.exc_get I1.kIn J T.ga T.gg T.exC (PySem.W.findObj_own T.hdC T.noV rfl (by rw [hl, hu])) (handed_of ru) ⟨v, H1, I1.tok _, ru, q⟩
end
end FNX

set_option Elab.async false
set_option linter.all false
set_option maxRecDepth 100000
set_option maxHeartbeats 4000000
/-! ## Further rules: xs[i] += e, min and max of a pair, the types of data -/
namespace FNX
open PySem PySem.Spec PyProof.Rows L2
open PySem.W (AlikeAll min_tuple_data max_tuple_data minD maxD minD_ints maxD_ints)
section
variable {X : Cx}
theorem pget_list : PGet X (fun o i H Q => rIxL X.K o i H Q) := by
  intro pins s σ H o i ov iv Q I ro ri h
  obtain ⟨p, xs, k, z, rfl, rfl, hq, he, q⟩ := h
  obtain rfl : ov = Value.ref p := ro
  obtain ⟨t, rfl⟩ := ri
  obtain ⟨its, r, pl, hz⟩ := I.list hq
  obtain ⟨j, h1, h2, h3, h4, h5⟩ := atI_get he
  obtain ⟨w, ew, rw'⟩ := r.get h2
  have hl := r.length
  have hn := line63
  have fin : EP X pins σ Q w s := ⟨z, H, I, rw', q⟩
  by_cases h0 : 0 ≤ k
  · have hj : k.toNat = j := by
      rw [seqIndex_of h0 h5] at h1
      exact Option.some.inj h1
    exact wpAny_getItem_list pl.isList h0 (by omega) (by rw [hj]; simpa using ew) fin
  · have hj : (k + (its.toArray.size : Int)).toNat = j := by
      rw [seqIndex_neg (by omega) h4] at h1
      rw [List.size_toArray, ← hl]
      exact Option.some.inj h1
    exact wpAny_getItem_list_neg pl.isList (by omega) (by rw [List.size_toArray] <;> omega) (by omega) (by rw [hj]; simpa using ew) fin
theorem pairReads {h : Heap} {i j : Int} {us : List Value} (r : Vals [V.int i, V.int j] us) : ReadsAll h us [.int i, .int j] [] := by
  cases r with
  | cons r1 r2 =>
    cases r2 with
    | cons r2 r3 =>
      cases r3
      obtain ⟨t1, rfl⟩ := r1
      obtain ⟨t2, rfl⟩ := r2
      exact ReadsAll.cons (as := []) (.int i t1) (ReadsAll.cons (as := []) (.int j t2) .nil)
theorem pairAlike (i j : Int) : AlikeAll [.int i, .int j] := by
  refine ⟨fun x hx y hy => ?_, fun x hx => ?_⟩
  · simp only [List.mem_cons, List.not_mem_nil, or_false] at hx hy
    rcases hx with rfl | rfl <;> rcases hy with rfl | rfl <;> rfl
  · simp only [List.mem_cons, List.not_mem_nil, or_false] at hx
    rcases hx with rfl | rfl <;> exact PyData.noConfusion
theorem intOfReads {h : Heap} {v : Value} {k : Int} {bs : List Addr} (r : Reads h v (.int k) bs) : RelV (.int k) v := by
  cases r
  exact ⟨_, rfl⟩
/-- min(t), max(t) of a pair of ints -/
def rMinT (f : Int → Int → Int) : List V → Hp → VK → Prop := fun vs H Q => ∃ (a : Addr) (i j : Int), vs = [V.ref a] ∧ H a = some (.tup [.int i, .int j]) ∧ Q (.int (f i j)) H
theorem cr_minT (hc : X.calm = true) (hu : X.A.units + 64 < cLine) : CallR X (.builtin "min") (rMinT min) := by
  intro pins s σ H vs us Q I r h
  obtain ⟨a, i, j, rfl, hs, q⟩ := h
  obtain ⟨its, rv, ht, _⟩ := I.tuple (SqT.of hs)
  rw [Vals.ref1 r]
  obtain ⟨o, h1, h2, n, h3⟩ := ht
  refine min_tuple_data (x := .int i) (xs := [.int j]) (I.ok.hd hc) ⟨o, h1, h2, n, h3⟩ (pairReads rv) (pairAlike i j) (by show X.A.units + 1 + 0 < cLine; omega) (fun k v h' tk bs e r2 kp => ?_)
  have e2 : minD (.int i) [.int j] = .int (min i j) := minD_ints i [j]
  rw [e2] at r2
  exact ⟨.int (min i j), H, I.kept kp, intOfReads r2, q⟩
theorem cr_maxT (hc : X.calm = true) (hu : X.A.units + 64 < cLine) : CallR X (.builtin "max") (rMinT max) := by
  intro pins s σ H vs us Q I r h
  obtain ⟨a, i, j, rfl, hs, q⟩ := h
  obtain ⟨its, rv, ht, _⟩ := I.tuple (SqT.of hs)
  rw [Vals.ref1 r]
  obtain ⟨o, h1, h2, n, h3⟩ := ht
  refine max_tuple_data (x := .int i) (xs := [.int j]) (I.ok.hd hc) ⟨o, h1, h2, n, h3⟩ (pairReads rv) (pairAlike i j) (by show X.A.units + 1 + 0 < cLine; omega) (fun k v h' tk bs e r2 kp => ?_)
  have e2 : maxD (.int i) [.int j] = .int (max i j) := maxD_ints i [j]
  rw [e2] at r2
  exact ⟨.int (max i j), H, I.kept kp, intOfReads r2, q⟩
end
/-! ### what an argument is, as data -/
def tyD : PyData → String
  | .none => "NoneType"
  | .bool _ => "bool"
  | .int _ => "int"
  | .str _ => "str"
  | .list _ => "list"
  | .tuple _ => "tuple"
  | .dict _ => "dict"
theorem rdTy {K : PySem.W.Frag} {H : Hp} {v : V} {d : PyData} (h : Rd K H v d) : TyX K H v (.type (tyD d)) := by
  cases h with
  | dat h =>
    cases h with
    | non => exact .base .non
    | bl b => exact .base (.bl b)
    | int i => exact .base (.int i)
    | str x => exact .base (.str x)
    | lst s _ =>
      rcases s with (s | ⟨o, s⟩) | ⟨o, its, n, e, c, _⟩
      · exact .base (.lst s)
      · exact .base (.frz s)
      · exact .kList e c
    | tup s _ =>
      rcases s with (s | ⟨o, s⟩) | s
      · exact .base (.tup s)
      · exact .fTuple s
      · obtain ⟨o, its, n, e, c, _⟩ := s
        exact .kTuple e c
  | dct kvs h => exact .base (.dK h)
def isI : PyData → Bool
  | .int _ => true
  | _ => false
def isLst : PyData → Bool
  | .list _ => true
  | _ => false
def within (lo hi : Int) : PyData → Bool
  | .int i => decide (lo ≤ i) && decide (i ≤ hi)
  | _ => false
def isB : PyData → Bool
  | .bool _ => true
  | _ => false
def isIB : PyData → Bool
  | .int _ => true
  | .bool _ => true
  | _ => false
theorem kitI (K : PySem.W.Frag) : ∀ d : PyData, PySem.W.kitOne K (.type (tyD d)) (.type "int") = some (isIB d)
  | .none => (kit_ty (by decide +kernel) : PySem.W.kitOne K (.type "NoneType") (.type "int") = some false)
  | .bool _ => (kit_ty (by decide +kernel) : PySem.W.kitOne K (.type "bool") (.type "int") = some true)
  | .int _ => (kit_ty (by decide +kernel) : PySem.W.kitOne K (.type "int") (.type "int") = some true)
  | .str _ => (kit_ty (by decide +kernel) : PySem.W.kitOne K (.type "str") (.type "int") = some false)
  | .list _ => (kit_ty (by decide +kernel) : PySem.W.kitOne K (.type "list") (.type "int") = some false)
  | .tuple _ => (kit_ty (by decide +kernel) : PySem.W.kitOne K (.type "tuple") (.type "int") = some false)
  | .dict _ => (kit_ty (by decide +kernel) : PySem.W.kitOne K (.type "dict") (.type "int") = some false)
theorem kitBo (K : PySem.W.Frag) : ∀ d : PyData, PySem.W.kitOne K (.type (tyD d)) (.type "bool") = some (isB d)
  | .none => (kit_ty (by decide +kernel) : PySem.W.kitOne K (.type "NoneType") (.type "bool") = some false)
  | .bool _ => (kit_ty (by decide +kernel) : PySem.W.kitOne K (.type "bool") (.type "bool") = some true)
  | .int _ => (kit_ty (by decide +kernel) : PySem.W.kitOne K (.type "int") (.type "bool") = some false)
  | .str _ => (kit_ty (by decide +kernel) : PySem.W.kitOne K (.type "str") (.type "bool") = some false)
  | .list _ => (kit_ty (by decide +kernel) : PySem.W.kitOne K (.type "list") (.type "bool") = some false)
  | .tuple _ => (kit_ty (by decide +kernel) : PySem.W.kitOne K (.type "tuple") (.type "bool") = some false)
  | .dict _ => (kit_ty (by decide +kernel) : PySem.W.kitOne K (.type "dict") (.type "bool") = some false)
theorem kitL (K : PySem.W.Frag) : ∀ d : PyData, PySem.W.kitOne K (.type (tyD d)) (.type "list") = some (isLst d)
  | .none => (kit_ty (by decide +kernel) : PySem.W.kitOne K (.type "NoneType") (.type "list") = some false)
  | .bool _ => (kit_ty (by decide +kernel) : PySem.W.kitOne K (.type "bool") (.type "list") = some false)
  | .int _ => (kit_ty (by decide +kernel) : PySem.W.kitOne K (.type "int") (.type "list") = some false)
  | .str _ => (kit_ty (by decide +kernel) : PySem.W.kitOne K (.type "str") (.type "list") = some false)
  | .list _ => (kit_ty (by decide +kernel) : PySem.W.kitOne K (.type "list") (.type "list") = some true)
  | .tuple _ => (kit_ty (by decide +kernel) : PySem.W.kitOne K (.type "tuple") (.type "list") = some false)
  | .dict _ => (kit_ty (by decide +kernel) : PySem.W.kitOne K (.type "dict") (.type "list") = some false)
mutual
theorem dpSame {K : PySem.W.Frag} {H H' : Hp} (s : Same H H') : ∀ (d : PyData) (v : V), Dp K H v d → Dp K H' v d
  | .none, _, h => by cases h; exact .non
  | .bool _, _, h => by cases h; exact .bl _
  | .int _, _, h => by cases h; exact .int _
  | .str _, _, h => by cases h; exact .str _
  | .list ds, _, h => by
    cases h with
    | lst h1 h2 => exact .lst (s.seq h1) (dpSameAll s ds _ h2)
  | .tuple ds, _, h => by
    cases h with
    | tup h1 h2 =>
      refine .tup ?_ (dpSameAll s ds _ h2)
      rcases h1 with (h1 | ⟨o, h1⟩) | h1
      · exact .inl (.inl (s _ _ h1))
      · exact .inl (.inr ⟨o, s _ _ h1⟩)
      · exact .inr h1
  | .dict _, _, h => by cases h
theorem dpSameAll {K : PySem.W.Frag} {H H' : Hp} (s : Same H H') : ∀ (ds : List PyData) (vs : List V), DpAll K H vs ds → DpAll K H' vs ds
  | [], _, h => by cases h; exact .nil
  | d :: ds, _, h => by
    cases h with
    | cons h1 h2 => exact .cons (dpSame s d _ h1) (dpSameAll s ds _ h2)
end
theorem rdSame {K : PySem.W.Frag} {H H' : Hp} (s : Same H H') {v : V} {d : PyData} (h : Rd K H v d) : Rd K H' v d := by
  cases h with
  | dat h => exact .dat (dpSame s d v h)
  | dct kvs h => exact .dct kvs (s _ _ h)
end FNX

set_option Elab.async false
set_option linter.all false
set_option maxRecDepth 100000
set_option maxHeartbeats 4000000
/-! ## Calls of a def that is walked where no repr runs further out -/
namespace FNX
open PySem PySem.Spec PyProof.Rows L2
section
variable {X : Cx} {k : Nat} {f : Addr} {fd : FuncData} {ps : List Str} {sp : Sp} {E : XK} {x : Str} {p pos : Pos} {e : Expr} {es : List Expr} {t : TA}
theorem pe_callG (hgd : X.A.guards = some []) (F : GOk X.prog X.w X.K X.mg X.base k f fd ps sp) (hr : Room k X.A) (hg : Gl X x) (hm : X.mg x = some (.ref f)) (hk : PySem.W.keepIn X.K (.ref f) = true) (hb : L2.Binds X.K fd ps []) (hx : Passes CX0 X E)
    (ha : PA X (e :: es) t) (hdb : (x == ("__debug__" : Str)) = false := by decide) (he : starEach (e :: es) X.env = (false, eval e X.env) :: starEach es X.env := by rfl) (hpl : (backTo pos (starEach es X.env)).any (·.1) = false := by rfl) :
    PE X (.Call (.Name x p) (e :: es) [] pos) (tCall sp [] E t) := by
  refine ⟨fun pins s σ H Q I h => ?_⟩
  refine wpAny_Call_Name_kw (ld_glob I hg hm ?_ hdb)
  refine PySem.W.callWith_K (h₀ := X.base) I.ok.mod.kin hk (thn (ha.run pos pins s σ H _ I h) fun us s1 ⟨vs, H1, I1, r, q⟩ => ⟨I1.kIn, ?_⟩) he hpl
  have r2 : Vals (vs ++ []) (us ++ []) := r.append .nil
  have hl : (us ++ ([] : List Value)).length = ps.length := by rw [← r2.length]; exact F.len _ _ _ _ q
  refine wpAny_call (codeAny_mono (F.run X.A X.stack s1 H1 ⟨us, []⟩ (us ++ []) (vs ++ []) Q E hgd hr I1.env0 (hb s1 us I1.kIn hl) r2 q) fun r s' hq => ?_)
  cases r with
  | error e => exact hx pins σ H1 s1 e s' I1 hq
  | ok fl =>
    cases fl with
    | ret u => exact I1.after hq
    | next => exact False.elim hq
    | brk => exact False.elim hq
    | cont => exact False.elim hq
/-- where a def stands that is walked so -/
def AtG (P : Program) (w : World) (K : PySem.W.Frag) (mg : Str → Option Value) (base : Heap) (k : Nat) (x : Str) (ps : List Str) (sp : Sp) : Prop :=
  ∃ f fd, GOk P w K mg base k f fd ps sp ∧ mg x = some (.ref f) ∧ PySem.W.keepIn K (.ref f) = true ∧ L2.Binds K fd ps []
end
end FNX

set_option Elab.async false
set_option linter.all false
set_option maxRecDepth 100000
set_option maxHeartbeats 4000000
/-! ## repr of a list whose items are data, a dict among them -/
namespace FNX
open PySem PySem.Spec PyProof.Rows L2
inductive RdAll (K : PySem.W.Frag) (H : Hp) : List V → List PyData → Prop
  | nil : RdAll K H [] []
  | cons {v : V} {vs : List V} {d : PyData} {ds : List PyData} (h : Rd K H v d) (hs : RdAll K H vs ds) : RdAll K H (v :: vs) (d :: ds)
/-- repr(xs), a list that is not empty -/
def rReprL (K : PySem.W.Frag) : List V → Hp → VK → Prop := fun xs H Q => ∃ a ys ds, xs = [.ref a] ∧ SqL K H a ys ∧ RdAll K H ys ds ∧ ys ≠ [] ∧ (PyData.list ds).showable = true ∧ (PyData.list ds).depth ≤ 60 ∧
  (PyData.list ds).shown.length ≤ sizeLine ∧ Q (.str (PyData.list ds).shown) H
section
variable {X : Cx} {pins : List (Addr × Obj)} {σ : L2.St} {H : Hp} {s : Shared}
theorem reprItems (I : Inv X pins σ H s) : ∀ {vs : List V} {ds : List PyData} {us : List Value}, RdAll X.K H vs ds → Vals vs us → PyData.showableAll ds = true → (∀ t ∈ PyData.shownAll ds, t.length ≤ sizeLine) →
    ∃ as bs, ReadsAll s.heap us ds as ∧ ReadAtMost s.heap (PyData.depthAll ds) bs ∧ ReprAllK X.prog X.w bs s.heap (PyData.depthAll ds) us (PyData.shownAll ds)
  | _, _, _, .nil, r, _, _ => by
    cases r
    refine ⟨[], [], .nil, (fun _ h => nomatch h), ?_⟩
    simp only [PyData.shownAll]
    exact .nil
  | _, _, _, .cons (d := d) (ds := ds) h hs', r, hs, hz => by
    cases r with
    | cons r1 r2 =>
      have sh : d.showable = true ∧ PyData.showableAll ds = true := by simpa [PyData.showableAll] using hs
      obtain ⟨as1, q1, m1⟩ := rdReads I h r1
      obtain ⟨b1, hb1, k1⟩ := ReprK.of_reads (prog := X.prog) (w := X.w) q1 sh.1 m1 (hz _ (by simp only [PyData.shownAll]; exact List.mem_cons_self ..))
      obtain ⟨as2, b2, q2, hb2, k2⟩ := reprItems I hs' r2 sh.2 (fun t ht => hz t (by simp only [PyData.shownAll]; exact List.mem_cons_of_mem _ ht))
      refine ⟨as1 ++ as2, b1 ++ b2, .cons q1 q2, ?_, ?_⟩
      · intro b hm
        simp only [PyData.depthAll]
        rcases List.mem_append.mp hm with hm | hm
        · obtain ⟨d', as', r', hd'⟩ := hb1 b hm
          exact ⟨d', as', r', Nat.le_trans hd' (Nat.le_max_left _ _)⟩
        · obtain ⟨d', as', r', hd'⟩ := hb2 b hm
          exact ⟨d', as', r', Nat.le_trans hd' (Nat.le_max_right _ _)⟩
      · simp only [PyData.depthAll, PyData.shownAll]
        exact .cons ((k1.more fun b hb => List.mem_append_left _ hb).level_le (Nat.le_max_left _ _)) (k2.more_le (fun b hb => List.mem_append_right _ hb) (Nat.le_max_right _ _))
theorem call_reprL (hg : X.A.guards = some []) (hu : X.A.units + 64 < cLine) : CallR X (.builtin "repr") (rReprL X.K) := by
  intro pins s σ H xs us Q I r h
  obtain ⟨a, ys, ds, rfl, hy, hd, hne, h1, h2, h3, q⟩ := h
  cases r with
  | cons r1 r2 =>
    cases r2
    cases r1
    obtain ⟨its, rv, ⟨o, n, ho, hc, _, hdt⟩, _⟩ := I.list hy
    have sh : PyData.showableAll ds = true := by simpa [PyData.showable] using h1
    have hz' : (listText (PyData.shownAll ds)).length ≤ sizeLine := by simpa only [PyData.shown] using h3
    obtain ⟨as, bs, hr, hb, hk⟩ := reprItems I hd rv sh fun t ht => Nat.le_trans (listText_mem_le ht) hz'
    have hdep : (PyData.list ds).depth = PyData.depthAll ds + 1 := by simp only [PyData.depth]
    have hna : a ∉ bs := not_mem_of_deeper (.list ho hc hdt hr) (by rw [hdep]; omega) hb
    have ek : ∀ b o, s.heap.get? b = some o → s.heap.get? b = some o := fun _ _ e => e
    refine call_repr_slot (T := "list") (idr := "list.__repr__") (by omega) ⟨o, ho, hc⟩ F.slot_list_repr.toG ?_
    cases its with
    | nil =>
      cases rv
      exact absurd rfl hne
    | cons u l =>
      refine call_list_reprK ho hc hdt hna (by simpa using hk.length_eq) (fun i y e => hk.item i y (by simpa using e)) (A := X.A.in1) hg (fun b _ => Clear.nil b) ?_ ek (fun h' u' tk k => ?_) hz'
      · have z : X.A.in1.units = X.A.units + 1 := rfl
        omega
      · refine ⟨_, _, rfl, ?_⟩
        have e : (PyData.list ds).shown = listText (PyData.shownAll ds) := by simp only [PyData.shown]
        rw [← e]
        exact ⟨.str (PyData.list ds).shown, H, I.un (t' := tk) (Un.kept k) (I.hok.kept k), ⟨u', rfl⟩, q⟩
end
end FNX

set_option Elab.async false
set_option linter.all false
set_option maxRecDepth 100000
set_option maxHeartbeats 8000000
/-! ## What a head leaves: classes of exceptions, defs, methods, a method with a default -/
namespace FNX
open PySem PySem.Spec PyProof.Rows L2
/-- the text of an `__init__` that stores its value -/
structure InitTxt (st : Stmt) : Prop where
  sc : FnScope ["self", "value"] ["self", "value"] (defScope st)
  body : ∃ q1 q2 q3 q4, defBody st = [.Assign [.Attribute (.Name "self" q1) "value" q2] (.Name "value" q3) q4]
  bind : ∀ (qual : Str) (kV doc pm : Value) (an : Option Addr) (cdv ct : Value) (us : List Value), us.length = (["self", "value"] : List Str).length →
    bindArgs (PySem.W.fnOf "__init__" qual (defArgs st) (defBody st) (defScope st) .none kV doc pm an cdv ct) ⟨us, []⟩ = pure ((["self", "value"] : List Str).zip us)
  bindK : ∀ (qual : Str) (kV doc pm : Value) (an : Option Addr) (cdv ct : Value) (u v : Value),
    bindArgs (PySem.W.fnOf "__init__" qual (defArgs st) (defBody st) (defScope st) .none kV doc pm an cdv ct) ⟨[u], [(("value" : Str), v)]⟩ = pure ((["self", "value"] : List Str).zip [u, v])
/-- a class of the program, as the top has left it -/
structure Cl (K : PySem.W.Frag) (mg : Str → Option Value) (x : Str) (C : Addr) : Prop where
  xc : XC K C
  mgC : mg x = some (.ref C)
  mkd : ∃ st qual f fd, InitTxt st ∧ PySem.W.findIn K (.ref C) "__init__" = some (some (.ref f)) ∧ PySem.W.typeIn K (.ref f) = some (.type "function") ∧ Fun K "__init__" qual st f fd
theorem Cl.ex {P : Program} {w : World} {K : PySem.W.Frag} {mg : Str → Option Value} {base : Heap} {x : Str} {C : Addr} (c : Cl K mg x C) : Ex P w K mg base x C := by
  obtain ⟨st, qual, f, fd, t, h1, h2, F⟩ := c.mkd
  refine ⟨c.xc, c.mgC, f, fd, h1, h2, xinit_ok F t.sc t.body c.xc, F.binds (t.bind qual), fun s u v => ?_⟩
  obtain ⟨oc, od, kV, doc, pm, an, cdv, ct, osl, rfl, _, _⟩ := F.ex
  exact .of_eq (t.bindK qual kV doc pm an cdv ct u v)
theorem chainVal {g : Addr} : Chain "ValueError" [.ref g, .type "ValueError", .type "Exception", .type "BaseException", .type "object"] := ⟨rfl, rfl, rfl, rfl, rfl, passVal.ref g⟩
theorem chainLook : Chain "LookupError" [.type "LookupError", .type "Exception", .type "BaseException", .type "object"] := ⟨by decide +kernel, by decide +kernel, by decide +kernel, by decide +kernel, rfl, passLook⟩
theorem chainRun : Chain "RuntimeError" [.type "RuntimeError", .type "Exception", .type "BaseException", .type "object"] := ⟨by decide +kernel, by decide +kernel, by decide +kernel, by decide +kernel, rfl, passRun⟩
theorem chainOver : Chain "OverflowError" [.type "OverflowError", .type "ArithmeticError", .type "Exception", .type "BaseException", .type "object"] := ⟨by decide +kernel, by decide +kernel, by decide +kernel, by decide +kernel, rfl, passOver⟩
section
variable {K : PySem.W.Frag} {h : Heap} {mg : Str → Option Value} {x qual : Str} {C f N T e : Addr} {st : Stmt} {B newId initId : String} {bm bmB bs sub : List Value} {nm q : Str} {sn : List Str} {ab : Bool} {col : Option Bool}
  {dd od an odT : Option Addr} {k0 k1 k2 k3 k5 : Option Value} {oc kV doc pm cd ct ocT : Value} {sl slT : Array (Option Value)} {nT : Nat}
theorem mkXC (F : ExcBaseFacts B newId initId bmB) (L : Chain B bm)
    (xC : K.lookup C = some (excClassObj nm q C N bs bm true sn sub ab col dd k0 k1 k2 k3 k5 newId))
    (sa : PySem.W.findIn K (.ref C) "__setattr__" = some (some (.builtin "object.__setattr__")))
    (ga : PySem.W.findIn K (.ref C) "__getattribute__" = some (some (.builtin "BaseException.__getattribute__"))) (gg : PySem.W.findIn K (.ref C) "__getattr__" = some none)
    (nv : PySem.W.findIn K (.ref C) "value" = some none) (eC : PySem.W.subIn K (.ref C) (.type "BaseException") = some true) (kC : PySem.W.keepIn K (.ref C) = true)
    (hd : PySem.W.hasDictIn K C = true) (ic : PySem.W.isClsIn K C = true) (cC : PySem.W.findIn K (.ref C) "__class__" = some (some (.builtin "object.__class__")))
    (mC : PySem.W.mroIn K C (.type "object") = some true) : XC K C :=
  ⟨⟨nm, q, N, bs, bm, sn, sub, ab, col, dd, k0, k1, k2, k3, k5, B, newId, initId, bmB, xC, F, L⟩, sa, ga, gg, nv, eC, kC, hd, ic, cC, mC⟩
theorem mkCl (X : K.In h) (G : h.Ns mainGlobals mg) (aC : PySem.W.nsIn K mainGlobals x = some (some (.ref C))) (xc : XC K C) (t : InitTxt st)
    (a1 : PySem.W.findIn K (.ref C) "__init__" = some (some (.ref f))) (t1 : PySem.W.typeIn K (.ref f) = some (.type "function"))
    (l1 : K.lookup f = some ⟨oc, od, .func (PySem.W.fnOf "__init__" qual (defArgs st) (defBody st) (defScope st) .none kV doc pm an cd ct), sl⟩)
    (c1 : PySem.W.codeIn K cd qual = true) (kf : PySem.W.keepIn K (.ref f) = true) : Cl K mg x C :=
  ⟨xc, PySem.W.mg_of X G aC, st, qual, f, _, t, a1, t1, fun_mk l1 c1 kf⟩
/-- a def -/
def FnF (K : PySem.W.Frag) (mg : Str → Option Value) (x : Str) (st : Stmt) (f : Addr) : Prop := mg x = some (.ref f) ∧ ∃ fd, Fun K x x st f fd
theorem mkF (X : K.In h) (G : h.Ns mainGlobals mg) (a1 : PySem.W.nsIn K mainGlobals x = some (some (.ref f)))
    (l1 : K.lookup f = some ⟨oc, od, .func (PySem.W.fnOf x x (defArgs st) (defBody st) (defScope st) .none kV doc pm an cd ct), sl⟩)
    (c1 : PySem.W.codeIn K cd x = true) (kf : PySem.W.keepIn K (.ref f) = true) : FnF K mg x st f := ⟨PySem.W.mg_of X G a1, _, fun_mk l1 c1 kf⟩
/-- a method of the class at C -/
def MtF (K : PySem.W.Frag) (C : Addr) (x qual : Str) (st : Stmt) (f : Addr) : Prop := Meth K C x f ∧ ∃ fd, Fun K x qual st f fd
theorem mkMt (a1 : PySem.W.findIn K (.ref C) x = some (some (.ref f))) (l1 : K.lookup f = some ⟨oc, od, .func (PySem.W.fnOf x qual (defArgs st) (defBody st) (defScope st) .none kV doc pm an cd ct), sl⟩)
    (c1 : PySem.W.codeIn K cd qual = true) (fn : PySem.W.isFn K (.ref f) = true) (kf : PySem.W.keepIn K (.ref f) = true) : MtF K C x qual st f := ⟨⟨a1, fn, kf⟩, _, fun_mk l1 c1 kf⟩
/-- an `__init__` with one default -/
def InF (K : PySem.W.Frag) (C : Addr) (qual : Str) (st : Stmt) (f e : Addr) : Prop := Mk K C f ∧ ∃ fd, FunD K "__init__" qual (defArgs st) (defBody st) (defScope st) [.ref e] [] f fd
theorem mkIn (mk : PySem.W.makesIn K C = true) (a1 : PySem.W.findIn K (.ref C) "__init__" = some (some (.ref f))) (fn : PySem.W.isFn K (.ref f) = true) (kC : PySem.W.keepIn K (.ref C) = true)
    (l1 : K.lookup f = some ⟨oc, od, .func (PySem.W.fnOf "__init__" qual (defArgs st) (defBody st) (defScope st) (.ref T) kV doc pm an cd ct), sl⟩) (lT : K.lookup T = some ⟨ocT, odT, .seq #[.ref e] nT, slT⟩)
    (c1 : PySem.W.codeIn K cd qual = true) (kf : PySem.W.keepIn K (.ref f) = true) : InF K C qual st f e :=
  ⟨⟨mk, a1, fn, kC⟩, _, ⟨oc, od, .ref T, kV, doc, pm, an, cd, ct, sl, rfl, l1, c1, .inr ⟨by simp, T, _, [.ref e], nT, rfl, lT, rfl, .cons rfl .nil⟩, .inl rfl⟩, kf⟩
end
end FNX

set_option Elab.async false
set_option linter.all false
set_option maxRecDepth 100000
set_option maxHeartbeats 4000000
/-! ## Doors: lambdas handed to a def that catches what they raise -/
namespace FNX
open PySem PySem.Spec PyProof.Rows L2

/-! ### a try with several clauses, each with the exception's name -/
def wMas (K : PySem.W.Frag) (i : Nat) (Wout : WX) (D : Ends) : List (Value × (Addr → Value → Option Addr → TS)) → WX
  | [] => Wout
  | q :: r => wAs K q.1 i q.2 (wMas K i Wout D r) D
abbrev SuiteOk (X : Cx) (l : List Stmt) (ts : Addr → Value → Option Addr → TS) : Prop :=
  ∀ (z : Addr) (oz : Obj) (cls : Value) (d : Option Addr) (pn : List (Addr × Obj)), Zc cls d oz → (∃ us, oz.data = .fields us) → PSs (X.suite z ((z, oz) :: pn)) l (ts z cls d)
inductive Clauses (X : Cx) (n : Str) : List ExceptHandler → List (Value × (Addr → Value → Option Addr → TS)) → Prop
  | nil : Clauses X n [] []
  | cons {x : Str} {c : Value} {ts : Addr → Value → Option Addr → TS} {b : Stmt} {l : List Stmt} {p1 p2 : Pos} {hs : List ExceptHandler} {r : List (Value × (Addr → Value → Option Addr → TS))}
      (hc : Names X x c) (hsu : SuiteOk X (b :: l) ts) (hr : Clauses X n hs r) : Clauses X n (.ExceptHandler (some (.Name x p1)) (some n) (b :: l) p2 :: hs) ((c, ts) :: r)
section
variable {X : Cx} {n : Str} {i : Nat} {body : List Stmt} {h1 : ExceptHandler} {hs : List ExceptHandler} {cl : List (Value × (Addr → Value → Option Addr → TS))} {pos : Pos} {tb : WX → TS} {Wout : WX}
/-- what the clauses are asked, once the exception is caught -/
abbrev caught (X : Cx) (pins : List (Addr × Obj)) (D : Ends) (l : List ExceptHandler) : Value → Shared → Prop := fun e s1 =>
  wpAny (model X.prog X.w) X.A (noteFrame e X.env) (fun _ s2 => wpAny (model X.prog X.w) X.A (setFlight e none)
    (fun _ s3 => wpAny (model X.prog X.w) X.A (handleBy e X.env l) (SP X pins D) X.xe s3) X.xe s2) X.xe s1
theorem ps_try_mas (hst : X.stack = X.env :: X.outer) (hfr : X.env.frame = some X.env.locals) (hN : X.N.Nodup) (hi : X.N[i]? = some n) (hn : X.env.kindOf n = some .local) (tk : Takes X Wout)
    (hb : ∀ (W : WX) (pn : List (Addr × Obj)) (xe : Value → Shared → Prop), Takes (X.tr pn xe) W → PassesOwn (model X.prog X.w) X.A X.env xe → PSs (X.tr pn xe) body (tb W))
    (hc : Clauses X n (h1 :: hs) cl) : PS X (.Try body (h1 :: hs) [] [] pos) (fun D σ H => tb (wMas X.K i Wout D cl) D σ H) := by
  refine ⟨fun pins s σ H D I h => wpAny_Try_except ?_⟩
  have ok := I.ok
  have fs : X.A.frames = some (X.env :: X.outer) := ok.frames.trans (congrArg some hst)
  refine wpAny_mono ((hb (wMas X.K i Wout D cl) (X.pn ++ pins) (caught X pins D (h1 :: hs)) (fun u s' got => ?_) PassesOwn.looking).run [] s σ H D (I.toTry _) h) (fun fl s1 z => ?_) (fun _ _ z => z)
  · obtain ⟨a, B, sI, pins', σ', H', cls, d, rfl, J', nb, up, sky, na, os, ag, wish⟩ := got
    have J : Inv X pins σ' H' sI := J'.ofTry ok
    refine Sky.land Zc.steady fs hfr (show Sky B (X.env :: X.outer) a (Zc cls d) X.env.locals s'.heap from hst ▸ sky) fun hp fly upp => ?_
    have up1 := up.trans upp
    obtain ⟨oz, fz, az, zz, dz⟩ := fly.there
    have off : a ∉ frs (X.env :: X.outer) := fun hm => by
      obtain ⟨_, o2, e2, no2⟩ := fly.2.2.1.mem hm
      obtain rfl : oz = o2 := Option.some.inj (az.symm.trans e2)
      exact no2 fz dz
    have offL : a ≠ X.env.locals := fun e => off (List.mem_filterMap.mpr ⟨X.env, List.mem_cons_self, by rw [hfr, e]⟩)
    have offF : a ∉ X.fs := fun hm => by
      obtain ⟨v, hv, q⟩ := List.mem_filterMap.mp hm
      exact off (List.mem_filterMap.mpr ⟨v, List.mem_cons_of_mem _ hv, q⟩)
    have J1 : Inv X pins σ' H' { s' with heap := hp } := J.landed nb fly.1 up1 os ag
    have walk : ∀ {l : List ExceptHandler} {r : List (Value × (Addr → Value → Option Addr → TS))}, Clauses X n l r → wMas X.K i Wout D r cls d σ' H' →
        wpAny (model X.prog X.w) X.A (handleBy (.ref a) X.env l) (SP X pins D) X.xe { s' with heap := hp } := by
      intro l r hl
      induction hl with
      | nil =>
        intro want
        refine wpAny_handleBy_nil ?_
        have leave : wpAny (model X.prog X.w) X.A (setFlight (.ref a) X.env.frame) (fun _ s4 => wpAny (model X.prog X.w) X.A (throw (.ref a) : Sem Flow) (SP X pins D) X.xe s4) X.xe { s' with heap := hp } := by
          rw [hfr]
          exact HandSPX.setFlight_upZ fly fun h4 held up4 => wpAny_throw (tk _ _ ⟨a, B, sI, pins, σ', H', cls, d, rfl, J, nb, up1.trans up4, .inr (.inr (by rw [hst]; exact held)), na, os, ag, want⟩)
        obtain ⟨_, _, _, ob, vb, T, _, _, hob, _, hdb, hTb, _⟩ := id fly
        unfold PySem.passOn
        refine wpAny_bind (wpAny_field hob hdb hTb ?_)
        have nz : ¬ ((Value.ref T == Value.none) = true) := by simp
        rw [if_neg nz]
        first
          | exact wpAny_bind leave
          | exact wpAny_bind (wpAny_pure (wpAny_bind leave))
      | @cons x c ts b l2 p1 p2 hs2 r2 hnm hsu _ ih =>
        intro want
        obtain ⟨bl, hbl, yes, no⟩ := want
        have S1 := J1.suite az dz na offL offF
        have named : ∀ {Q1 : Value → Shared → Prop} {E1 : Value → Shared → Prop}, Q1 c { s' with heap := hp } →
            wpAny (model X.prog X.w) (X.A.mark (some (.ref a))) (eval (.Name x p1) X.env) Q1 E1 { s' with heap := hp } := fun q1 => by
          obtain ⟨g1, g2, g3⟩ := hnm
          rcases g3 with g3 | ⟨g3, g4, g5⟩
          · exact ld_glob (X := X.suite a ((a, oz) :: (X.pn ++ pins))) S1 g1 g3 q1 g2
          · exact ld_blt (X := X.suite a ((a, oz) :: (X.pn ++ pins))) S1 g1 g3 g4 q1 g5 g2
        have itsType : PySem.W.Looks (model X.prog X.w) hp (typeOf (.ref a)) cls := fun A1 Q1 E1 s1 k1 q1 => wpAny_typeOf_ref (k1 _ _ az) (zz.1.symm ▸ q1)
        have match_ := PySem.W.exm_one (M := model X.prog X.w) J1.kIn itsType hbl
        refine wpAny_handleBy_cons (codeAny_handlers_test (named (match_.here ?_))) (by intro e; cases e)
        cases bl with
        | false =>
          have go := ih (no rfl)
          exact go
        | true =>
          refine codeAny_handlers_suite_as (HandSPX.lands_againZ fly fun h4 fly4 up4 => ?_)
          obtain ⟨o4, f4, a4, z4, d4⟩ := fly4.there
          have J4 : Inv X pins σ' H' { s' with heap := h4 } := J.landed nb fly4.1 (up1.trans up4) os ag
          refine store_ok (X := X.suite a ((a, o4) :: (X.pn ++ pins))) (v := .ref a) (J4.suite a4 d4 na offL offF) hN hi (.inl hn) rfl (fun s5 S5 => ?_) (.inr hn)
          refine wpAny_mono ((hsu a o4 cls d (X.pn ++ pins) z4 ⟨f4, d4⟩).run [] s5 _ H' _ S5 (yes rfl a na)) (fun fl s6 z => ?_) (fun _ _ z => z.elim)
          have done : ∀ {σ6 : L2.St} {H6 : Hp} {Q6 : Shared → Prop}, Inv (X.suite a ((a, o4) :: (X.pn ++ pins))) [] σ6 H6 s6 → (∀ s7, Inv X pins (σ6.set i none) H6 s7 → Q6 s7) →
              wpAny (model X.prog X.w) X.A (do bindName X.env n .none; unbindBehindTheSuite X.env n p2) (fun _ s7 => Q6 s7) X.xe s6 := fun S6 q6 => gone_ok (S6.unsuite ok) hN hi hn q6
          cases fl with
          | ret u =>
            obtain ⟨v6, σ6, H6, S6, r6, q6⟩ := z
            exact done S6 fun s7 J7 => ⟨v6, _, _, J7, r6, q6⟩
          | next =>
            obtain ⟨σ6, H6, S6, q6⟩ := z
            exact done S6 fun s7 J7 => ⟨_, H6, J7, q6⟩
          | brk =>
            obtain ⟨σ6, H6, S6, q6⟩ := z
            exact done S6 fun s7 J7 => ⟨_, H6, J7, q6⟩
          | cont =>
            obtain ⟨σ6, H6, S6, q6⟩ := z
            exact done S6 fun s7 J7 => ⟨_, H6, J7, q6⟩
    exact walk hc wish
  · cases fl with
    | ret u =>
      obtain ⟨v, σ1, H1, J1, rv, q⟩ := z
      exact ⟨v, σ1, H1, J1.ofTry ok, rv, q⟩
    | next =>
      obtain ⟨σ1, H1, J1, q⟩ := z
      exact wpAny_execs_nil ⟨σ1, H1, J1.ofTry ok, q⟩
    | brk =>
      obtain ⟨σ1, H1, J1, q⟩ := z
      exact ⟨σ1, H1, J1.ofTry ok, q⟩
    | cont =>
      obtain ⟨σ1, H1, J1, q⟩ := z
      exact ⟨σ1, H1, J1.ofTry ok, q⟩
end

/-! ### a def whose code object is known -/
structure FunC (K : PySem.W.Frag) (x qual : Str) (st : Stmt) (f : Addr) (fd : FuncData) (c : Addr) : Prop where
  ex : ∃ (oc : Value) (od : Option Addr) (kV doc pm : Value) (an : Option Addr) (ct : Value) (osl : Array (Option Value)),
    fd = PySem.W.fnOf x qual (defArgs st) (defBody st) (defScope st) .none kV doc pm an (.ref c) ct ∧ K.lookup f = some ⟨oc, od, .func fd, osl⟩ ∧ PySem.W.codeIn K (.ref c) qual = true
  kp : PySem.W.keepIn K (.ref f) = true
section
variable {P : Program} {w : World} {K : PySem.W.Frag} {mg : Str → Option Value} {base : Heap}
theorem okGC {x qual : Str} {st : Stmt} {f c : Addr} {fd : FuncData} {N ps : List Str} {k : Nat} {sp : Sp} (F : FunC K x qual st f fd c) (S : FnScope N ps (defScope st))
    (len : ∀ vs H Q E, sp vs H Q E → vs.length = ps.length)
    (hbody : ∀ (A : Around) (outer : List Env) (s : Shared) (H : Hp) (vs : List V) (Q : VK) (E : XK), A.guards = some [] →
      Room k (A.deeper (envOfC qual (defScope st) s.heap.objs.size f (.ref c))) → sp vs H Q E →
      ∃ t, PSs (cxOf CX0 P w K mg base N qual (defScope st) f (.ref c) A outer s H E).nox (defBody st) t ∧ t { nx := fun _ H' => Q .non H', rt := Q } (start N vs) H) :
    GOk P w K mg base (k + 1) f fd ps sp := by
  refine ⟨len, fun A outer s H args us vs Q E hg hr e0 hb r hs => ?_⟩
  obtain ⟨oc, od, kV, doc, pm, an, ct, osl, rfl, lk, hcd⟩ := F.ex
  refine LamX.run_ofS (CX := CX0) lk hcd S hr e0 hb r (len _ _ _ _ hs) fun hr' => ?_
  obtain ⟨t, ht, q⟩ := hbody A outer s H vs Q E hg hr' hs
  exact ⟨t, ht.nox, q⟩
end

/-! ### what a def makes of a door -/
def wErr (K : PySem.W.Frag) (mk : Str → Str → Hp → (V → Hp → Prop) → Prop) (Q : VK) : List (Addr × Str) → XK
  | [] => fun _ _ _ => False
  | q :: r => fun cls d H => ∃ b, PySem.W.exmOne K cls (.ref q.1) = some b ∧
      (b = true → cls = .ref q.1 ∧ ∃ (dd : Addr) (v : V) (dt : PyData), d = some dd ∧ H dd = some (.xd [(("value" : Str), v)]) ∧ Rd K H v dt ∧ dt.showable = true ∧ dt.depth ≤ 60 ∧ dt.shown.length ≤ sizeLine ∧ mk q.2 dt.shown H Q) ∧
      (b = false → wErr K mk Q r cls d H)
/-- [word, repr(e.value)] -/
def mkPair : Str → Str → Hp → (V → Hp → Prop) → Prop := fun word text H Q => ∀ p, H p = none → Q (.ref p) (upd H p (.lst [.str word, .str text]))
/-- repr(e.value) -/
def mkText : Str → Str → Hp → (V → Hp → Prop) → Prop := fun _ text H Q => Q (.str text) H
def TErr (K : PySem.W.Frag) (mk : Str → Str → Hp → (V → Hp → Prop) → Prop) (cl : List (Addr × Str)) : (XK → Hp → VK → Prop) → Hp → VK → Prop :=
  fun tl H Q => tl (wErr K mk Q cl) H (fun _ H' => Q .non H')

/-! ### the law's own call, where tables of code objects grow -/
section
variable {P : Program} {w : World} {K : PySem.W.Frag} {mg mb : Str → Option Value} {k : Nat} {fa a : Addr} {fd : FuncData} {x : Str} {sp : Sp} {s : Shared} {vs : List Value} {ns : List Int} {cs : List (Addr × Addr)}
/-- the module's own dict of built-ins, as the top has left it -/
abbrev BMain (mg : Str → Option Value) (h : Heap) : Prop :=
  ∃ (bm : Addr) (ob : Obj), mg "__builtins__" = some (.ref bm) ∧ bm ≠ builtinsNs ∧ h.get? bm = some ob ∧ ob.cls = .type "module" ∧ ob.dict = some builtinsNs ∧ ob.data = .plain
theorem lawFromT {H : Hp} (KX : K.In s.heap) (hns : s.heap.Ns mainGlobals mg) (hb : s.heap.Ns builtinsNs mb) (hbb : ∀ x : Str, x ≠ "__name__" → mb x = bootBuiltins x)
    (hlim : s.heap.NoLimit) (hg : s.gens = #[]) (hr : Room k callerA)
    (hT : ∀ q ∈ cs, s.heap.get? q.2 = some (PySem.W.tabObj #[])) (hC : ∀ q ∈ cs, PySem.W.CodeHd s.heap q.1 q.2) (hbm : BMain mg s.heap)
    (F : ∀ base : Heap, K.In base → base.Ns mainGlobals mg → (∀ q ∈ cs, LamX.TabB base mg q.1 q.2) → GOk P w K mg base k fa fd [x] sp) (hbind : ∀ (s : Shared) (u : Value), BindsTo s fd ⟨[u], []⟩ [(x, u)])
    (hsp : sp [.ref a] H (fun v _ => v = .bl true) fun _ _ _ => False) (hok : HOk P w H s.heap) (hH : ∀ q ∈ cs, H q.2 = some (.tbl #[]))
    (hall : ∀ b u, H b = some u → K.lookup b = none ∧ ((∃ q ∈ cs, b = q.2) ∨ ((∃ o xs, u = .frz o (.lst xs)) ∧ ∃ o us m, s.heap.get? b = some o ∧ o.data = .seq us m))) :
    codeAny (model P w) callerA (.call (.ref fa) ⟨[.ref a], []⟩) (LawEnd s) s := by
  have seen : ∀ {b : Addr} {o : Obj}, s.heap.get? b = some o → H b = none → (hidT s.heap H).get? b = some o := fun e n => hidT_get e n
  have away : ∀ {b : Addr} {o : Obj}, s.heap.get? b = some o → (∀ us m, o.data ≠ .seq us m) → o.data ≠ .fields #[] → H b = none := fun {b o} e n1 n2 => by
    cases q : H b with
    | none => rfl
    | some u =>
      rcases (hall b u q).2 with ⟨t, ht, rfl⟩ | ⟨_, o2, us, m, e2, d2⟩
      · obtain rfl := Option.some.inj (e.symm.trans (hT t ht))
        exact absurd rfl n2
      · obtain rfl := Option.some.inj (e.symm.trans e2)
        exact absurd d2 (n1 us m)
  have dicts : ∀ {b : Addr} {o : Obj} {es : Array DictEntry} {ep : Nat}, s.heap.get? b = some o → o.data = .dict es ep → H b = none := fun e d =>
    away e (fun us m z => by rw [d] at z; cases z) (fun z => by rw [d] at z; cases z)
  have keep : ∀ {b : Addr} {m : Str → Option Value}, s.heap.Ns b m → (hidT s.heap H).Ns b m := fun n => by
    obtain ⟨o, es, ep, e, d, r⟩ := n
    exact ⟨o, es, ep, seen e (dicts e d), d, r⟩
  have kin : K.In (hidT s.heap H) := fun b o e => seen (KX b o e) (by
    cases q : H b with
    | none => rfl
    | some u =>
      rw [(hall b u q).1] at e
      cases e)
  have mod : Mod K mg (hidT s.heap H) := ⟨kin, keep hns, ⟨mb, keep hb, hbb⟩, by
    obtain ⟨mc, h1, h2⟩ := hlim
    exact ⟨mc, keep h1, h2⟩⟩
  have tabs : ∀ q ∈ cs, LamX.TabB (hidT s.heap H) mg q.1 q.2 := fun q hq => by
    have tq := hT q hq
    refine ⟨?_, ?_, fun z => ?_⟩
    · obtain ⟨o, us, file, tf, fl, tg, inF, tx, tt, e1, r1, r2, r3, rest⟩ := hC q hq
      refine ⟨o, us, file, tf, fl, tg, inF, tx, tt, seen e1 (away e1 (fun us' m z => ?_) fun z => ?_), r1, r2, r3, rest⟩
      · rw [r2] at z
        cases z
      · rw [r2] at z
        injection z with z
        rw [z] at r3
        simp at r3
    · obtain ⟨bm, ob, m1, m2, m3, m4, m5, m6⟩ := hbm
      refine ⟨bm, ob, m1, m2, fun z => ?_, fun z => ?_, seen m3 (away m3 (fun us' m z => ?_) fun z => ?_), m4, m5, m6⟩
      · obtain ⟨o, es, ep, e, d, _⟩ := hns
        rw [z, e] at m3
        obtain rfl := Option.some.inj m3
        rw [d] at m6
        cases m6
      · rw [z, tq] at m3
        obtain rfl := Option.some.inj m3
        cases m6
      · rw [m6] at z
        cases z
      · rw [m6] at z
        cases z
    · obtain ⟨o, es, ep, e, d, _⟩ := hns
      rw [z, tq] at e
      obtain rfl := Option.some.inj e
      cases d
  have e0 : Env0 P w K mg (hidT s.heap H) callerA [] s H :=
    ⟨rfl, mod, fun b o e => of_hidT e, Nat.le_of_eq (hidT_size _ _), trivial, fun b hb => absurd (show b ∈ ([] : List Addr) from hb) (by simp), hok, .of_eq hg⟩
  refine codeAny_mono ((F _ kin (keep hns) tabs).run callerA [] s H ⟨[.ref a], []⟩ [.ref a] [.ref a] _ _ rfl hr e0 (hbind s (.ref a)) (.cons rfl .nil) hsp) fun r s' z => ?_
  cases r with
  | error e => exact False.elim z
  | ok fl =>
    cases fl with
    | next => exact False.elim z
    | brk => exact False.elim z
    | cont => exact False.elim z
    | ret u =>
      obtain ⟨v, H', os, bare, un, hok', rv', q⟩ := z
      obtain rfl : v = .bl true := q
      obtain rfl : u = Value.bool true := rv'
      have grown : ∀ t ∈ cs, ∃ more : Array Value, s'.heap.get? t.2 = some { cls := .none, data := .fields more } := fun t ht => by
        obtain ⟨more, z⟩ := un.tbls t.2 #[] (hH t ht)
        exact ⟨_, hok' t.2 _ z⟩
      have same : ∀ b o, s.heap.get? b = some o → (∀ t ∈ cs, b ≠ t.2) → s'.heap.get? b = some o := fun b o e nt => by
        cases q : H b with
        | none => exact un.keep b o e q (fun z => absurd (show b ∈ ([] : List Addr) from z) (by simp)) (by simp)
        | some u =>
          rcases (hall b u q).2 with ⟨t, ht, z⟩ | ⟨⟨ob, xs, rfl⟩, _⟩
          · exact absurd z (nt t ht)
          obtain ⟨e1, _⟩ := hok b _ q
          obtain ⟨e2, _⟩ := hok' b _ (un.frzs b ob _ q)
          obtain rfl := Option.some.inj (e.symm.trans e1)
          exact e2
      have way : ∀ b : Addr, (∃ t ∈ cs, b = t.2) ∨ ∀ t ∈ cs, b ≠ t.2 := fun b => by
        by_cases c : ∃ t ∈ cs, b = t.2
        · exact .inl c
        · exact .inr fun t ht z => c ⟨t, ht, z⟩
      refine ⟨rfl, ⟨fun b o e => ?_, fun b o e => ?_⟩, os, bare⟩
      · rcases way b with ⟨t, ht, rfl⟩ | nt
        · obtain ⟨more, hm⟩ := grown t ht
          obtain rfl := Option.some.inj (e.symm.trans (hT t ht))
          exact .inr (.inl ⟨((hC t ht).tab (hT t ht)).isCodeTable, rfl, #[], more, rfl, by rw [Array.empty_append]; exact hm⟩)
        · exact .inl (same b o e nt)
      · rcases way b with ⟨t, ht, rfl⟩ | nt
        · obtain ⟨more, hm⟩ := grown t ht
          exact ⟨_, hm⟩
        · exact ⟨o, same b o e nt⟩
theorem lawCalledT (KX : K.In s.heap) (hns : s.heap.Ns mainGlobals mg) (hb : s.heap.Ns builtinsNs mb) (hbb : ∀ x : Str, x ≠ "__name__" → mb x = bootBuiltins x)
    (hlim : s.heap.NoLimit) (hg : s.gens = #[]) (hT : ∀ q ∈ cs, s.heap.get? q.2 = some (PySem.W.tabObj #[])) (nT : ∀ q ∈ cs, K.lookup q.2 = none) (hC : ∀ q ∈ cs, PySem.W.CodeHd s.heap q.1 q.2) (hbm : BMain mg s.heap)
    (ha : s.heap.get? a = some { cls := .type "list", data := .seq vs.toArray }) (hi : IntsAre vs ns) (hl : ns.length ≤ sizeLine)
    (hr : Room k callerA) (F : ∀ base : Heap, K.In base → base.Ns mainGlobals mg → (∀ q ∈ cs, LamX.TabB base mg q.1 q.2) → GOk P w K mg base k fa fd [x] sp)
    (hbind : ∀ (s : Shared) (u : Value), BindsTo s fd ⟨[u], []⟩ [(x, u)])
    (hsp : ∀ H : Hp, (∀ q ∈ cs, H q.2 = some (.tbl #[])) → SqL K H a (ns.map V.int) → sp [.ref a] H (fun v _ => v = .bl true) fun _ _ _ => False) :
    codeAny (model P w) callerA (.call (.ref fa) ⟨[.ref a], []⟩) (LawEnd s) s := by
  have rv := vals_ints hi
  have lenV := hi.length
  have aT : ∀ q ∈ cs, a ≠ q.2 := fun q hq z => by
    have e := hT q hq
    rw [← z, ha] at e
    have d := congrArg Obj.data (Option.some.inj e)
    cases d
  classical
  -- the script, where it isn't written
  let T : Hp := fun b => if ∃ q ∈ cs, b = q.2 then some (.tbl #[]) else none
  have atT : ∀ q ∈ cs, T q.2 = some (.tbl #[]) := fun q hq => if_pos ⟨q, hq, rfl⟩
  have ofT : ∀ {b u}, T b = some u → (∃ q ∈ cs, b = q.2) ∧ u = .tbl #[] := fun {b u} z => by
    by_cases c : ∃ q ∈ cs, b = q.2
    · exact ⟨c, (Option.some.inj ((if_pos c).symm.trans z)).symm⟩
    · cases (if_neg c).symm.trans z
  have okT : ∀ {b u}, T b = some u → ObjOk P w T s.heap b u ∧ ∀ H, ObjOk P w H s.heap b u := fun {b u} z => by
    obtain ⟨⟨q, hq, rfl⟩, rfl⟩ := ofT z
    exact ⟨hT q hq, fun _ => hT q hq⟩
  cases hk : K.lookup a with
  | some o =>
    have e := KX a o hk
    rw [ha] at e
    cases e
    refine lawFromT (H := T) KX hns hb hbb hlim hg hr hT hC hbm F hbind (hsp _ atT (.inr ⟨_, vs.toArray, _, hk, rfl, rfl, rfl, ?_, ?_⟩)) (fun b u z => (okT z).1) atT (fun b u z => ?_)
    · rw [List.size_toArray, lenV]
      exact hl
    · simpa using rv
    · obtain ⟨⟨q, hq, rfl⟩, _⟩ := ofT z
      exact ⟨nT q hq, .inl ⟨q, hq, rfl⟩⟩
  | none =>
    let U : Hp := fun b => if b = a then some (.frz { cls := .type "list", data := .seq vs.toArray } (.lst (ns.map V.int))) else T b
    have atU : ∀ q ∈ cs, U q.2 = some (.tbl #[]) := fun q hq => (if_neg (Ne.symm (aT q hq))).trans (atT q hq)
    have atA : U a = some (.frz { cls := .type "list", data := .seq vs.toArray } (.lst (ns.map V.int))) := if_pos rfl
    have ofU : ∀ {b u}, U b = some u → (b = a ∧ u = .frz { cls := .type "list", data := .seq vs.toArray } (.lst (ns.map V.int))) ∨ T b = some u := fun {b u} z => by
      by_cases c : b = a
      · exact .inl ⟨c, (Option.some.inj ((if_pos c).symm.trans z)).symm⟩
      · exact .inr ((if_neg c).symm.trans z)
    refine lawFromT (H := U) KX hns hb hbb hlim hg hr hT hC hbm F hbind (hsp _ atU (.inl (.inr ⟨_, atA⟩))) (fun b u z => ?_) atU (fun b u z => ?_)
    · rcases ofU z with ⟨rfl, rfl⟩ | z
      · exact ⟨ha, by rw [List.length_map]; exact hl, vs, _, rv, ha⟩
      · exact (okT z).2 _
    · rcases ofU z with ⟨rfl, rfl⟩ | z
      · exact ⟨hk, .inr ⟨⟨_, _, rfl⟩, _, _, _, ha, rfl⟩⟩
      · obtain ⟨⟨q, hq, rfl⟩, _⟩ := ofT z
        exact ⟨nT q hq, .inl ⟨q, hq, rfl⟩⟩
/-- what the head tells of a def with doors: its code object and the table -/
structure Door (K : PySem.W.Frag) (mg : Str → Option Value) (xs : List Str) (x : Str) (c Pt : Addr) : Prop where
  mem : x ∈ xs
  fn : ∃ f o fd e dd us sl, mg x = some (.ref f) ∧ K.lookup f = some o ∧ o.data = .func fd ∧ fd.code = .ref c ∧ K.lookup c = some ⟨e, dd, .fields us, sl⟩ ∧ us[11]? = some (.ref Pt)
  hd : PySem.W.codeHdIn K c Pt = true
  no : K.lookup Pt = none
/-- what the head leaves, from the law's promise; xs: the defs with doors -/
theorem walkGT {l : PySem.W.OpenLaw} {n k : Nat} {q : Program} {loose : List Str} {XP : (Str → Option Value) → Heap → Prop} {YP : World → Heap → Prop} {d : DefRec} {K : Params → PySem.W.Frag} {sp : World → List (Addr × Addr) → Sp} {x : Str} (xs : List Str)
    (hn : l.most = some n) (hn2 : n ≤ sizeLine) (hdf : d.params.defaults = []) (hr : Room k callerA) (hxs : xs.all (fun y => (recsOf q).any fun e => e.name == y) = true) (hY : ∀ (w : World) (h : Heap), YP w h → (K w.params).In h)
    (F : ∀ (w : World) (mg : Str → Option Value) (fa : Addr) (h : Heap), (K w.params).In h → h.Ns mainGlobals mg → mg d.name = some (.ref fa) →
      ∃ (fd : FuncData) (cs : List (Addr × Addr)), (∀ p ∈ cs, ∃ y, Door (K w.params) mg xs y p.1 p.2) ∧ (∀ (s : Shared) (u : Value), BindsTo s fd ⟨[u], []⟩ [(x, u)]) ∧
        (∀ (H : Hp) (a : Addr) (ns : List Int), ns.length ≤ n → (∀ p ∈ cs, H p.2 = some (.tbl #[])) → SqL (K w.params) H a (ns.map V.int) → sp w cs [.ref a] H (fun v _ => v = .bl true) fun _ _ _ => False) ∧
        ∀ base : Heap, (K w.params).In base → base.Ns mainGlobals mg → (∀ p ∈ cs, LamX.TabB base mg p.1 p.2) → GOk l.prog w (K w.params) mg base k fa fd [x] (sp w cs)) :
    PySem.W.WalkO q loose XP YP l.row.toRowW d [] (fun f vs => PySem.call f vs) := by
  refine Att.attach_call hn hdf fun w s₀ s₁ mg mb fa o pm cd doc a vs ns G Y ho hd hcd hmg hobj hints hlen hg => ?_
  have KX := hY w _ Y
  obtain ⟨fd, cs, hD, hb, hsp, hF⟩ := F w mg fa _ KX G.T.g hmg
  refine lawCalledT KX G.T.g G.T.b G.T.builtins G.T.nolimit hg (fun p hp => ?_) (fun p hp => ?_) (fun p hp => ?_) G.T.bmain hobj hints (Nat.le_trans hlen hn2) hr hF hb fun H hH hS => hsp H a ns hlen hH hS
  · obtain ⟨y, D⟩ := hD p hp
    obtain ⟨r, hr1, hr2⟩ := List.any_eq_true.mp (List.all_eq_true.mp hxs y D.mem)
    obtain rfl : r.name = y := beq_iff_eq.mp hr2
    obtain ⟨f', o', fd', c', P', t1, t2, t3, t4, _, t6⟩ := G.T.tab r hr1
    obtain ⟨f2, o2, fd2, e2, dd2, us2, sl2, d1, d2, d3, d4, d5, d6⟩ := D.fn
    obtain rfl : f2 = f' := by
      rw [d1] at t1
      injection t1 with t1
      injection t1
    obtain rfl : o2 = o' := Option.some.inj ((KX _ _ d2).symm.trans t2)
    rw [d3] at t3
    injection t3 with t3
    rw [← t3, d4] at t4
    injection t4 with t4
    obtain ⟨⟨o3, v3, g1, _, g3, g4⟩, g5⟩ := t6
    rw [← t4, KX _ _ d5] at g1
    obtain rfl := Option.some.inj g1
    injection g3 with g3
    rw [← g3, d6] at g4
    injection g4 with g4
    injection g4 with g4
    rw [g4]
    exact g5
  · obtain ⟨y, D⟩ := hD p hp
    exact D.no
  · obtain ⟨y, D⟩ := hD p hp
    exact PySem.W.codeHd_of_K KX D.hd
end
end FNX

set_option Elab.async false
set_option linter.all false
set_option maxRecDepth 100000
set_option maxHeartbeats 4000000
namespace FNX
open PySem PySem.Spec PyProof.Rows L2
theorem takes_len {X : Cx} {W : WX} (tk : Takes X W) : Takes X (fun cls d σ H => σ.length = X.N.length → W cls d σ H) := fun e s' x => tk e s' (by
  obtain ⟨a, B, sI, pins, σ, H, cls, d, h1, J, h2, h3, h4, h5, h6, h7, w⟩ := x
  exact ⟨a, B, sI, pins, σ, H, cls, d, h1, J, h2, h3, h4, h5, h6, h7, w J.len⟩)
theorem len3 {α : Type} {l : List α} (h : l.length = 3) : ∃ a b c, l = [a, b, c] := by
  match l, h with
  | [a, b, c], _ => exact ⟨a, b, c, rfl⟩
def tDoor (f c' : Addr) (q : Str) (tl : XK → Hp → VK → Prop) : WX → TS := fun W D σ H =>
  ∃ Ech : XK, (∀ cls d H' σ', Ech cls d H' → σ'.length = 3 → W cls d σ' H') ∧ σ[0]? = some (some (.ref f)) ∧ H c' = some (LamX.CodeO c' q) ∧ tl Ech H (fun _ H' => D.nx σ H')
def TErrK (K : PySem.W.Frag) (mk : Str → Str → Hp → (V → Hp → Prop) → Prop) (cl : List (Addr × Str)) : (XK → Hp → VK → Prop) → Hp → VK → Prop :=
  fun tl H Q => tl (wErr K mk Q cl) H (fun _ H' => ∃ v : V, some (some V.non) = some (some v) ∧ Q v H')
section
variable {X : Cx}
theorem pe_door {T : List (Addr × Str)} {TT : (XK → Hp → VK → Prop) → Hp → VK → Prop} {st : Stmt} {g c Pt : Addr} {fd : FuncData} {k : Nat} {params : Arguments} {body : Expr} {scope : Scope} {t : XK → TE} {p lpos pos : Pos}
    (hg : Gl X "_law_error") (hm : X.mg "_law_error" = some (.ref g)) (F : Fun X.K "_law_error" "_law_error" st g fd) (hb : L2.Binds X.K fd ["_law_door"] []) (Sg : FnScope ["_law_door", "_law_kept", "e"] ["_law_door"] (defScope st))
    (hva : Vis (defScope st) "_law_door") (hG : ∀ cdg, LamX.GivesTo X ["_law_door", "_law_kept", "e"] "_law_error" (defScope st) g cdg (defBody st) "_law_door" (X.env.qual ++ "<lambda>") TT)
    (TB : LamX.TabB X.base X.mg c Pt) (hcode : X.env.code = .ref c) (hmT : (Pt, X.env.qual ++ "<lambda>") ∈ T) (hu : ∀ p ∈ T, p.1 = Pt → p.2 = X.env.qual ++ "<lambda>") (hr : Room (k + 2) X.A)
    (L : LamX.LamS X.env.scope scope) (hdef : defaultsOf params X.env = ([], []))
    (hbind : ∀ (q : Str) (cl : List (Str × Addr)) (pm cv ctv : Value), bindArgs (PySem.W.kla_fn "<lambda>" q params body scope cl pm cv ctv) ⟨[], []⟩ = pure [])
    (hbody : ∀ (A : Around) (outer : List Env) (s : Shared) (H : Hp) (E : XK) (f c' : Addr), Room k (A.deeper (LamX.lamEnv X scope s.heap.objs.size f c')) → PE (LamX.lamCx X A outer s H E scope f c') body (t E)) :
    PE X (.Call (.Name "_law_error" p) [.Lambda params body scope lpos] [] pos) (LamX.tLam T TT t) := by
  obtain ⟨oc, od, kV, doc, pm, an, cdv, ct, osl, rfl, lk, hcd⟩ := F.ex
  exact LamX.pe_lamcall hg hm F.kp lk hcd hb Sg rfl hva (hG cdv) TB hcode hmT hu hr L hdef hbind hbody
end
def SameN (p : Addr) (H H' : Hp) : Prop := ∀ b o, b ≠ p → (∀ ps, o ≠ .tbl ps) → H b = some o → H' b = some o
theorem SameN.refl {p : Addr} {H : Hp} : SameN p H H := fun _ _ _ _ e => e
theorem SameN.trans {p : Addr} {H H1 H2 : Hp} (a : SameN p H H1) (b : SameN p H1 H2) : SameN p H H2 := fun c o n m e => b c o n m (a c o n m e)
theorem Same.n {p : Addr} {H H1 : Hp} (a : Same H H1) : SameN p H H1 := fun c o _ _ e => a c o e
theorem ExtN.n {p : Addr} {H H1 : Hp} (a : LamX.ExtN H H1) : SameN p H H1 := fun c o _ m e => a c o e m
theorem notTbl_lst {xs : List V} : ∀ ps, HO.lst xs ≠ .tbl ps := fun ps z => by cases z
theorem notTbl_tup {xs : List V} : ∀ ps, HO.tup xs ≠ .tbl ps := fun ps z => by cases z
theorem notTbl_ins {C dx : Addr} {fs : List (Str × V)} : ∀ ps, HO.ins C dx fs ≠ .tbl ps := fun ps z => by cases z
theorem Same.tabs {T : List (Addr × Str)} {H H' : Hp} (s : Same H H') (t : LamX.Tabs T H) : LamX.Tabs T H' := t.ext s
/-- lists of texts, not equal: told apart -/
def rNeS (K : PySem.W.Frag) : R2 := fun x y H Q => ∃ (a b : Addr) (xs : List Str), x = .ref a ∧ y = .ref b ∧ SqL K H a (xs.map V.str) ∧ SqL K H b (xs.map V.str) ∧ Q (.bl false) H
theorem op_neS {X : Cx} (hu : X.A.units + 64 < cLine) : OpR X (compareOp .NotEq) (rNeS X.K) := by
  intro pins s σ H x y v u Q I rx ry h
  obtain ⟨a, b, xs, rfl, rfl, ha, hb, q⟩ := h
  cases (show v = Value.ref a from rx)
  cases (show u = Value.ref b from ry)
  obtain ⟨us, r1, p1, _⟩ := I.list ha
  obtain ⟨ws, r2, p2, _⟩ := I.list hb
  have hsz : us.toArray.size = ws.toArray.size := by
    rw [List.size_toArray, List.size_toArray, ← r1.length, ← r2.length]
  refine (SeqAt.RcNeAt.lists (e := fun _ => true) p1.isList p2.isList hsz (by omega) (fun j h1 h2 => ?_)) _ _ _ _ ?_
  · have l1 := r1.length
    have h1' : j < us.length := by simpa using h1
    have h2' : j < ws.length := by simpa using h2
    obtain ⟨z, hz⟩ : ∃ z, xs[j]? = some z := ⟨xs[j]'(by rw [List.length_map] at l1; omega), List.getElem?_eq_getElem _⟩
    have hj : (xs.map V.str)[j]? = some (V.str z) := by
      rw [List.getElem?_map, hz]
      rfl
    obtain ⟨u1, e1, q1⟩ := r1.get hj
    obtain ⟨u2, e2, q2⟩ := r2.get hj
    obtain ⟨t1, rfl⟩ := q1
    obtain ⟨t2, rfl⟩ := q2
    have f1 : us.toArray[j] = .str z t1 := by
      rw [List.getElem_toArray]
      exact (List.getElem?_eq_some_iff.mp e1).2
    have f2 : ws.toArray[j] = .str z t2 := by
      rw [List.getElem_toArray]
      exact (List.getElem?_eq_some_iff.mp e2).2
    rw [f1, f2]
    have y := SeqAt.EqAt.str_str (A := X.A.in1) (s := s) z t1 z t2
    rwa [beq_self_eq_true] at y
  · rw [show ((List.range us.toArray.size).all fun _ => true) = true from List.all_eq_true.mpr fun _ _ => rfl]
    exact ⟨.bl false, H, I, rfl, q⟩
end FNX
namespace FNX
open PySem PySem.Spec PyProof.Rows L2
/-- a def with doors, as the top has left it -/
def FnC (K : PySem.W.Frag) (mg : Str → Option Value) (x : Str) (st : Stmt) (f c Pt : Addr) : Prop := mg x = some (.ref f) ∧ (∃ fd, FunC K x x st f fd c) ∧ Door K mg [x] x c Pt
theorem mkFC {K : PySem.W.Frag} {h : Heap} {mg : Str → Option Value} {x : Str} {st : Stmt} {f c Pt : Addr} {oc kV doc pm ct e : Value} {od an dd : Option Addr} {sl slc : Array (Option Value)} {us : Array Value} (X : K.In h) (G : h.Ns mainGlobals mg) (a1 : PySem.W.nsIn K mainGlobals x = some (some (.ref f)))
    (l1 : K.lookup f = some ⟨oc, od, .func (PySem.W.fnOf x x (defArgs st) (defBody st) (defScope st) .none kV doc pm an (.ref c) ct), sl⟩) (lc : K.lookup c = some ⟨e, dd, .fields us, slc⟩)
    (c1 : PySem.W.codeIn K (.ref c) x = true) (kf : PySem.W.keepIn K (.ref f) = true) (u11 : us[11]? = some (.ref Pt)) (hd : PySem.W.codeHdIn K c Pt = true) (no : K.lookup Pt = none) : FnC K mg x st f c Pt :=
  ⟨PySem.W.mg_of X G a1, ⟨_, ⟨oc, od, kV, doc, pm, an, ct, sl, rfl, l1, c1⟩, kf⟩, ⟨List.mem_singleton.mpr rfl, ⟨f, _, _, e, dd, us, slc, PySem.W.mg_of X G a1, l1, rfl, rfl, lc, u11⟩, hd, no⟩⟩
end FNX
namespace FNX
open PySem PySem.Spec PyProof.Rows L2
theorem walkGK {l : PySem.W.OpenLaw} {n k : Nat} {q : Program} {loose : List Str} {XP : (Str → Option Value) → Heap → Prop} {YP : World → Heap → Prop} {d : DefRec} {K : Params → PySem.W.Frag} {x : Str} (sp : PySem.W.Frag → List (Addr × Addr) → Sp) (xs : List Str)
    (hn : l.most = some n) (hn2 : n ≤ sizeLine) (hdf : d.params.defaults = []) (hr : Room k callerA) (hxs : xs.all (fun y => (recsOf q).any fun e => e.name == y) = true) (hY : ∀ (w : World) (h : Heap), YP w h → (K w.params).In h)
    (F : ∀ (w : World) (mg : Str → Option Value) (fa : Addr) (h : Heap), (K w.params).In h → h.Ns mainGlobals mg → mg d.name = some (.ref fa) →
      ∃ (fd : FuncData) (cs : List (Addr × Addr)), (∀ p ∈ cs, ∃ y, Door (K w.params) mg xs y p.1 p.2) ∧ (∀ (s : Shared) (u : Value), BindsTo s fd ⟨[u], []⟩ [(x, u)]) ∧
        (∀ (H : Hp) (a : Addr) (ns : List Int), ns.length ≤ n → (∀ p ∈ cs, H p.2 = some (.tbl #[])) → SqL (K w.params) H a (ns.map V.int) → sp (K w.params) cs [.ref a] H (fun v _ => v = .bl true) fun _ _ _ => False) ∧
        ∀ base : Heap, (K w.params).In base → base.Ns mainGlobals mg → (∀ p ∈ cs, LamX.TabB base mg p.1 p.2) → GOk l.prog w (K w.params) mg base k fa fd [x] (sp (K w.params) cs)) :
    PySem.W.WalkO q loose XP YP l.row.toRowW d [] (fun f vs => PySem.call f vs) := walkGT (sp := fun w cs => sp (K w.params) cs) xs hn hn2 hdf hr hxs hY F
end FNX
namespace FNX
open PySem PySem.Spec PyProof.Rows L2
theorem FunC.fn {K : PySem.W.Frag} {x qual : Str} {st : Stmt} {f c : Addr} {fd : FuncData} (F : FunC K x qual st f fd c) : Fun K x qual st f fd := by
  obtain ⟨oc, od, kV, doc, pm, an, ct, osl, e, lk, hcd⟩ := F.ex
  exact ⟨⟨oc, od, kV, doc, pm, an, .ref c, ct, osl, e, lk, hcd⟩, F.kp⟩
theorem Door.more {K : PySem.W.Frag} {mg : Str → Option Value} {xs ys : List Str} {x : Str} {c Pt : Addr} (D : Door K mg xs x c Pt) (h : x ∈ ys) : Door K mg ys x c Pt := ⟨h, D.fn, D.hd, D.no⟩
end FNX

set_option Elab.async false
set_option linter.all false
set_option maxRecDepth 100000
set_option maxHeartbeats 4000000
/-! ## Doors of any name, whose clauses keep a text or a value, and which keep what they are told -/
namespace FNX
open PySem PySem.Spec PyProof.Rows L2
abbrev MkC := V → PyData → Hp → (V → Hp → Prop) → Prop
/-- [word, repr(e.value)] -/
def mkR (word : Str) : MkC := fun _ d H Q => d.showable = true ∧ d.depth ≤ 60 ∧ d.shown.length ≤ sizeLine ∧ ∀ p, H p = none → Q (.ref p) (upd H p (.lst [.str word, .str d.shown]))
/-- [word, e.value] -/
def mkV (word : Str) : MkC := fun v _ H Q => ∀ p, H p = none → Q (.ref p) (upd H p (.lst [.str word, v]))
def wErrG (K : PySem.W.Frag) (Q : VK) : List (Addr × MkC) → XK
  | [] => fun _ _ _ => False
  | q :: r => fun cls d H => ∃ b, PySem.W.exmOne K cls (.ref q.1) = some b ∧
      (b = true → cls = .ref q.1 ∧ ∃ (dd : Addr) (v : V) (dt : PyData), d = some dd ∧ H dd = some (.xd [(("value" : Str), v)]) ∧ Rd K H v dt ∧ q.2 v dt H Q) ∧
      (b = false → wErrG K Q r cls d H)
/-- nothing is kept of what the door returns -/
def TErrG (K : PySem.W.Frag) (cl : List (Addr × MkC)) : (XK → Hp → VK → Prop) → Hp → VK → Prop :=
  fun tl H Q => tl (wErrG K Q cl) H (fun _ H' => ∃ v : V, some (some V.non) = some (some v) ∧ Q v H')
/-- ['told', what the door returns] -/
def TToldG (K : PySem.W.Frag) (word : Str) (cl : List (Addr × MkC)) : (XK → Hp → VK → Prop) → Hp → VK → Prop :=
  fun tl H Q => tl (wErrG K Q cl) H (fun v H' => 2 ≤ sizeLine ∧ ∀ p, H' p = none → ∃ u : V, some (some (V.ref p)) = some (some u) ∧ Q u (upd H' p (.lst [.str word, v])))
def tDoorV (f c' : Addr) (q : Str) (word : Str) (tl : XK → Hp → VK → Prop) : WX → TS := fun W D σ H =>
  ∃ Ech : XK, (∀ cls d H' σ', Ech cls d H' → σ'.length = 3 → W cls d σ' H') ∧ tAsg (tLst (tCons (tC (.str word)) (tCons (fun σZ HZ Q => σZ[0]? = some (some (.ref f)) ∧ HZ c' = some (LamX.CodeO c' q) ∧ tl Ech HZ Q) tNil))) (gName 1) D σ H
section
variable {X : Cx}
theorem pe_doorN {x : Str} {T : List (Addr × Str)} {TT : (XK → Hp → VK → Prop) → Hp → VK → Prop} {st : Stmt} {g c Pt : Addr} {fd : FuncData} {k : Nat} {params : Arguments} {body : Expr} {scope : Scope} {t : XK → TE} {p lpos pos : Pos}
    (hg : Gl X x) (hm : X.mg x = some (.ref g)) (F : Fun X.K x x st g fd) (hb : L2.Binds X.K fd ["_law_door"] []) (Sg : FnScope ["_law_door", "_law_kept", "e"] ["_law_door"] (defScope st))
    (hva : Vis (defScope st) "_law_door") (hG : ∀ cdg, LamX.GivesTo X ["_law_door", "_law_kept", "e"] x (defScope st) g cdg (defBody st) "_law_door" (X.env.qual ++ "<lambda>") TT)
    (TB : LamX.TabB X.base X.mg c Pt) (hcode : X.env.code = .ref c) (hmT : (Pt, X.env.qual ++ "<lambda>") ∈ T) (hu : ∀ p ∈ T, p.1 = Pt → p.2 = X.env.qual ++ "<lambda>") (hr : Room (k + 2) X.A)
    (L : LamX.LamS X.env.scope scope) (hdef : defaultsOf params X.env = ([], []))
    (hbind : ∀ (q : Str) (cl : List (Str × Addr)) (pm cv ctv : Value), bindArgs (PySem.W.kla_fn "<lambda>" q params body scope cl pm cv ctv) ⟨[], []⟩ = pure [])
    (hbody : ∀ (A : Around) (outer : List Env) (s : Shared) (H : Hp) (E : XK) (f c' : Addr), Room k (A.deeper (LamX.lamEnv X scope s.heap.objs.size f c')) → PE (LamX.lamCx X A outer s H E scope f c') body (t E))
    (hdb : (x == ("__debug__" : Str)) = false := by decide) :
    PE X (.Call (.Name x p) [.Lambda params body scope lpos] [] pos) (LamX.tLam T TT t) := by
  obtain ⟨oc, od, kV, doc, pm, an, cdv, ct, osl, rfl, lk, hcd⟩ := F.ex
  exact LamX.pe_lamcall hg hm F.kp lk hcd hb Sg rfl hva (hG cdv) TB hcode hmT hu hr L hdef hbind hbody hdb
end
end FNX

set_option Elab.async false
set_option linter.all false
set_option maxRecDepth 100000
set_option maxHeartbeats 4000000
/-! ## Further rules: int(a bool), != of two lists of the same items -/
namespace FNX
open PySem PySem.Spec PyProof.Rows L2
section
variable {X : Cx}
def rIntB : List V → Hp → VK → Prop := fun xs H Q => ∃ b : Bool, xs = [.bl b] ∧ Q (.int (if b = true then 1 else 0)) H
theorem call_intB : CallR X (.type "int") rIntB := by
  intro pins s σ H xs us Q I r h
  obtain ⟨b, rfl, q⟩ := h
  cases r with
  | cons r1 r2 =>
    cases r2
    cases r1
    exact PySem.call_int_bool ⟨.int (if b = true then 1 else 0), H, I.tok _, ⟨_, rfl⟩, q⟩
/-- lists of the same items -/
def rNeI (K : PySem.W.Frag) : R2 := fun x y H Q => ∃ (a b : Addr) (xs : List V), x = .ref a ∧ y = .ref b ∧ SqL K H a xs ∧ SqL K H b xs ∧ (∀ v ∈ xs, flatB v = true ∨ ∃ c, v = .ref c) ∧ Q (.bl false) H
theorem op_neI (hu : X.A.units + 64 < cLine) : OpR X (compareOp .NotEq) (rNeI X.K) := by
  intro pins s σ H x y v u Q I rx ry h
  obtain ⟨a, b, xs, rfl, rfl, ha, hb, hf, q⟩ := h
  cases (show v = Value.ref a from rx)
  cases (show u = Value.ref b from ry)
  obtain ⟨us, r1, p1, _⟩ := I.list ha
  obtain ⟨ws, r2, p2, _⟩ := I.list hb
  have hsz : us.toArray.size = ws.toArray.size := by
    rw [List.size_toArray, List.size_toArray, ← r1.length, ← r2.length]
  refine (SeqAt.RcNeAt.lists (e := fun _ => true) p1.isList p2.isList hsz (by omega) (fun j h1 h2 => ?_)) _ _ _ _ ?_
  · have l1 := r1.length
    have h1' : j < us.length := by simpa using h1
    obtain ⟨z, hz⟩ : ∃ z, xs[j]? = some z := ⟨xs[j]'(by omega), List.getElem?_eq_getElem _⟩
    obtain ⟨u1, e1, q1⟩ := r1.get hz
    obtain ⟨u2, e2, q2⟩ := r2.get hz
    have f1 : us.toArray[j] = u1 := by
      rw [List.getElem_toArray]
      exact (List.getElem?_eq_some_iff.mp e1).2
    have f2 : ws.toArray[j] = u2 := by
      rw [List.getElem_toArray]
      exact (List.getElem?_eq_some_iff.mp e2).2
    rw [f1, f2]
    rcases hf z (List.mem_of_getElem? hz) with hf | ⟨c, rfl⟩
    · exact eqAt_same q1 q2 hf
    · cases (show u1 = Value.ref c from q1)
      cases (show u2 = Value.ref c from q2)
      exact SeqAt.EqAt.same _
  · rw [show ((List.range us.toArray.size).all fun _ => true) = true from List.all_eq_true.mpr fun _ _ => rfl]
    exact ⟨.bl false, H, I, rfl, q⟩
end
end FNX

set_option Elab.async false
set_option linter.all false
set_option maxRecDepth 100000
set_option maxHeartbeats 8000000
namespace K21
open PySem PySem.Spec PyProof.Rows L2 FNX
def top (i : Nat) : Stmt := PySem.Challenge.pw_firenegatives_k21_whole_cycles_in_closed.main.body.getD i (.Pass ⟨0, 0, 0, 0⟩)
abbrev s_InvalidPosition_init : Stmt := inClass (top 2) 0
abbrev s_is_integer : Stmt := top 4
abbrev s_is_integer_list : Stmt := top 5
abbrev s_cycle_steps : Stmt := top 8
abbrev s_cycle_end : Stmt := top 9
abbrev s_checked_sums : Stmt := top 10
abbrev s_differences : Stmt := top 11
abbrev s_never_ends_round : Stmt := top 12
abbrev s__law_pool : Stmt := top 14
abbrev s__law_take : Stmt := top 15
abbrev s__law_number : Stmt := top 16
abbrev s__law_numbers : Stmt := top 17
abbrev s__law_error : Stmt := top 18
abbrev s__law_fired : Stmt := top 19
abbrev s__law_count : Stmt := top 20
abbrev s__law_right : Stmt := top 21
abbrev s__law_zeros : Stmt := top 22
abbrev s_law : Stmt := top 23
/-! ## The pool of draws -/
def PoolAt (H : Hp) (p : Addr) : Prop := ∃ c s : Int, H p = some (.lst [.int c, .int s]) ∧ 0 ≤ s ∧ s < 2147483648
def spPool (K : PySem.W.Frag) : Sp := fun vs H Q _ => ∃ (a : Addr) (ns : List Int) (k : Int), vs = [.ref a, .int k] ∧ SqL K H a (ns.map V.int) ∧ 0 ≤ k ∧ k < 100 ∧
  ∀ p H', H p = none → Same H H' → PoolAt H' p → Q (.ref p) H'
def spTake : Sp := fun vs H Q _ => ∃ (p : Addr) (n : Int), vs = [.ref p, .int n] ∧ PoolAt H p ∧ 0 < n ∧ n < 10000000000000000000 ∧
  ∀ r H', 0 ≤ r → r < n → PoolAt H' p → (∀ b, b ≠ p → H' b = H b) → Q (.int r) H'
section
variable {P : Program} {w : World} {K : PySem.W.Frag} {mg : Str → Option Value} {base : Heap}
theorem scTake : FnScope ["_law_pool_here", "_law_sides", "_law_found"] ["_law_pool_here", "_law_sides"] (defScope s__law_take) :=
  ⟨rfl, rfl, rfl, by decide +kernel, rfl, by decide +kernel, by decide +kernel⟩
theorem ok_take {f : Addr} {fd : FuncData} (F : Fun K "_law_take" "_law_take" s__law_take f fd) : FnOk P w K mg base CX0 1 f fd ["_law_pool_here", "_law_sides"] spTake := by
  refine F.ok scTake (fun vs H Q E h => ?_) (fun cdv A outer s H vs Q E hr h => ?_)
  · obtain ⟨p, n, rfl, _⟩ := h
    rfl
  · obtain ⟨p, n, rfl, ⟨c, s0, hp, hs1, hs2⟩, hn1, hn2, k⟩ := h
    refine ⟨_, pss_cons (ps_if (pt_cmpR op_gt (pe_ix ix_list (pv 0) pe_int (fun _ _ => rfl)) pe_int (nomark _))
        (pss_cons (ps_set (i := 2) scTake.nd rfl (Or.inl rfl) (pe_op op_mod (pe_ix ix_list (pv 0) pe_int (fun _ _ => rfl)) (pv 1)))
          (pss_cons (ps_asg (pe_op op_fdivW (pe_ix ix_list (pv 0) pe_int (fun _ _ => rfl)) (pv 1)) (pg_sub (pv 0) pe_int set_list))
          (pss_one (ps_ret (pv 2))))) pss_nil)
      (pss_cons (ps_asg (pe_op op_mod (pe_op op_add (pe_op op_mul (pe_ix ix_list (pv 0) pe_int (fun _ _ => rfl)) pe_int) pe_int) pe_int) (pg_sub (pv 0) pe_int set_list))
      (pss_one (ps_ret (pe_op op_mod (pe_op op_fdiv (pe_op op_mod (pe_op op_mul (pe_ix ix_list (pv 0) pe_int (fun _ _ => rfl)) (pe_ix ix_list (pv 0) pe_int (fun _ _ => rfl))) pe_int) pe_int) (pv 1))))), ?_⟩
    refine ⟨_, rfl, p, _, _, _, rfl, rfl, SqL.of hp, atI_nat (j := 0) rfl, _, _, rfl, rfl, _, rfl, ?_⟩
    refine ite2 (fun _ => ?_) (fun _ => ?_)
    · refine ⟨_, rfl, p, _, _, _, rfl, rfl, SqL.of hp, atI_nat (j := 0) rfl, _, rfl, _, _, rfl, rfl, hn1, ?_⟩
      refine ⟨_, rfl, p, _, _, _, rfl, rfl, SqL.of hp, atI_nat (j := 0) rfl, _, rfl, _, _, rfl, rfl, wide_div (b := 64) hn1 (by omega) (by decide) (by decide), _, rfl, p, _, _, 0, rfl, rfl, hp, rfl, _, rfl, ?_⟩
      exact k _ _ (Int.emod_nonneg _ (by omega)) (Int.emod_lt_of_pos _ hn1) ⟨_, _, upd_same, hs1, hs2⟩ fun b hb => upd_ne hb
    · refine ⟨_, rfl, p, _, _, _, rfl, rfl, SqL.of hp, atI_nat (j := 1) rfl, _, _, rfl, rfl, .inr ⟨by decide, by decide⟩, _, _, rfl, rfl, _, _, rfl, rfl, (by show (0 : Int) < 2147483647; decide), _, rfl, p, _, _, 1, rfl, rfl, hp, rfl, ?_⟩
      have e1 : (0 : Int) ≤ (s0 * 48271 + 11) % 2147483647 := Int.emod_nonneg _ (by decide)
      have e2 : (s0 * 48271 + 11) % 2147483647 < 2147483647 := Int.emod_lt_of_pos _ (by decide)
      refine ⟨_, rfl, p, _, _, _, rfl, rfl, SqL.of upd_same, atI_nat (j := 1) rfl, _, rfl, p, _, _, _, rfl, rfl, SqL.of upd_same, atI_nat (j := 1) rfl, _, _, rfl, rfl, .inl ⟨?_, ?_⟩,
        _, _, rfl, rfl, (by show (0 : Int) < 2147483629; decide), _, _, rfl, rfl, ⟨by decide, by decide⟩, _, rfl, _, _, rfl, rfl, hn1, ?_⟩
      · exact Int.lt_of_lt_of_le (by decide) e1
      · exact Int.lt_of_lt_of_le e2 (by decide)
      exact k _ _ (Int.emod_nonneg _ (by omega)) (Int.emod_lt_of_pos _ hn1) ⟨_, _, upd_same, e1, by omega⟩ fun b hb => upd_ne hb

theorem scPool : FnScope ["_law_script", "_law_k", "_law_cell", "_law_seed"] ["_law_script", "_law_k"] (defScope s__law_pool) :=
  ⟨rfl, rfl, rfl, by decide +kernel, rfl, by decide +kernel, by decide +kernel⟩
theorem mod_in (a : Int) {b : Int} (h : 0 < b) : 0 ≤ a % b ∧ a % b < b := ⟨Int.emod_nonneg _ (by omega), Int.emod_lt_of_pos _ h⟩
theorem ok_pool {f : Addr} {fd : FuncData} (F : Fun K "_law_pool" "_law_pool" s__law_pool f fd) (hlen : mg "len" = none) :
    FnOk P w K mg base CX0 1 f fd ["_law_script", "_law_k"] (spPool K) := by
  refine F.ok scPool (fun vs H Q E h => ?_) (fun cdv A outer s H vs Q E hr h => ?_)
  · obtain ⟨a, ns, k, rfl, _⟩ := h
    rfl
  · obtain ⟨a, ns, k, rfl, hS, hk1, hk2, kont⟩ := h
    refine ⟨_, pss_cons (ps_set (i := 2) scPool.nd rfl (Or.inl rfl) pe_int)
      (pss_cons (ps_if (pt_cmpR op_lt (pv 1) (pe_callB call_len_seq (by rfl) hlen PySem.boot_len (pa_cons (pv 0) pa_nil)) (nomark _))
        (pss_one (ps_set (i := 2) scPool.nd rfl (Or.inl rfl) (pe_ix ix_list (pv 0) (pv 1) (fun _ _ => rfl)))) pss_nil)
      (pss_cons (ps_set (i := 3) scPool.nd rfl (Or.inl rfl) (pe_op op_mod (pe_op op_mul (pe_op op_add (pe_op op_add (pe_op op_mod (pv 2) pe_int)
        (pe_op op_mul (pe_op op_mul pe_int (pv 1)) (pv 1))) pe_int) pe_int) pe_int))
      (pss_cons (ps_if (pt_cmpR op_lt (pv 2) (pe_op op_pow pe_int pe_int) (nomark _)) (pss_one (ps_set (i := 2) scPool.nd rfl (Or.inl rfl) pe_int)) pss_nil)
      (pss_one (ps_ret (pe_lst (pa_cons (pv 2) (pa_cons (pe_op op_add (pe_op op_mod (pe_op op_mul (pv 3) (pv 3)) pe_int) pe_int) pa_nil)))))))), ?_⟩
    refine ⟨_, rfl, _, rfl, a, _, rfl, .inl hS, _, _, rfl, rfl, _, rfl, ?_⟩
    -- behind the first if: some cell in slot 2
    have rest : ∀ c : Int, (tSeq (tAsg (tOp (rI (fun _ j => 0 < j) fun i j => .int (i % j)) (tOp (rI CMul fun i j => .int (i * j)) (tOp (rI0 fun i j => .int (i + j))
        (tOp (rI0 fun i j => .int (i + j)) (tOp (rI (fun _ j => 0 < j) fun i j => .int (i % j)) (tVar 2) (tC (.int 2147483629)))
          (tOp (rI CMul fun i j => .int (i * j)) (tOp (rI CMul fun i j => .int (i * j)) (tC (.int 7919)) (tVar 1)) (tVar 1))) (tC (.int 13))) (tC (.int 48271))) (tC (.int 2147483647))) (gName 3)) 
        (tSeq (tIfS (tTest (tOp (rI0 fun i j => .bl (decide (i < j))) (tVar 2) (tOp (rI CPow fun i j => .int (i ^ j.toNat)) (tC (.int 10)) (tC (.int 18))))) (tAsg (tC (.int 0)) (gName 2)) tNext)
          (tRet (tLst (tCons (tVar 2) (tCons (tOp (rI0 fun i j => .int (i + j)) (tOp (rI (fun _ j => 0 < j) fun i j => .int (i % j)) (tOp (rI CMul fun i j => .int (i * j)) (tVar 3) (tVar 3)) (tC (.int 2147483587))) (tC (.int 1))) tNil))))))
        { nx := fun _ H' => Q .non H', rt := Q } [some (.ref a), some (.int k), some (.int c), none] H := fun c => by
      refine ⟨_, rfl, _, _, rfl, rfl, (by show (0 : Int) < 2147483629; decide), _, rfl, _, _, rfl, rfl, .inl ⟨by decide, by decide⟩, _, rfl, _, _, rfl, rfl, .inr ⟨by omega, by omega⟩, _, _, rfl, rfl,
        _, _, rfl, rfl, _, _, rfl, rfl, .inr ⟨by decide, by decide⟩, _, _, rfl, rfl, (by show (0 : Int) < 2147483647; decide), ?_⟩
      have e1 := mod_in ((c % 2147483629 + 7919 * k * k + 13) * 48271) (b := 2147483647) (by decide)
      refine ⟨_, rfl, _, _, rfl, rfl, ⟨by decide, by decide, by decide⟩, _, _, rfl, rfl, _, rfl, ?_⟩
      have fin : ∀ c' : Int, (tRet (tLst (tCons (tVar 2) (tCons (tOp (rI0 fun i j => .int (i + j)) (tOp (rI (fun _ j => 0 < j) fun i j => .int (i % j)) (tOp (rI CMul fun i j => .int (i * j)) (tVar 3) (tVar 3)) (tC (.int 2147483587))) (tC (.int 1))) tNil))))
          { nx := fun _ H' => Q .non H', rt := Q } [some (.ref a), some (.int k), some (.int c'), some (.int ((c % 2147483629 + 7919 * k * k + 13) * 48271 % 2147483647))] H := fun c' => by
        refine ⟨_, rfl, _, rfl, _, rfl, _, _, rfl, rfl, .inl ⟨by omega, by omega⟩, _, _, rfl, rfl, (by show (0 : Int) < 2147483587; decide), _, _, rfl, rfl, (by show 2 ≤ sizeLine; decide), fun p hp => ?_⟩
        have e2 := mod_in ((c % 2147483629 + 7919 * k * k + 13) * 48271 % 2147483647 * ((c % 2147483629 + 7919 * k * k + 13) * 48271 % 2147483647)) (b := 2147483587) (by decide)
        exact kont p _ hp (fun b o e => by rw [upd_ne (ne_of_none e hp)]; exact e) ⟨_, _, upd_same, by omega, by omega⟩
      exact ite2 (fun _ => fin 0) (fun _ => fin c)
    refine ite2 (fun hlt => ?_) (fun _ => rest 0)
    have hkn : k.toNat < (ns.map V.int).length := by
      have hlt := of_decide_eq_true hlt
      rw [List.length_map] at hlt ⊢
      omega
    have hki : (ns.map V.int)[k.toNat]? = some (V.int (ns[k.toNat]'(by rw [List.length_map] at hkn; exact hkn))) := by
      rw [List.getElem?_map, List.getElem?_eq_getElem (by rw [List.length_map] at hkn; exact hkn)]
      rfl
    have hat := atI_nat hki
    rw [show ((k.toNat : Nat) : Int) = k by omega] at hat
    exact ⟨_, rfl, _, rfl, a, _, k, _, rfl, rfl, hS, hat, rest _⟩
end

/-! ## checks.py -/
theorem boot_isi : bootBuiltins "isinstance" = some (.builtin "isinstance") := by decide +kernel
theorem boot_all : bootBuiltins "all" = some (.builtin "all") := by decide +kernel
theorem boot_len1 : bootBuiltins "len" = some (.builtin "len") := by decide +kernel
/-- built-in names that the program leaves as they are -/
structure Nms (mg : Str → Option Value) : Prop where
  isi : mg "isinstance" = none
  int : mg "int" = none
  bool : mg "bool" = none
  list : mg "list" = none
  tuple : mg "tuple" = none
  len : mg "len" = none
  all : mg "all" = none
  range : mg "range" = none
  enumerate : mg "enumerate" = none
  min : mg "min" = none
  max : mg "max" = none
  sorted : mg "sorted" = none
  repr : mg "repr" = none
/-- a def x stands at f and keeps sp -/
def At (P : Program) (w : World) (K : PySem.W.Frag) (mg : Str → Option Value) (base : Heap) (CX : CXT) (k : Nat) (x : Str) (ps : List Str) (sp : Sp) : Prop :=
  ∃ f fd, FnOk P w K mg base CX k f fd ps sp ∧ mg x = some (.ref f) ∧ PySem.W.keepIn K (.ref f) = true ∧ Binds K fd ps []
def spIsInteger (K : PySem.W.Frag) : Sp := fun vs H Q _ => ∃ v d, vs = [v] ∧ Rd K H v d ∧ Q (.bl (isI d)) H
def spWithin (K : PySem.W.Frag) : Sp := fun vs H Q _ => ∃ v d lo hi, vs = [v, .int lo, .int hi] ∧ Rd K H v d ∧ Q (.bl (within lo hi d)) H
def lenD : PyData → Nat
  | .list ds => ds.length
  | _ => 0
def isIL (n : Nat) : PyData → Bool
  | .list ds => decide (ds.length = n) && ds.all isI
  | _ => false
def spIntList (K : PySem.W.Frag) : Sp := fun vs H Q _ => ∃ v d, ∃ n : Nat, vs = [v, .int n] ∧ Rd K H v d ∧ lenD d ≤ 100000 ∧ ∀ H', Same H H' → Q (.bl (isIL n d)) H'
def isNode (n : Nat) (d : PyData) : Bool := within 0 ((n : Int) - 1) d
def spIsNode (K : PySem.W.Frag) : Sp := fun vs H Q _ => ∃ v d, ∃ n : Nat, vs = [.int n, v] ∧ Rd K H v d ∧ Q (.bl (isNode n d)) H
def isNL (n : Nat) : PyData → Bool
  | .list ds => ds.all (isNode n)
  | _ => false
def spNodeList (K : PySem.W.Frag) : Sp := fun vs H Q _ => ∃ v d, ∃ n : Nat, vs = [.int n, v] ∧ Rd K H v d ∧ lenD d ≤ 100000 ∧ ∀ H', Same H H' → Q (.bl (isNL n d)) H'
theorem rdInt {K : PySem.W.Frag} {H : Hp} {v : V} {i : Int} (h : Rd K H v (.int i)) : v = .int i := by
  cases h with
  | dat h => cases h; rfl
theorem rdList {K : PySem.W.Frag} {H : Hp} {v : V} {ds : List PyData} (h : Rd K H v (.list ds)) : ∃ a xs, v = .ref a ∧ SqL K H a xs ∧ DpAll K H xs ds := by
  cases h with
  | dat h =>
    cases h with
    | lst h1 h2 => exact ⟨_, _, rfl, h1, h2⟩
theorem dpAllLen {K : PySem.W.Frag} {H : Hp} : ∀ {xs : List V} {ds : List PyData}, DpAll K H xs ds → xs.length = ds.length
  | [], _, h => by cases h; rfl
  | x :: xs, _, h => by
    cases h with
    | cons h1 h2 => rw [List.length_cons, List.length_cons, dpAllLen h2]
theorem dpAllAt {K : PySem.W.Frag} {H : Hp} : ∀ {xs : List V} {ds : List PyData} {i : Nat} {x : V}, DpAll K H xs ds → xs[i]? = some x → Dp K H x (ds.getD i .none)
  | [], _, _, _, _, e => by simp at e
  | y :: xs, _, 0, x, h, e => by
    cases h with
    | cons h1 h2 =>
      have e' : y = x := Option.some.inj e
      subst e'
      exact h1
  | y :: xs, _, i + 1, x, h, e => by
    cases h with
    | cons h1 h2 => exact dpAllAt (i := i) h2 e
theorem allRange (p : PyData → Bool) : ∀ ds : List PyData, ((List.range ds.length).map fun i => p (ds.getD i .none)).all id = ds.all p := by
  intro ds
  have e : (List.range ds.length).map (fun i => p (ds.getD i .none)) = ds.map p := by
    apply List.ext_getElem
    · simp
    · intro i h1 h2
      simp only [List.length_map, List.length_range] at h1
      rw [List.getElem_map, List.getElem_range, List.getElem_map, List.getD_eq_getElem?_getD, List.getElem?_eq_getElem h1]
      rfl
  rw [e, List.all_map]
  rfl
section
variable {P : Program} {w : World} {K : PySem.W.Frag} {mg : Str → Option Value} {base : Heap} {CXa : CXT}
theorem sc_is_integer : FnScope ["thing"] ["thing"] (defScope s_is_integer) := ⟨rfl, rfl, rfl, by decide +kernel, rfl, by decide +kernel, by decide +kernel⟩
theorem ok_is_integer {f : Addr} {fd : FuncData} (F : Fun K "is_integer" "is_integer" s_is_integer f fd) (M : Nms mg) : FnOk P w K mg base CX0 1 f fd ["thing"] (spIsInteger K) := by
  refine F.ok sc_is_integer (fun vs H Q E h => ?_) (fun cdv A outer s H vs Q E hr h => ?_)
  · obtain ⟨v, d, rfl, _⟩ := h
    rfl
  · obtain ⟨v, d, rfl, hd, k⟩ := h
    refine ⟨_, pss_one (ps_ret (pe_and (pe_callB call_isi (by rfl) M.isi boot_isi (pa_cons (pv 0) (pa_cons (pe_bltn (v := V.ty "int") rfl M.int (by decide +kernel) rfl) pa_nil)))
      (pe_one (pe_not (pe_callB call_isi (by rfl) M.isi boot_isi (pa_cons (pv 0) (pa_cons (pe_bltn (v := V.ty "bool") rfl M.bool (by decide +kernel) rfl) pa_nil))))))), ?_⟩
    refine ⟨_, rfl, v, _, _, _, _, rfl, .ty _, rdTy hd, kitI K d, _, rfl, ?_⟩
    cases d with
    | int i => exact iteT ⟨_, rfl, v, _, _, _, _, rfl, .ty _, rdTy hd, kitBo K _, _, rfl, k⟩
    | bool b => exact iteT ⟨_, rfl, v, _, _, _, _, rfl, .ty _, rdTy hd, kitBo K _, _, rfl, k⟩
    | none => exact iteF k
    | str _ => exact iteF k
    | list _ => exact iteF k
    | tuple _ => exact iteF k
    | dict _ => exact iteF k
theorem sc_int_list : FnScope ["thing", "length", "entry"] ["thing", "length"] (defScope s_is_integer_list) := ⟨rfl, rfl, rfl, by decide +kernel, rfl, by decide +kernel, by decide +kernel⟩
theorem decLen (i j : Nat) : decide (V.int (i : Int) = V.int (j : Int)) = decide (i = j) := by
  by_cases h : i = j
  · subst h
    rw [decide_eq_true rfl, decide_eq_true rfl]
  · rw [decide_eq_false h, decide_eq_false (fun z => h (by injection z with z; exact Int.ofNat.inj z))]
theorem ok_int_list {f : Addr} {fd : FuncData} (F : Fun K "is_integer_list" "is_integer_list" s_is_integer_list f fd) (M : Nms mg) (G : At P w K mg base CX0 1 "is_integer" ["thing"] (spIsInteger K)) :
    FnOk P w K mg base CX0 2 f fd ["thing", "length"] (spIntList K) := by
  obtain ⟨g, gd, G, mG, kG, bG⟩ := G
  refine F.ok sc_int_list (fun vs H Q E h => ?_) (fun cdv A outer s H vs Q E hr h => ?_)
  · obtain ⟨v, d, n, rfl, _⟩ := h
    rfl
  · obtain ⟨v, d, n, rfl, hd, hl, k⟩ := h
    refine ⟨_, pss_one (ps_ret (pe_and (pe_callB call_isi (by rfl) M.isi boot_isi (pa_cons (pv 0) (pa_cons (pe_bltn (v := V.ty "list") rfl M.list (by decide +kernel) rfl) pa_nil)))
      (pe_and (pe_cmpR op_eq (pe_callB call_len_seq (by rfl) M.len boot_len1 (pa_cons (pv 0) pa_nil)) (pv 1) (nomark _))
      (pe_one (pe_callB (cr_all rfl) (by rfl) M.all boot_all (pa_cons (pe_lc (own := [("entry", 2)]) (g := gName 2) (tt := tYes) rfl sc_int_list.nd (pi_list (pv 0))
        (blkOk_by (own := [("entry", 2)]) (N := ["thing", "length", "entry"]) (sc := defScope s_is_integer_list) (by decide +kernel))
        (fun _ _ _ _ _ => pg_name (i := 2) sc_int_list.nd rfl (Or.inl rfl)) (fun _ _ _ _ _ => pts_nil)
        (fun _ _ _ _ _ => pe_call G hr (by rfl) mG kG bG .nil pass0 (pa_cons (pv 2) pa_nil))) pa_nil)))))), ?_⟩
    refine ⟨_, rfl, v, _, _, _, _, rfl, .ty _, rdTy hd, kitL K d, _, rfl, ?_⟩
    have no : isLst d = false → Q (.bl false) H := fun z => by
      have e : isIL n d = false := by cases d <;> first | rfl | cases z
      have q := k H (Same.refl H)
      rw [e] at q
      exact q
    cases d with
    | bool b => exact iteF (no rfl)
    | none => exact iteF (no rfl)
    | str _ => exact iteF (no rfl)
    | int _ => exact iteF (no rfl)
    | tuple _ => exact iteF (no rfl)
    | dict _ => exact iteF (no rfl)
    | list ds =>
      obtain ⟨a, xs, rfl, hx, hds⟩ := rdList hd
      have hlen := dpAllLen hds
      refine iteT ⟨_, rfl, a, xs, rfl, .inl hx, _, rfl, rfl, _, rfl, ?_⟩
      rw [decLen, hlen]
      by_cases hn : ds.length = n
      · rw [decide_eq_true hn]
        refine iteT ⟨_, rfl, a, rfl, ⟨_, hx⟩, fun D hD => lc_map (K := K) (a := a) (xs := xs) (fun i => V.bl (isI (ds.getD i .none))) hD hx (fun x => rfl) (fun i x H' hi sm hd' => ?_) (fun H' sm hd' => ?_)⟩
        · have hi' : i < xs.length := (List.getElem?_eq_some_iff.mp hi).1
          have hl' : ds.length ≤ 100000 := hl
          exact ⟨_, rfl, x, _, rfl, .dat (dpSame sm _ _ (dpAllAt hds hi)), lcT hD (by omega) sm hd' (Same.refl _) rfl⟩
        · refine ⟨D, (List.range xs.length).map fun i => isI (ds.getD i .none), rfl, SqL.of (by rw [List.map_map]; exact hd'), ?_⟩
          have q := k H' sm
          have e : isIL n (.list ds) = ds.all isI := by
            show (decide (ds.length = n) && ds.all isI) = _
            rw [decide_eq_true hn, Bool.true_and]
          rw [e] at q
          rw [hlen, allRange]
          exact q
      · rw [decide_eq_false hn]
        have q := k H (Same.refl H)
        have e : isIL n (.list ds) = false := by
          show (decide (ds.length = n) && ds.all isI) = _
          rw [decide_eq_false hn, Bool.false_and]
        rw [e] at q
        exact iteF q
end

/-! ## Plays over plain lists -/
def flipL (row x : List Int) (v : Nat) : List Int := (row.foldl (fun y o => y.set o.toNat (y.getD o.toNat 0 + x.getD v 0)) x).set v (-(x.getD v 0))
def followL (N : List (List Int)) : List Nat → List Int → List Int → Option (List Int × List Int)
  | [], x, t => some (x, t)
  | v :: vs, x, t => if x.getD v 0 ≥ 0 then none else followL N vs (flipL (N.getD v []) x v) (t.set v (t.getD v 0 - x.getD v 0))
/-- the neighbours' lists name nodes -/
def WF (N : List (List Int)) : Prop := ∀ i, i < N.length → ∀ o ∈ N.getD i [], 0 ≤ o ∧ o < N.length
theorem foldSetLen (c : Int) : ∀ (row : List Int) (x : List Int), (row.foldl (fun y o => y.set o.toNat (y.getD o.toNat 0 + c)) x).length = x.length
  | [], x => rfl
  | o :: row, x => by
    rw [List.foldl_cons, foldSetLen c row, List.length_set]
theorem flipLen (row x : List Int) (v : Nat) : (flipL row x v).length = x.length := by
  unfold flipL
  rw [List.length_set, foldSetLen]
theorem mapSet {x : List Int} {i : Nat} {z : Int} : (x.map V.int).set i (.int z) = (x.set i z).map V.int := by
  rw [List.map_set]
theorem mapAt {x : List Int} {i : Nat} (h : i < x.length) : (x.map V.int)[i]? = some (V.int (x.getD i 0)) := by
  rw [List.getElem?_map, List.getElem?_eq_getElem h, List.getD_eq_getElem?_getD, List.getElem?_eq_getElem h]
  rfl
theorem atInt {x : List Int} {i : Int} (h0 : 0 ≤ i) (h : i < x.length) : atI (x.map V.int) i = some (V.int (x.getD i.toNat 0)) := by
  have z := atI_nat (mapAt (x := x) (i := i.toNat) (by omega))
  rwa [show ((i.toNat : Nat) : Int) = i by omega] at z
theorem ixInt {x : List Int} {i : Int} (h0 : 0 ≤ i) (h : i < x.length) : ixN (x.map V.int).length i = some i.toNat := by
  unfold ixN
  rw [if_pos h0, List.length_map, if_pos h]
/-- lists of ints at addresses -/
def RowsAt (H : Hp) (rows : List Addr) (N : List (List Int)) : Prop := rows.length = N.length ∧ ∀ (k : Nat) (r : Addr), rows[k]? = some r → H r = some (.lst ((N.getD k []).map V.int))
def NAt (H : Hp) (p : Addr) (N : List (List Int)) : Prop := ∃ rows, H p = some (.lst (rows.map V.ref)) ∧ RowsAt H rows N
theorem RowsAt.same {H H' : Hp} {rows : List Addr} {N : List (List Int)} (h : RowsAt H rows N) (s : Same H H') : RowsAt H' rows N := ⟨h.1, fun k r e => s _ _ (h.2 k r e)⟩
theorem NAt.same {H H' : Hp} {p : Addr} {N : List (List Int)} (h : NAt H p N) (s : Same H H') : NAt H' p N := by
  obtain ⟨rows, h1, h2⟩ := h
  exact ⟨rows, s _ _ h1, h2.same s⟩
theorem NAt.row {H : Hp} {p : Addr} {N : List (List Int)} (h : NAt H p N) {i : Int} (h0 : 0 ≤ i) (hi : i < N.length) :
    ∃ xs r, H p = some (.lst xs) ∧ atI xs i = some (.ref r) ∧ H r = some (.lst ((N.getD i.toNat []).map V.int)) := by
  obtain ⟨rows, h1, h2, h3⟩ := h
  have hl : i.toNat < rows.length := by omega
  refine ⟨_, rows[i.toNat], h1, ?_, h3 i.toNat _ (List.getElem?_eq_getElem hl)⟩
  have z : (rows.map V.ref)[i.toNat]? = some (V.ref rows[i.toNat]) := by
    rw [List.getElem?_map, List.getElem?_eq_getElem hl]
    rfl
  have q := atI_nat z
  rwa [show ((i.toNat : Nat) : Int) = i by omega] at q
/-- nodes out of data -/
def nodeOf : PyData → Nat
  | .int i => i.toNat
  | _ => 0
theorem nodesOf {K : PySem.W.Frag} {H : Hp} {n : Nat} : ∀ {xs : List V} {ds : List PyData}, DpAll K H xs ds → ds.all (isNode n) = true → xs = (ds.map nodeOf).map (fun v : Nat => V.int (v : Int)) ∧ ∀ v ∈ ds.map nodeOf, v < n
  | [], _, h, _ => by
    cases h
    exact ⟨rfl, fun v hv => by simp at hv⟩
  | x :: xs, _, h, ha => by
    cases h with
    | cons h1 h2 =>
      rename_i d ds
      rw [List.all_cons, Bool.and_eq_true] at ha
      obtain ⟨e, b⟩ := nodesOf h2 ha.2
      have hd := ha.1
      cases d with
      | int i =>
        cases h1
        have hd : (decide ((0 : Int) ≤ i) && decide (i ≤ (n : Int) - 1)) = true := hd
        rw [Bool.and_eq_true, decide_eq_true_eq, decide_eq_true_eq] at hd
        refine ⟨?_, fun v hv => ?_⟩
        · rw [List.map_cons, List.map_cons, ← e]
          show V.int i :: xs = V.int ((i.toNat : Nat) : Int) :: xs
          rw [show ((i.toNat : Nat) : Int) = i by omega]
        · rcases List.mem_cons.mp (show v ∈ nodeOf (.int i) :: ds.map nodeOf from hv) with rfl | hv
          · show i.toNat < n
            omega
          · exact b v hv
      | none => cases hd
      | bool _ => cases hd
      | str _ => cases hd
      | list _ => cases hd
      | tuple _ => cases hd
      | dict _ => cases hd

end K21

set_option Elab.async false
set_option linter.all false
set_option maxRecDepth 100000
set_option maxHeartbeats 8000000
namespace K21
open PySem PySem.Spec PyProof.Rows L2 FNX
/-! ## Graphs, read; firing -/
def gflds (n : Int) (j nr : Addr) : List (Str × V) := [("node_count", .int n), ("joined", .ref j), ("near", .ref nr)]
theorem gl_n (n : Int) (j nr : Addr) : (gflds n j nr).lookup ("node_count" : Str) = some (.int n) := by
  unfold gflds
  simp [List.lookup]
theorem gl_j (n : Int) (j nr : Addr) : (gflds n j nr).lookup ("joined" : Str) = some (.ref j) := rfl
theorem gl_r (n : Int) (j nr : Addr) : (gflds n j nr).lookup ("near" : Str) = some (.ref nr) := rfl
def GAt (CG : Addr) (H : Hp) (g : Addr) (N : List (List Int)) : Prop := ∃ dx j nr, H g = some (.ins CG dx (gflds (N.length : Int) j nr)) ∧ NAt H nr N
theorem GAt.same {CG : Addr} {H H' : Hp} {g : Addr} {N : List (List Int)} (h : GAt CG H g N) (s : Same H H') : GAt CG H' g N := by
  obtain ⟨dx, j, nr, h1, h2⟩ := h
  exact ⟨dx, j, nr, s _ _ h1, h2.same s⟩
/-- what the walk asks of the class Graph -/
structure GTxt (K : PySem.W.Frag) (mg : Str → Option Value) (CG : Addr) : Prop where
  cl : Cls K CG
  n1 : NoAttr K CG "node_count"
  n2 : NoAttr K CG "joined"
  n3 : NoAttr K CG "near"
  mgC : mg "Graph" = some (.ref CG)
/-- a method x of Graph keeps sp -/
def MAt (P : Program) (w : World) (K : PySem.W.Frag) (mg : Str → Option Value) (base : Heap) (CG : Addr) (CX : CXT) (k : Nat) (x : Str) (ps : List Str) (sp : Sp) : Prop :=
  ∃ f fd, FnOk P w K mg base CX k f fd ps sp ∧ Meth K CG x f ∧ Binds K fd ps []
def spSize (CG : Addr) : Sp := fun vs H Q _ => ∃ g N, vs = [.ref g] ∧ GAt CG H g N ∧ Q (.int (N.length : Int)) H
def spCheckNode : Sp := fun vs H Q _ => ∃ n i : Int, vs = [.int n, .int i] ∧ 0 ≤ i ∧ i < n ∧ Q .non H
def spNeighbours (CG : Addr) : Sp := fun vs H Q _ => ∃ g N, ∃ i : Int, vs = [.ref g, .int i] ∧ GAt CG H g N ∧ 0 ≤ i ∧ i < N.length ∧
  ∀ p, H p = none → Q (.ref p) (upd H p (.lst ((N.getD i.toNat []).map V.int)))
def spAll (CG : Addr) : Sp := fun vs H Q _ => ∃ g N, vs = [.ref g] ∧ GAt CG H g N ∧ N.length ≤ 1000 ∧ ∀ p H', H p = none → Same H H' → NAt H' p N → Q (.ref p) H'
def spFlip : Sp := fun vs H Q _ => ∃ p r, ∃ x row : List Int, ∃ v : Int, vs = [.ref p, .int v, .ref r] ∧ H p = some (.lst (x.map V.int)) ∧ H r = some (.lst (row.map V.int)) ∧ p ≠ r ∧
  0 ≤ v ∧ v < x.length ∧ (∀ o ∈ row, 0 ≤ o ∧ o < x.length) ∧ ∀ H', H' p = some (.lst ((flipL row x v.toNat).map V.int)) → (∀ b, b ≠ p → H' b = H b) → Q .non H'
section
variable {P : Program} {w : World} {K : PySem.W.Frag} {mg : Str → Option Value} {base : Heap} {CG : Addr}
end

/-! ## flip_in_place, follow -/
theorem takeMore {α : Type} : ∀ {l : List α} {i : Nat} {x : α}, l[i]? = some x → l.take (i + 1) = l.take i ++ [x]
  | [], _, _, h => by simp at h
  | a :: l, 0, x, h => by
    have e : a = x := Option.some.inj h
    subst e
    rfl
  | a :: l, i + 1, x, h => by
    rw [List.take_succ_cons, List.take_succ_cons, takeMore (l := l) (i := i) h]
    rfl
theorem intsAt {x : List Int} {i : Nat} {y : V} (h : (x.map V.int)[i]? = some y) : ∃ o, x[i]? = some o ∧ y = .int o := by
  rw [List.getElem?_map] at h
  cases e : x[i]? with
  | none =>
    rw [e] at h
    cases h
  | some o =>
    rw [e] at h
    exact ⟨o, rfl, (Option.some.inj h).symm⟩
theorem repZero (n : Nat) : (List.replicate n [V.int 0]).flatten = (List.replicate n (0 : Int)).map V.int := by
  induction n with
  | zero => rfl
  | succ n ih =>
    rw [List.replicate_succ, List.flatten_cons, ih, List.replicate_succ, List.map_cons]
    rfl
def playD (N : List (List Int)) (d : PyData) (x : List Int) : Option (List Int × List Int) := match d with
  | .list ds => if ds.all (isNode N.length) = true then followL N (ds.map nodeOf) x (List.replicate N.length 0) else none
  | _ => none
def spFollow (K : PySem.W.Frag) (CG : Addr) : Sp := fun vs H Q _ => ∃ g N pv x tv d, vs = [.ref g, .ref pv, tv] ∧ GAt CG H g N ∧ WF N ∧ N.length ≤ 1000 ∧ SqL K H pv (x.map V.int) ∧ x.length = N.length ∧
  Rd K H tv d ∧ lenD d ≤ 100000 ∧ (∀ H', Same H H' → playD N d x = none → Q .non H') ∧
  ∀ x' t' T a b H', playD N d x = some (x', t') → Same H H' → H a = none → H b = none → H' T = some (.tup [.ref a, .ref b]) → H' a = some (.lst (x'.map V.int)) → H' b = some (.lst (t'.map V.int)) → Q (.ref T) H'
section
variable {P : Program} {w : World} {K : PySem.W.Frag} {mg : Str → Option Value} {base : Heap} {CG : Addr}
end

/-! ## check_position, negatives, has_ended, and the plays -/
def negL (x : List Int) : List Nat := (List.range x.length).filter fun i => decide (x.getD i 0 < 0)
def endedL (x : List Int) : Bool := (negL x).isEmpty
def posD (x : List Int) : PyData := .list (x.map .int)
theorem dpInts {K : PySem.W.Frag} {H : Hp} : ∀ x : List Int, DpAll K H (x.map V.int) (x.map PyData.int)
  | [] => .nil
  | _ :: x => .cons (.int _) (dpInts x)
theorem ilPos {n : Nat} {x : List Int} (h : x.length = n) : isIL n (posD x) = true := by
  show (decide ((x.map PyData.int).length = n) && (x.map PyData.int).all isI) = true
  rw [List.length_map, decide_eq_true h, List.all_map]
  simp [isI]
def spCheckPos (K : PySem.W.Frag) (CP : Addr) : Sp := fun vs H Q E => ∃ v d, ∃ n : Nat, vs = [.int n, v] ∧ Rd K H v d ∧ lenD d ≤ 100000 ∧ (∀ H', Same H H' → isIL n d = true → Q .non H') ∧
  ∀ H' dd, Same H H' → H dd = none → H' dd = some (.xd [(("value" : Str), v)]) → isIL n d = false → E (.ref CP) (some dd) H'
def spNeg (K : PySem.W.Frag) (CG : Addr) : Sp := fun vs H Q _ => ∃ g N p x, vs = [.ref g, .ref p] ∧ GAt CG H g N ∧ SqL K H p (x.map V.int) ∧ x.length = N.length ∧ N.length ≤ 1000 ∧
  ∀ D H', H D = none → Same H H' → H' D = some (.lst ((negL x).map fun i : Nat => V.int (i : Int))) → Q (.ref D) H'
def spEnded (K : PySem.W.Frag) (CG : Addr) : Sp := fun vs H Q _ => ∃ g N p x, vs = [.ref g, .ref p] ∧ GAt CG H g N ∧ SqL K H p (x.map V.int) ∧ x.length = N.length ∧ N.length ≤ 1000 ∧
  ∀ H', Same H H' → Q (.bl (endedL x)) H'
section
variable {P : Program} {w : World} {K : PySem.W.Frag} {mg : Str → Option Value} {base : Heap} {CG CP CL : Addr}
theorem filtMore (p : Nat → Bool) (i : Nat) : (List.range (i + 1)).filter p = (List.range i).filter p ++ (if p i = true then [i] else []) := by
  rw [List.range_succ, List.filter_append]
  congr 1
  by_cases h : p i = true
  · rw [if_pos h]
    simp [h]
  · rw [if_neg h]
    simp [h]
/-! ### the plays; E: InvalidPosition with the position, then InvalidPlay with the nodes -/
def spChecked (K : PySem.W.Frag) (CG CP CL : Addr) (out : List Int × List Int → Hp → Addr → Hp → Prop) : Sp := fun vs H Q E => ∃ g N qv dp nv d, vs = [.ref g, qv, nv] ∧ GAt CG H g N ∧ WF N ∧ N.length ≤ 1000 ∧
  Rd K H qv dp ∧ lenD dp ≤ 100000 ∧ Rd K H nv d ∧ lenD d ≤ 100000 ∧
  (isIL N.length dp = false → ∀ H' dd, Same H H' → H dd = none → H' dd = some (.xd [(("value" : Str), qv)]) → E (.ref CP) (some dd) H') ∧
  ∀ x, dp = posD x → x.length = N.length →
    (∀ H' dd, playD N d x = none → Same H H' → H dd = none → H' dd = some (.xd [(("value" : Str), nv)]) → E (.ref CL) (some dd) H') ∧
    ∀ r, playD N d x = some r → ∀ a H', Same H H' → out r H a H' → Q (.ref a) H'
theorem intsOfAll : ∀ ds : List PyData, (∀ d ∈ ds, isI d = true) → ds = (ds.map (fun d => match d with | .int i => i | _ => 0)).map PyData.int
  | [], _ => rfl
  | d :: ds, z => by
    have q := z d List.mem_cons_self
    rw [List.map_cons, List.map_cons, ← intsOfAll ds (fun e he => z e (List.mem_cons_of_mem _ he))]
    cases d <;> first | rfl | cases q
theorem ilD {n : Nat} {d : PyData} (h : isIL n d = true) : ∃ x, d = posD x ∧ x.length = n := by
  cases d with
  | list ds =>
    have h : (decide (ds.length = n) && ds.all isI) = true := h
    rw [Bool.and_eq_true, decide_eq_true_eq] at h
    refine ⟨ds.map (fun d => match d with | .int i => i | _ => 0), ?_, by rw [List.length_map]; exact h.1⟩
    exact congrArg PyData.list (intsOfAll ds (List.all_eq_true.mp h.2))
  | none => cases h
  | bool _ => cases h
  | int _ => cases h
  | str _ => cases h
  | tuple _ => cases h
  | dict _ => cases h
theorem rdPos {H : Hp} {v : V} {x : List Int} (h : Rd K H v (posD x)) : ∃ p, v = .ref p ∧ SqL K H p (x.map V.int) := by
  obtain ⟨a, xs, rfl, h1, h2⟩ := rdList h
  refine ⟨a, rfl, ?_⟩
  have e : xs = x.map V.int := by
    clear h h1
    induction x generalizing xs with
    | nil => cases h2; rfl
    | cons i x ih =>
      cases h2 with
      | cons h3 h4 =>
        cases h3
        rw [ih _ h4]
        rfl
  rw [← e]
  exact h1
theorem followLen {N : List (List Int)} : ∀ (vs : List Nat) (x t x' t' : List Int), followL N vs x t = some (x', t') → x'.length = x.length ∧ t'.length = t.length
  | [], x, t, x', t', h => by
    have h : some (x, t) = some (x', t') := h
    cases h
    exact ⟨rfl, rfl⟩
  | v :: vs, x, t, x', t', h => by
    have h : (if x.getD v 0 ≥ 0 then none else followL N vs (flipL (N.getD v []) x v) (t.set v (t.getD v 0 - x.getD v 0))) = some (x', t') := h
    by_cases c : x.getD v 0 ≥ 0
    · rw [if_pos c] at h
      cases h
    · rw [if_neg c] at h
      obtain ⟨h1, h2⟩ := followLen vs _ _ _ _ h
      rw [flipLen] at h1
      rw [List.length_set] at h2
      exact ⟨h1, h2⟩
theorem playLen {N : List (List Int)} {d : PyData} {x x' t' : List Int} (h : playD N d x = some (x', t')) : x'.length = x.length ∧ t'.length = N.length := by
  cases d with
  | list ds =>
    have h : (if ds.all (isNode N.length) = true then followL N (ds.map nodeOf) x (List.replicate N.length 0) else none) = some (x', t') := h
    by_cases c : ds.all (isNode N.length) = true
    · rw [if_pos c] at h
      obtain ⟨h1, h2⟩ := followLen _ _ _ _ _ h
      exact ⟨h1, by rw [h2, List.length_replicate]⟩
    · rw [if_neg c] at h
      cases h
  | none => cases h
  | bool _ => cases h
  | int _ => cases h
  | str _ => cases h
  | tuple _ => cases h
  | dict _ => cases h
def outTup (r : List Int × List Int) (H : Hp) (a : Addr) (H' : Hp) : Prop := ∃ b c, H b = none ∧ H c = none ∧ H' a = some (.tup [.ref b, .ref c]) ∧ H' b = some (.lst (r.1.map V.int)) ∧ H' c = some (.lst (r.2.map V.int))
def outFst (r : List Int × List Int) (H : Hp) (a : Addr) (H' : Hp) : Prop := H a = none ∧ H' a = some (.lst (r.1.map V.int))
def outSnd (r : List Int × List Int) (H : Hp) (a : Addr) (H' : Hp) : Prop := H a = none ∧ H' a = some (.lst (r.2.map V.int))
section
variable {P : Program} {w : World} {K : PySem.W.Frag} {mg : Str → Option Value} {base : Heap} {CG CP CL : Addr}
/-- is_play, is_complete: a truth value of the play; E: InvalidPosition -/
def spTold (K : PySem.W.Frag) (CG CP : Addr) (b : Option (List Int × List Int) → Bool) : Sp := fun vs H Q E => ∃ g N qv dp nv d, vs = [.ref g, qv, nv] ∧ GAt CG H g N ∧ WF N ∧ N.length ≤ 1000 ∧
  Rd K H qv dp ∧ lenD dp ≤ 100000 ∧ Rd K H nv d ∧ lenD d ≤ 100000 ∧
  (isIL N.length dp = false → ∀ H' dd, Same H H' → H dd = none → H' dd = some (.xd [(("value" : Str), qv)]) → E (.ref CP) (some dd) H') ∧
  ∀ x, dp = posD x → x.length = N.length → ∀ H', Same H H' → Q (.bl (b (playD N d x))) H'
def complB : Option (List Int × List Int) → Bool
  | none => false
  | some r => endedL r.1
end
end

end K21

set_option Elab.async false
set_option linter.all false
set_option maxRecDepth 100000
set_option maxHeartbeats 8000000
namespace K21
open PySem PySem.Spec PyProof.Rows L2 FNX
/-! ## Edges -/
def pairD (e : Int × Int) : PyData := .tuple [.int e.1, .int e.2]
theorem eqvPair (e f : Int × Int) : PyData.eqv (pairD e) (pairD f) = decide (e = f) := by
  have h : PyData.eqv (pairD e) (pairD f) = ((e.1 == f.1) && ((e.2 == f.2) && true)) := by
    unfold pairD
    first
      | rfl
      | simp [PyData.eqv, PyData.eqvAll]
  rw [h, Bool.and_true]
  by_cases c : e = f
  · subst c
    simp
  · rw [decide_eq_false c]
    by_cases c1 : e.1 = f.1
    · by_cases c2 : e.2 = f.2
      · exact absurd (Prod.ext c1 c2) c
      · have z : (e.2 == f.2) = false := by simpa using c2
        rw [z, Bool.and_false]
    · have z : (e.1 == f.1) = false := by simpa using c1
      rw [z, Bool.false_and]
/-- edges at addresses -/
def TupsAt (H : Hp) (ts : List Addr) (es : List (Int × Int)) : Prop := ts.length = es.length ∧ ∀ (k : Nat) (t : Addr), ts[k]? = some t → ∃ e, es[k]? = some e ∧ H t = some (.tup [.int e.1, .int e.2])
def EdgesAt (H : Hp) (p : Addr) (es : List (Int × Int)) : Prop := ∃ ts, H p = some (.lst (ts.map V.ref)) ∧ TupsAt H ts es
theorem TupsAt.same {H H' : Hp} {ts : List Addr} {es : List (Int × Int)} (h : TupsAt H ts es) (s : Same H H') : TupsAt H' ts es := ⟨h.1, fun k t e => by
  obtain ⟨x, h1, h2⟩ := h.2 k t e
  exact ⟨x, h1, s _ _ h2⟩⟩
theorem EdgesAt.same {H H' : Hp} {p : Addr} {es : List (Int × Int)} (h : EdgesAt H p es) (s : Same H H') : EdgesAt H' p es := by
  obtain ⟨ts, h1, h2⟩ := h
  exact ⟨ts, s _ _ h1, h2.same s⟩
structure GoodE (n : Nat) (es : List (Int × Int)) : Prop where
  node : ∀ e ∈ es, 0 ≤ e.1 ∧ e.1 < e.2 ∧ e.2 < n
  once : es.Nodup
  few : es.length ≤ 40
theorem dpTups {K : PySem.W.Frag} {H : Hp} : ∀ {ts : List Addr} {es : List (Int × Int)}, TupsAt H ts es → DpAll K H (ts.map V.ref) (es.map pairD)
  | [], [], _ => .nil
  | [], _ :: _, h => by
    have z := h.1
    simp at z
  | _ :: _, [], h => by
    have z := h.1
    simp at z
  | t :: ts, e :: es, h => by
    obtain ⟨x, h1, h2⟩ := h.2 0 t rfl
    obtain rfl : e = x := Option.some.inj h1
    refine .cons (.tup (SqT.of h2) (.cons (.int _) (.cons (.int _) .nil))) (dpTups ⟨by simpa using h.1, fun k t' e' => ?_⟩)
    obtain ⟨x, q1, q2⟩ := h.2 (k + 1) t' e'
    exact ⟨x, q1, q2⟩
theorem layPairs : ∀ es : List (Int × Int), PyData.canLayAll0 (es.map pairD) = true
  | [] => rfl
  | _ :: es => by
    show (true && PyData.canLayAll0 (es.map pairD)) = true
    rw [layPairs es]
    rfl
theorem depPairs : ∀ es : List (Int × Int), PyData.depthAll (es.map pairD) ≤ 1
  | [] => by decide
  | _ :: es => by
    show max 1 (PyData.depthAll (es.map pairD)) ≤ 1
    have z := depPairs es
    omega
theorem shapedPairs (es : List (Int × Int)) : SeqAt.shaped (.list (es.map pairD)) = true := by
  unfold SeqAt.shaped
  have e1 : PyData.canLay0 (.list (es.map pairD)) = true := layPairs es
  have e2 : PyData.depth (.list (es.map pairD)) ≤ 64 := by
    show PyData.depthAll (es.map pairD) + 1 ≤ 64
    have z := depPairs es
    omega
  rw [e1, decide_eq_true e2]
  rfl
theorem anyPair {f : Int × Int} : ∀ {es : List (Int × Int)}, f ∉ es → ((es.map pairD).any fun z => PyData.eqv z (pairD f)) = false
  | [], _ => rfl
  | e :: es, h => by
    rw [List.map_cons, List.any_cons, eqvPair, decide_eq_false (fun z => h (by rw [z]; exact List.mem_cons_self)), anyPair (fun z => h (List.mem_cons_of_mem _ z))]
    rfl
theorem anyPairT {f : Int × Int} : ∀ {es : List (Int × Int)}, f ∈ es → ((es.map pairD).any fun z => PyData.eqv z (pairD f)) = true
  | [], h => by simp at h
  | e :: es, h => by
    rw [List.map_cons, List.any_cons, eqvPair]
    by_cases c : e = f
    · rw [decide_eq_true c, Bool.true_or]
    · have h' : f ∈ es := by
        rcases List.mem_cons.mp h with z | z
        · exact absurd z.symm c
        · exact z
      rw [anyPairT h', Bool.or_true]

/-! ## graphs.py -/
def spIsEdge : Sp := fun vs H Q _ => ∃ (n : Nat) (t : Addr) (e : Int × Int), vs = [.int n, .ref t] ∧ H t = some (.tup [.int e.1, .int e.2]) ∧ 0 ≤ e.1 ∧ e.1 < e.2 ∧ e.2 < n ∧ Q (.bl true) H
def spEdges (K : PySem.W.Frag) : Sp := fun vs H Q _ => ∃ (n : Nat) (p : Addr) (es : List (Int × Int)), vs = [.int n, .ref p] ∧ EdgesAt H p es ∧ GoodE n es ∧
  ∀ q H' es', H q = none → Same H H' → EdgesAt H' q es' → es'.Perm es → Q (.ref q) H'
theorem kitT (K : PySem.W.Frag) : PySem.W.kitOne K (.type "tuple") (.type "tuple") = some true := kit_ty (by decide +kernel)
theorem kitLT (K : PySem.W.Frag) : PySem.W.kitAny K (.type "list") [.type "list", .type "tuple"] = some true :=
  kitAny_cons (b := true) (kit_ty (by decide +kernel)) (fun h => by cases h) (fun _ => rfl)
theorem boot_min1 : bootBuiltins "min" = some (.builtin "min") := by decide +kernel
theorem boot_max1 : bootBuiltins "max" = some (.builtin "max") := by decide +kernel
theorem boot_sorted1 : bootBuiltins "sorted" = some (.builtin "sorted") := by decide +kernel
theorem nodeIn {n : Nat} {i : Int} (h0 : 0 ≤ i) (h1 : i < n) : isNode n (.int i) = true := by
  show (decide ((0 : Int) ≤ i) && decide (i ≤ (n : Int) - 1)) = true
  rw [decide_eq_true h0, decide_eq_true (by omega)]
  rfl
section
variable {P : Program} {w : World} {K : PySem.W.Frag} {mg : Str → Option Value} {base : Heap} {CG : Addr}
theorem refAt {α : Type} {f : α → V} {xs : List α} {i : Nat} {y : V} (h : (xs.map f)[i]? = some y) : ∃ t, xs[i]? = some t ∧ y = f t := by
  rw [List.getElem?_map] at h
  cases e : xs[i]? with
  | none =>
    rw [e] at h
    cases h
  | some t =>
    rw [e] at h
    exact ⟨t, rfl, (Option.some.inj h).symm⟩
theorem notTaken {α : Type} {es : List α} (h : es.Nodup) {i : Nat} {e : α} (hi : es[i]? = some e) : e ∉ es.take i := by
  intro hm
  obtain ⟨j, hj, he⟩ := List.mem_iff_getElem.mp hm
  rw [List.length_take] at hj
  rw [List.getElem_take] at he
  obtain ⟨h1, h2⟩ := List.getElem?_eq_some_iff.mp hi
  have z := (List.pairwise_iff_getElem.mp h) j i (by omega) h1 (by omega)
  exact z (by rw [he, h2])
def keyE (H : Hp) : V → Int × Int
  | .ref t => match H t with
    | some (.tup [.int a, .int b]) => (a, b)
    | _ => (0, 0)
  | _ => (0, 0)
def refOf : V → Addr
  | .ref t => t
  | _ => 0
theorem keyE_at {H : Hp} {t : Addr} {e : Int × Int} (h : H t = some (.tup [.int e.1, .int e.2])) : keyE H (.ref t) = e := by
  unfold keyE
  simp only [h]
theorem permTups {H : Hp} {ts : List Addr} {es : List (Int × Int)} (h : TupsAt H ts es) {ys : List V} (hp : ys.Perm (ts.map V.ref)) : ∃ ts' es', ys = ts'.map V.ref ∧ TupsAt H ts' es' ∧ es'.Perm es := by
  have hm : ∀ y ∈ ys, ∃ t, y = V.ref t ∧ ∃ e : Int × Int, H t = some (.tup [.int e.1, .int e.2]) := fun y hy => by
    obtain ⟨t, ht, rfl⟩ := List.mem_map.mp (hp.mem_iff.mp hy)
    obtain ⟨k, hk, he⟩ := List.mem_iff_getElem.mp ht
    obtain ⟨e, h1, h2⟩ := h.2 k t (by rw [List.getElem?_eq_getElem hk, he])
    exact ⟨t, rfl, e, h2⟩
  have e1 : (ts.map V.ref).map (keyE H) = es := by
    apply List.ext_getElem
    · rw [List.length_map, List.length_map, h.1]
    · intro k h1 h2
      rw [List.length_map, List.length_map] at h1
      obtain ⟨e, q1, q2⟩ := h.2 k ts[k] (List.getElem?_eq_getElem h1)
      rw [List.getElem_map, List.getElem_map, keyE_at q2]
      rw [List.getElem?_eq_getElem h2] at q1
      exact (Option.some.inj q1).symm
  refine ⟨ys.map refOf, ys.map (keyE H), ?_, ⟨by rw [List.length_map, List.length_map], fun k t hk => ?_⟩, ?_⟩
  · rw [List.map_map]
    have z : ∀ y ∈ ys, (V.ref ∘ refOf) y = y := fun y hy => by
      obtain ⟨t, rfl, _⟩ := hm y hy
      rfl
    exact (List.map_congr_left z).symm ▸ (List.map_id ys).symm
  · rw [List.getElem?_map] at hk
    cases hy : ys[k]? with
    | none =>
      rw [hy] at hk
      cases hk
    | some y =>
      rw [hy] at hk
      obtain ⟨t', rfl, e, he⟩ := hm y (List.mem_of_getElem? hy)
      obtain rfl : t' = t := Option.some.inj hk
      refine ⟨e, ?_, he⟩
      rw [List.getElem?_map, hy]
      exact congrArg some (keyE_at he)
  · have z := hp.map (keyE H)
    rwa [e1] at z
end

/-! ## neighbour_lists -/
def rowOf (es : List (Int × Int)) (i : Int) : List Int := es.flatMap fun e => (if e.1 = i then [e.2] else []) ++ (if e.2 = i then [e.1] else [])
structure IsNear (n : Nat) (es : List (Int × Int)) (N : List (List Int)) : Prop where
  len : N.length = n
  row : ∀ i, i < n → (N.getD i []).Perm (rowOf es i)
  asc : ∀ i, i < n → (N.getD i []).Pairwise (· ≤ ·)
theorem rowOf_perm {es fs : List (Int × Int)} (h : es.Perm fs) (i : Int) : (rowOf es i).Perm (rowOf fs i) := List.Perm.flatMap_right _ h
theorem IsNear.perm {n : Nat} {es fs : List (Int × Int)} {N : List (List Int)} (h : IsNear n es N) (p : es.Perm fs) : IsNear n fs N := ⟨h.len, fun i hi => (h.row i hi).trans (rowOf_perm p i), h.asc⟩
theorem IsNear.uniq {n : Nat} {es : List (Int × Int)} {N M : List (List Int)} (h : IsNear n es N) (g : IsNear n es M) : N = M := by
  apply List.ext_getElem
  · rw [h.len, g.len]
  · intro i h1 h2
    have hi : i < n := by
      rw [← h.len]
      exact h1
    have a1 := h.row i hi
    have a2 := g.row i hi
    have b1 := h.asc i hi
    have b2 := g.asc i hi
    rw [List.getD_eq_getElem?_getD, List.getElem?_eq_getElem h1] at a1 b1
    rw [List.getD_eq_getElem?_getD, List.getElem?_eq_getElem h2] at a2 b2
    exact List.Perm.eq_of_pairwise (fun a b _ _ => Int.le_antisymm) b1 b2 (a1.trans a2.symm)
theorem rowOf_mem {n : Nat} {es : List (Int × Int)} (g : ∀ e ∈ es, 0 ≤ e.1 ∧ e.1 < e.2 ∧ e.2 < n) {i o : Int} (h : o ∈ rowOf es i) : 0 ≤ o ∧ o < n := by
  obtain ⟨e, he, h⟩ := List.mem_flatMap.mp h
  have z := g e he
  rcases List.mem_append.mp h with h | h
  · by_cases c : e.1 = i
    · rw [if_pos c, List.mem_singleton] at h
      omega
    · rw [if_neg c] at h
      simp at h
  · by_cases c : e.2 = i
    · rw [if_pos c, List.mem_singleton] at h
      omega
    · rw [if_neg c] at h
      simp at h
theorem IsNear.wf {n : Nat} {es : List (Int × Int)} {N : List (List Int)} (h : IsNear n es N) (g : ∀ e ∈ es, 0 ≤ e.1 ∧ e.1 < e.2 ∧ e.2 < n) : WF N := by
  intro i hi o ho
  rw [h.len] at hi ⊢
  exact rowOf_mem g ((h.row i hi).mem_iff.mp ho)
theorem rowOf_len : ∀ (es : List (Int × Int)) (i : Int), (rowOf es i).length ≤ 2 * es.length
  | [], _ => by simp [rowOf]
  | e :: es, i => by
    have z := rowOf_len es i
    have q : rowOf (e :: es) i = ((if e.1 = i then [e.2] else []) ++ (if e.2 = i then [e.1] else [])) ++ rowOf es i := rfl
    have q1 : (if e.1 = i then [e.2] else []).length ≤ 1 := by split <;> simp
    have q2 : (if e.2 = i then [e.1] else []).length ≤ 1 := by split <;> simp
    rw [q, List.length_append, List.length_append, List.length_cons]
    omega
theorem rowOf_more {es : List (Int × Int)} {k : Nat} {e : Int × Int} (h : es[k]? = some e) (i : Int) :
    rowOf (es.take (k + 1)) i = rowOf (es.take k) i ++ ((if e.1 = i then [e.2] else []) ++ (if e.2 = i then [e.1] else [])) := by
  rw [takeMore h]
  unfold rowOf
  rw [List.flatMap_append, List.flatMap_cons, List.flatMap_nil, List.append_nil]
/-- rows that grow -/
def Grow (H : Hp) (rs : List Addr) (n : Nat) (es : List (Int × Int)) : Prop := rs.length = n ∧ rs.Nodup ∧ ∀ (k : Nat) (r : Addr), rs[k]? = some r → H r = some (.lst ((rowOf es (k : Int)).map V.int))
theorem nodupAt {rs : List Addr} (h : rs.Nodup) {i j : Nat} {r s : Addr} (hi : rs[i]? = some r) (hj : rs[j]? = some s) (ne : i ≠ j) : r ≠ s := by
  intro e
  subst e
  obtain ⟨a1, a2⟩ := List.getElem?_eq_some_iff.mp hi
  obtain ⟨b1, b2⟩ := List.getElem?_eq_some_iff.mp hj
  exact ne ((List.getElem_inj h).mp (a2.trans b2.symm))
/-- lists that are new behind H: they stay whatever becomes of H's own objects -/
def NewN (H H' : Hp) (q : Addr) (N : List (List Int)) : Prop := ∀ H'', (∀ b o, H b = none → H' b = some o → H'' b = some o) → NAt H'' q N
theorem NewN.at {H H' : Hp} {q : Addr} {N : List (List Int)} (h : NewN H H' q N) : NAt H' q N := h H' fun _ _ _ e => e
def spNear (K : PySem.W.Frag) : Sp := fun vs H Q _ => ∃ (n : Nat) (p : Addr) (es : List (Int × Int)), vs = [.int n, .ref p] ∧ EdgesAt H p es ∧ GoodE n es ∧ n ≤ 1000 ∧
  ∀ q H' N, H q = none → Same H H' → NewN H H' q N → IsNear n es N → Q (.ref q) H'
theorem Grow.at {H : Hp} {rs : List Addr} {n : Nat} {es : List (Int × Int)} (h : Grow H rs n es) {i : Int} (h0 : 0 ≤ i) (hi : i < n) : ∃ r, rs[i.toNat]? = some r ∧ atI (rs.map V.ref) i = some (.ref r) ∧ H r = some (.lst ((rowOf es i).map V.int)) := by
  have hl : i.toNat < rs.length := by
    rw [h.1]
    omega
  refine ⟨rs[i.toNat], List.getElem?_eq_getElem hl, ?_, ?_⟩
  · have z : (rs.map V.ref)[i.toNat]? = some (V.ref rs[i.toNat]) := by
      rw [List.getElem?_map, List.getElem?_eq_getElem hl]
      rfl
    have q := atI_nat z
    rwa [show ((i.toNat : Nat) : Int) = i by omega] at q
  · have z := h.2.2 i.toNat _ (List.getElem?_eq_getElem hl)
    rwa [show ((i.toNat : Nat) : Int) = i by omega] at z
/-- one edge more -/
theorem Grow.more {H : Hp} {rs : List Addr} {n : Nat} {es : List (Int × Int)} {k : Nat} {e : Int × Int} {r1 r2 : Addr} (h : Grow H rs n (es.take k)) (he : es[k]? = some e) (g : 0 ≤ e.1 ∧ e.1 < e.2 ∧ e.2 < n)
    (h1 : rs[e.1.toNat]? = some r1) (h2 : rs[e.2.toNat]? = some r2) :
    Grow (upd (upd H r1 (.lst ((rowOf (es.take k) e.1).map V.int ++ [V.int e.2]))) r2 (.lst ((rowOf (es.take k) e.2).map V.int ++ [V.int e.1]))) rs n (es.take (k + 1)) := by
  refine ⟨h.1, h.2.1, fun j r hj => ?_⟩
  have hne : e.2.toNat ≠ e.1.toNat := by omega
  rw [rowOf_more he]
  by_cases c2 : j = e.2.toNat
  · subst c2
    obtain rfl : r2 = r := Option.some.inj (h2.symm.trans hj)
    have z1 : ((e.2.toNat : Nat) : Int) = e.2 := by omega
    rw [upd_same, z1, if_neg (by omega), if_pos rfl, List.nil_append, List.map_append]
    rfl
  · rw [upd_ne (nodupAt h.2.1 hj h2 c2)]
    by_cases c1 : j = e.1.toNat
    · subst c1
      obtain rfl : r1 = r := Option.some.inj (h1.symm.trans hj)
      have z1 : ((e.1.toNat : Nat) : Int) = e.1 := by omega
      rw [upd_same, z1, if_pos rfl, if_neg (by omega), List.append_nil, List.map_append]
      rfl
    · rw [upd_ne (nodupAt h.2.1 hj h1 c1), h.2.2 j r hj, if_neg (by omega), if_neg (by omega), List.append_nil, List.append_nil]
theorem getDl {α : Type} {L : List α} {x d : α} {k : Nat} (h : k < L.length) : (L ++ [x]).getD k d = L.getD k d := by
  rw [List.getD_eq_getElem?_getD, List.getD_eq_getElem?_getD, List.getElem?_append_left h]
theorem getDe {α : Type} {L : List α} {x d : α} {k : Nat} (h : k = L.length) : (L ++ [x]).getD k d = x := by
  subst h
  rw [List.getD_eq_getElem?_getD, List.getElem?_append_right (Nat.le_refl _), Nat.sub_self]
  rfl
section
variable {P : Program} {w : World} {K : PySem.W.Frag} {mg : Str → Option Value} {base : Heap} {CG : Addr}
end

/-! ## Graph.__init__ -/
theorem eqPair (e f : Int × Int) : PyData.eqv (pairD e) (pairD f) = decide (e = f) := eqvPair e f
theorem GoodE.perm {n : Nat} {es fs : List (Int × Int)} (h : GoodE n es) (p : fs.Perm es) : GoodE n fs := ⟨fun e he => h.node e (p.mem_iff.mp he), (p.nodup_iff).mpr h.once, by rw [p.length_eq]; exact h.few⟩
def spGInit (CG : Addr) : Sp := fun vs H Q _ => ∃ (x dx p : Addr) (n : Nat) (es : List (Int × Int)), vs = [.ref x, .int n, .ref p] ∧ H x = some (.ins CG dx []) ∧ EdgesAt H p es ∧ GoodE n es ∧ 1 ≤ n ∧ n ≤ 16 ∧
  ∀ H' N j nr, (∀ b o, b ≠ x → H b = some o → H' b = some o) → H' x = some (.ins CG dx (gflds (N.length : Int) j nr)) → NewN H H' nr N → IsNear n es N → (∃ es', EdgesAt H' j es' ∧ es'.Perm es) → Q .non H'
section
variable {P : Program} {w : World} {K : PySem.W.Frag} {mg : Str → Option Value} {base : Heap} {CG : Addr}
end

end K21

set_option Elab.async false
set_option linter.all false
set_option maxRecDepth 100000
set_option maxHeartbeats 8000000
namespace K21
open PySem PySem.Spec PyProof.Rows L2 FNX
/-! ## A new object -/
theorem newAt {H : Hp} {a : Addr} (o : HO) (h : H a = none) : ∃ H1, upd H a o = H1 ∧ Same H H1 ∧ H1 a = some o := ⟨_, rfl, same_upd h, upd_same⟩
theorem eqvSame {d : PyData} (h : SeqAt.shaped d = true) : PyData.eqv d d = true := SeqAt.eqv_refl d (SeqAt.canLay_of_shaped h)
theorem boot_repr1 : bootBuiltins "repr" = some (.builtin "repr") := by decide +kernel
theorem layInts : ∀ es : List Int, PyData.canLayAll0 (es.map PyData.int) = true
  | [] => rfl
  | _ :: es => by
    show (true && PyData.canLayAll0 (es.map PyData.int)) = true
    rw [layInts es]
    rfl
theorem depInts : ∀ es : List Int, PyData.depthAll (es.map PyData.int) ≤ 0
  | [] => by decide
  | _ :: es => by
    show max 0 (PyData.depthAll (es.map PyData.int)) ≤ 0
    have z := depInts es
    omega
theorem shapedInts (es : List Int) : SeqAt.shaped (.list (es.map PyData.int)) = true := by
  unfold SeqAt.shaped
  have e1 : PyData.canLay0 (.list (es.map PyData.int)) = true := layInts es
  have e2 : PyData.depth (.list (es.map PyData.int)) ≤ 64 := by
    show PyData.depthAll (es.map PyData.int) + 1 ≤ 64
    have z := depInts es
    omega
  rw [e1, decide_eq_true e2]
  rfl

/-! ## The law's own edges -/
/-- all but the object at p stays -/
def SameX (p : Addr) (H H' : Hp) : Prop := ∀ b o, b ≠ p → H b = some o → H' b = some o
theorem SameX.trans {p : Addr} {H H1 H2 : Hp} (a : SameX p H H1) (b : SameX p H1 H2) : SameX p H H2 := fun c o n e => b c o n (a c o n e)
theorem Same.x {p : Addr} {H H1 : Hp} (a : Same H H1) : SameX p H H1 := fun c o _ e => a c o e
theorem sameX_take {p : Addr} {H H' : Hp} (h : ∀ b, b ≠ p → H' b = H b) : SameX p H H' := fun b o n e => (h b n).trans e
theorem SameX.free {p q : Addr} {H H' : Hp} (a : SameX p H H') (h : PoolAt H p) (n : H' q = none) (hp : PoolAt H' p) : H q = none := by
  cases e : H q with
  | none => rfl
  | some o =>
    have z : q ≠ p := fun c => by
      obtain ⟨_, _, z, _⟩ := hp
      rw [← c, n] at z
      cases z
    rw [a q o z e] at n
    cases n
theorem PoolAt.same {p : Addr} {H H' : Hp} (h : PoolAt H p) (s : Same H H') : PoolAt H' p := by
  obtain ⟨c, d, z, r⟩ := h
  exact ⟨c, d, s _ _ z, r⟩
theorem PoolAt.ne {p q : Addr} {H : Hp} (h : PoolAt H p) (n : H q = none) : p ≠ q := by
  obtain ⟨_, _, z, _⟩ := h
  exact ne_of_none z n
theorem TupsAt.sameX {p : Addr} {H H' : Hp} {ts : List Addr} {es : List (Int × Int)} (h : TupsAt H ts es) (hp : PoolAt H p) (s : SameX p H H') : TupsAt H' ts es := ⟨h.1, fun k t e => by
  obtain ⟨x, h1, h2⟩ := h.2 k t e
  obtain ⟨_, _, z, _⟩ := hp
  exact ⟨x, h1, s _ _ (ne_of h2 z (by intro y; cases y)) h2⟩⟩
theorem TupsAt.push {H : Hp} {ts : List Addr} {es : List (Int × Int)} {t : Addr} {e : Int × Int} (h : TupsAt H ts es) (ht : H t = some (.tup [.int e.1, .int e.2])) : TupsAt H (ts ++ [t]) (es ++ [e]) := by
  refine ⟨by rw [List.length_append, List.length_append, h.1]; rfl, fun k t' hk => ?_⟩
  by_cases hl : k < ts.length
  · rw [List.getElem?_append_left hl] at hk
    obtain ⟨x, q1, q2⟩ := h.2 k t' hk
    exact ⟨x, by rw [List.getElem?_append_left (by rw [← h.1]; exact hl)]; exact q1, q2⟩
  · rw [List.getElem?_append_right (by omega)] at hk
    have hk' : k = ts.length := by
      have z := (List.getElem?_eq_some_iff.mp hk).1
      simp at z
      omega
    subst hk'
    rw [Nat.sub_self] at hk
    obtain rfl : t = t' := Option.some.inj hk
    refine ⟨e, ?_, ht⟩
    rw [h.1, List.getElem?_append_right (Nat.le_refl _), Nat.sub_self]
    rfl
def spJoins : Sp := fun vs H Q _ => ∃ (p : Addr) (n m : Nat), vs = [.ref p, .int n, .int m] ∧ PoolAt H p ∧ 1 ≤ n ∧ n ≤ 1000 ∧ m ≤ 40 ∧
  ∀ q H' es, H q = none → SameX p H H' → PoolAt H' p → EdgesAt H' q es → GoodE n es → Q (.ref q) H'
section
variable {P : Program} {w : World} {K : PySem.W.Frag} {mg : Str → Option Value} {base : Heap} {CG : Addr}
end

/-! ## The law's own plays -/
/-- lists that stand still whatever becomes of the object at p -/
def NX (p : Addr) (H : Hp) (q : Addr) (N : List (List Int)) : Prop := ∀ H', SameX p H H' → NAt H' q N
theorem SameX.refl {p : Addr} {H : Hp} : SameX p H H := fun _ _ _ e => e
theorem NX.at {p q : Addr} {H : Hp} {N : List (List Int)} (h : NX p H q N) : NAt H q N := h H SameX.refl
theorem NX.same {p q : Addr} {H H' : Hp} {N : List (List Int)} (h : NX p H q N) (s : SameX p H H') : NX p H' q N := fun H2 s2 => h H2 (s.trans s2)
def spTurned (K : PySem.W.Frag) : Sp := fun vs H Q _ => ∃ (nr h : Addr) (N : List (List Int)) (x : List Int) (v : Int), vs = [.ref nr, .ref h, .int v] ∧ NAt H nr N ∧ WF N ∧ H h = some (.lst (x.map V.int)) ∧ x.length = N.length ∧ 0 ≤ v ∧ v < N.length ∧
  ∀ q H', H q = none → Same H H' → H' q = some (.lst ((flipL (N.getD v.toNat []) x v.toNat).map V.int)) → Q (.ref q) H'
def spSmall : Sp := fun vs H Q _ => ∃ (p : Addr) (n wd : Nat), vs = [.ref p, .int n, .int wd] ∧ PoolAt H p ∧ n ≤ 1000 ∧ wd ≤ 1000 ∧
  ∀ q H' (x : List Int), H q = none → SameX p H H' → PoolAt H' p → H' q = some (.lst (x.map V.int)) → x.length = n → (∀ o ∈ x, -(wd : Int) ≤ o ∧ o ≤ wd) → Q (.ref q) H'
def spLed (K : PySem.W.Frag) : Sp := fun vs H Q _ => ∃ (p nr h : Addr) (N : List (List Int)) (x : List Int), vs = [.ref p, .ref nr, .ref h] ∧ PoolAt H p ∧ NX p H nr N ∧ WF N ∧ H h = some (.lst (x.map V.int)) ∧ h ≠ p ∧ x.length = N.length ∧ N.length ≤ 1000 ∧
  ∀ q H' (vs : List Int), H q = none → SameX p H H' → PoolAt H' p → H' q = some (.lst (vs.map V.int)) → vs.length ≤ 12 → (∀ v ∈ vs, 0 ≤ v ∧ v < N.length) → Q (.ref q) H'
section
variable {P : Program} {w : World} {K : PySem.W.Frag} {mg : Str → Option Value} {base : Heap} {CG : Addr}
end

/-! ## _law_number, _law_numbers -/
def spNumber : Sp := fun vs H Q _ => ∃ p : Addr, vs = [.ref p] ∧ PoolAt H p ∧ ∀ (r : Int) H', r.natAbs ≤ 100000000000000000000000000000000000000 → SameX p H H' → PoolAt H' p → Q (.int r) H'
def spNumbers : Sp := fun vs H Q _ => ∃ (p : Addr) (n : Nat), vs = [.ref p, .int n] ∧ PoolAt H p ∧ n ≤ 1000 ∧
  ∀ q H' (x : List Int), H q = none → SameX p H H' → PoolAt H' p → H' q = some (.lst (x.map V.int)) → x.length = n → (∀ o ∈ x, o.natAbs ≤ 100000000000000000000000000000000000000) → Q (.ref q) H'
section
variable {P : Program} {w : World} {K : PySem.W.Frag} {mg : Str → Option Value} {base : Heap}
theorem sc_number : FnScope ["_law_pool_here", "_law_far"] ["_law_pool_here"] (defScope s__law_number) := ⟨rfl, rfl, rfl, by decide +kernel, rfl, by decide +kernel, by decide +kernel⟩
theorem ok_number {f : Addr} {fd : FuncData} (F : Fun K "_law_number" "_law_number" s__law_number f fd) (G : At P w K mg base CX0 1 "_law_take" ["_law_pool_here", "_law_sides"] spTake) :
    FnOk P w K mg base CX0 2 f fd ["_law_pool_here"] spNumber := by
  obtain ⟨c, cd, G, mG, kG, bG⟩ := G
  refine F.ok sc_number (fun vs H Q E h => ?_) (fun cdv A outer s H vs Q E hr h => ?_)
  · obtain ⟨p, rfl, _⟩ := h
    rfl
  · obtain ⟨p, rfl, hp, k⟩ := h
    refine ⟨_, pss_cons (ps_set (i := 1) sc_number.nd rfl (Or.inl rfl) (pe_op op_sub (pe_call G hr (by rfl) mG kG bG .nil pass0 (pa_cons (pv 0) (pa_cons (pe_op op_pow pe_int pe_int) pa_nil))) (pe_op op_mul pe_int (pe_op op_pow pe_int pe_int))))
      (pss_one (ps_ret (pe_ix ix_list (pe_lst (pa_cons (pe_op op_sub (pe_call G hr (by rfl) mG kG bG .nil pass0 (pa_cons (pv 0) (pa_cons pe_int pa_nil))) pe_int)
        (pa_cons (pe_op op_sub (pe_call G hr (by rfl) mG kG bG .nil pass0 (pa_cons (pv 0) (pa_cons pe_int pa_nil))) pe_int) (pa_cons pe_int (pa_cons (pv 1) (pa_cons (pe_op op_mulW (pv 1) (pe_op op_pow pe_int pe_int)) pa_nil))))))
        (pe_call G hr (by rfl) mG kG bG .nil pass0 (pa_cons (pv 0) (pa_cons pe_int pa_nil))) (fun _ _ => rfl)))), ?_⟩
    refine ⟨_, rfl, _, _, rfl, rfl, ⟨by decide, by decide, by decide⟩, p, 1000000000000000000, rfl, hp, by decide, by decide, fun r H1 r0 r1 hp1 t1 => ?_⟩
    refine ⟨_, _, rfl, rfl, ⟨by decide, by decide, by decide⟩, _, _, rfl, rfl, .inl ⟨by decide, by decide⟩, _, _, rfl, rfl, ?_⟩
    obtain ⟨far, hfar⟩ : ∃ far : Int, r - 5 * 10 ^ (17 : Int).toNat = far := ⟨_, rfl⟩
    have hb : far.natAbs ≤ 500000000000000000 := by
      have e : (5 : Int) * 10 ^ (17 : Int).toNat = 500000000000000000 := by decide +kernel
      rw [e] at hfar
      omega
    rw [show ((fun i j : Int => V.int (i - j)) r (5 * 10 ^ (17 : Int).toNat)) = V.int far from congrArg V.int hfar]
    refine ⟨_, rfl, p, 9, rfl, hp1, by decide, by decide, fun a H2 a0 a1 hp2 t2 => ⟨_, _, rfl, rfl, ?_⟩⟩
    refine ⟨_, rfl, p, 9, rfl, hp2, by decide, by decide, fun b H3 b0 b1 hp3 t3 => ⟨_, _, rfl, rfl, ?_⟩⟩
    refine ⟨_, rfl, _, rfl, _, _, rfl, rfl, ⟨by decide, by decide, by decide⟩, _, _, rfl, rfl, ?_, by show 5 ≤ sizeLine; decide, fun D nD => ?_⟩
    · exact wide_mul (a := 64) (b := 70) (by omega) (by decide +kernel) (by decide) (by decide) (by decide)
    obtain ⟨H4, q4, s4, h4⟩ := newAt (.lst [V.int (a - 4), V.int (b - 4), V.int 0, V.int far, V.int (far * 10 ^ (20 : Int).toNat)]) nD
    have q4' : upd H3 D (.lst [(fun i j : Int => V.int (i - j)) a 4, (fun i j : Int => V.int (i - j)) b 4, V.int 0, V.int far, (fun i j : Int => V.int (i * j)) far (10 ^ (20 : Int).toNat)]) = H4 := q4
    rw [q4']
    refine ⟨_, rfl, p, 5, rfl, hp3.same s4, by decide, by decide, fun e H5 e0 e1 hp5 t5 => ?_⟩
    have pD : D ≠ p := (hp3.ne nD).symm
    have h5 : H5 D = some (.lst [V.int (a - 4), V.int (b - 4), V.int 0, V.int far, V.int (far * 10 ^ (20 : Int).toNat)]) := (t5 D pD).trans h4
    have sx : SameX p H H5 := ((((sameX_take t1).trans (sameX_take t2)).trans (sameX_take t3)).trans (Same.x s4)).trans (sameX_take t5)
    have e20 : (10 : Int) ^ (20 : Int).toNat = 100000000000000000000 := by decide +kernel
    obtain rfl | rfl | rfl | rfl | rfl : e = 0 ∨ e = 1 ∨ e = 2 ∨ e = 3 ∨ e = 4 := by omega
    · exact ⟨D, _, _, _, rfl, rfl, SqL.of h5, rfl, k _ H5 (by omega) sx hp5⟩
    · exact ⟨D, _, _, _, rfl, rfl, SqL.of h5, rfl, k _ H5 (by omega) sx hp5⟩
    · exact ⟨D, _, _, _, rfl, rfl, SqL.of h5, rfl, k _ H5 (by decide) sx hp5⟩
    · exact ⟨D, _, _, _, rfl, rfl, SqL.of h5, rfl, k _ H5 (by omega) sx hp5⟩
    · refine ⟨D, _, _, _, rfl, rfl, SqL.of h5, rfl, k _ H5 ?_ sx hp5⟩
      rw [e20]
      omega
theorem sc_numbers : FnScope ["_law_pool_here", "_law_many", "_law_node"] ["_law_pool_here", "_law_many"] (defScope s__law_numbers) := ⟨rfl, rfl, rfl, by decide +kernel, rfl, by decide +kernel, by decide +kernel⟩
theorem ok_numbers {f : Addr} {fd : FuncData} (F : Fun K "_law_numbers" "_law_numbers" s__law_numbers f fd) (M : Nms mg) (G : At P w K mg base CX0 2 "_law_number" ["_law_pool_here"] spNumber) :
    FnOk P w K mg base CX0 3 f fd ["_law_pool_here", "_law_many"] spNumbers := by
  obtain ⟨c, cd, G, mG, kG, bG⟩ := G
  refine F.ok sc_numbers (fun vs H Q E h => ?_) (fun cdv A outer s H vs Q E hr h => ?_)
  · obtain ⟨p, n, rfl, _⟩ := h
    rfl
  · obtain ⟨p, n, rfl, hp, n1, k⟩ := h
    refine ⟨_, pss_one (ps_ret (pe_lc (own := [("_law_node", 2)]) (g := gName 2) (tt := tYes) rfl sc_numbers.nd
      (pi_range1 rfl M.range (pa_cons (pv 1) pa_nil))
      (blkOk_by (own := [("_law_node", 2)]) (N := ["_law_pool_here", "_law_many", "_law_node"]) (sc := defScope s__law_numbers) (by decide +kernel))
      (fun _ _ _ _ _ => pg_name (i := 2) sc_numbers.nd rfl (Or.inl rfl)) (fun _ _ _ _ _ => pts_nil)
      (fun _ _ _ _ _ => pe_call G hr (by rfl) mG kG bG .nil pass0 (pa_cons (pv 0) pa_nil)))), ?_⟩
    refine ⟨_, rfl, n, rfl, by omega, by omega, fun D hD => ?_⟩
    have pD := hp.ne hD
    refine lc_range (lo := 0) (fun i H' => SameX p H H' ∧ PoolAt H' p ∧ ∃ x : List Int, H' D = some (.lst (x.map V.int)) ∧ x.length = i ∧ ∀ o ∈ x, o.natAbs ≤ 100000000000000000000000000000000000000)
      ⟨Same.x (same_upd hD), hp.same (same_upd hD), [], upd_same, rfl, by simp⟩ (fun i H' hi h => ?_) (fun H' h => ?_)
    · obtain ⟨sx, hpp, x, e1, e2, e3⟩ := h
      refine ⟨rfl, ?_⟩
      refine ⟨_, rfl, p, rfl, hpp, fun r H2 hr2 s2 hp2 => ?_⟩
      have hD2 : H2 D = some (.lst (x.map V.int)) := s2 _ _ pD.symm e1
      refine ⟨_, hD2, by rw [List.length_map, e2, sizeLine_eq]; omega, fun b o hb e => ?_, ?_, x ++ [r], by rw [upd_same, List.map_append]; rfl, by rw [List.length_append, e2]; rfl, fun o ho => ?_⟩
      · rw [upd_ne (ne_of_none e hD)]
        exact s2 _ _ hb (sx b o hb e)
      · obtain ⟨c1, c2, z, y⟩ := hp2
        exact ⟨c1, c2, by rw [upd_ne pD]; exact z, y⟩
      · rcases List.mem_append.mp ho with ho | ho
        · exact e3 o ho
        · rw [List.mem_singleton.mp ho]
          exact hr2
    · obtain ⟨sx, hpp, x, e1, e2, e3⟩ := h
      exact k D H' x hD sx hpp e1 (by omega) e3
end

/-! ## Data whose text is short -/
structure Shw (k L : Nat) (d : PyData) : Prop where
  ok : d.showable = true
  deep : d.depth ≤ k
  len : d.shown.length ≤ L
theorem Shw.mono {k L k' L' : Nat} {d : PyData} (h : Shw k L d) (hk : k ≤ k') (hl : L ≤ L') : Shw k' L' d := ⟨h.ok, Nat.le_trans h.deep hk, Nat.le_trans h.len hl⟩
theorem textFrom_le : ∀ (ts : List Str) (k : Nat) (acc : Str), (textFrom k acc ts).length ≤ acc.length + piled ts
  | [], _, acc => by show acc.length ≤ acc.length + _; omega
  | t :: r, k, acc => by
    have h1 := textFrom_le r (k + 1) (acc ++ (if k > 0 then ", " else "" : String) ++ t)
    have e : (acc ++ (if k > 0 then ", " else "" : String) ++ t).length = acc.length + (if k > 0 then 2 else 0) + t.length := by
      rw [strLen_append, strLen_append]
      split <;> rfl
    have e2 : (if k > 0 then 2 else 0 : Nat) ≤ 2 := by split <;> decide
    rw [e] at h1
    rw [piled_cons]
    show (textFrom (k + 1) (acc ++ (if k > 0 then ", " else "" : String) ++ t) r).length ≤ _
    omega
theorem listText_le (ts : List Str) : (listText ts).length ≤ piled ts + 2 := by
  have h := textFrom_le ts 0 "["
  have e : (listText ts).length = (textFrom 0 "[" ts).length + 1 := by
    unfold listText
    rw [strLen_append]
    rfl
  have e1 : ((("[" : String) : Str)).length = 1 := rfl
  omega
theorem tupleText_le (ts : List Str) : (tupleText ts).length ≤ piled ts + 3 := by
  have e : (tupleText ts).length = 1 + (Str.join ", " ts).length + (((if ts.length == 1 then ",)" else ")" : String) : Str)).length := by
    unfold tupleText
    rw [strLen_append, strLen_append]
    rfl
  have e3 : (((if ts.length == 1 then ",)" else ")" : String) : Str)).length ≤ 2 := by split <;> decide
  cases ts with
  | nil =>
    have z : (Str.join ", " ([] : List Str)).length = 0 := rfl
    omega
  | cons t r =>
    have z := join_length_add (t :: r) (by simp)
    omega
theorem shownAll_map : ∀ es : List PyData, PyData.shownAll es = es.map PyData.shown
  | [] => by simp only [PyData.shownAll, List.map_nil]
  | e :: es => by simp only [PyData.shownAll, List.map_cons, shownAll_map es]
theorem piled_le {L : Nat} : ∀ {es : List PyData}, (∀ e ∈ es, e.shown.length ≤ L) → piled (es.map PyData.shown) ≤ (L + 2) * es.length
  | [], _ => Nat.zero_le _
  | e :: es, h => by
    have h1 := h e List.mem_cons_self
    have h2 := piled_le (es := es) fun x hx => h x (List.mem_cons_of_mem _ hx)
    rw [List.map_cons, piled_cons, List.length_cons, Nat.mul_succ]
    omega
theorem showAll_of : ∀ {es : List PyData}, (∀ e ∈ es, e.showable = true) → PyData.showableAll es = true
  | [], _ => by simp only [PyData.showableAll]
  | e :: es, h => by simp only [PyData.showableAll, h e List.mem_cons_self, showAll_of (es := es) fun x hx => h x (List.mem_cons_of_mem _ hx), Bool.and_self]
theorem deepAll_of {k : Nat} : ∀ {es : List PyData}, (∀ e ∈ es, e.depth ≤ k) → PyData.depthAll es ≤ k
  | [], _ => by simp only [PyData.depthAll]; omega
  | e :: es, h => by
    have h1 := h e List.mem_cons_self
    have h2 := deepAll_of (es := es) fun x hx => h x (List.mem_cons_of_mem _ hx)
    simp only [PyData.depthAll]
    omega
theorem shwList {k L m : Nat} {es : List PyData} (h : ∀ e ∈ es, Shw k L e) (hm : es.length ≤ m) : Shw (k + 1) ((L + 2) * m + 2) (.list es) := by
  refine ⟨?_, ?_, ?_⟩
  · simp only [PyData.showable]
    exact showAll_of fun e he => (h e he).ok
  · have z := deepAll_of (k := k) fun e he => (h e he).deep
    simp only [PyData.depth]
    omega
  · simp only [PyData.shown]
    rw [shownAll_map]
    have z := listText_le (es.map PyData.shown)
    have y := piled_le (L := L) (es := es) fun e he => (h e he).len
    have x := Nat.mul_le_mul_left (L + 2) hm
    omega
theorem shwTup {k L m : Nat} {es : List PyData} (h : ∀ e ∈ es, Shw k L e) (hm : es.length ≤ m) : Shw (k + 1) ((L + 2) * m + 3) (.tuple es) := by
  refine ⟨?_, ?_, ?_⟩
  · simp only [PyData.showable]
    exact showAll_of fun e he => (h e he).ok
  · have z := deepAll_of (k := k) fun e he => (h e he).deep
    simp only [PyData.depth]
    omega
  · simp only [PyData.shown]
    rw [shownAll_map]
    have z := tupleText_le (es.map PyData.shown)
    have y := piled_le (L := L) (es := es) fun e he => (h e he).len
    have x := Nat.mul_le_mul_left (L + 2) hm
    omega
theorem intLen {i : Int} {k : Nat} (hk : 0 < k) (h : i.natAbs < 10 ^ k) : (Str.ofString (toString i)).length ≤ k + 1 := by
  by_cases c : 0 ≤ i
  · have z := toString_length_le (v := i) c hk (by
      have e : i = (i.natAbs : Int) := by omega
      rw [e]
      exact_mod_cast h)
    omega
  · obtain ⟨m, rfl⟩ : ∃ m, i = Int.negSucc m := ⟨(-i - 1).toNat, by omega⟩
    have z := toString_length_le (v := ((m + 1 : Nat) : Int)) (by omega) hk (by exact_mod_cast h)
    have e : toString (Int.negSucc m) = "-" ++ toString (((m + 1 : Nat) : Int)) := rfl
    rw [e]
    have q : ∀ a b : String, (Str.ofString (a ++ b)).length = (Str.ofString a).length + (Str.ofString b).length := fun a b => by
      rw [Str.ofString_eq_toList, Str.ofString_eq_toList, Str.ofString_eq_toList]
      simp [Str.length]
    rw [q]
    have o : (Str.ofString "-").length = 1 := rfl
    omega
theorem shwInt {i : Int} (h : i.natAbs < 10 ^ 12) : Shw 0 13 (.int i) := by
  refine ⟨?_, ?_, ?_⟩
  · simp only [PyData.showable]
    refine decide_eq_true ?_
    have z : i.natAbs.log2 ≤ 40 := by
      by_cases c : i.natAbs = 0
      · rw [c]
        decide
      · exact Nat.le_of_lt_succ ((Nat.log2_lt c).mpr (Nat.lt_of_lt_of_le h (by decide)))
    omega
  · simp only [PyData.depth]
    omega
  · simp only [PyData.shown]
    exact intLen (by decide) h

/-! ## How great the numbers of a play grow -/
def Bd (C : Nat) (x : List Int) : Prop := ∀ z ∈ x, z.natAbs ≤ C
theorem Bd.getD {C : Nat} {x : List Int} (h : Bd C x) (i : Nat) : (x.getD i 0).natAbs ≤ C := by
  rw [List.getD_eq_getElem?_getD]
  cases e : x[i]? with
  | none => exact Nat.zero_le _
  | some z => exact h z (List.mem_of_getElem? e)
theorem Bd.mono {C D : Nat} {x : List Int} (h : Bd C x) (d : C ≤ D) : Bd D x := fun z hz => Nat.le_trans (h z hz) d
theorem Bd.set {C : Nat} {x : List Int} (h : Bd C x) {i : Nat} {v : Int} (hv : v.natAbs ≤ C) : Bd C (x.set i v) := fun z hz => by
  rcases List.mem_or_eq_of_mem_set hz with hz | rfl
  · exact h z hz
  · exact hv
theorem Bd.fold {B : Nat} {c : Int} (hc : c.natAbs ≤ B) : ∀ (row y : List Int) (C : Nat), Bd C y → Bd (C + row.length * B) (row.foldl (fun y o => y.set o.toNat (y.getD o.toNat 0 + c)) y)
  | [], y, C, h => by
    rw [List.foldl_nil]
    exact h.mono (by omega)
  | o :: row, y, C, h => by
    rw [List.foldl_cons]
    have z := Bd.fold hc row (y.set o.toNat (y.getD o.toNat 0 + c)) (C + B) ((h.mono (by omega)).set (by
      have q := h.getD o.toNat
      omega))
    refine z.mono ?_
    rw [List.length_cons, Nat.add_mul]
    omega
theorem Bd.flip {C : Nat} {row x : List Int} {v : Nat} (h : Bd C x) (hr : row.length ≤ 80) : Bd (81 * C) (flipL row x v) := by
  have hv := h.getD v
  have z := Bd.fold (c := x.getD v 0) hv row x C h
  have y := Nat.mul_le_mul_right C hr
  refine (z.mono ?_).set ?_
  · omega
  · omega
theorem Bd.follow {N : List (List Int)} (hN : ∀ i, (N.getD i []).length ≤ 80) : ∀ (vs : List Nat) (C : Nat) (x t x' t' : List Int), Bd C x → Bd C t → followL N vs x t = some (x', t') → Bd (81 ^ vs.length * C) x' ∧ Bd (81 ^ vs.length * C) t'
  | [], C, x, t, x', t', hx, ht, e => by
    unfold followL at e
    injection e with e
    injection e with e1 e2
    subst e1 e2
    rw [List.length_nil, Nat.pow_zero, Nat.one_mul]
    exact ⟨hx, ht⟩
  | v :: vs, C, x, t, x', t', hx, ht, e => by
    unfold followL at e
    by_cases c : x.getD v 0 ≥ 0
    · rw [if_pos c] at e
      cases e
    rw [if_neg c] at e
    have hv := hx.getD v
    have z := Bd.follow hN vs (81 * C) _ _ x' t' (hx.flip (hN v)) ((ht.mono (by omega)).set (by
      have q := ht.getD v
      omega)) e
    rw [List.length_cons, Nat.pow_succ, Nat.mul_assoc]
    exact z
theorem Bd.play {N : List (List Int)} {d : PyData} {x x' t' : List Int} (hN : ∀ i, (N.getD i []).length ≤ 80) (hx : Bd 4 x) (hd : lenD d ≤ 25) (e : playD N d x = some (x', t')) : Bd (81 ^ 25 * 4) x' ∧ Bd (81 ^ 25 * 4) t' := by
  cases d with
  | list ds =>
    have hp : playD N (.list ds) x = if ds.all (isNode N.length) = true then followL N (ds.map nodeOf) x (List.replicate N.length 0) else none := rfl
    rw [hp] at e
    by_cases c : ds.all (isNode N.length) = true
    · rw [if_pos c] at e
      have z := Bd.follow hN _ 4 _ _ _ _ hx (fun z hz => by
        rw [(List.mem_replicate.mp hz).2]
        decide) e
      have l : (ds.map nodeOf).length ≤ 25 := by
        rw [List.length_map]
        exact hd
      have p := Nat.mul_le_mul_right 4 (Nat.pow_le_pow_right (show 0 < 81 by decide) l)
      exact ⟨z.1.mono p, z.2.mono p⟩
    · rw [if_neg c] at e
      cases e
  | _ => cases e
theorem shwBig {i : Int} (h : i.natAbs ≤ 81 ^ 25 * 4) : Shw 0 61 (.int i) := by
  have h' : i.natAbs < 10 ^ 60 := Nat.lt_of_le_of_lt h (by decide +kernel)
  refine ⟨?_, ?_, ?_⟩
  · simp only [PyData.showable]
    refine decide_eq_true ?_
    by_cases c : i.natAbs = 0
    · rw [c]
      decide
    · exact Nat.lt_trans ((Nat.log2_lt c).mpr (Nat.lt_trans h' (show 10 ^ 60 < 2 ^ 250 by decide +kernel))) (by decide)
  · simp only [PyData.depth]
    omega
  · simp only [PyData.shown]
    exact intLen (by decide) h'
theorem shwBigs {x : List Int} (h : Bd (81 ^ 25 * 4) x) (hl : x.length ≤ 1000) : Shw 1 63002 (.list (x.map PyData.int)) :=
  (shwList (k := 0) (L := 61) (m := 1000) (fun e he => by
    obtain ⟨v, hv, rfl⟩ := List.mem_map.mp he
    exact shwBig (h v hv)) (by rw [List.length_map]; exact hl))

/-! ## Two negative nodes: both orders meet -/
def cnt (N : List (List Int)) (i j : Nat) : Int := (((N.getD i []).count (j : Int) : Nat) : Int)
structure Sym (N : List (List Int)) : Prop where
  wf : WF N
  sym : ∀ i j, i < N.length → j < N.length → cnt N i j = cnt N j i
  self : ∀ i, i < N.length → cnt N i i = 0
  one : ∀ i j, i < N.length → cnt N i j = 0 ∨ cnt N i j = 1
theorem getSet {x : List Int} {i j : Nat} {z : Int} (h : j < x.length) : (x.set j z).getD i 0 = if i = j then z else x.getD i 0 := by
  rw [List.getD_eq_getElem?_getD, List.getElem?_set, List.getD_eq_getElem?_getD]
  by_cases c : j = i
  · subst c
    rw [if_pos rfl, if_pos h, if_pos rfl]
    rfl
  · rw [if_neg c, if_neg (fun z => c z.symm)]
theorem foldAt (c : Int) : ∀ (row y : List Int) (i : Nat), (∀ o ∈ row, 0 ≤ o ∧ o < y.length) → (row.foldl (fun y o => y.set o.toNat (y.getD o.toNat 0 + c)) y).getD i 0 = y.getD i 0 + ((row.count (i : Int) : Nat) : Int) * c
  | [], y, i, _ => by
    rw [List.foldl_nil, List.count_nil]
    omega
  | o :: row, y, i, h => by
    have ho := h o List.mem_cons_self
    have hl : o.toNat < y.length := by omega
    rw [List.foldl_cons, foldAt c row _ i (fun u hu => by rw [List.length_set]; exact h u (List.mem_cons_of_mem _ hu)), getSet hl, List.count_cons]
    by_cases e : i = o.toNat
    · subst e
      rw [if_pos rfl, show ((o == ((o.toNat : Nat) : Int)) = true) from by rw [beq_iff_eq]; omega, if_pos rfl, Int.natCast_add, Int.add_mul]
      show _ + c + _ = _ + (_ + 1 * c)
      omega
    · rw [if_neg e, if_neg (by rw [beq_iff_eq]; omega), Nat.add_zero]
theorem flipAt {N : List (List Int)} {x : List Int} {v i : Nat} (wf : WF N) (hl : x.length = N.length) (hv : v < N.length) :
    (flipL (N.getD v []) x v).getD i 0 = if i = v then -(x.getD v 0) else x.getD i 0 + cnt N v i * x.getD v 0 := by
  unfold flipL
  rw [getSet (by rw [foldSetLen]; omega)]
  by_cases e : i = v
  · rw [if_pos e, if_pos e]
  · rw [if_neg e, if_neg e, foldAt _ _ _ _ (fun o ho => by rw [hl]; exact wf v hv o ho)]
    rfl
theorem extD {x y : List Int} (hl : x.length = y.length) (h : ∀ i, i < x.length → x.getD i 0 = y.getD i 0) : x = y := by
  apply List.ext_getElem hl
  intro i h1 h2
  have z := h i h1
  rw [List.getD_eq_getElem?_getD, List.getElem?_eq_getElem h1, List.getD_eq_getElem?_getD, List.getElem?_eq_getElem h2] at z
  exact z
section
variable {N : List (List Int)} {x : List Int} {a b : Nat}
/-- the two nodes are not neighbours -/
theorem swap2 (S : Sym N) (hl : x.length = N.length) (ha : a < N.length) (hb : b < N.length) (hab : a ≠ b) (h0 : cnt N a b = 0) :
    flipL (N.getD b []) (flipL (N.getD a []) x a) b = flipL (N.getD a []) (flipL (N.getD b []) x b) a := by
  have h0' : cnt N b a = 0 := by rw [S.sym b a hb ha]; exact h0
  refine extD (by rw [flipLen, flipLen, flipLen, flipLen]) (fun i hi => ?_)
  have l1 : (flipL (N.getD a []) x a).length = N.length := by rw [flipLen]; exact hl
  have l2 : (flipL (N.getD b []) x b).length = N.length := by rw [flipLen]; exact hl
  rw [flipAt S.wf l1 hb, flipAt S.wf l2 ha, flipAt S.wf hl ha, flipAt S.wf hl hb, flipAt S.wf hl ha, flipAt S.wf hl hb, h0, h0', if_neg hab, if_neg hab.symm]
  by_cases c1 : i = b
  · have c2 : ¬ i = a := fun z => hab (z ▸ c1)
    rw [if_pos c1, if_neg c2, if_pos c1]
    subst c1
    rw [h0]
    omega
  · rw [if_neg c1]
    by_cases c2 : i = a
    · rw [if_pos c2, if_pos c2]
      subst c2
      rw [h0']
      omega
    · rw [if_neg c2, if_neg c2, if_neg c1]
      rcases S.one a i ha with e | e <;> rcases S.one b i hb with f | f <;> rw [e, f] <;> omega
theorem swap3 (S : Sym N) (hl : x.length = N.length) (ha : a < N.length) (hb : b < N.length) (hab : a ≠ b) (h1 : cnt N a b = 1) :
    flipL (N.getD a []) (flipL (N.getD b []) (flipL (N.getD a []) x a) b) a = flipL (N.getD b []) (flipL (N.getD a []) (flipL (N.getD b []) x b) a) b := by
  have h1' : cnt N b a = 1 := by rw [S.sym b a hb ha]; exact h1
  refine extD (by rw [flipLen, flipLen, flipLen, flipLen, flipLen, flipLen]) (fun i hi => ?_)
  have l1 : (flipL (N.getD a []) x a).length = N.length := by rw [flipLen]; exact hl
  have l2 : (flipL (N.getD b []) x b).length = N.length := by rw [flipLen]; exact hl
  have l3 : (flipL (N.getD b []) (flipL (N.getD a []) x a) b).length = N.length := by rw [flipLen]; exact l1
  have l4 : (flipL (N.getD a []) (flipL (N.getD b []) x b) a).length = N.length := by rw [flipLen]; exact l2
  rw [flipAt S.wf l3 ha, flipAt S.wf l4 hb, flipAt S.wf l1 hb, flipAt S.wf l2 ha, flipAt S.wf l1 hb, flipAt S.wf l2 ha]
  rw [flipAt S.wf hl ha, flipAt S.wf hl hb, flipAt S.wf hl ha, flipAt S.wf hl hb, flipAt S.wf hl ha, flipAt S.wf hl hb, h1, h1']
  simp only [if_neg hab, if_neg hab.symm, if_true]
  by_cases c1 : i = b
  · have c2 : ¬ i = a := fun z => hab (z ▸ c1)
    rw [if_pos c1, if_neg c2]
    simp only [if_pos c1]
    subst c1
    rw [h1]
    omega
  · by_cases c2 : i = a
    · simp only [if_pos c2, if_neg c1]
      subst c2
      rw [h1']
      omega
    · simp only [if_neg c1, if_neg c2]
      rcases S.one a i ha with e | e <;> rcases S.one b i hb with f | f <;> rw [e, f] <;> omega
end
theorem oneCount (u v k l : Int) : List.count l (if u = k then [v] else []) = (if u = k ∧ v = l then 1 else 0) := by
  by_cases c : u = k
  · by_cases d : v = l
    · rw [if_pos c, if_pos (And.intro c d), d, List.count_singleton_self]
    · rw [if_pos c, if_neg (fun z => d z.2)]
      exact List.count_eq_zero.mpr (fun z => d (List.mem_singleton.mp z).symm)
  · rw [if_neg c, if_neg (fun z => c z.1)]
    rfl
theorem rowCount : ∀ (es : List (Int × Int)) (i j : Int), ((rowOf es i).count j) = (rowOf es j).count i
  | [], _, _ => rfl
  | e :: es, i, j => by
    have q : ∀ k : Int, rowOf (e :: es) k = ((if e.1 = k then [e.2] else []) ++ (if e.2 = k then [e.1] else [])) ++ rowOf es k := fun _ => rfl
    rw [q i, q j, List.count_append, List.count_append, List.count_append, List.count_append, rowCount es i j]
    rw [oneCount, oneCount, oneCount, oneCount]
    congr 1
    split <;> split <;> split <;> split <;> omega
theorem rowLe : ∀ (es : List (Int × Int)) (i j : Int), es.Nodup → (∀ e ∈ es, e.1 < e.2) → (rowOf es i).count j ≤ 1 ∧ (i = j → (rowOf es i).count j = 0) ∧ ((rowOf es i).count j = 1 ↔ ((min i j, max i j) ∈ es))
  | [], _, _, _, _ => ⟨Nat.zero_le _, fun _ => rfl, ⟨fun z => (by cases z), fun z => (by cases z)⟩⟩
  | e :: es, i, j, hn, ha => by
    have q : rowOf (e :: es) i = ((if e.1 = i then [e.2] else []) ++ (if e.2 = i then [e.1] else [])) ++ rowOf es i := rfl
    obtain ⟨h1, h2⟩ := List.nodup_cons.mp hn
    obtain ⟨r1, r2, r3⟩ := rowLe es i j h2 fun u hu => ha u (List.mem_cons_of_mem _ hu)
    have lt := ha e List.mem_cons_self
    rw [q, List.count_append, List.count_append, oneCount, oneCount]
    by_cases c : e = (min i j, max i j)
    · have hno : (rowOf es i).count j = 0 := by
        rcases Nat.eq_zero_or_pos ((rowOf es i).count j) with z | z
        · exact z
        · exact absurd (r3.mp (by omega)) (c ▸ h1)
      have e1 : e.1 = min i j := by rw [c]
      have e2 : e.2 = max i j := by rw [c]
      have tot : (if e.1 = i ∧ e.2 = j then 1 else 0 : Nat) + (if e.2 = i ∧ e.1 = j then 1 else 0) = 1 := by
        by_cases d : i < j
        · rw [if_pos (by omega), if_neg (by omega)]
        · rw [if_neg (by omega), if_pos (by omega)]
      rw [tot, hno]
      exact ⟨by omega, fun z => by omega, ⟨fun _ => c ▸ List.mem_cons_self, fun _ => rfl⟩⟩
    · have n1 : ¬ (e.1 = i ∧ e.2 = j) := fun z => c (by
        rw [show e = (e.1, e.2) from rfl, z.1, z.2]
        have : min i j = i := by omega
        have : max i j = j := by omega
        rw [‹min i j = i›, ‹max i j = j›])
      have n2 : ¬ (e.2 = i ∧ e.1 = j) := fun z => c (by
        rw [show e = (e.1, e.2) from rfl, z.1, z.2]
        have : min i j = j := by omega
        have : max i j = i := by omega
        rw [‹min i j = j›, ‹max i j = i›])
      rw [if_neg n1, if_neg n2, Nat.zero_add]
      refine ⟨r1, r2, r3.trans ⟨fun z => List.mem_cons_of_mem _ z, fun z => ?_⟩⟩
      rcases List.mem_cons.mp z with z | z
      · exact absurd z.symm c
      · exact z
theorem IsNear.symm {n : Nat} {es : List (Int × Int)} {N : List (List Int)} (h : IsNear n es N) (g : GoodE n es) : Sym N := by
  have c : ∀ i j, i < N.length → cnt N i j = (((rowOf es (i : Int)).count (j : Int) : Nat) : Int) := fun i j hi => by
    unfold cnt
    rw [(h.row i (by rw [← h.len]; exact hi)).count_eq]
  have lt : ∀ e ∈ es, e.1 < e.2 := fun e he => (g.node e he).2.1
  refine ⟨h.wf g.node, fun i j hi hj => ?_, fun i hi => ?_, fun i j hi => ?_⟩
  · rw [c i j hi, c j i hj, rowCount]
  · rw [c i i hi, (rowLe es i i g.once lt).2.1 rfl]
    rfl
  · rw [c i j hi]
    have z := (rowLe es (i : Int) (j : Int) g.once lt).1
    omega
theorem IsNear.edge {n : Nat} {es : List (Int × Int)} {N : List (List Int)} (h : IsNear n es N) (g : GoodE n es) {i j : Nat} (hi : i < N.length) : cnt N i j = 1 ↔ (min (i : Int) j, max (i : Int) j) ∈ es := by
  unfold cnt
  rw [(h.row i (by rw [← h.len]; exact hi)).count_eq, ← (rowLe es (i : Int) (j : Int) g.once fun e he => (g.node e he).2.1).2.2]
  omega

end K21

set_option Elab.async false
set_option linter.all false
set_option maxRecDepth 100000
set_option maxHeartbeats 8000000
namespace K21
open PySem PySem.Spec PyProof.Rows L2 FNX
/-! ## Around a law -/
def GX (CG p : Addr) (H : Hp) (g : Addr) (N : List (List Int)) : Prop := ∀ H', SameX p H H' → GAt CG H' g N
theorem GX.at {CG p g : Addr} {H : Hp} {N : List (List Int)} (h : GX CG p H g N) : GAt CG H g N := h H SameX.refl
theorem GX.same {CG p g : Addr} {H H' : Hp} {N : List (List Int)} (h : GX CG p H g N) (s : SameX p H H') : GX CG p H' g N := fun H2 s2 => h H2 (s.trans s2)
theorem SameX.same {p : Addr} {H H' : Hp} (s : SameX p H H') (n : H p = none) : Same H H' := fun b o e => s b o (ne_of_none e n) e
theorem NewN.x {H H1 : Hp} {p q : Addr} {N : List (List Int)} (h : NewN H H1 q N) (hp : PoolAt H p) : NX p H1 q N := fun H2 s => h H2 fun b o n e => s b o (hp.ne n).symm e
theorem gx_of {CG p g dx j nr : Addr} {H H1 : Hp} {N : List (List Int)} (hp : PoolAt H p) (gp : g ≠ p) (hg : H1 g = some (.ins CG dx (gflds (N.length : Int) j nr))) (h : NewN H H1 nr N) : GX CG p H1 g N :=
  fun H2 s => ⟨dx, j, nr, s g _ gp hg, (h.x hp) H2 s⟩
theorem sqLSame {K : PySem.W.Frag} {H H' : Hp} {a : Addr} {xs : List V} (h : SqL K H a xs) (s : Same H H') : SqL K H' a xs := by
  rcases h with (h | ⟨o, h⟩) | h
  · exact .inl (.inl (s _ _ h))
  · exact .inl (.inr ⟨o, s _ _ h⟩)
  · exact .inr h
theorem near_rows {n : Nat} {es : List (Int × Int)} {N : List (List Int)} (h : IsNear n es N) (g : GoodE n es) : ∀ i, (N.getD i []).length ≤ 80 := fun i => by
  by_cases hi : i < n
  · rw [(h.row i hi).length_eq]
    have := rowOf_len es (i : Int)
    have := g.few
    omega
  · rw [List.getD_eq_getElem?_getD, List.getElem?_eq_none (by rw [h.len]; omega)]
    exact Nat.zero_le _
theorem shwLine {k L : Nat} {d : PyData} (h : Shw k L d) (hk : k ≤ 60) (hL : L ≤ 1000000) : d.showable = true ∧ d.depth ≤ 60 ∧ d.shown.length ≤ sizeLine := ⟨h.ok, Nat.le_trans h.deep hk, Nat.le_trans h.len (Nat.le_trans hL (by rw [sizeLine_eq]; decide))⟩

/-! ## Around a law with doors -/
abbrev lamT (Pt : Addr) : List (Addr × Str) := [(Pt, (("law" : Str) ++ ".<locals>.") ++ "<lambda>")]
def spLawT (K : PySem.W.Frag) (cs : List (Addr × Addr)) : Sp := fun vs H Q _ => ∃ (a : Addr) (ns : List Int), vs = [.ref a] ∧ SqL K H a (ns.map V.int) ∧ ns.length ≤ 63 ∧ (∀ p ∈ cs, H p.2 = some (.tbl #[])) ∧ ∀ H', Q (.bl true) H'
theorem tabs0 {H : Hp} {c Pt : Addr} (h : ∀ p ∈ [(c, Pt)], H p.2 = some (.tbl #[])) : LamX.Tabs (lamT Pt) H := fun p hp => by
  rw [List.mem_singleton.mp hp]
  exact .nil (h (c, Pt) (List.mem_singleton.mpr rfl))
theorem posInj {x y : List Int} (h : posD x = posD y) : x = y := by
  have z : x.map PyData.int = y.map PyData.int := by
    injection h
  exact List.map_inj_right (fun _ _ e => by injection e) |>.mp z
theorem sqLExt {K : PySem.W.Frag} {H H' : Hp} {a : Addr} {xs : List V} (h : SqL K H a xs) (s : LamX.ExtN H H') : SqL K H' a xs := by
  rcases h with (h | ⟨o, h⟩) | h
  · exact .inl (.inl (s _ _ h fun _ z => by cases z))
  · exact .inl (.inr ⟨o, s _ _ h fun _ z => by cases z⟩)
  · exact .inr h
theorem naExt {H H' : Hp} {p : Addr} {N : List (List Int)} (h : NAt H p N) (s : LamX.ExtN H H') : NAt H' p N := by
  obtain ⟨rows, h1, h2⟩ := h
  exact ⟨rows, s _ _ h1 (fun _ z => by cases z), h2.1, fun k r e => s _ _ (h2.2 k r e) fun _ z => by cases z⟩
theorem gaExt {CG : Addr} {H H' : Hp} {g : Addr} {N : List (List Int)} (h : GAt CG H g N) (s : LamX.ExtN H H') : GAt CG H' g N := by
  obtain ⟨dx, j, nr, h1, h2⟩ := h
  exact ⟨dx, j, nr, s _ _ h1 (fun _ z => by cases z), naExt h2 s⟩
theorem Same.ext {H H' : Hp} (s : Same H H') : LamX.ExtN H H' := fun b o e _ => s b o e
theorem same_updN {H H' : Hp} {a : Addr} {o : HO} (s : Same H H') (n : H a = none) : Same H (upd H' a o) := fun b u e => by
  rw [upd_ne (ne_of_none e n)]
  exact s b u e
theorem dpNats {K : PySem.W.Frag} {H : Hp} : ∀ x : List Nat, DpAll K H (x.map fun v : Nat => V.int (v : Int)) (x.map fun v : Nat => PyData.int (v : Int))
  | [] => .nil
  | _ :: x => .cons (.int _) (dpNats x)
theorem shapedTup {xs ys : List Int} : SeqAt.shaped (.tuple [posD xs, posD ys]) = true := by
  unfold SeqAt.shaped
  have a1 := layInts xs
  have a2 := layInts ys
  have b1 := depInts xs
  have b2 := depInts ys
  have e1 : PyData.canLay0 (.tuple [posD xs, posD ys]) = true := by
    show (PyData.canLayAll0 (xs.map PyData.int) && (PyData.canLayAll0 (ys.map PyData.int) && true)) = true
    rw [a1, a2]
    rfl
  have e2 : PyData.depth (.tuple [posD xs, posD ys]) ≤ 64 := by
    show max (PyData.depthAll (xs.map PyData.int) + 1) (max (PyData.depthAll (ys.map PyData.int) + 1) 0) + 1 ≤ 64
    omega
  rw [e1, decide_eq_true e2]
  rfl
theorem shwPow {i : Int} {k : Nat} (hk : 0 < k) (k2 : k ≤ 400) (h : i.natAbs < 10 ^ k) : Shw 0 (k + 1) (.int i) := by
  refine ⟨?_, ?_, ?_⟩
  · simp only [PyData.showable]
    refine decide_eq_true ?_
    by_cases c : i.natAbs = 0
    · rw [c]
      decide
    · have z : i.natAbs < 2 ^ (4 * k) := Nat.lt_of_lt_of_le h (by
        rw [Nat.pow_mul]
        exact Nat.pow_le_pow_left (by decide) k)
      have y := (Nat.log2_lt c).mpr z
      exact Nat.lt_trans y (Nat.lt_of_le_of_lt (Nat.mul_le_mul_left 4 k2) (by decide))
  · simp only [PyData.depth]
    omega
  · simp only [PyData.shown]
    exact intLen hk h
theorem shwInts {x : List Int} {k m : Nat} (hk : 0 < k) (k2 : k ≤ 400) (h : ∀ v ∈ x, v.natAbs < 10 ^ k) (hl : x.length ≤ m) : Shw 1 ((k + 3) * m + 2) (posD x) :=
  shwList (k := 0) (L := k + 1) (m := m) (fun e he => by
    obtain ⟨v, hv, rfl⟩ := List.mem_map.mp he
    exact shwPow hk k2 (h v hv)) (by rw [List.length_map]; exact hl)
theorem repOne {α : Type} (n : Nat) (v : α) : (List.replicate n [v]).flatten = List.replicate n v := by
  induction n with
  | zero => rfl
  | succ n ih =>
    rw [List.replicate_succ, List.flatten_cons, ih, List.replicate_succ]
    rfl
theorem dpBls {K : PySem.W.Frag} {H : Hp} : ∀ n : Nat, DpAll K H (List.replicate n (V.bl true)) (List.replicate n (PyData.bool true))
  | 0 => .nil
  | n + 1 => .cons (.bl _) (dpBls n)

/-! ## Told by a door -/
/-- what an exception of the class C with the value v leaves -/
def told (C : Addr) (v : V) (H : Hp) (E : XK) : Prop := ∀ H' dd, Same H H' → H dd = none → H' dd = some (.xd [(("value" : Str), v)]) → E (.ref C) (some dd) H'
theorem toldHead {K : PySem.W.Frag} {C : Addr} {w : Str} {r : List (Addr × Str)} {v : V} {d : PyData} {H : Hp} {Q : VK} (x : PySem.W.exmOne K (.ref C) (.ref C) = some true) (hd : ∀ H', Same H H' → Rd K H' v d)
    (sh : d.showable = true ∧ d.depth ≤ 60 ∧ d.shown.length ≤ sizeLine) (k : ∀ H' p, Same H H' → H' p = none → Q (.ref p) (upd H' p (.lst [.str w, .str d.shown]))) : told C v H (wErr K mkPair Q ((C, w) :: r)) :=
  fun H' dd s _ hx => ⟨true, x, fun _ => ⟨rfl, dd, v, d, rfl, hx, hd H' s, sh.1, sh.2.1, sh.2.2, fun p np => k H' p s np⟩, (fun z => nomatch z)⟩
theorem toldTail {K : PySem.W.Frag} {mk : Str → Str → Hp → (V → Hp → Prop) → Prop} {C C0 : Addr} {w : Str} {r : List (Addr × Str)} {v : V} {H : Hp} {Q : VK} (x : PySem.W.exmOne K (.ref C) (.ref C0) = some false) (t : told C v H (wErr K mk Q r)) : told C v H (wErr K mk Q ((C0, w) :: r)) :=
  fun H' dd s nd hx => ⟨false, x, (fun z => nomatch z), fun _ => t H' dd s nd hx⟩
theorem edExt {H H' : Hp} {q : Addr} {es : List (Int × Int)} (h : EdgesAt H q es) (s : LamX.ExtN H H') : EdgesAt H' q es := by
  obtain ⟨ts, h1, h2, h3⟩ := h
  refine ⟨ts, s _ _ h1 (fun _ z => by cases z), h2, fun k t e => ?_⟩
  obtain ⟨x, a, b⟩ := h3 k t e
  exact ⟨x, a, s _ _ b (fun _ z => by cases z)⟩
theorem edX {H H' : Hp} {p q : Addr} {es : List (Int × Int)} (h : EdgesAt H q es) (hp : PoolAt H p) (n : p ≠ q) (s : SameX p H H') : EdgesAt H' q es := by
  obtain ⟨ts, h1, h2⟩ := h
  exact ⟨ts, s _ _ n.symm h1, h2.sameX hp s⟩
theorem shwI {i : Int} (h : i.natAbs < 10 ^ 30) : (PyData.int i).showable = true ∧ (PyData.int i).depth ≤ 60 ∧ (PyData.int i).shown.length ≤ sizeLine := shwLine (shwPow (k := 30) (by decide) (by decide) h) (by decide) (by decide)

/-! ## _law_error -/
theorem sc_error : FnScope ["_law_door", "_law_kept", "e"] ["_law_door"] (defScope s__law_error) := ⟨rfl, rfl, rfl, by decide +kernel, rfl, by decide +kernel, by decide +kernel⟩
theorem err_gives {X : Cx} {g C0 : Addr} {cdg : Value} {q : Str} (hgd : X.A.guards = some []) (hr : Room 2 X.A) (mR : X.mg "repr" = none)
    (E0 : Ex X.prog X.w X.K X.mg X.base "InvalidPosition" C0) :
    LamX.GivesTo X ["_law_door", "_law_kept", "e"] "_law_error" (defScope s__law_error) g cdg (defBody s__law_error) "_law_door" q (TErrK X.K mkText [(C0, "position")]) := by
  intro f c' s H Q tl act hc h
  have nd := sc_error.nd
  have hu : X.A.units + 3 + 64 < cLine := (hr.deeper X.env).units
  refine ⟨_, pss_cons (ps_set (i := 1) nd rfl (Or.inl rfl) pe_non) (pss_cons (ps_try_mas (i := 2) (tb := tDoor f c' q tl) rfl rfl nd rfl rfl takes0
      (fun W pn xe tk _ => ⟨fun pins s' σ H' D I h' => by
        obtain ⟨Ech, hW, h1, h2, h3⟩ := h'
        exact (pss_one (ps_expr (act _ pn xe Ech _ _ (takes_len tk) (fun cls d σ' H' e l => hW cls d H' σ' e l)))).run pins s' σ H' D I ⟨h1, h2, h3⟩⟩)
      (.cons ⟨rfl, by decide, .inl E0.mgC⟩ (fun z oz cls d pn hz hf => pss_one (ps_set (i := 1) nd rfl (Or.inl rfl) (pe_callB (show CallR _ (.builtin "repr") (rRepr X.K) from call_repr hgd hu) (by rfl) mR boot_repr1 (pa_cons (pe_byX E0.xc hz hf (pv 2)) pa_nil))))
      .nil)) (pss_one (ps_ret (pv 1)))), ?_⟩
  refine ⟨wErr X.K mkText Q [(C0, "position")], fun cls d H' σ' w l => ?_, rfl, hc, h⟩
  obtain ⟨a, b, c, rfl⟩ := len3 l
  obtain ⟨b0, e0, yes0, no0⟩ := w
  refine ⟨b0, e0, fun t0 z nz => ?_, fun n0 => ?_⟩
  · obtain ⟨rfl, dd, v, dt, rfl, hd, hv, sh1, sh2, sh3, m⟩ := yes0 t0
    exact ⟨_, rfl, rfl, rfl, dd, _, rfl, hd, v, dt, rfl, hv, sh1, sh2, sh3, _, rfl, m⟩
  exact (no0 n0).elim

/-! ## Slices -/
def cutL (vs : List Int) (lo hi : Option Int) : List Int := List.take (HT.sIx vs.length vs.length hi - HT.sIx vs.length 0 lo) (List.drop (HT.sIx vs.length 0 lo) vs)
theorem cut_map (vs : List Int) (lo hi : Option Int) : cutV (vs.map V.int) lo hi = (cutL vs lo hi).map V.int := by
  unfold cutV cutL
  rw [List.length_map, List.map_take, List.map_drop]
theorem cut_mem {vs : List Int} {lo hi : Option Int} {v : Int} (h : v ∈ cutL vs lo hi) : v ∈ vs := List.mem_of_mem_drop (List.mem_of_mem_take h)

/-! ## Lines: the arithmetic -/
def sumsFrom (s : Int) : List Int → List Int
  | [] => [s]
  | a :: r => s :: sumsFrom (s + a) r
def sumsL (x : List Int) : List Int := sumsFrom 0 x
def diffL : List Int → List Int
  | [] => []
  | [_] => []
  | a :: b :: r => (b - a) :: diffL (b :: r)
def invL : List Int → Int
  | [] => 0
  | a :: r => ((r.filter fun y => decide (y < a)).length : Int) + invL r
def sumN (n : Nat) (f : Nat → Int) : Int := ((List.range n).map f).sum
theorem sumN_zero (f : Nat → Int) : sumN 0 f = 0 := rfl
theorem sumN_succ (n : Nat) (f : Nat → Int) : sumN (n + 1) f = sumN n f + f n := by
  unfold sumN
  rw [List.range_succ, List.map_append, List.sum_append]
  simp
theorem sumN_succ' (n : Nat) (f : Nat → Int) : sumN (n + 1) f = f 0 + sumN n fun i => f (i + 1) := by
  unfold sumN
  rw [List.range_succ_eq_map, List.map_cons, List.sum_cons, List.map_map]
  rfl
theorem sumN_congr {n : Nat} {f g : Nat → Int} (h : ∀ i, i < n → f i = g i) : sumN n f = sumN n g := by
  unfold sumN
  congr 1
  exact List.map_congr_left fun i hi => h i (List.mem_range.mp hi)
theorem getD_cons0 {α : Type} (a : α) (r : List α) (d : α) : (a :: r).getD 0 d = a := rfl
theorem getD_consS {α : Type} (a : α) (r : List α) (i : Nat) (d : α) : (a :: r).getD (i + 1) d = r.getD i d := by
  rw [List.getD_eq_getElem?_getD, List.getElem?_cons_succ, ← List.getD_eq_getElem?_getD]
theorem cnt_drop (p : Int → Bool) : ∀ (s : List Int) (i : Nat), (((s.drop i).filter p).length : Int) = sumN s.length fun j => if i ≤ j ∧ p (s.getD j 0) = true then 1 else 0
  | [], i => by
    rw [List.drop_nil]
    rfl
  | a :: r, 0 => by
    have ih := cnt_drop p r 0
    rw [List.drop_zero] at ih ⊢
    rw [List.length_cons, sumN_succ']
    simp only [getD_cons0, getD_consS, Nat.zero_le, true_and] at ih ⊢
    rw [List.filter_cons, ← ih]
    by_cases h : p a = true
    · rw [if_pos h, if_pos h, List.length_cons]
      omega
    · rw [if_neg h, if_neg h]
      omega
  | a :: r, i + 1 => by
    have ih := cnt_drop p r i
    rw [List.drop_succ_cons, ih, List.length_cons, sumN_succ', if_neg (by omega), Int.zero_add]
    refine sumN_congr fun j _ => ?_
    simp only [getD_consS, Nat.add_le_add_iff_right]
theorem inv_eq : ∀ s : List Int, (sumN s.length fun i => (((s.drop i).filter fun y => decide (y < s.getD i 0)).length : Int)) = invL s
  | [] => rfl
  | a :: r => by
    have ih := inv_eq r
    rw [List.length_cons, sumN_succ']
    simp only [getD_cons0, getD_consS, List.drop_zero, List.drop_succ_cons]
    rw [ih, List.filter_cons, if_neg (by simp)]
    rfl
/-- what cycle_steps counts of the places i and j -/
def cT (s : List Int) (D : Int) (i j : Nat) : Int := max 0 (-((s.getD j 0 - s.getD i 0) / D) - (if j < i then 1 else 0))
def cycL (s : List Int) (D : Int) : Int := sumN s.length fun i => sumN s.length fun j => cT s D i j
theorem getD_mem {s : List Int} {i : Nat} (h : i < s.length) : s.getD i 0 ∈ s := by
  rw [List.getD_eq_getElem?_getD, List.getElem?_eq_getElem h]
  exact List.getElem_mem h
theorem cyc_win {s : List Int} {D : Int} (hD : 0 < D) (hw : ∀ a ∈ s, ∀ b ∈ s, a - b < D) : cycL s D = invL s := by
  rw [← inv_eq]
  refine sumN_congr fun i hi => ?_
  rw [cnt_drop]
  refine sumN_congr fun j hj => ?_
  have h1 := hw _ (getD_mem hi) _ (getD_mem hj)
  have h2 := hw _ (getD_mem hj) _ (getD_mem hi)
  unfold cT
  generalize s.getD i 0 = a at h1 h2 ⊢
  generalize s.getD j 0 = b at h1 h2 ⊢
  by_cases hab : b < a
  · have e : (b - a) / D = -1 := by
      have := Int.emod_nonneg (b - a) (show D ≠ 0 by omega)
      have z : (b - a) / D = (b - a + D) / D - 1 := by
        rw [Int.add_ediv_of_dvd_right ⟨1, by omega⟩, Int.ediv_self (by omega)]
        omega
      rw [z, Int.ediv_eq_zero_of_lt (by omega) (by omega)]
      rfl
    rw [e]
    by_cases hij : j < i
    · rw [if_pos hij, if_neg (by omega)]
      rfl
    · rw [if_neg hij, if_pos ⟨by omega, decide_eq_true hab⟩]
      rfl
  · rw [Int.ediv_eq_zero_of_lt (by omega) (by omega)]
    have hn : ¬ (i ≤ j ∧ decide (b < a) = true) := fun z => hab (of_decide_eq_true z.2)
    rw [if_neg hn]
    split <;> rfl
theorem diffL_split : ∀ (A : List Int) (x : Int) (B : List Int), diffL (A ++ x :: B) = diffL (A ++ [x]) ++ diffL (x :: B)
  | [], x, B => rfl
  | [a], x, B => rfl
  | a :: b :: A, x, B => by
    show (b - a) :: diffL (b :: A ++ x :: B) = ((b - a) :: diffL (b :: A ++ [x])) ++ _
    rw [diffL_split (b :: A) x B]
    rfl
theorem diffL_len : ∀ (s : List Int), (diffL s).length = s.length - 1
  | [] => rfl
  | [_] => rfl
  | a :: b :: r => by
    show (diffL (b :: r)).length + 1 = _
    rw [diffL_len (b :: r)]
    rfl
theorem diffL_map (c : Int) : ∀ s : List Int, diffL (s.map fun z => z + c) = diffL s
  | [] => rfl
  | [_] => rfl
  | a :: b :: r => by
    show (b + c - (a + c)) :: diffL ((b :: r).map fun z => z + c) = (b - a) :: diffL (b :: r)
    rw [diffL_map c (b :: r)]
    congr 1
    omega
theorem diffL_sum : ∀ (a : Int) (r : List Int) (y : Int), (diffL (a :: r ++ [y])).sum = y - a
  | a, [], y => by
    show (y - a) + 0 = _
    omega
  | a, b :: r, y => by
    show (b - a) + (diffL (b :: r ++ [y])).sum = _
    rw [diffL_sum b r y]
    omega
theorem diffL_nonneg : ∀ (s : List Int), s.Pairwise (· ≤ ·) → ∀ z ∈ diffL s, 0 ≤ z
  | [], _, z, hz => nomatch hz
  | [_], _, z, hz => nomatch hz
  | a :: b :: r, h, z, hz => by
    rcases List.mem_cons.mp hz with rfl | hz
    · have := (List.pairwise_cons.mp h).1 b List.mem_cons_self
      omega
    · exact diffL_nonneg (b :: r) (List.pairwise_cons.mp h).2 z hz
theorem sorted_uniq {s t : List Int} (h : s.Perm t) (hs : s.Pairwise (· ≤ ·)) (ht : t.Pairwise (· ≤ ·)) : s = t := List.Perm.eq_of_pairwise (fun a b _ _ => Int.le_antisymm) hs ht h
def rotL (k : Nat) (s : List Int) : List Int := s.drop k ++ s.take k
theorem filt_perm (p : Int → Bool) : ∀ u : List Int, u.Perm ((u.filter p) ++ (u.filter fun z => !p z))
  | [] => .nil
  | a :: r => by
    have ih := filt_perm p r
    rw [List.filter_cons, List.filter_cons]
    by_cases h : p a = true
    · rw [if_pos h, if_neg (by rw [h]; decide)]
      exact ih.cons a
    · rw [if_neg h, if_pos (by rw [Bool.not_eq_true] at h; rw [h]; rfl)]
      exact (ih.cons a).trans List.perm_middle.symm
theorem perm_sum {s t : List Int} (h : s.Perm t) : s.sum = t.sum := by
  induction h with
  | nil => rfl
  | cons a _ ih => rw [List.sum_cons, List.sum_cons, ih]
  | swap a b l =>
    rw [List.sum_cons, List.sum_cons, List.sum_cons, List.sum_cons]
    omega
  | trans _ _ h1 h2 => exact h1.trans h2
theorem end_win {s t u : List Int} {D : Int} (hD : 0 < D) (hw : ∀ a ∈ s, ∀ b ∈ s, a - b < D) (h0 : (0 : Int) ∈ s) (ht : t.Perm (s.map fun z => z % D)) (ts : t.Pairwise (· ≤ ·)) (hu : u.Perm s) (us : u.Pairwise (· ≤ ·)) :
    rotL ((s.map fun z => z / D).sum % (s.length : Int)).toNat (diffL (t ++ [t.getD 0 0 + D])) = diffL (u ++ [u.getD 0 0 + D]) := by
  have hw' : ∀ a ∈ u, ∀ b ∈ u, a - b < D := fun a ha b hb => hw a (hu.mem_iff.mp ha) b (hu.mem_iff.mp hb)
  have h0' : (0 : Int) ∈ u := hu.mem_iff.mpr h0
  let neg := u.filter fun z => decide (z < 0)
  let pos := u.filter fun z => !decide (z < 0)
  have hn : ∀ z ∈ neg, z < 0 ∧ z ∈ u := fun z hz => ⟨of_decide_eq_true (List.mem_filter.mp hz).2, (List.mem_filter.mp hz).1⟩
  have hp : ∀ z ∈ pos, 0 ≤ z ∧ z ∈ u := fun z hz => ⟨by
    have e := (List.mem_filter.mp hz).2
    rw [Bool.not_eq_true', decide_eq_false_iff_not] at e
    omega, (List.mem_filter.mp hz).1⟩
  have sn : neg.Pairwise (· ≤ ·) := us.filter _
  have sp : pos.Pairwise (· ≤ ·) := us.filter _
  have eu : u = neg ++ pos := by
    refine sorted_uniq (filt_perm _ u) us (List.pairwise_append.mpr ⟨sn, sp, fun a ha b hb => ?_⟩)
    have := (hn a ha).1
    have := (hp b hb).1
    omega
  have sn' : (neg.map fun z => z + D).Pairwise (· ≤ ·) := by
    rw [List.pairwise_map]
    exact sn.imp fun h => by omega
  have et : t = pos ++ neg.map fun z => z + D := by
    refine sorted_uniq ?_ ts (List.pairwise_append.mpr ⟨sp, sn', fun a ha b hb => ?_⟩)
    · refine ht.trans (((hu.symm.trans (eu ▸ List.perm_append_comm)).map _).trans ?_)
      rw [List.map_append]
      have e1 : pos.map (fun z => z % D) = pos := by
        refine (List.map_congr_left fun z hz => ?_).trans (List.map_id _)
        have a := hp z hz
        have b := hw' z a.2 0 h0'
        exact Int.emod_eq_of_lt a.1 (by omega)
      have e2 : neg.map (fun z => z % D) = neg.map fun z => z + D := by
        refine List.map_congr_left fun z hz => ?_
        have a := hn z hz
        have b := hw' 0 h0' z a.2
        have e : z % D = (z + D) % D := by rw [Int.add_emod_right]
        rw [e]
        exact Int.emod_eq_of_lt (by omega) (by omega)
      rw [e1, e2]
    · obtain ⟨c, hc, rfl⟩ := List.mem_map.mp hb
      have := hw' a (hp a ha).2 c (hn c hc).2
      omega
  have esum : (s.map fun z => z / D).sum = -(neg.length : Int) := by
    have e : (s.map fun z => z / D).sum = (u.map fun z => z / D).sum := (perm_sum (hu.map _)).symm
    rw [e, eu, List.map_append, List.sum_append]
    have e1 : pos.map (fun z => z / D) = pos.map fun _ => (0 : Int) := by
      refine List.map_congr_left fun z hz => ?_
      have a := hp z hz
      have b := hw' z a.2 0 h0'
      exact Int.ediv_eq_zero_of_lt a.1 (by omega)
    have e2 : neg.map (fun z => z / D) = neg.map fun _ => (-1 : Int) := by
      refine List.map_congr_left fun z hz => ?_
      have a := hn z hz
      have b := hw' 0 h0' z a.2
      have q : z / D = (z + D) / D - 1 := by
        rw [Int.add_ediv_of_dvd_right ⟨1, by omega⟩, Int.ediv_self (by omega)]
        omega
      rw [q, Int.ediv_eq_zero_of_lt (by omega) (by omega)]
      rfl
    have c0 : ∀ l : List Int, (l.map fun _ => (0 : Int)).sum = 0 := fun l => by
      induction l with
      | nil => rfl
      | cons a r ih =>
        rw [List.map_cons, List.sum_cons, ih]
        rfl
    have c1 : ∀ l : List Int, (l.map fun _ => (-1 : Int)).sum = -(l.length : Int) := fun l => by
      induction l with
      | nil => rfl
      | cons a r ih =>
        rw [List.map_cons, List.sum_cons, ih, List.length_cons]
        omega
    rw [e1, e2, c0, c1]
    omega
  have pne : pos ≠ [] := fun z => by
    have : (0 : Int) ∈ neg ++ pos := eu ▸ h0'
    rw [z, List.append_nil] at this
    have := (hn 0 this).1
    omega
  have el : (s.length : Int) = neg.length + pos.length := by
    rw [← hu.length_eq, eu, List.length_append]
    omega
  rw [esum, el]
  obtain ⟨p0, P, hP⟩ : ∃ p0 P, pos = p0 :: P := by
    cases h : pos with
    | nil => exact absurd h pne
    | cons a r => exact ⟨a, r, rfl⟩
  cases hN : neg with
  | nil =>
    rw [hN] at et eu
    rw [et, eu]
    have e0 : (-((([] : List Int).length : Nat) : Int) % ((([] : List Int).length : Nat) + (pos.length : Int))).toNat = 0 := by simp
    rw [e0]
    unfold rotL
    rw [List.drop_zero, List.take_zero, List.append_nil, List.map_nil, List.append_nil, List.nil_append]
  | cons n0 N =>
    rw [hN] at et eu
    have lp : 0 < pos.length := List.length_pos_iff.mpr pne
    have e0 : (-(((n0 :: N).length : Nat) : Int) % (((n0 :: N).length : Nat) + (pos.length : Int))).toNat = pos.length := by
      have z : -(((n0 :: N).length : Nat) : Int) % (((n0 :: N).length : Nat) + (pos.length : Int)) = (pos.length : Int) := by
        have : (-(((n0 :: N).length : Nat) : Int)) = (pos.length : Int) - (((n0 :: N).length : Nat) + (pos.length : Int)) := by omega
        rw [this, Int.sub_emod_right]
        exact Int.emod_eq_of_lt (by omega) (by rw [List.length_cons]; omega)
      rw [z]
      rfl
    rw [e0, et, eu]
    have g1 : (pos ++ (n0 :: N).map fun z => z + D).getD 0 0 = p0 := by
      rw [hP]
      rfl
    have g2 : ((n0 :: N) ++ pos).getD 0 0 = n0 := rfl
    rw [g1, g2]
    show rotL pos.length (diffL (pos ++ ((n0 + D) :: N.map fun z => z + D) ++ [p0 + D])) = _
    rw [List.append_assoc, List.cons_append, diffL_split]
    have ld : (diffL (pos ++ [n0 + D])).length = pos.length := by
      rw [diffL_len, List.length_append]
      rfl
    unfold rotL
    rw [← ld, List.drop_left, List.take_left]
    have em : (n0 + D) :: ((N.map fun z => z + D) ++ [p0 + D]) = ((n0 :: N) ++ [p0]).map fun z => z + D := by
      rw [List.map_append]
      rfl
    rw [em, diffL_map, hP]
    rw [List.append_assoc (n0 :: N)]
    exact (diffL_split (n0 :: N) p0 (P ++ [n0 + D])).symm
theorem sumsFrom_app (g : Int) (y : List Int) : ∀ (x : List Int) (s : Int), sumsFrom s (x ++ g :: y) = sumsFrom s x ++ sumsFrom (s + x.sum + g) y
  | [], s => by
    show s :: sumsFrom (s + g) y = [s] ++ sumsFrom (s + 0 + g) y
    rw [Int.add_zero]
    rfl
  | a :: r, s => by
    show s :: sumsFrom (s + a) (r ++ g :: y) = (s :: sumsFrom (s + a) r) ++ _
    rw [sumsFrom_app g y r (s + a), List.sum_cons, show s + (a + r.sum) + g = s + a + r.sum + g by omega]
    rfl
theorem sumsFrom_shift (c : Int) : ∀ (y : List Int) (s : Int), sumsFrom (s + c) y = (sumsFrom s y).map fun z => z + c
  | [], s => rfl
  | a :: r, s => by
    show (s + c) :: sumsFrom (s + c + a) r = (s + c) :: (sumsFrom (s + a) r).map fun z => z + c
    rw [← sumsFrom_shift c r (s + a), show s + c + a = s + a + c by omega]
theorem sumsFrom_len : ∀ (x : List Int) (s : Int), (sumsFrom s x).length = x.length + 1
  | [], _ => rfl
  | a :: r, s => by
    show (sumsFrom (s + a) r).length + 1 = _
    rw [sumsFrom_len r]
    rfl
def absL (x : List Int) : Int := (x.map fun z => if z < 0 then -z else z).sum
theorem absL_cons (a : Int) (r : List Int) : absL (a :: r) = (if a < 0 then -a else a) + absL r := rfl
theorem absL_nonneg : ∀ x : List Int, 0 ≤ absL x
  | [] => Int.le_refl _
  | a :: r => by
    have := absL_nonneg r
    rw [absL_cons]
    split <;> omega
theorem absL_app : ∀ x y : List Int, absL (x ++ y) = absL x + absL y
  | [], y => by
    show absL y = 0 + absL y
    omega
  | a :: r, y => by
    rw [List.cons_append, absL_cons, absL_cons, absL_app r y]
    omega
theorem sumsFrom_in : ∀ (x : List Int) (s a : Int), a ∈ sumsFrom s x → s - absL x ≤ a ∧ a ≤ s + absL x
  | [], s, a, h => by
    rw [List.mem_singleton.mp h]
    exact ⟨by show s - 0 ≤ s; omega, by show s ≤ s + 0; omega⟩
  | b :: r, s, a, h => by
    have nn := absL_nonneg r
    rcases List.mem_cons.mp h with rfl | h
    · rw [absL_cons]
      split <;> omega
    · have := sumsFrom_in r (s + b) a h
      rw [absL_cons]
      split <;> omega
theorem sumsFrom_win : ∀ (x : List Int) (s a b : Int), a ∈ sumsFrom s x → b ∈ sumsFrom s x → a - b ≤ absL x
  | [], s, a, b, h, k => by
    rw [List.mem_singleton.mp h, List.mem_singleton.mp k]
    show s - s ≤ 0
    omega
  | c :: r, s, a, b, h, k => by
    have nn := absL_nonneg r
    rw [absL_cons]
    rcases List.mem_cons.mp h with rfl | h <;> rcases List.mem_cons.mp k with rfl | k
    · split <;> omega
    · have := sumsFrom_in r (a + c) b k
      split <;> omega
    · have := sumsFrom_in r (b + c) a h
      split <;> omega
    · have := sumsFrom_win r (s + c) a b h k
      split <;> omega
theorem sumsFrom_head : ∀ (x : List Int) (s : Int), s ∈ sumsFrom s x
  | [], s => List.mem_singleton.mpr rfl
  | a :: r, s => List.mem_cons_self
theorem sumsFrom_last : ∀ (x : List Int) (s : Int), s + x.sum ∈ sumsFrom s x
  | [], s => by
    show s + 0 ∈ [s]
    rw [Int.add_zero]
    exact List.mem_singleton.mpr rfl
  | a :: r, s => by
    refine List.mem_cons_of_mem _ ?_
    rw [List.sum_cons, show s + (a + r.sum) = s + a + r.sum by omega]
    exact sumsFrom_last r (s + a)
theorem invL_app : ∀ (A B : List Int), (∀ a ∈ A, ∀ b ∈ B, a ≤ b) → invL (A ++ B) = invL A + invL B
  | [], B, _ => by
    show invL B = 0 + invL B
    omega
  | a :: r, B, h => by
    have ih := invL_app r B fun x hx => h x (List.mem_cons_of_mem _ hx)
    have e : B.filter (fun y => decide (y < a)) = [] := by
      rw [List.filter_eq_nil_iff]
      intro b hb z
      have := h a List.mem_cons_self b hb
      have := of_decide_eq_true z
      omega
    show (((r ++ B).filter fun y => decide (y < a)).length : Int) + invL (r ++ B) = ((r.filter fun y => decide (y < a)).length : Int) + invL r + invL B
    rw [List.filter_append, e, List.append_nil, ih]
    omega
theorem invL_map (c : Int) : ∀ l : List Int, invL (l.map fun z => z + c) = invL l
  | [] => rfl
  | a :: r => by
    show (((r.map fun z => z + c).filter fun y => decide (y < a + c)).length : Int) + invL (r.map fun z => z + c) = ((r.filter fun y => decide (y < a)).length : Int) + invL r
    rw [invL_map c r, List.filter_map, List.length_map]
    congr 3
    refine List.filter_congr fun z _ => ?_
    show decide (z + c < a + c) = decide (z < a)
    congr 1
    exact propext ⟨fun h => by omega, fun h => by omega⟩

/-! ## lines.py: sums, differences -/
theorem boot_sum1 : bootBuiltins "sum" = some (.builtin "sum") := by decide +kernel
theorem boot_abs1 : bootBuiltins "abs" = some (.builtin "abs") := by decide +kernel
theorem boot_any1 : bootBuiltins "any" = some (.builtin "any") := by decide +kernel
theorem sumsFrom_init : ∀ (x : List Int) (s : Int), ∃ P, sumsFrom s x = P ++ [s + x.sum]
  | [], s => ⟨[], by
    show [s] = [] ++ [s + 0]
    rw [Int.add_zero]
    rfl⟩
  | a :: r, s => by
    obtain ⟨P, h⟩ := sumsFrom_init r (s + a)
    refine ⟨s :: P, ?_⟩
    show s :: sumsFrom (s + a) r = _
    rw [h, List.sum_cons, show s + (a + r.sum) = s + a + r.sum by omega]
    rfl
theorem sumsFrom_snoc (x : List Int) (s g : Int) : sumsFrom s (x ++ [g]) = sumsFrom s x ++ [s + x.sum + g] := sumsFrom_app g [] x s
theorem diffL_range : ∀ s : List Int, diffL s = (List.range (s.length - 1)).map fun i => s.getD (i + 1) 0 - s.getD i 0
  | [] => rfl
  | [_] => rfl
  | a :: b :: r => by
    rw [show diffL (a :: b :: r) = (b - a) :: diffL (b :: r) from rfl, diffL_range (b :: r)]
    show _ = (List.range (r.length + 1)).map _
    rw [List.range_succ_eq_map, List.map_cons, List.map_map]
    rfl
def spSums : Sp := fun vs H Q _ => ∃ (a : Addr) (x : List Int) (few : Nat), vs = [.ref a, .int few] ∧ H a = some (.lst (x.map V.int)) ∧ few ≤ x.length ∧ x.length ≤ 200 ∧
  ∀ q H', H q = none → Same H H' → H' q = some (.lst ((sumsL x).map V.int)) → Q (.ref q) H'
def spDiff : Sp := fun vs H Q _ => ∃ (a : Addr) (s : List Int), vs = [.ref a] ∧ H a = some (.lst (s.map V.int)) ∧ 1 ≤ s.length ∧ s.length ≤ 1000 ∧
  ∀ q H', H q = none → Same H H' → H' q = some (.lst ((diffL s).map V.int)) → Q (.ref q) H'
section
variable {P : Program} {w : World} {K : PySem.W.Frag} {mg : Str → Option Value} {base : Heap}
theorem sc_diff : FnScope ["sums", "place"] ["sums"] (defScope s_differences) := ⟨rfl, rfl, rfl, by decide +kernel, rfl, by decide +kernel, by decide +kernel⟩
theorem ok_diff {f : Addr} {fd : FuncData} (F : Fun K "differences" "differences" s_differences f fd) (M : Nms mg) : FnOk P w K mg base CX0 1 f fd ["sums"] spDiff := by
  refine F.ok sc_diff (fun vs H Q E h => ?_) (fun cdv A outer s H vs Q E hr h => ?_)
  · obtain ⟨a, s, rfl, _⟩ := h
    rfl
  · obtain ⟨a, x, rfl, ha, l1, l2, k⟩ := h
    refine ⟨_, pss_one (ps_ret (pe_lc (own := [("place", 1)]) (g := gName 1) (tt := tYes) rfl sc_diff.nd
      (pi_range1 rfl M.range (pa_cons (pe_op op_sub (pe_callB call_len_seq (by rfl) M.len boot_len1 (pa_cons (pv 0) pa_nil)) pe_int) pa_nil))
      (blkOk_by (own := [("place", 1)]) (N := ["sums", "place"]) (sc := defScope s_differences) (by decide +kernel))
      (fun _ _ _ _ _ => pg_name (i := 1) sc_diff.nd rfl (Or.inl rfl)) (fun _ _ _ _ _ => pts_nil)
      (fun _ _ _ _ _ => pe_op op_sub (pe_ix (r := rIxL K) ix_list (pv 0) (pe_op op_add (pv 1) pe_int) (fun _ _ => rfl)) (pe_ix (r := rIxL K) ix_list (pv 0) (pv 1) (fun _ _ => rfl))))), ?_⟩
    refine ⟨_, rfl, a, _, rfl, .inl (SqL.of ha), _, _, rfl, rfl, ?_⟩
    rw [List.length_map]
    refine ⟨_, rfl, by omega, by omega, fun D hD => ?_⟩
    have eN : ((x.length : Int) - 1).toNat = x.length - 1 := by omega
    rw [eN]
    refine lc_range (lo := 0) (n := x.length - 1) (fun i H' => Same H H' ∧ H' D = some (.lst ((List.range i).map fun j => V.int (x.getD (j + 1) 0 - x.getD j 0))))
      ⟨same_upd hD, upd_same⟩ (fun i H' hi h => ?_) (fun H' h => ?_)
    · obtain ⟨sm, e1⟩ := h
      refine ⟨rfl, ?_⟩
      refine ⟨_, rfl, _, rfl, _, _, rfl, rfl, a, _, _, _, rfl, rfl, SqL.of (sm _ _ ha), atInt (by omega) (by omega), _, rfl, _, rfl, a, _, _, _, rfl, rfl, SqL.of (sm _ _ ha), atInt (by omega) (by omega), _, _, rfl, rfl, ?_⟩
      refine ⟨_, e1, by rw [List.length_map, List.length_range, sizeLine_eq]; omega, fun b o e => ?_, ?_⟩
      · rw [upd_ne (ne_of_none e hD)]
        exact sm _ _ e
      · rw [upd_same, range_more, show ((0 : Int) + (i : Int) + 1).toNat = i + 1 by omega, show ((0 : Int) + (i : Int)).toNat = i by omega]
    · obtain ⟨sm, e1⟩ := h
      refine k D H' hD sm ?_
      rw [e1, diffL_range, List.map_map]
      rfl
theorem sc_sums : FnScope ["numbers", "fewest", "sums", "number"] ["numbers", "fewest"] (defScope s_checked_sums) := ⟨rfl, rfl, rfl, by decide +kernel, rfl, by decide +kernel, by decide +kernel⟩
theorem ok_sums {f : Addr} {fd : FuncData} (F : Fun K "checked_sums" "checked_sums" s_checked_sums f fd) (M : Nms mg) {t200 : Tok} (mL : mg "LONGEST_LINE" = some (.int 200 t200)) (GL : At P w K mg base CX0 2 "is_integer_list" ["thing", "length"] (spIntList K)) :
    FnOk P w K mg base CX0 3 f fd ["numbers", "fewest"] spSums := by
  obtain ⟨g, gd, GL, mG, kG, bG⟩ := GL
  refine F.ok sc_sums (fun vs H Q E h => ?_) (fun cdv A outer s H vs Q E hr h => ?_)
  · obtain ⟨a, x, few, rfl, _⟩ := h
    rfl
  · obtain ⟨a, x, few, rfl, ha, l1, l2, k⟩ := h
    refine ⟨_, pss_cons (ps_if (PW.pt (pw_or (pt_not (pt_val (pe_callB call_isi (by rfl) M.isi boot_isi (pa_cons (pv 0) (pa_cons (pe_bltn (v := V.ty "list") rfl M.list (by decide +kernel) rfl) pa_nil)))))
        (pw_or1 (pt_not (pt_chain op_le op_le (pv 1) (pe_callB call_len_seq (by rfl) M.len boot_len1 (pa_cons (pv 0) pa_nil)) (pe_glob (v := .int 200) (by rfl) mL ⟨_, rfl⟩)))))) (pss_one ps_never) pss_nil)
      (pss_cons (ps_if (pt_not (pt_val (pe_call GL hr (by rfl) mG kG bG .nil pass0 (pa_cons (pv 0) (pa_cons (pe_callB call_len_seq (by rfl) M.len boot_len1 (pa_cons (pv 0) pa_nil)) pa_nil))))) (pss_one ps_never) pss_nil)
      (pss_cons (ps_set (i := 2) sc_sums.nd rfl (Or.inl rfl) (pe_lst (pa_cons pe_int pa_nil)))
      (pss_cons (ps_for PassesOwn.never rfl (pi_list (pv 0)) (pg_name (i := 3) sc_sums.nd rfl (Or.inl rfl))
        (pss_one (ps_expr (pe_bm PySem.F.plainAttrs_list PySem.F.slot_list_append PySem.F.type_list_append mt_append (pv 2) (pa_cons (pe_op op_add (pe_ix ix_list (pv 2) (pe_un un_neg pe_int) (fun _ _ => rfl)) (pv 3)) pa_nil)))))
      (pss_one (ps_ret (pv 2)))))), ?_⟩
    have rX : ∀ H', Same H H' → FNX.Rd K H' (.ref a) (posD x) := fun H' s => .dat (.lst (SqL.of (s _ _ ha)) (dpInts x))
    have lx : (x.map V.int).length = x.length := List.length_map ..
    refine ⟨_, rfl, .ref a, _, _, _, _, rfl, .ty _, rdTy (rX H (Same.refl H)), kitL K _, _, rfl, ?_⟩
    refine iteF ?_
    refine ⟨_, rfl, _, rfl, a, _, rfl, .inl (SqL.of ha), _, _, rfl, rfl, _, rfl, ?_⟩
    rw [lx]
    rw [decide_eq_true (show (few : Int) ≤ (x.length : Int) by omega)]
    refine iteT ⟨_, _, rfl, rfl, _, rfl, ?_⟩
    rw [decide_eq_true (show (x.length : Int) ≤ 200 by omega)]
    refine iteF ?_
    refine ⟨_, rfl, _, rfl, a, _, rfl, .inl (SqL.of ha), ?_⟩
    rw [lx]
    refine ⟨.ref a, posD x, x.length, rfl, rX H (Same.refl H), ?_, fun H1 s1 => ?_⟩
    · show (x.map PyData.int).length ≤ 100000
      rw [List.length_map]
      omega
    rw [ilPos rfl]
    refine ⟨_, rfl, iteF ?_⟩
    refine ⟨by show 1 ≤ sizeLine; decide, fun D nD => ?_⟩
    obtain ⟨H2, q2, s2, h2⟩ := newAt (.lst [V.int 0]) nD
    rw [q2]
    have sm := s1.trans s2
    have aD : a ≠ D := ne_of_none (s1 _ _ ha) nD
    refine ⟨_, rfl, a, rfl, ⟨_, SqL.of (sm _ _ ha)⟩, for_list (xs := x.map V.int) (fun i σ H' => ∃ o3 : Option V, σ = [some (.ref a), some (.int few), some (.ref D), o3] ∧ SameX D H2 H' ∧ H' D = some (.lst ((sumsL (x.take i)).map V.int)))
      ⟨none, rfl, fun b o _ e => e, by rw [List.take_zero]; exact h2⟩ (fun i σ H' _ h => ?_) (fun i y σ H' hy h => ?_) (fun σ H' h => ?_)⟩
    · obtain ⟨o3, rfl, sx, hD⟩ := h
      exact SqL.of (sx _ _ aD (sm _ _ ha))
    · obtain ⟨o3, rfl, sx, hD⟩ := h
      obtain ⟨o, ho, rfl⟩ := intsAt hy
      obtain ⟨I, hI⟩ := sumsFrom_init (x.take i) 0
      have hi : i < x.length := (List.getElem?_eq_some_iff.mp ho).1
      have eD : (sumsL (x.take i)).map V.int = I.map V.int ++ [V.int (0 + (x.take i).sum)] := by
        unfold sumsL
        rw [hI, List.map_append]
        rfl
      refine ⟨_, rfl, .inl ⟨rfl, _, SqL.of hD⟩, _, rfl, _, rfl, D, _, _, _, rfl, rfl, SqL.of hD, by rw [eD]; exact atI_last _ _, _, rfl, _, _, rfl, rfl, D, _, _, rfl, rfl, hD, ?_, ?_⟩
      · rw [List.length_map]
        unfold sumsL
        rw [sumsFrom_len, List.length_take, sizeLine_eq]
        omega
      · refine ⟨_, rfl, fun b o hb e => ?_, ?_⟩
        · rw [upd_ne hb]
          exact sx b o hb e
        · rw [upd_same]
          have et : x.take (i + 1) = x.take i ++ [o] := by
            rw [List.take_add_one, ho]
            rfl
          rw [et]
          unfold sumsL
          rw [sumsFrom_snoc, List.map_append]
          rfl
    · obtain ⟨o3, rfl, sx, hD⟩ := h
      refine ⟨_, rfl, k D H' (s1.free nD) (fun b o e => ?_) ?_⟩
      · exact sx b o (ne_of_none (s1 _ _ e) nD) (sm _ _ e)
      · rw [hD, lx, List.take_length]
end

/-! ## lines.py: path_steps, path_end, never_ends_round -/
def scSteps : Scope := { kind := .function, names := [(".0", .local), ("place", .local), ("first", .cell), ("len", .globalImplicit), ("sums", .free)], isGenerator := false, isCoroutine := false }
def rLen (K : PySem.W.Frag) : List V → Hp → VK → Prop := fun xs H Q => ∃ p ys, xs = [.ref p] ∧ (SqL K H p ys ∨ SqT K H p ys) ∧ Q (.int ys.length) H
theorem cut_from (x : List Int) (i : Nat) (h : i ≤ x.length) : cutL x (some (i : Int)) none = x.drop i := by
  unfold cutL
  rw [HT.sIx_nat, HT.sIx_none, Nat.min_eq_left h]
  exact List.take_of_length_le (by rw [List.length_drop]; exact Nat.le_refl _)
def spPathSteps : Sp := fun vs H Q _ => ∃ (a : Addr) (x : List Int), vs = [.ref a] ∧ H a = some (.lst (x.map V.int)) ∧ 1 ≤ x.length ∧ x.length ≤ 200 ∧ ∀ H', Same H H' → Q (.int (invL (sumsL x))) H'
def spPathEnd : Sp := fun vs H Q _ => ∃ (a : Addr) (x : List Int), vs = [.ref a] ∧ H a = some (.lst (x.map V.int)) ∧ 1 ≤ x.length ∧ x.length ≤ 200 ∧
  ∀ q H' u, u.Perm (sumsL x) → u.Pairwise (· ≤ ·) → H q = none → Same H H' → H' q = some (.lst ((diffL u).map V.int)) → Q (.ref q) H'
section
variable {P : Program} {w : World} {K : PySem.W.Frag} {mg : Str → Option Value} {base : Heap}
def neverR (x : List Int) (D : Int) : Bool := decide (D < 0) || (decide (D = 0) && x.any fun z => !decide (z = 0))
def spNever : Sp := fun vs H Q _ => ∃ (a : Addr) (x : List Int) (D : Int), vs = [.ref a, .int D] ∧ H a = some (.lst (x.map V.int)) ∧ x.length ≤ 200 ∧ ∀ H', Same H H' → Q (.bl (neverR x D)) H'
theorem sc_never : FnScope ["numbers", "period", "number"] ["numbers", "period"] (defScope s_never_ends_round) := ⟨rfl, rfl, rfl, by decide +kernel, rfl, by decide +kernel, by decide +kernel⟩
theorem decVI (i j : Int) : decide (V.int i = V.int j) = decide (i = j) := by
  by_cases h : i = j
  · rw [h, decide_eq_true rfl, decide_eq_true rfl]
  · rw [decide_eq_false h, decide_eq_false (fun z => h (by injection z))]
theorem anyRange (p : Int → Bool) : ∀ x : List Int, ((List.range x.length).map fun i => p (x.getD i 0)).any id = x.any p
  | [] => rfl
  | a :: r => by
    rw [List.length_cons, List.range_succ_eq_map, List.map_cons, List.map_map, List.any_cons, List.any_cons, ← anyRange p r]
    rfl
theorem ok_never {f : Addr} {fd : FuncData} (F : Fun K "never_ends_round" "never_ends_round" s_never_ends_round f fd) (mA : mg "any" = none) : FnOk P w K mg base CX0 1 f fd ["numbers", "period"] spNever := by
  refine F.ok sc_never (fun vs H Q E h => ?_) (fun cdv A outer s H vs Q E hr h => ?_)
  · obtain ⟨a, x, D, rfl, _⟩ := h
    rfl
  · obtain ⟨a, x, D, rfl, ha, l2, k⟩ := h
    refine ⟨_, pss_one (ps_ret (pe_or (pe_cmpR op_lt (pv 1) pe_int (nomark _)) (pe_one (pe_and (pe_cmpR op_eq (pv 1) pe_int (nomark _)) (pe_one (pe_callB (cr_any rfl) (by rfl) mA boot_any1 (pa_cons
      (pe_lc (own := [("number", 2)]) (g := gName 2) (tt := tYes) rfl sc_never.nd (pi_list (pv 0))
        (blkOk_by (own := [("number", 2)]) (N := ["numbers", "period", "number"]) (sc := defScope s_never_ends_round) (by decide +kernel))
        (fun _ _ _ _ _ => pg_name (i := 2) sc_never.nd rfl (Or.inl rfl)) (fun _ _ _ _ _ => pts_nil)
        (fun _ _ _ _ _ => pe_cmpR op_ne (pv 2) pe_int (nomark _))) pa_nil))))))), ?_⟩
    refine ⟨_, rfl, _, _, rfl, rfl, _, rfl, ?_⟩
    have k : ∀ H', Same H H' → Q (.bl (decide (D < 0) || (decide (D = 0) && x.any fun z => !decide (z = 0)))) H' := k
    by_cases c : D < 0
    · rw [decide_eq_true c]
      rw [decide_eq_true c, Bool.true_or] at k
      exact iteT (k H (Same.refl H))
    rw [decide_eq_false c]
    rw [decide_eq_false c, Bool.false_or] at k
    refine iteF ⟨_, rfl, rfl, _, rfl, ?_⟩
    rw [decVI]
    by_cases c2 : D = 0
    · rw [decide_eq_true c2]
      rw [decide_eq_true c2, Bool.true_and] at k
      refine iteT ⟨_, rfl, a, rfl, ⟨_, SqL.of ha⟩, fun C hC => lc_map (K := K) (a := a) (xs := x.map V.int) (fun i => V.bl (!decide (x.getD i 0 = 0))) hC (SqL.of ha) (fun y => rfl) (fun i y H' hi sm hd => ?_) (fun H' sm hd => ?_)⟩
      · obtain ⟨o, ho, rfl⟩ := intsAt hi
        have hio : i < x.length := (List.getElem?_eq_some_iff.mp ho).1
        refine ⟨_, rfl, rfl, ?_⟩
        refine lcT hC (by omega) sm hd (Same.refl H') ?_
        rw [decVI, List.getD_eq_getElem?_getD, ho]
        rfl
      · rw [List.length_map] at hd
        refine ⟨C, (List.range x.length).map fun i => !decide (x.getD i 0 = 0), rfl, by rw [List.map_map]; exact SqL.of hd, ?_⟩
        rw [anyRange fun z => !decide (z = 0)]
        exact k H' sm
    · rw [decide_eq_false c2]
      rw [decide_eq_false c2, Bool.false_and] at k
      exact iteF (k H (Same.refl H))
end

end K21

set_option Elab.async false
set_option linter.all false
set_option maxRecDepth 100000
set_option maxHeartbeats 8000000
namespace K21
open PySem PySem.Spec PyProof.Rows L2 FNX
/-! ## lines.py: cycle_steps, cycle_end -/
theorem boot_int1 : bootBuiltins "int" = some (.type "int") := by decide +kernel
theorem boot_list1 : bootBuiltins "list" = some (.type "list") := by decide +kernel
theorem sums_pop (x : List Int) : sumsL x = (sumsL x).dropLast ++ [x.sum] := by
  obtain ⟨P, h⟩ := sumsFrom_init x 0
  unfold sumsL
  rw [h, List.dropLast_concat, Int.zero_add]
theorem sums_pop_len (x : List Int) : ((sumsL x).dropLast).length = x.length := by
  rw [List.length_dropLast]
  unfold sumsL
  rw [sumsFrom_len]
  rfl
theorem dropLast_map {α β : Type} (f : α → β) (l : List α) : (l.map f).dropLast = l.dropLast.map f := by
  rw [List.map_dropLast]
def spCycleSteps : Sp := fun vs H Q _ => ∃ (a : Addr) (x : List Int), vs = [.ref a] ∧ H a = some (.lst (x.map V.int)) ∧ 3 ≤ x.length ∧ x.length ≤ 200 ∧ x.sum.natAbs < 2 ^ 2000 ∧
  ∀ H', Same H H' → (neverR x x.sum = true → Q .non H') ∧ (neverR x x.sum = false → x.sum = 0 → Q (.int 0) H') ∧ (0 < x.sum → Q (.int (cycL (sumsL x).dropLast x.sum)) H')
def spCycleEnd : Sp := fun vs H Q _ => ∃ (a : Addr) (x : List Int), vs = [.ref a] ∧ H a = some (.lst (x.map V.int)) ∧ 3 ≤ x.length ∧ x.length ≤ 200 ∧ x.sum.natAbs < 2 ^ 2000 ∧
  (∀ H', Same H H' → neverR x x.sum = true → Q .non H') ∧ (∀ q H', H q = none → Same H H' → neverR x x.sum = false → x.sum = 0 → H' q = some (.lst (x.map V.int)) → Q (.ref q) H') ∧
  ∀ q H' t, 0 < x.sum → t.Perm ((sumsL x).dropLast.map fun z => z % x.sum) → t.Pairwise (· ≤ ·) → H q = none → Same H H' →
    H' q = some (.lst ((rotL (((sumsL x).dropLast.map fun z => z / x.sum).sum % (x.length : Int)).toNat (diffL (t ++ [t.getD 0 0 + x.sum]))).map V.int)) → Q (.ref q) H'
theorem never_pos {x : List Int} {D : Int} (h : neverR x D = false) (h0 : D ≠ 0) : 0 < D := by
  unfold neverR at h
  have h1 : decide (D < 0) = false := by
    cases e : decide (D < 0) with
    | true =>
      rw [e] at h
      cases h
    | false => rfl
  have := of_decide_eq_false h1
  omega
theorem never_of_pos {x : List Int} {D : Int} (h : 0 < D) : neverR x D = false := by
  unfold neverR
  rw [decide_eq_false (by omega), decide_eq_false (by omega)]
  rfl
theorem cut_to (x : List Int) (i : Nat) (h : i ≤ x.length) : cutL x none (some (i : Int)) = x.take i := by
  unfold cutL
  rw [HT.sIx_nat, HT.sIx_none, Nat.min_eq_left h, Nat.sub_zero, List.drop_zero]
section
variable {P : Program} {w : World} {K : PySem.W.Frag} {mg : Str → Option Value} {base : Heap}
theorem sc_cycle_steps : FnScope ["numbers", "sums", "period", "count", "place", "first", "other", "second", "less", "behind"] ["numbers"] (defScope s_cycle_steps) := ⟨rfl, rfl, rfl, by decide +kernel, rfl, by decide +kernel, by decide +kernel⟩
theorem ok_cycle_steps {f : Addr} {fd : FuncData} (F : Fun K "cycle_steps" "cycle_steps" s_cycle_steps f fd) (M : Nms mg) (GS : At P w K mg base CX0 3 "checked_sums" ["numbers", "fewest"] spSums) (GN : At P w K mg base CX0 1 "never_ends_round" ["numbers", "period"] spNever) :
    FnOk P w K mg base CX0 4 f fd ["numbers"] spCycleSteps := by
  obtain ⟨g, gd, GS, mG, kG, bG⟩ := GS
  obtain ⟨n, nd, GN, mN, kN, bN⟩ := GN
  refine F.ok sc_cycle_steps (fun vs H Q E h => ?_) (fun cdv A outer s H vs Q E hr h => ?_)
  · obtain ⟨a, x, rfl, _⟩ := h
    rfl
  · obtain ⟨a, x, rfl, ha, l1, l2, hb, k⟩ := h
    have hr1 : Room 1 _ := hr.mono (by decide)
    refine ⟨_, pss_cons (ps_set (i := 1) sc_cycle_steps.nd rfl (Or.inl rfl) (pe_call GS hr (by rfl) mG kG bG .nil pass0 (pa_cons (pv 0) (pa_cons pe_int pa_nil))))
      (pss_cons (ps_set (i := 2) sc_cycle_steps.nd rfl (Or.inl rfl) (pe_bm0 PySem.F.plainAttrs_list PySem.F.slot_list_pop PySem.F.type_list_pop mt_pop (pv 1)))
      (pss_cons (ps_if (pt_val (pe_call GN hr1 (by rfl) mN kN bN .nil pass0 (pa_cons (pv 0) (pa_cons (pv 2) pa_nil)))) (pss_one (ps_ret pe_non)) pss_nil)
      (pss_cons (ps_if (pt_cmpR op_eq (pv 2) pe_int (nomark _)) (pss_one (ps_ret pe_int)) pss_nil)
      (pss_cons (ps_set (i := 3) sc_cycle_steps.nd rfl (Or.inl rfl) pe_int)
      (pss_cons (ps_for PassesOwn.never rfl (pi_enum (by rfl) M.enumerate (pa_cons (pv 1) pa_nil)) (pg_tup rfl (pgs_cons (pg_name (i := 4) sc_cycle_steps.nd rfl (Or.inl rfl)) (pgs_cons (pg_name (i := 5) sc_cycle_steps.nd rfl (Or.inl rfl)) pgs_nil)))
        (pss_one (ps_for PassesOwn.never rfl (pi_enum (by rfl) M.enumerate (pa_cons (pv 1) pa_nil)) (pg_tup rfl (pgs_cons (pg_name (i := 6) sc_cycle_steps.nd rfl (Or.inl rfl)) (pgs_cons (pg_name (i := 7) sc_cycle_steps.nd rfl (Or.inl rfl)) pgs_nil)))
          (pss_cons (ps_set (i := 8) sc_cycle_steps.nd rfl (Or.inl rfl) (pe_un un_neg (pe_op op_fdivW (pe_op op_sub (pv 7) (pv 5)) (pv 2))))
          (pss_cons (ps_set (i := 9) sc_cycle_steps.nd rfl (Or.inl rfl) (pe_callTy call_int1 (by rfl) M.int (by decide +kernel) (pa_cons (pe_cmpR op_lt (pv 6) (pv 4) (nomark _)) pa_nil)))
          (pss_one (ps_aug (i := 3) sc_cycle_steps.nd rfl (Or.inl rfl) (pe_callB (call_max2 rfl) (by rfl) M.max boot_max1 (pa_cons pe_int (pa_cons (pe_op op_sub (pv 8) (pv 9)) pa_nil))) ip_add)))))))
      (pss_one (ps_ret (pv 3)))))))), ?_⟩
    refine ⟨_, rfl, a, x, 3, rfl, ha, l1, l2, fun q H1 nq s1 hq => ?_⟩
    have es := sums_pop x
    have ls := sums_pop_len x
    have hlast : ((sumsL x).map V.int)[((sumsL x).map V.int).length - 1]? = some (V.int x.sum) := by
      rw [es, List.map_append, List.length_append]
      show ((sumsL x).dropLast.map V.int ++ [V.int x.sum])[((sumsL x).dropLast.map V.int).length]? = _
      rw [List.getElem?_append_right (Nat.le_refl _), Nat.sub_self]
      rfl
    refine ⟨_, rfl, .inl ⟨rfl, _, SqL.of hq⟩, q, _, _, rfl, rfl, hq, hlast, ?_⟩
    rw [dropLast_map]
    generalize (sumsL x).dropLast = y at es ls k
    have s2 : Same H (upd H1 q (.lst (y.map V.int))) := fun b o e => by
      rw [upd_ne (ne_of_none e nq)]
      exact s1 _ _ e
    have hq2 : (upd H1 q (.lst (y.map V.int))) q = some (.lst (y.map V.int)) := upd_same
    show _
    generalize upd H1 q (.lst (y.map V.int)) = H2 at s2 hq2 ⊢
    refine ⟨_, rfl, _, rfl, a, x, x.sum, rfl, s2 _ _ ha, l2, fun H3 s3 => ?_⟩
    refine ⟨_, rfl, ?_⟩
    have s23 := s2.trans s3
    cases hn : neverR x x.sum with
    | true => exact iteT ((k H3 s23).1 hn)
    | false =>
      refine iteF ?_
      refine ⟨_, rfl, rfl, _, rfl, ?_⟩
      rw [decVI]
      by_cases h0 : x.sum = 0
      · rw [decide_eq_true h0]
        exact iteT ((k H3 s23).2.1 hn h0)
      rw [decide_eq_false h0]
      have hD := never_pos hn h0
      refine iteF ?_
      have hq3 := s3 _ _ hq2
      have ly : (y.map V.int).length = x.length := by rw [List.length_map, ls]
      refine ⟨_, rfl, q, _, rfl, SqL.of hq3, for_it (walk_enum (K := K) (a := q) (xs := y.map V.int)) (fun i σ H' => ∃ o4 o5 o6 o7 o8 o9 : Option V,
        σ = [some (.ref a), some (.ref q), some (.int x.sum), some (.int (sumN i fun i => sumN y.length fun j => cT y x.sum i j)), o4, o5, o6, o7, o8, o9] ∧ Same H3 H') ⟨none, none, none, none, none, none, rfl, Same.refl H3⟩
        (fun i σ H' _ h => ?_) (fun i v σ H' H'' hi h hy => ?_) (fun σ H' h => ?_)⟩
      · obtain ⟨_, _, _, _, _, _, rfl, sm⟩ := h
        exact SqL.of (sm _ _ hq3)
      · obtain ⟨o4, o5, o6, o7, o8, o9, rfl, sm⟩ := h
        obtain ⟨T', x', y', rfl, nT, rfl, e1, e2⟩ := hy
        obtain rfl : V.int (i : Int) = x' := Option.some.inj e1
        obtain ⟨c, hc, rfl⟩ := intsAt e2
        have hxc : y.getD i 0 = c := by
          rw [List.getD_eq_getElem?_getD, hc]
          rfl
        have sT : Same H3 (upd H' T' (.tup [V.int (i : Int), V.int c])) := sm.trans (same_upd nT)
        refine ⟨T', _, rfl, SqT.of upd_same, rfl, _, _, rfl, _, _, rfl, rfl, ?_⟩
        generalize upd H' T' (.tup [V.int (i : Int), V.int c]) = H4 at sT ⊢
        refine ⟨_, rfl, q, _, rfl, SqL.of (sT _ _ hq3), for_it (walk_enum (K := K) (a := q) (xs := y.map V.int)) (fun j σ H' => ∃ o6 o7 o8 o9 : Option V,
          σ = [some (.ref a), some (.ref q), some (.int x.sum), some (.int ((sumN i fun i => sumN y.length fun j => cT y x.sum i j) + sumN j fun j => cT y x.sum i j)), some (.int i), some (.int c), o6, o7, o8, o9] ∧ Same H3 H')
          ⟨o6, o7, o8, o9, by rw [sumN_zero, Int.add_zero]; rfl, sT⟩ (fun j σ H' _ h => ?_) (fun j v σ H5 H6 hj h hy => ?_) (fun σ H' h => ?_)⟩
        · obtain ⟨_, _, _, _, rfl, sm⟩ := h
          exact SqL.of (sm _ _ hq3)
        · obtain ⟨p6, p7, p8, p9, rfl, sm5⟩ := h
          obtain ⟨U', x', y', rfl, nU, rfl, e1, e2⟩ := hy
          obtain rfl : V.int (j : Int) = x' := Option.some.inj e1
          obtain ⟨d, hd, rfl⟩ := intsAt e2
          have hxd : y.getD j 0 = d := by
            rw [List.getD_eq_getElem?_getD, hd]
            rfl
          have sU : Same H3 (upd H5 U' (.tup [V.int (j : Int), V.int d])) := sm5.trans (same_upd nU)
          refine ⟨U', _, rfl, SqT.of upd_same, rfl, _, _, rfl, _, _, rfl, rfl, ?_⟩
          refine ⟨_, rfl, _, rfl, _, _, rfl, rfl, _, rfl, _, _, rfl, rfl, wide_div (b := 2000) hD hb (by decide) (by decide), _, rfl, ?_⟩
          refine ⟨_, rfl, _, rfl, _, _, rfl, rfl, .inr ⟨_, rfl, ?_⟩⟩
          refine ⟨_, rfl, _, rfl, _, rfl, _, _, rfl, rfl, _, _, rfl, _, _, rfl, rfl, ?_⟩
          refine ⟨some (.int j), some (.int d), some (.int (-((d - c) / x.sum))), some (.int (if decide ((j : Int) < (i : Int)) = true then 1 else 0)), ?_, sU⟩
          have ec : ∀ z : Int, max 0 z = (if z > 0 then z else 0) := fun z => by
            rw [Int.max_def]
            split <;> split <;> omega
          have ed : (sumN (j + 1) fun j => cT y x.sum i j) = (sumN j fun j => cT y x.sum i j) + (if (-((d - c) / x.sum) - (if decide ((j : Int) < (i : Int)) = true then 1 else 0)) > 0 then (-((d - c) / x.sum) - (if decide ((j : Int) < (i : Int)) = true then 1 else 0)) else 0) := by
            rw [sumN_succ, ← ec]
            congr 1
            unfold cT
            rw [hxc, hxd]
            have ei : (if decide ((j : Int) < (i : Int)) = true then (1 : Int) else 0) = if j < i then 1 else 0 := by
              by_cases h : j < i
              · rw [if_pos h, if_pos (by rw [decide_eq_true_eq]; omega)]
              · rw [if_neg h, if_neg (by rw [decide_eq_true_eq]; omega)]
            rw [ei]
          rw [ed, ← Int.add_assoc]
          rfl
        · obtain ⟨p6, p7, p8, p9, rfl, sm5⟩ := h
          refine ⟨some (.int i), some (.int c), p6, p7, p8, p9, ?_, sm5⟩
          rw [sumN_succ, List.length_map]
      · obtain ⟨o4, o5, o6, o7, o8, o9, rfl, sm⟩ := h
        refine ⟨_, rfl, ?_⟩
        rw [List.length_map]
        exact (k H' (s23.trans sm)).2.2 hD
theorem sc_cycle_end : FnScope ["numbers", "sums", "period", "ordered", "steps_up", "shift", "number"] ["numbers"] (defScope s_cycle_end) := ⟨rfl, rfl, rfl, by decide +kernel, rfl, by decide +kernel, by decide +kernel⟩
theorem ok_cycle_end {f : Addr} {fd : FuncData} (F : Fun K "cycle_end" "cycle_end" s_cycle_end f fd) (M : Nms mg) (mS : mg "sum" = none) (GS : At P w K mg base CX0 3 "checked_sums" ["numbers", "fewest"] spSums) (GN : At P w K mg base CX0 1 "never_ends_round" ["numbers", "period"] spNever)
    (GD : At P w K mg base CX0 1 "differences" ["sums"] spDiff) : FnOk P w K mg base CX0 4 f fd ["numbers"] spCycleEnd := by
  obtain ⟨g, gd, GS, mG, kG, bG⟩ := GS
  obtain ⟨n, nd, GN, mN, kN, bN⟩ := GN
  obtain ⟨d, dd, GD, mD, kD, bD⟩ := GD
  refine F.ok sc_cycle_end (fun vs H Q E h => ?_) (fun cdv A outer s H vs Q E hr h => ?_)
  · obtain ⟨a, x, rfl, _⟩ := h
    rfl
  · obtain ⟨a, x, rfl, ha, l1, l2, hb, k1, k2, k3⟩ := h
    have hr1 : Room 1 _ := hr.mono (by decide)
    refine ⟨_, pss_cons (ps_set (i := 1) sc_cycle_end.nd rfl (Or.inl rfl) (pe_call GS hr (by rfl) mG kG bG .nil pass0 (pa_cons (pv 0) (pa_cons pe_int pa_nil))))
      (pss_cons (ps_set (i := 2) sc_cycle_end.nd rfl (by first | exact Or.inl rfl | exact Or.inr rfl) (pe_bm0 PySem.F.plainAttrs_list PySem.F.slot_list_pop PySem.F.type_list_pop mt_pop (pv 1)))
      (pss_cons (ps_if (pt_val (pe_call GN hr1 (by rfl) mN kN bN .nil pass0 (pa_cons (pv 0) (pa_cons (pv 2) pa_nil)))) (pss_one (ps_ret pe_non)) pss_nil)
      (pss_cons (ps_if (pt_cmpR op_eq (pv 2) pe_int (nomark _)) (pss_one (ps_ret (pe_callTy call_list_of (by rfl) M.list (by decide +kernel) (pa_cons (pv 0) pa_nil)))) pss_nil)
      (pss_cons (ps_set (i := 3) sc_cycle_end.nd rfl (Or.inl rfl) (pe_callB cr_sortedI (by rfl) M.sorted boot_sorted1 (pa_cons
        (pe_lc (own := [("number", 6)]) (g := gName 6) (tt := tYes) rfl sc_cycle_end.nd (pi_list (pv 1))
          (blkOk_by (own := [("number", 6)]) (N := ["numbers", "sums", "period", "ordered", "steps_up", "shift", "number"]) (sc := defScope s_cycle_end) (by decide +kernel))
          (fun _ _ _ _ _ => pg_name (i := 6) sc_cycle_end.nd rfl (Or.inl rfl)) (fun _ _ _ _ _ => pts_nil)
          (fun _ _ _ _ _ => pe_op op_mod (pv 6) (pv 2))) pa_nil)))
      (pss_cons (ps_set (i := 4) sc_cycle_end.nd rfl (Or.inl rfl) (pe_call GD hr1 (by rfl) mD kD bD .nil pass0 (pa_cons (pe_op op_cat (pv 3) (pe_lst (pa_cons (pe_op op_add (pe_ix ix_list (pv 3) pe_int (fun _ _ => rfl)) (pv 2)) pa_nil))) pa_nil)))
      (pss_cons (ps_set (i := 5) sc_cycle_end.nd rfl (Or.inl rfl) (pe_op op_mod (pe_callB (cr_sum rfl) (by rfl) mS boot_sum1 (pa_cons
        (pe_lc (own := [("number", 6)]) (g := gName 6) (tt := tYes) rfl sc_cycle_end.nd (pi_list (pv 1))
          (blkOk_by (own := [("number", 6)]) (N := ["numbers", "sums", "period", "ordered", "steps_up", "shift", "number"]) (sc := defScope s_cycle_end) (by decide +kernel))
          (fun _ _ _ _ _ => pg_name (i := 6) sc_cycle_end.nd rfl (Or.inl rfl)) (fun _ _ _ _ _ => pts_nil)
          (fun _ _ _ _ _ => pe_op op_fdivW (pv 6) (pv 2))) pa_nil)) (pe_callB call_len_seq (by rfl) M.len boot_len1 (pa_cons (pv 0) pa_nil))))
      (pss_one (ps_ret (pe_op op_cat (pe_slice (r := rSlL K) sl_list (pv 4) (po_some (pv 5)) po_none) (pe_slice (r := rSlL K) sl_list (pv 4) po_none (po_some (pv 5)))))))))))), ?_⟩
    refine ⟨_, rfl, a, x, 3, rfl, ha, l1, l2, fun q H1 nq s1 hq => ?_⟩
    have es := sums_pop x
    have ls := sums_pop_len x
    have hlast : ((sumsL x).map V.int)[((sumsL x).map V.int).length - 1]? = some (V.int x.sum) := by
      rw [es, List.map_append, List.length_append]
      show ((sumsL x).dropLast.map V.int ++ [V.int x.sum])[((sumsL x).dropLast.map V.int).length]? = _
      rw [List.getElem?_append_right (Nat.le_refl _), Nat.sub_self]
      rfl
    refine ⟨_, rfl, .inl ⟨rfl, _, SqL.of hq⟩, q, _, _, rfl, rfl, hq, hlast, ?_⟩
    rw [dropLast_map]
    generalize (sumsL x).dropLast = y at es ls k3
    have s2 : Same H (upd H1 q (.lst (y.map V.int))) := fun b o e => by
      rw [upd_ne (ne_of_none e nq)]
      exact s1 _ _ e
    have hq2 : (upd H1 q (.lst (y.map V.int))) q = some (.lst (y.map V.int)) := upd_same
    show _
    generalize upd H1 q (.lst (y.map V.int)) = H2 at s2 hq2 ⊢
    refine ⟨_, rfl, _, rfl, a, x, x.sum, rfl, s2 _ _ ha, l2, fun H3 s3 => ?_⟩
    refine ⟨_, rfl, ?_⟩
    have s23 := s2.trans s3
    cases hn : neverR x x.sum with
    | true => exact iteT (k1 H3 s23 hn)
    | false =>
      refine iteF ?_
      refine ⟨_, rfl, rfl, _, rfl, ?_⟩
      rw [decVI]
      by_cases h0 : x.sum = 0
      · rw [decide_eq_true h0]
        refine iteT ⟨_, rfl, a, _, rfl, .inl (SqL.of (s23 _ _ ha)), fun l nl => ?_⟩
        exact k2 l _ (Same.free s23 nl) (s23.trans (same_upd nl)) hn h0 upd_same
      rw [decide_eq_false h0]
      have hD := never_pos hn h0
      refine iteF ?_
      have hq3 := s3 _ _ hq2
      refine ⟨_, rfl, q, rfl, ⟨_, SqL.of hq3⟩, fun C hC => lc_map (K := K) (a := q) (xs := y.map V.int) (fun i => V.int (y.getD i 0 % x.sum)) hC (SqL.of hq3) (fun z => rfl) (fun i z H' hi sm hd => ?_) (fun H4 sm4 hC4 => ?_)⟩
      · obtain ⟨o, ho, rfl⟩ := intsAt hi
        have hio : i < y.length := (List.getElem?_eq_some_iff.mp ho).1
        refine ⟨_, rfl, _, rfl, _, _, rfl, rfl, hD, ?_⟩
        refine lcT hC (by omega) sm hd (Same.refl H') ?_
        rw [List.getD_eq_getElem?_getD, ho]
        rfl
      have rng : ∀ g : Int → Int, ((List.range y.length).map fun i => g (y.getD i 0)) = y.map g := fun g => by
        apply List.ext_getElem
        · simp
        · intro i h1 h2
          simp only [List.length_map, List.length_range] at h1
          rw [List.getElem_map, List.getElem_range, List.getElem_map, List.getD_eq_getElem?_getD, List.getElem?_eq_getElem h1]
          rfl
      have eC : ((List.range (y.map V.int).length).map fun i => V.int (y.getD i 0 % x.sum)) = (y.map fun z => z % x.sum).map V.int := by
        rw [List.length_map, ← rng fun z => z % x.sum, List.map_map]
        rfl
      rw [eC] at hC4
      refine ⟨C, _, rfl, SqL.of hC4, fun t p pt st np => ?_⟩
      obtain ⟨H5, q5, s5, h5⟩ := newAt (.lst (t.map V.int)) np
      rw [q5]
      have lt : t.length = x.length := by rw [pt.length_eq, List.length_map, ls]
      refine ⟨_, rfl, _, rfl, p, _, _, _, rfl, rfl, SqL.of h5, atInt (by omega) (by omega), _, rfl, _, _, rfl, rfl, by show 1 ≤ sizeLine; decide, fun L nL => ?_⟩
      obtain ⟨H6, q6, s6, h6⟩ := newAt (.lst [V.int (t.getD 0 0 + x.sum)]) nL
      have q6' : upd H5 L (.lst [V.int (t.getD (0 : Int).toNat 0 + x.sum)]) = H6 := q6
      rw [q6']
      refine ⟨p, L, _, _, rfl, rfl, s6 _ _ h5, h6, by rw [List.length_map, sizeLine_eq]; show t.length + 1 ≤ _; omega, fun R nR => ?_⟩
      obtain ⟨H7, q7, s7, h7⟩ := newAt (.lst ((t ++ [t.getD 0 0 + x.sum]).map V.int)) nR
      rw [show (t.map V.int ++ [V.int (t.getD 0 0 + x.sum)]) = (t ++ [t.getD 0 0 + x.sum]).map V.int from by rw [List.map_append]; rfl, q7]
      have l7 : (t ++ [t.getD 0 0 + x.sum]).length = x.length + 1 := by
        rw [List.length_append, lt]
        rfl
      refine ⟨R, _, rfl, h7, by omega, by omega, fun U H8 nU s8 hU => ?_⟩
      have sA : Same H3 H8 := ((((sm4.trans s5).trans s6).trans s7).trans s8)
      refine ⟨_, rfl, q, rfl, ⟨_, SqL.of (sA _ _ hq3)⟩, fun C2 hC2 => lc_map (K := K) (a := q) (xs := y.map V.int) (fun i => V.int (y.getD i 0 / x.sum)) hC2 (SqL.of (sA _ _ hq3)) (fun z => rfl) (fun i z H' hi sm hd => ?_) (fun H9 sm9 hC9 => ?_)⟩
      · obtain ⟨o, ho, rfl⟩ := intsAt hi
        have hio : i < y.length := (List.getElem?_eq_some_iff.mp ho).1
        refine ⟨_, rfl, _, rfl, _, _, rfl, rfl, wide_div (b := 2000) hD hb (by decide) (by decide), ?_⟩
        refine lcT hC2 (by omega) sm hd (Same.refl H') ?_
        rw [List.getD_eq_getElem?_getD, ho]
        rfl
      have eC2 : ((List.range (y.map V.int).length).map fun i => V.int (y.getD i 0 / x.sum)) = (y.map fun z => z / x.sum).map V.int := by
        rw [List.length_map, ← rng fun z => z / x.sum, List.map_map]
        rfl
      rw [eC2] at hC9
      have sB := sA.trans sm9
      refine ⟨C2, _, rfl, SqL.of hC9, _, rfl, a, _, rfl, .inl (SqL.of ((s23.trans sB) _ _ ha)), ?_⟩
      rw [List.length_map]
      refine ⟨_, _, rfl, rfl, by omega, ?_⟩
      have m0 := Int.emod_nonneg (y.map fun z => z / x.sum).sum (show (x.length : Int) ≠ 0 by omega)
      have m1 := Int.emod_lt_of_pos (y.map fun z => z / x.sum).sum (show (0 : Int) < (x.length : Int) by omega)
      have k4 := k3
      generalize hM : (y.map fun z => z / x.sum).sum % (x.length : Int) = m at m0 m1 k4
      obtain ⟨m', rfl⟩ : ∃ m' : Nat, m = (m' : Int) := ⟨m.toNat, by omega⟩
      have lU : (diffL (t ++ [t.getD 0 0 + x.sum])).length = x.length := by
        rw [diffL_len, l7]
        rfl
      have hU9 := sm9 _ _ hU
      refine ⟨_, rfl, _, rfl, (m' : Int), congrArg V.int hM, U, _, rfl, SqL.of hU9, fun V1 nV1 => ?_⟩
      rw [cut_map, cut_from _ _ (by omega)]
      obtain ⟨G1, r1, v1, g1⟩ := newAt (.lst (((diffL (t ++ [t.getD 0 0 + x.sum])).drop m').map V.int)) nV1
      rw [r1]
      refine ⟨_, rfl, _, rfl, (m' : Int), congrArg V.int hM, U, _, rfl, SqL.of (v1 _ _ hU9), fun V2 nV2 => ?_⟩
      rw [cut_map, cut_to _ _ (by omega)]
      obtain ⟨G2, r2, v2, g2⟩ := newAt (.lst (((diffL (t ++ [t.getD 0 0 + x.sum])).take m').map V.int)) nV2
      rw [r2]
      refine ⟨V1, V2, _, _, rfl, rfl, v2 _ _ g1, g2, ?_, fun Z nZ => ?_⟩
      · rw [List.length_map, List.length_map, List.length_drop, List.length_take, sizeLine_eq]
        omega
      · have sC : Same H (upd G2 Z (.lst (((diffL (t ++ [t.getD 0 0 + x.sum])).drop m').map V.int ++ ((diffL (t ++ [t.getD 0 0 + x.sum])).take m').map V.int))) := (((s23.trans sB).trans v1).trans v2).trans (same_upd nZ)
        have nZ0 : H Z = none := Same.free (((s23.trans sB).trans v1).trans v2) nZ
        refine k4 Z _ t hD pt st nZ0 sC ?_
        rw [upd_same, ← List.map_append]
        rfl
end

/-! ## Two blocks on a ring -/
theorem ends_split {u : List Int} (h : u ≠ []) (y : Int) : ∃ z, diffL (u ++ [y]) = diffL u ++ [z] ∧ (diffL u).sum + z = y - u.getD 0 0 := by
  obtain ⟨a, r, rfl⟩ : ∃ a r, u = a :: r := by
    cases u with
    | nil => exact absurd rfl h
    | cons a r => exact ⟨a, r, rfl⟩
  have hs := diffL_sum a r y
  have hsplit : ∃ P l, a :: r = P ++ [l] := ⟨(a :: r).dropLast, (a :: r).getLast (by simp), (List.dropLast_concat_getLast (by simp)).symm⟩
  obtain ⟨P, l, hP⟩ := hsplit
  have e : diffL (a :: r ++ [y]) = diffL (a :: r) ++ [y - l] := by
    rw [hP, List.append_assoc]
    show diffL (P ++ l :: [y]) = _
    rw [diffL_split]
    rfl
  refine ⟨y - l, e, ?_⟩
  rw [e, List.sum_append] at hs
  have : ([y - l] : List Int).sum = y - l := by simp
  rw [this] at hs
  exact hs
def srt (l : List Int) : List Int := l.mergeSort fun a b => decide (a ≤ b)
theorem srt_perm (l : List Int) : (srt l).Perm l := List.mergeSort_perm l _
theorem srt_sorted (l : List Int) : (srt l).Pairwise (· ≤ ·) := by
  have h := List.pairwise_mergeSort (le := fun a b : Int => decide (a ≤ b)) (fun a b c h1 h2 => by
    have := of_decide_eq_true h1
    have := of_decide_eq_true h2
    exact decide_eq_true (by omega)) (fun a b => by
    by_cases h : a ≤ b
    · simp [h]
    · have : b ≤ a := by omega
      simp [this]) l
  exact h.imp fun h => of_decide_eq_true h
theorem srt_uniq {l u : List Int} (h : u.Perm l) (s : u.Pairwise (· ≤ ·)) : u = srt l := sorted_uniq (h.trans (srt_perm l).symm) s (srt_sorted l)
theorem map_sorted (c : Int) {v : List Int} (h : v.Pairwise (· ≤ ·)) : (v.map fun z => z + c).Pairwise (· ≤ ·) := by
  rw [List.pairwise_map]
  exact h.imp fun h => by omega
section
variable {x y : List Int} {g : Int}
theorem one_pos (hg : 1 + 2 * absL (x ++ y) ≤ g) : 0 < (x ++ [g]).sum := by
  have h1 := sumsFrom_in x 0 _ (sumsFrom_last x 0)
  rw [absL_app] at hg
  have := absL_nonneg x
  have := absL_nonneg y
  rw [List.sum_append]
  have : ([g] : List Int).sum = g := by simp
  omega
theorem one_sums : (sumsL (x ++ [g])).dropLast = sumsL x := by
  unfold sumsL
  rw [sumsFrom_snoc, List.dropLast_concat]
theorem one_win (hg : 1 + 2 * absL (x ++ y) ≤ g) : ∀ a ∈ sumsL x, ∀ b ∈ sumsL x, a - b < (x ++ [g]).sum := fun a ha b hb => by
  have h1 := sumsFrom_in x 0 _ (sumsFrom_last x 0)
  have h2 := sumsFrom_win x 0 a b ha hb
  rw [absL_app] at hg
  have := absL_nonneg x
  have := absL_nonneg y
  rw [List.sum_append]
  have : ([g] : List Int).sum = g := by simp
  omega
theorem two_sum : (x ++ [g] ++ y ++ [g]).sum = x.sum + g + y.sum + g := by
  rw [List.sum_append, List.sum_append, List.sum_append]
  have : ([g] : List Int).sum = g := by simp
  omega
theorem two_sums : (sumsL (x ++ [g] ++ y ++ [g])).dropLast = sumsL x ++ (sumsL y).map fun z => z + (x.sum + g) := by
  unfold sumsL
  rw [sumsFrom_snoc, List.dropLast_concat, List.append_assoc]
  show sumsFrom 0 (x ++ g :: y) = _
  rw [sumsFrom_app, ← sumsFrom_shift]
  congr 2
  omega
theorem two_pos (hg : 1 + 2 * absL (x ++ y) ≤ g) : 0 < (x ++ [g] ++ y ++ [g]).sum := by
  have h1 := sumsFrom_in x 0 _ (sumsFrom_last x 0)
  have h2 := sumsFrom_in y 0 _ (sumsFrom_last y 0)
  rw [absL_app] at hg
  have := absL_nonneg x
  have := absL_nonneg y
  rw [two_sum]
  omega
theorem two_sep (hg : 1 + 2 * absL (x ++ y) ≤ g) : ∀ a ∈ sumsL x, ∀ b ∈ (sumsL y).map (fun z => z + (x.sum + g)), a ≤ b := fun a ha b hb => by
  obtain ⟨c, hc, rfl⟩ := List.mem_map.mp hb
  have h1 := sumsFrom_win x 0 a _ ha (sumsFrom_last x 0)
  have h2 := sumsFrom_in y 0 c hc
  rw [absL_app] at hg
  have := absL_nonneg x
  have := absL_nonneg y
  omega
theorem two_win (hg : 1 + 2 * absL (x ++ y) ≤ g) : ∀ a ∈ sumsL x ++ (sumsL y).map (fun z => z + (x.sum + g)), ∀ b ∈ sumsL x ++ (sumsL y).map (fun z => z + (x.sum + g)), a - b < (x ++ [g] ++ y ++ [g]).sum := fun a ha b hb => by
  have l1 := sumsFrom_in x 0 _ (sumsFrom_last x 0)
  have l2 := sumsFrom_in y 0 _ (sumsFrom_last y 0)
  rw [absL_app] at hg
  have := absL_nonneg x
  have := absL_nonneg y
  rw [two_sum]
  rcases List.mem_append.mp ha with ha | ha <;> rcases List.mem_append.mp hb with hb | hb
  · have := sumsFrom_win x 0 a b ha hb
    omega
  · obtain ⟨c, hc, rfl⟩ := List.mem_map.mp hb
    have h1 := sumsFrom_win x 0 a _ ha (sumsFrom_last x 0)
    have h2 := sumsFrom_in y 0 c hc
    omega
  · obtain ⟨c, hc, rfl⟩ := List.mem_map.mp ha
    have h1 := sumsFrom_win x 0 _ b (sumsFrom_last x 0) hb
    have h2 := sumsFrom_in y 0 c hc
    omega
  · obtain ⟨c, hc, rfl⟩ := List.mem_map.mp ha
    obtain ⟨d, hd, rfl⟩ := List.mem_map.mp hb
    have := sumsFrom_win y 0 c d hc hd
    omega
theorem one_steps (hg : 1 + 2 * absL (x ++ y) ≤ g) : cycL (sumsL (x ++ [g])).dropLast (x ++ [g]).sum = invL (sumsL x) := by
  rw [one_sums]
  exact cyc_win (one_pos hg) (one_win hg)
theorem two_steps (hg : 1 + 2 * absL (x ++ y) ≤ g) : cycL (sumsL (x ++ [g] ++ y ++ [g])).dropLast (x ++ [g] ++ y ++ [g]).sum = invL (sumsL x) + invL (sumsL y) := by
  rw [two_sums, cyc_win (two_pos hg) (two_win hg), invL_app _ _ (two_sep hg), invL_map]
theorem srt_ne {l : List Int} (h : l ≠ []) : srt l ≠ [] := fun z => by
  have := (srt_perm l).length_eq
  rw [z] at this
  exact h (List.length_eq_zero_iff.mp this.symm)
theorem sums_ne : sumsL x ≠ [] := fun z => by
  have := sumsFrom_len x 0
  unfold sumsL at z
  rw [z] at this
  cases this
theorem one_end (hg : 1 + 2 * absL (x ++ y) ≤ g) {t : List Int} (ht : t.Perm ((sumsL (x ++ [g])).dropLast.map fun z => z % (x ++ [g]).sum)) (ts : t.Pairwise (· ≤ ·)) :
    rotL (((sumsL (x ++ [g])).dropLast.map fun z => z / (x ++ [g]).sum).sum % ((x ++ [g]).length : Int)).toNat (diffL (t ++ [t.getD 0 0 + (x ++ [g]).sum])) =
      diffL (srt (sumsL x)) ++ [(x ++ [g]).sum - (diffL (srt (sumsL x))).sum] := by
  rw [one_sums] at ht ⊢
  have hl : ((x ++ [g]).length : Int) = ((sumsL x).length : Int) := by
    unfold sumsL
    rw [sumsFrom_len, List.length_append]
    rfl
  rw [hl, end_win (one_pos hg) (one_win hg) (sumsFrom_head x 0) ht ts (srt_perm _) (srt_sorted _)]
  obtain ⟨z, h1, h2⟩ := ends_split (srt_ne sums_ne) ((srt (sumsL x)).getD 0 0 + (x ++ [g]).sum)
  rw [h1]
  congr 2
  omega
theorem two_end (hg : 1 + 2 * absL (x ++ y) ≤ g) {t : List Int} (ht : t.Perm ((sumsL (x ++ [g] ++ y ++ [g])).dropLast.map fun z => z % (x ++ [g] ++ y ++ [g]).sum)) (ts : t.Pairwise (· ≤ ·)) :
    ∃ z1 z2, rotL (((sumsL (x ++ [g] ++ y ++ [g])).dropLast.map fun z => z / (x ++ [g] ++ y ++ [g]).sum).sum % ((x ++ [g] ++ y ++ [g]).length : Int)).toNat (diffL (t ++ [t.getD 0 0 + (x ++ [g] ++ y ++ [g]).sum])) =
      diffL (srt (sumsL x)) ++ z1 :: (diffL (srt (sumsL y)) ++ [z2]) ∧ (diffL (srt (sumsL x)) ++ z1 :: (diffL (srt (sumsL y)) ++ [z2])).sum = (x ++ [g] ++ y ++ [g]).sum ∧
      ∀ z ∈ diffL (srt (sumsL x)) ++ z1 :: (diffL (srt (sumsL y)) ++ [z2]), 0 ≤ z := by
  have hD := two_pos hg
  have hw := two_win hg
  have hsep := two_sep hg
  rw [two_sums] at ht ⊢
  have hl : ((x ++ [g] ++ y ++ [g]).length : Int) = ((sumsL x ++ (sumsL y).map fun z => z + (x.sum + g)).length : Int) := by
    simp only [sumsL, List.length_append, List.length_map, sumsFrom_len, List.length_cons, List.length_nil]
    omega
  let u := srt (sumsL x)
  let v := srt (sumsL y)
  have pu : (u ++ v.map fun z => z + (x.sum + g)).Perm (sumsL x ++ (sumsL y).map fun z => z + (x.sum + g)) := (srt_perm _).append ((srt_perm _).map _)
  have su : (u ++ v.map fun z => z + (x.sum + g)).Pairwise (· ≤ ·) := by
    refine List.pairwise_append.mpr ⟨srt_sorted _, map_sorted _ (srt_sorted _), fun a ha b hb => ?_⟩
    refine hsep a ((srt_perm _).mem_iff.mp ha) b ?_
    obtain ⟨c, hc, rfl⟩ := List.mem_map.mp hb
    exact List.mem_map.mpr ⟨c, (srt_perm _).mem_iff.mp hc, rfl⟩
  have h0 : (0 : Int) ∈ sumsL x ++ (sumsL y).map fun z => z + (x.sum + g) := List.mem_append_left _ (sumsFrom_head x 0)
  rw [hl, end_win hD hw h0 ht ts pu su]
  obtain ⟨u0, U, hU⟩ : ∃ u0 U, u = u0 :: U := by
    cases h : u with
    | nil => exact absurd h (srt_ne sums_ne)
    | cons a r => exact ⟨a, r, rfl⟩
  obtain ⟨v0, V, hV⟩ : ∃ v0 V, v = v0 :: V := by
    cases h : v with
    | nil => exact absurd h (srt_ne sums_ne)
    | cons a r => exact ⟨a, r, rfl⟩
  have g0 : (u ++ v.map fun z => z + (x.sum + g)).getD 0 0 = u0 := by
    rw [hU]
    rfl
  rw [g0]
  obtain ⟨z1, a1, _⟩ := ends_split (u := u) (srt_ne sums_ne) (v0 + (x.sum + g))
  obtain ⟨z2, a2, _⟩ := ends_split (u := v.map fun z => z + (x.sum + g)) (by rw [hV]; simp) (u0 + (x ++ [g] ++ y ++ [g]).sum)
  rw [diffL_map] at a2
  have ed : diffL (u ++ (v.map fun z => z + (x.sum + g)) ++ [u0 + (x ++ [g] ++ y ++ [g]).sum]) = diffL u ++ z1 :: (diffL v ++ [z2]) := by
    have e1 : u ++ (v.map fun z => z + (x.sum + g)) ++ [u0 + (x ++ [g] ++ y ++ [g]).sum] = u ++ (v0 + (x.sum + g)) :: ((V.map fun z => z + (x.sum + g)) ++ [u0 + (x ++ [g] ++ y ++ [g]).sum]) := by
      rw [hV, List.append_assoc]
      rfl
    have e2 : (v0 + (x.sum + g)) :: ((V.map fun z => z + (x.sum + g)) ++ [u0 + (x ++ [g] ++ y ++ [g]).sum]) = (v.map fun z => z + (x.sum + g)) ++ [u0 + (x ++ [g] ++ y ++ [g]).sum] := by
      rw [hV]
      rfl
    rw [e1, diffL_split, e2, a1, a2, List.append_assoc]
    rfl
  refine ⟨z1, z2, ed, ?_, ?_⟩
  · rw [← ed, hU]
    have := diffL_sum u0 (U ++ v.map fun z => z + (x.sum + g)) (u0 + (x ++ [g] ++ y ++ [g]).sum)
    rw [show u0 :: U ++ (v.map fun z => z + (x.sum + g)) ++ [u0 + (x ++ [g] ++ y ++ [g]).sum] = u0 :: (U ++ v.map fun z => z + (x.sum + g)) ++ [u0 + (x ++ [g] ++ y ++ [g]).sum] from rfl, this]
    omega
  · rw [← ed]
    refine diffL_nonneg _ (List.pairwise_append.mpr ⟨su, List.pairwise_singleton _ _, fun a ha b hb => ?_⟩)
    rw [List.mem_singleton.mp hb]
    have m1 := pu.mem_iff.mp ha
    have m2 : u0 ∈ sumsL x ++ (sumsL y).map fun z => z + (x.sum + g) := pu.mem_iff.mp (List.mem_append_left _ (by rw [hU]; exact List.mem_cons_self))
    have := hw a m1 u0 m2
    omega
theorem cut_mid (A W : List Int) (z1 z2 : Int) : cutL (A ++ z1 :: (W ++ [z2])) (some ((A.length : Int) + 1)) (some (-1)) = W := by
  have hlen : (A ++ z1 :: (W ++ [z2])).length = A.length + W.length + 2 := by
    rw [List.length_append, List.length_cons, List.length_append]
    show A.length + (W.length + 1 + 1) = _
    omega
  unfold cutL
  rw [show ((A.length : Int) + 1) = ((A.length + 1 : Nat) : Int) from rfl, HT.sIx_nat]
  have e1 : HT.sIx (A ++ z1 :: (W ++ [z2])).length (A ++ z1 :: (W ++ [z2])).length (some (-1)) = A.length + W.length + 1 := by
    show ((-1 : Int) + ((A ++ z1 :: (W ++ [z2])).length : Int)).toNat = _
    rw [hlen]
    omega
  rw [e1, hlen, Nat.min_eq_left (by omega), show A.length + W.length + 1 - (A.length + 1) = W.length by omega]
  have e2 : List.drop (A.length + 1) (A ++ z1 :: (W ++ [z2])) = W ++ [z2] := by
    rw [show A ++ z1 :: (W ++ [z2]) = (A ++ [z1]) ++ (W ++ [z2]) from by simp]
    have : (A ++ [z1]).length = A.length + 1 := by simp
    rw [← this, List.drop_left]
  rw [e2, List.take_left]
end

/-! ## of pathM, what k22 needs -/
theorem invCons (a : Int) (r : List Int) : invL (a :: r) = ((r.filter fun y => decide (y < a)).length : Int) + invL r := rfl
theorem invNonneg : ∀ t : List Int, 0 ≤ invL t
  | [] => Int.le_refl 0
  | a :: r => by
    have := invNonneg r
    rw [invCons]
    omega
theorem sortedInv : ∀ t : List Int, t.Pairwise (· ≤ ·) → invL t = 0
  | [], _ => rfl
  | a :: r, h => by
    obtain ⟨h1, h2⟩ := List.pairwise_cons.mp h
    rw [invCons, sortedInv r h2, List.filter_eq_nil_iff.mpr (fun y hy => by have := h1 y hy; simpa using this)]
    rfl
theorem diffSums : ∀ (x : List Int) (s : Int), diffL (sumsFrom s x) = x
  | [], _ => rfl
  | a :: x, s => by
    have ih := diffSums x (s + a)
    match x with
    | [] =>
      show [s + a - s] = [a]
      rw [show s + a - s = a by omega]
    | b :: x =>
      show (s + a - s) :: diffL (sumsFrom (s + a) (b :: x)) = a :: b :: x
      rw [ih, show s + a - s = a by omega]
theorem invSnoc (a : Int) : ∀ s : List Int, invL (s ++ [a]) = invL s + ((s.filter fun y => decide (a < y)).length : Int)
  | [] => rfl
  | b :: s => by
    have ih := invSnoc a s
    rw [List.cons_append, invCons, invCons, ih, List.filter_append, List.length_append]
    have f1 : ([a].filter fun y => decide (y < b)).length = if a < b then 1 else 0 := by
      by_cases c : a < b
      · simp [c]
      · simp [c]
    have f2 : ((b :: s).filter fun y => decide (a < y)).length = (if a < b then 1 else 0) + (s.filter fun y => decide (a < y)).length := by
      by_cases c : a < b
      · simp [c]
        omega
      · simp [c]
    rw [f1, f2]
    split <;> omega

end K21

set_option Elab.async false
set_option linter.all false
set_option maxRecDepth 100000
set_option maxHeartbeats 8000000
namespace K21
open PySem PySem.Spec PyProof.Rows L2 FNX
/-! ## Lines turned round, and lines made greater (for k22) -/
def scaleL (t : Int) (x : List Int) : List Int := x.map fun z => t * z
theorem scaleSum (t : Int) : ∀ x : List Int, (scaleL t x).sum = t * x.sum
  | [] => by simp [scaleL]
  | a :: r => by
    show t * a + (scaleL t r).sum = t * (a + r.sum)
    rw [scaleSum t r, Int.mul_add]
theorem sumsScale (t : Int) : ∀ (x : List Int) (s : Int), sumsFrom (t * s) (scaleL t x) = scaleL t (sumsFrom s x)
  | [], _ => rfl
  | a :: r, s => by
    show t * s :: sumsFrom (t * s + t * a) (scaleL t r) = t * s :: scaleL t (sumsFrom (s + a) r)
    rw [← Int.mul_add, sumsScale t r]
theorem ltScale {t : Int} (h : 0 < t) (a b : Int) : t * a < t * b ↔ a < b := Int.mul_lt_mul_left h
theorem invScale {t : Int} (h : 0 < t) : ∀ l : List Int, invL (scaleL t l) = invL l
  | [] => rfl
  | a :: r => by
    show (((r.map fun z => t * z).filter fun y => decide (y < t * a)).length : Int) + invL (scaleL t r) = ((r.filter fun y => decide (y < a)).length : Int) + invL r
    rw [invScale h r, List.filter_map, List.length_map]
    congr 3
    refine List.filter_congr fun z _ => ?_
    show decide (t * z < t * a) = decide (z < a)
    congr 1
    exact propext (ltScale h z a)
theorem diffScale (t : Int) : ∀ s : List Int, diffL (scaleL t s) = scaleL t (diffL s)
  | [] => rfl
  | [_] => rfl
  | a :: b :: r => by
    show (t * b - t * a) :: diffL (scaleL t (b :: r)) = t * (b - a) :: scaleL t (diffL (b :: r))
    rw [diffScale t (b :: r), Int.mul_sub]
theorem sortedScale {t : Int} (h : 0 < t) {u : List Int} (s : u.Pairwise (· ≤ ·)) : (scaleL t u).Pairwise (· ≤ ·) :=
  List.pairwise_map.mpr (s.imp fun hab => Int.mul_le_mul_of_nonneg_left hab (Int.le_of_lt h))
/-- the ends of a path: any sorted copy of the sums -/
theorem endScale {t : Int} (h : 0 < t) {x u v : List Int} (pu : u.Perm (sumsL x)) (su : u.Pairwise (· ≤ ·)) (pv : v.Perm (sumsL (scaleL t x))) (sv : v.Pairwise (· ≤ ·)) : diffL v = scaleL t (diffL u) := by
  have e : sumsL (scaleL t x) = scaleL t (sumsL x) := by
    have := sumsScale t x 0
    rwa [Int.mul_zero] at this
  rw [e] at pv
  rw [sorted_uniq (pv.trans (pu.map _).symm) sv (sortedScale h su)]
  exact diffScale t u
theorem stepsScale {t : Int} (h : 0 < t) (x : List Int) : invL (sumsL (scaleL t x)) = invL (sumsL x) := by
  have e : sumsL (scaleL t x) = scaleL t (sumsL x) := by
    have := sumsScale t x 0
    rwa [Int.mul_zero] at this
  rw [e, invScale h]
/-! ### turned round -/
def mirL (c : Int) (s : List Int) : List Int := (s.map fun z => c - z).reverse
theorem sumsMir : ∀ (x : List Int) (s : Int), sumsFrom s x.reverse = mirL (s + s + x.sum) (sumsFrom s x)
  | [], s => by
    show [s] = [s + s + 0 - s]
    congr 1
    omega
  | a :: r, s => by
    have ih := sumsMir r s
    have e1 : sumsFrom (s + a) r = (sumsFrom s r).map fun z => z + a := sumsFrom_shift a r s
    rw [List.reverse_cons, sumsFrom_snoc, ih, List.sum_cons]
    have e2 : (r.reverse).sum = r.sum := perm_sum (List.reverse_perm r)
    rw [e2]
    show mirL (s + s + r.sum) (sumsFrom s r) ++ [s + r.sum + a] = mirL (s + s + (a + r.sum)) (s :: sumsFrom (s + a) r)
    unfold mirL
    rw [List.map_cons, List.reverse_cons, e1, List.map_map]
    congr 1
    · congr 1
      refine List.map_congr_left fun z _ => ?_
      show s + s + r.sum - z = s + s + (a + r.sum) - (z + a)
      omega
    · congr 1
      omega
theorem invMir (c : Int) : ∀ s : List Int, invL (mirL c s) = invL s
  | [] => rfl
  | a :: r => by
    have ih := invMir c r
    unfold mirL at ih ⊢
    rw [List.map_cons, List.reverse_cons, invSnoc, ih, invCons, Int.add_comm]
    congr 2
    rw [List.filter_reverse, List.length_reverse, List.filter_map, List.length_map]
    congr 1
    refine List.filter_congr fun z _ => ?_
    show decide (c - a < c - z) = decide (z < a)
    congr 1
    exact propext ⟨fun h => by omega, fun h => by omega⟩
theorem stepsMir (x : List Int) : invL (sumsL x.reverse) = invL (sumsL x) := by
  unfold sumsL
  rw [sumsMir, invMir]
theorem sortedMir (c : Int) {u : List Int} (s : u.Pairwise (· ≤ ·)) : (mirL c u).Pairwise (· ≤ ·) := by
  unfold mirL
  refine List.pairwise_reverse.mpr (List.pairwise_map.mpr (s.imp fun {a b} hab => ?_))
  show c - b ≤ c - a
  omega
theorem diffSnoc : ∀ (u : List Int) (a b : Int), diffL (u ++ [a, b]) = diffL (u ++ [a]) ++ [b - a]
  | [], _, _ => rfl
  | [x], a, b => rfl
  | x :: y :: r, a, b => by
    show (y - x) :: diffL ((y :: r) ++ [a, b]) = (y - x) :: (diffL ((y :: r) ++ [a]) ++ [b - a])
    rw [diffSnoc (y :: r) a b]
theorem diffMir (c : Int) : ∀ s : List Int, diffL (mirL c s) = (diffL s).reverse
  | [] => rfl
  | [_] => rfl
  | a :: b :: r => by
    have ih := diffMir c (b :: r)
    have e : mirL c (a :: b :: r) = mirL c r ++ [c - b, c - a] := by
      unfold mirL
      rw [List.map_cons, List.map_cons, List.reverse_cons, List.reverse_cons, List.append_assoc]
      rfl
    have e2 : mirL c (b :: r) = mirL c r ++ [c - b] := by
      unfold mirL
      rw [List.map_cons, List.reverse_cons]
    rw [e, diffSnoc, ← e2, ih]
    show (diffL (b :: r)).reverse ++ [c - a - (c - b)] = ((b - a) :: diffL (b :: r)).reverse
    rw [List.reverse_cons]
    congr 2
    omega
theorem mirPerm (c : Int) (s : List Int) : (mirL c s).Perm (s.map fun z => c - z) := List.reverse_perm _
theorem endMir {x u v : List Int} (pu : u.Perm (sumsL x)) (su : u.Pairwise (· ≤ ·)) (pv : v.Perm (sumsL x.reverse)) (sv : v.Pairwise (· ≤ ·)) : diffL v = (diffL u).reverse := by
  unfold sumsL at pv
  rw [sumsMir] at pv
  rw [sorted_uniq (pv.trans ((mirPerm _ _).trans ((pu.map _).symm.trans (mirPerm _ _).symm))) sv (sortedMir _ su)]
  exact diffMir _ u
/-! ### ended positions -/
theorem sumsSorted : ∀ (x : List Int) (s : Int), (∀ z ∈ x, 0 ≤ z) → (sumsFrom s x).Pairwise (· ≤ ·) ∧ ∀ z ∈ sumsFrom s x, s ≤ z
  | [], s, _ => ⟨List.pairwise_singleton .., fun z hz => by rw [List.mem_singleton.mp hz]; exact Int.le_refl s⟩
  | a :: r, s, h => by
    obtain ⟨h1, h2⟩ := sumsSorted r (s + a) fun z hz => h z (List.mem_cons_of_mem _ hz)
    have ha := h a List.mem_cons_self
    refine ⟨List.pairwise_cons.mpr ⟨fun z hz => by have := h2 z hz; omega, h1⟩, fun z hz => ?_⟩
    rcases List.mem_cons.mp hz with rfl | hz
    · exact Int.le_refl _
    · have := h2 z hz
      omega
theorem endedSteps {x : List Int} (h : ∀ z ∈ x, 0 ≤ z) : invL (sumsL x) = 0 := sortedInv _ (sumsSorted x 0 h).1
theorem endedEnd {x u : List Int} (h : ∀ z ∈ x, 0 ≤ z) (pu : u.Perm (sumsL x)) (su : u.Pairwise (· ≤ ·)) : diffL u = x := by
  rw [sorted_uniq pu su (sumsSorted x 0 h).1]
  exact diffSums x 0
theorem invZero : ∀ {s : List Int}, invL s = 0 → s.Pairwise (· ≤ ·)
  | [], _ => .nil
  | a :: r, h => by
    rw [invCons] at h
    have n1 := invNonneg r
    have l0 : (r.filter fun y => decide (y < a)).length = 0 := by omega
    refine List.pairwise_cons.mpr ⟨fun y hy => ?_, invZero (by omega)⟩
    have e := List.filter_eq_nil_iff.mp (List.eq_nil_of_length_eq_zero l0) y hy
    have : ¬ y < a := by simpa using e
    omega
theorem stepsZero {x : List Int} (h : invL (sumsL x) = 0) : ∀ z ∈ x, 0 ≤ z := fun z hz => by
  have s := invZero h
  have d := diffL_nonneg _ s
  rw [show diffL (sumsL x) = x from diffSums x 0] at d
  exact d z hz

/-! ### cycles turned round, and made greater: their lengths (for k22) -/
theorem sumN_comm (n m : Nat) (f : Nat → Nat → Int) : (sumN n fun i => sumN m fun j => f i j) = sumN m fun j => sumN n fun i => f i j := by
  induction n with
  | zero =>
    rw [sumN_zero]
    induction m with
    | zero => rfl
    | succ m ih =>
      rw [sumN_succ, ← ih]
      rfl
  | succ n ih =>
    rw [sumN_succ, ih]
    have e : ∀ k, (sumN k fun j => sumN n fun i => f i j) + (sumN k fun j => f n j) = sumN k fun j => sumN (n + 1) fun i => f i j := fun k => by
      induction k with
      | zero => rfl
      | succ k ihk =>
        rw [sumN_succ, sumN_succ, sumN_succ, ← ihk, sumN_succ]
        omega
    exact e m
theorem sumN_rev (f : Nat → Int) : ∀ n, (sumN n fun i => f (n - 1 - i)) = sumN n f
  | 0 => rfl
  | n + 1 => by
    rw [sumN_succ', sumN_succ]
    have ih := sumN_rev f n
    have e : (sumN n fun i => f (n + 1 - 1 - (i + 1))) = sumN n fun i => f (n - 1 - i) := sumN_congr fun i _ => by
      congr 1
      omega
    show f n + _ = _
    rw [e, ih]
    omega
theorem getDScale (t : Int) (s : List Int) (i : Nat) : (scaleL t s).getD i 0 = t * s.getD i 0 := by
  unfold scaleL
  rw [List.getD_eq_getElem?_getD, List.getD_eq_getElem?_getD, List.getElem?_map]
  cases s[i]? with
  | none => simp
  | some v => rfl
theorem cycScale {t D : Int} (h : 0 < t) (s : List Int) : cycL (scaleL t s) (t * D) = cycL s D := by
  unfold cycL
  rw [show (scaleL t s).length = s.length from List.length_map ..]
  refine sumN_congr fun i _ => sumN_congr fun j _ => ?_
  unfold cT
  rw [getDScale, getDScale, ← Int.mul_sub, Int.mul_ediv_mul_of_pos _ _ h]
theorem getDMir (c : Int) (s : List Int) {i : Nat} (h : i < s.length) : (mirL c s).getD i 0 = c - s.getD (s.length - 1 - i) 0 := by
  unfold mirL
  rw [List.getD_eq_getElem?_getD, List.getElem?_reverse (by rw [List.length_map]; exact h), List.length_map, List.getElem?_map, List.getD_eq_getElem?_getD]
  rw [List.getElem?_eq_getElem (by omega)]
  rfl
theorem cycMir (c D : Int) (s : List Int) : cycL (mirL c s) D = cycL s D := by
  have l : (mirL c s).length = s.length := by
    unfold mirL
    rw [List.length_reverse, List.length_map]
  unfold cycL
  rw [l, sumN_comm, ← sumN_rev]
  refine sumN_congr fun i hi => ?_
  rw [← sumN_rev]
  refine sumN_congr fun j hj => ?_
  unfold cT
  rw [getDMir c s (by omega), getDMir c s (by omega)]
  rw [show s.length - 1 - (s.length - 1 - i) = i by omega, show s.length - 1 - (s.length - 1 - j) = j by omega]
  rw [show c - s.getD i 0 - (c - s.getD j 0) = s.getD j 0 - s.getD i 0 by omega]
  have e : (s.length - 1 - i < s.length - 1 - j) ↔ j < i := ⟨fun h => by omega, fun h => by omega⟩
  by_cases q : j < i
  · rw [if_pos q, if_pos (e.mpr q)]
  · rw [if_neg q, if_neg (fun z => q (e.mp z))]
theorem cycShift (c D : Int) (s : List Int) : cycL (s.map fun z => z + c) D = cycL s D := by
  unfold cycL
  rw [List.length_map]
  refine sumN_congr fun i hi => sumN_congr fun j hj => ?_
  have e : ∀ k, k < s.length → (s.map fun z => z + c).getD k 0 = s.getD k 0 + c := fun k hk => by
    rw [List.getD_eq_getElem?_getD, List.getD_eq_getElem?_getD, List.getElem?_map, List.getElem?_eq_getElem hk]
    rfl
  unfold cT
  rw [e i hi, e j hj, show s.getD j 0 + c - (s.getD i 0 + c) = s.getD j 0 - s.getD i 0 by omega]
theorem sumN_add (n : Nat) (f g : Nat → Int) : (sumN n fun i => f i + g i) = sumN n f + sumN n g := by
  induction n with
  | zero => rfl
  | succ n ih =>
    rw [sumN_succ, sumN_succ, sumN_succ, ih]
    omega
theorem cycRot {D : Int} (hD : 0 < D) (a : Int) (r : List Int) : cycL (r ++ [a + D]) D = cycL (a :: r) D := by
  have g1 : ∀ k, k < r.length → (r ++ [a + D]).getD k 0 = r.getD k 0 := fun k hk => by
    rw [List.getD_eq_getElem?_getD, List.getElem?_append_left hk, List.getD_eq_getElem?_getD]
  have g2 : (r ++ [a + D]).getD r.length 0 = a + D := by
    rw [List.getD_eq_getElem?_getD, List.getElem?_append_right (Nat.le_refl _), Nat.sub_self]
    rfl
  have up : ∀ z : Int, (z + D) / D = z / D + 1 := fun z => by
    rw [Int.add_ediv_of_dvd_right ⟨1, by omega⟩, Int.ediv_self (by omega)]
  unfold cycL
  rw [show (r ++ [a + D]).length = r.length + 1 by rw [List.length_append]; rfl, show (a :: r).length = r.length + 1 from rfl, sumN_succ, sumN_succ' r.length (fun i => sumN (r.length + 1) fun j => cT (a :: r) D i j)]
  have e1 : (sumN r.length fun i => sumN (r.length + 1) fun j => cT (r ++ [a + D]) D i j) = sumN r.length fun i => sumN (r.length + 1) fun j => cT (a :: r) D (i + 1) j := by
    refine sumN_congr fun i hi => ?_
    rw [sumN_succ, sumN_succ', Int.add_comm]
    congr 1
    · unfold cT
      rw [g1 i hi, g2, if_neg (by omega), if_pos (by omega), getD_cons0, getD_consS]
      rw [show a + D - r.getD i 0 = (a - r.getD i 0) + D by omega, up]
      congr 1
      omega
    · refine sumN_congr fun j hj => ?_
      unfold cT
      rw [g1 i hi, g1 j hj, getD_consS, getD_consS]
      by_cases q : j < i
      · rw [if_pos q, if_pos (by omega)]
      · rw [if_neg q, if_neg (by omega)]
  have e2 : (sumN (r.length + 1) fun j => cT (r ++ [a + D]) D r.length j) = sumN (r.length + 1) fun j => cT (a :: r) D 0 j := by
    rw [sumN_succ, sumN_succ', Int.add_comm]
    congr 1
    · unfold cT
      rw [if_neg (by omega), if_neg (by omega), Int.sub_self, Int.sub_self]
    · refine sumN_congr fun j hj => ?_
      unfold cT
      rw [g1 j hj, g2, getD_cons0, getD_consS, if_pos hj, if_neg (by omega)]
      have z := up (r.getD j 0 - (a + D))
      rw [show r.getD j 0 - (a + D) + D = r.getD j 0 - a by omega] at z
      rw [z]
      congr 1
      omega
  rw [e1, e2]
  omega

/-! ### cycles turned round: their ends (for k22) -/
theorem rotAt (k : Nat) (l : List Int) (i : Nat) (hk : k ≤ l.length) (hi : i < l.length) : (rotL k l).getD i 0 = l.getD ((i + k) % l.length) 0 := by
  unfold rotL
  by_cases c : i + k < l.length
  · rw [Nat.mod_eq_of_lt c, List.getD_eq_getElem?_getD, List.getElem?_append_left (by rw [List.length_drop]; omega), List.getElem?_drop, List.getD_eq_getElem?_getD, Nat.add_comm]
  · rw [List.getD_eq_getElem?_getD, List.getElem?_append_right (by rw [List.length_drop]; omega), List.length_drop, List.getElem?_take, if_pos (by omega), List.getD_eq_getElem?_getD]
    have e : (i + k) % l.length = i + k - l.length := by
      rw [Nat.mod_eq_sub_mod (by omega), Nat.mod_eq_of_lt (by omega)]
    rw [e, show i - (l.length - k) = i + k - l.length by omega]
theorem rotLen (k : Nat) (l : List Int) : (rotL k l).length = l.length := by
  unfold rotL
  rw [List.length_append, List.length_drop, List.length_take]
  omega
theorem extCd {l m : List Int} (h : l.length = m.length) (e : ∀ i, i < l.length → l.getD i 0 = m.getD i 0) : l = m := by
  refine List.ext_getElem h fun i h1 h2 => ?_
  have z := e i h1
  rw [List.getD_eq_getElem?_getD, List.getD_eq_getElem?_getD, List.getElem?_eq_getElem h1, List.getElem?_eq_getElem h2] at z
  exact z
theorem rotRot {a b : Nat} {l : List Int} (ha : a ≤ l.length) (hb : b ≤ l.length) : rotL a (rotL b l) = rotL ((a + b) % l.length) l := by
  by_cases h0 : l.length = 0
  · have : l = [] := List.eq_nil_of_length_eq_zero h0
    subst this
    unfold rotL
    simp
  refine extCd (by rw [rotLen, rotLen, rotLen]) fun i hi => ?_
  rw [rotLen, rotLen] at hi
  have hm : (a + b) % l.length < l.length := Nat.mod_lt _ (by omega)
  have hm2 : (i + a) % l.length < l.length := Nat.mod_lt _ (by omega)
  rw [rotAt _ _ _ (by rw [rotLen]; exact ha) (by rw [rotLen]; exact hi), rotLen, rotAt _ _ _ hb hm2, rotAt _ _ _ (by omega) hi]
  congr 1
  rw [Nat.mod_add_mod, Nat.add_mod_mod, Nat.add_assoc]
/-- the differences all around -/
def cdL (D : Int) (t : List Int) : List Int := diffL (t ++ [t.getD 0 0 + D])
theorem cdLen (D : Int) (t : List Int) : (cdL D t).length = t.length := by
  unfold cdL
  rw [diffL_len, List.length_append]
  rfl
theorem cdShift (D c : Int) {t : List Int} (h : t ≠ []) : cdL D (t.map fun z => z + c) = cdL D t := by
  cases t with
  | nil => exact absurd rfl h
  | cons a r =>
    unfold cdL
    have e : ((a :: r).map fun z => z + c) ++ [((a :: r).map fun z => z + c).getD 0 0 + D] = ((a :: r) ++ [(a :: r).getD 0 0 + D]).map fun z => z + c := by
      rw [List.map_append]
      congr 1
      show [a + c + D] = [a + D + c]
      congr 1
      omega
    rw [e, diffL_map]
theorem cdRot (D : Int) (A B : List Int) : cdL D ((B.map fun z => z - D) ++ A) = rotL A.length (cdL D (A ++ B)) := by
  cases A with
  | nil =>
    have e : rotL 0 (cdL D B) = cdL D B := by
      unfold rotL
      simp
    show cdL D ((B.map fun z => z - D) ++ []) = rotL 0 (cdL D B)
    rw [e, List.append_nil]
    cases B with
    | nil => rfl
    | cons b B => exact cdShift D (-D) (t := b :: B) (by simp)
  | cons a A =>
    cases B with
    | nil =>
      show cdL D (a :: A) = rotL (A.length + 1) (cdL D ((a :: A) ++ []))
      rw [List.append_nil]
      have l := cdLen D (a :: A)
      unfold rotL
      rw [List.drop_of_length_le (by rw [l]; exact Nat.le_refl _), List.take_of_length_le (by rw [l]; exact Nat.le_refl _)]
      rfl
    | cons b B =>
      have e1 : cdL D ((a :: A) ++ (b :: B)) = diffL (a :: A ++ [b]) ++ diffL (b :: B ++ [a + D]) := by
        show diffL ((a :: A ++ b :: B) ++ [a + D]) = _
        rw [List.append_assoc]
        exact diffL_split (a :: A) b (B ++ [a + D])
      have e2 : cdL D (((b :: B).map fun z => z - D) ++ (a :: A)) = diffL (((b :: B).map fun z => z - D) ++ [a]) ++ diffL (a :: A ++ [b - D + D]) := by
        show diffL ((((b :: B).map fun z => z - D) ++ a :: A) ++ [b - D + D]) = _
        rw [List.append_assoc]
        exact diffL_split _ a (A ++ [b - D + D])
      have e3 : diffL (((b :: B).map fun z => z - D) ++ [a]) = diffL (b :: B ++ [a + D]) := by
        have z := diffL_map (-D) (b :: B ++ [a + D])
        rw [List.map_append] at z
        rw [← z]
        congr 1
        congr 1
        show [a] = [a + D + -D]
        congr 1
        omega
      have la : (diffL (a :: A ++ [b])).length = (a :: A).length := by
        rw [diffL_len, List.length_append]
        rfl
      rw [e1, e2, e3, show b - D + D = b by omega]
      unfold rotL
      rw [List.drop_append, List.take_append, la, Nat.sub_self, List.drop_zero, List.take_zero, List.append_nil, List.drop_of_length_le (by rw [la]; exact Nat.le_refl _), List.take_of_length_le (by rw [la]; exact Nat.le_refl _), List.nil_append]

def edL (D K : Int) (t : List Int) : List Int := rotL (K % (t.length : Int)).toNat (cdL D t)
theorem rotMod {K a : Int} {n : Nat} {l : List Int} (hl : l.length = n) (hn : 0 < n) (k : Nat) (hk : k ≤ n) (e : K + k = a) : rotL (K % (n : Int)).toNat (rotL k l) = rotL (a % (n : Int)).toNat l := by
  have h1 := Int.emod_nonneg K (show (n : Int) ≠ 0 by omega)
  have h2 := Int.emod_lt_of_pos K (show (0 : Int) < n by omega)
  have h3 := Int.emod_nonneg a (show (n : Int) ≠ 0 by omega)
  rw [rotRot (by omega) (by omega), hl]
  congr 1
  have z : (((K % (n : Int)).toNat + k) % n : Nat) = (a % (n : Int)).toNat := by
    have c : ((((K % (n : Int)).toNat + k) % n : Nat) : Int) = a % (n : Int) := by
      rw [Int.natCast_emod, Int.natCast_add, Int.toNat_of_nonneg h1, Int.emod_add_emod, e]
    omega
  exact z
theorem splitSorted {t : List Int} (s : t.Pairwise (· ≤ ·)) (m : Int) : t = (t.filter fun z => decide (z < m)) ++ (t.filter fun z => !decide (z < m)) := by
  refine sorted_uniq (filt_perm (fun z => decide (z < m)) t) s ?_
  refine List.pairwise_append.mpr ⟨s.filter _, s.filter _, fun a ha b hb => ?_⟩
  have h1 : decide (a < m) = true := (List.mem_filter.mp ha).2
  have h2 : (!decide (b < m)) = true := (List.mem_filter.mp hb).2
  have h1 := of_decide_eq_true h1
  have h2 : ¬ b < m := by simpa using h2
  omega
theorem shiftSum (D q c' : Int) (hD : 0 < D) (h0 : 0 ≤ c') (h1 : c' < D) : ∀ s : List Int, ((s.map fun z => z + (q * D + c')).map fun z => z / D).sum = (s.map fun z => z / D).sum + (s.length : Int) * q + (((s.map fun z => z % D).filter fun z => !decide (z < D - c')).length : Int)
  | [] => by simp
  | a :: r => by
    have ih := shiftSum D q c' hD h0 h1 r
    have m0 := Int.emod_nonneg a (show D ≠ 0 by omega)
    have m1 := Int.emod_lt_of_pos a hD
    have ea := Int.emod_add_mul_ediv a D
    have dv : (a + (q * D + c')) / D = a / D + q + (a % D + c') / D := by
      rw [show a + (q * D + c') = (a % D + c') + D * (a / D + q) by rw [Int.mul_add, Int.mul_comm q D]; omega, Int.add_mul_ediv_left _ _ (show D ≠ 0 by omega)]
      omega
    rw [List.map_cons, List.map_cons, List.sum_cons, List.map_cons, List.sum_cons, List.map_cons, ih, dv, List.length_cons]
    have el : ((r.length + 1 : Nat) : Int) * q = (r.length : Int) * q + q := by
      push_cast
      rw [Int.add_mul, Int.one_mul]
    rw [el]
    by_cases c : a % D < D - c'
    · rw [List.filter_cons_of_neg (by simpa using c), show (a % D + c') / D = 0 from Int.ediv_eq_zero_of_lt (by omega) (by omega)]
      omega
    · rw [List.filter_cons_of_pos (by simpa using c), List.length_cons]
      have e1 : (a % D + c') / D = 1 := by
        rw [show a % D + c' = (a % D + c' - D) + D * 1 by omega, Int.add_mul_ediv_left _ _ (show D ≠ 0 by omega), show (a % D + c' - D) / D = 0 from Int.ediv_eq_zero_of_lt (by omega) (by omega)]
        rfl
      rw [e1]
      push_cast
      omega
theorem edShift {D : Int} (hD : 0 < D) (c : Int) {s t t' : List Int} (hs : s ≠ []) (p : t.Perm (s.map fun z => z % D)) (so : t.Pairwise (· ≤ ·)) (p' : t'.Perm ((s.map fun z => z + c).map fun z => z % D)) (so' : t'.Pairwise (· ≤ ·)) :
    edL D ((s.map fun z => z + c).map fun z => z / D).sum t' = edL D (s.map fun z => z / D).sum t := by
  have c0 := Int.emod_nonneg c (show D ≠ 0 by omega)
  have c1 := Int.emod_lt_of_pos c hD
  have ec := Int.emod_add_mul_ediv c D
  have hc : c = (c / D) * D + c % D := by rw [Int.mul_comm]; omega
  have lt : t.length = s.length := by rw [p.length_eq, List.length_map]
  have lt' : t'.length = s.length := by rw [p'.length_eq, List.length_map, List.length_map]
  have n0 : 0 < s.length := List.length_pos_iff.mpr hs
  have split := splitSorted so (D - c % D)
  obtain ⟨A, hA⟩ : ∃ A, t.filter (fun z => decide (z < D - c % D)) = A := ⟨_, rfl⟩
  obtain ⟨B, hB⟩ : ∃ B, t.filter (fun z => !decide (z < D - c % D)) = B := ⟨_, rfl⟩
  rw [hA, hB] at split
  have inT : ∀ z ∈ t, 0 ≤ z ∧ z < D := fun z hz => by
    obtain ⟨w, _, rfl⟩ := List.mem_map.mp (p.mem_iff.mp hz)
    exact ⟨Int.emod_nonneg w (by omega), Int.emod_lt_of_pos w hD⟩
  have inA : ∀ z ∈ A, 0 ≤ z ∧ z < D - c % D := fun z hz => by
    rw [← hA] at hz
    obtain ⟨h1, h2⟩ := List.mem_filter.mp hz
    exact ⟨(inT z h1).1, of_decide_eq_true h2⟩
  have inB : ∀ z ∈ B, D - c % D ≤ z ∧ z < D := fun z hz => by
    rw [← hB] at hz
    obtain ⟨h1, h2⟩ := List.mem_filter.mp hz
    have h2 : ¬ z < D - c % D := by simpa using h2
    exact ⟨by omega, (inT z h1).2⟩
  have sA : A.Pairwise (· ≤ ·) := by rw [← hA]; exact so.filter _
  have sB : B.Pairwise (· ≤ ·) := by rw [← hB]; exact so.filter _
  have e' : t' = ((B.map fun z => z - D) ++ A).map fun z => z + c % D := by
    refine sorted_uniq ?_ so' ?_
    · have f1 : ((s.map fun z => z + c).map fun z => z % D) = (s.map fun z => z % D).map fun z => (z + c) % D := by
        rw [List.map_map, List.map_map]
        refine List.map_congr_left fun z _ => ?_
        show (z + c) % D = (z % D + c) % D
        rw [Int.emod_add_emod]
      rw [f1] at p'
      refine p'.trans ((p.map _).symm.trans ?_)
      rw [split, List.map_append]
      have g1 : (A.map fun z => (z + c) % D) = A.map fun z => z + c % D := List.map_congr_left fun z hz => by
        have := inA z hz
        rw [← Int.add_emod_emod, Int.emod_eq_of_lt (by omega) (by omega)]
      have g2 : (B.map fun z => (z + c) % D) = (B.map fun z => z - D).map fun z => z + c % D := by
        rw [List.map_map]
        refine List.map_congr_left fun z hz => ?_
        have := inB z hz
        show (z + c) % D = z - D + c % D
        rw [← Int.add_emod_emod, show z + c % D = (z - D + c % D) + D * 1 by omega, Int.add_mul_emod_self_left, Int.emod_eq_of_lt (by omega) (by omega)]
      rw [g1, g2, List.map_append]
      exact List.perm_append_comm
    · refine map_sorted _ (List.pairwise_append.mpr ⟨?_, sA, fun a ha b hb => ?_⟩)
      · exact List.pairwise_map.mpr (sB.imp fun {a b} hab => by show a - D ≤ b - D; omega)
      · obtain ⟨w, hw, rfl⟩ := List.mem_map.mp ha
        have := inB w hw
        have := inA b hb
        omega
  have lAB : A.length + B.length = s.length := by rw [← lt, split, List.length_append]
  have ne : ((B.map fun z => z - D) ++ A) ≠ [] := fun z => by
    have := congrArg List.length z
    rw [List.length_append, List.length_map, List.length_nil] at this
    omega
  have ks : ((s.map fun z => z + c).map fun z => z / D).sum = (s.map fun z => z / D).sum + (s.length : Int) * (c / D) + (B.length : Int) := by
    have z := shiftSum D (c / D) (c % D) hD c0 c1 s
    rw [← hc] at z
    rw [z, ← hB, (p.filter _).length_eq]
  unfold edL
  rw [lt, lt', e', cdShift D _ ne, cdRot, ← split, ks]
  rw [rotMod (by rw [cdLen, lt]) n0 A.length (by omega) rfl]
  congr 2
  rw [show (s.map fun z => z / D).sum + (s.length : Int) * (c / D) + (B.length : Int) + (A.length : Int) = (s.map fun z => z / D).sum + (s.length : Int) * (c / D + 1) by rw [Int.mul_add]; omega, Int.add_mul_emod_self_left]

def cSums (x : List Int) : List Int := (sumsL x).dropLast
def cEnd (x : List Int) : List Int := edL x.sum ((cSums x).map fun z => z / x.sum).sum (srt ((cSums x).map fun z => z % x.sum))
def cSteps (x : List Int) : Int := cycL (cSums x) x.sum
theorem cSumsLen (x : List Int) : (cSums x).length = x.length := by
  unfold cSums sumsL
  rw [List.length_dropLast, sumsFrom_len]
  rfl
theorem srtLen (l : List Int) : (srt l).length = l.length := (srt_perm l).length_eq
theorem srtCongr {l m : List Int} (h : l.Perm m) : srt l = srt m := srt_uniq ((srt_perm l).trans h) (srt_sorted l)
theorem cSumsCons (a : Int) (r : List Int) : ∃ T, cSums (a :: r) = 0 :: T ∧ sumsFrom a r = T ++ [0 + (a :: r).sum] ∧ cSums (r ++ [a]) = (sumsFrom a r).map fun z => z + -a := by
  obtain ⟨T, hT⟩ := sumsFrom_init r a
  refine ⟨T, ?_, ?_, ?_⟩
  · unfold cSums sumsL
    show (0 :: sumsFrom (0 + a) r).dropLast = 0 :: T
    rw [Int.zero_add, hT]
    show ((0 :: T) ++ [a + r.sum]).dropLast = 0 :: T
    rw [List.dropLast_concat]
  · rw [hT, Int.zero_add]
    rfl
  · unfold cSums sumsL
    rw [sumsFrom_snoc, List.dropLast_concat]
    have z := sumsFrom_shift a r 0
    rw [Int.zero_add] at z
    rw [z, List.map_map]
    refine (List.map_id _).symm.trans (List.map_congr_left fun w _ => ?_)
    show w = w + a + -a
    omega
theorem sumSnoc (a : Int) (r : List Int) : (r ++ [a]).sum = (a :: r).sum := perm_sum (List.perm_append_singleton a r)
theorem stepsRot1 {a : Int} {r : List Int} (hD : 0 < (a :: r).sum) : cSteps (r ++ [a]) = cSteps (a :: r) := by
  obtain ⟨T, h1, h2, h3⟩ := cSumsCons a r
  unfold cSteps
  rw [sumSnoc, h3, cycShift, h2, cycRot hD, h1]
theorem rotMore {K : Int} {n : Nat} {l : List Int} (hl : l.length = n) (hn : 0 < n) (k : Nat) (hk : k ≤ n) : rotL k (rotL (K % (n : Int)).toNat l) = rotL ((K + k) % (n : Int)).toNat l := by
  have h1 := Int.emod_nonneg K (show (n : Int) ≠ 0 by omega)
  have h2 := Int.emod_lt_of_pos K (show (0 : Int) < n by omega)
  rw [← rotMod hl hn k hk rfl, rotRot (by omega) (by omega), rotRot (by omega) (by omega), Nat.add_comm]
theorem srtSorted (l : List Int) : (srt l).Pairwise (· ≤ ·) := srt_sorted l
/-- the windows T ++ [c + D] and c :: T -/
theorem edStep {D c : Int} (hD : 0 < D) (T : List Int) : edL D (((T ++ [c + D]).map fun z => z / D).sum) (srt ((T ++ [c + D]).map fun z => z % D)) = rotL 1 (edL D ((c :: T).map fun z => z / D).sum (srt ((c :: T).map fun z => z % D))) := by
  have e1 : srt ((T ++ [c + D]).map fun z => z % D) = srt ((c :: T).map fun z => z % D) := srtCongr (by
    rw [List.map_append]
    show ((T.map fun z => z % D) ++ [(c + D) % D]).Perm (c % D :: T.map fun z => z % D)
    rw [show (c + D) % D = c % D by rw [Int.add_emod_right]]
    exact List.perm_append_singleton _ _)
  have e2 : ((T ++ [c + D]).map fun z => z / D).sum = ((c :: T).map fun z => z / D).sum + 1 := by
    rw [List.map_append, List.sum_append]
    show (T.map fun z => z / D).sum + ((c + D) / D + 0) = (c / D + (T.map fun z => z / D).sum) + 1
    rw [Int.add_ediv_of_dvd_right ⟨1, by omega⟩, Int.ediv_self (by omega)]
    omega
  unfold edL
  rw [e1, e2]
  have n0 : 0 < (srt ((c :: T).map fun z => z % D)).length := by
    rw [srtLen, List.length_map]
    exact Nat.succ_pos _
  exact (rotMore (cdLen _ _) n0 1 n0).symm
theorem endRot1 {a : Int} {r : List Int} (hD : 0 < (a :: r).sum) : cEnd (r ++ [a]) = rotL 1 (cEnd (a :: r)) := by
  obtain ⟨T, h1, h2, h3⟩ := cSumsCons a r
  unfold cEnd
  rw [sumSnoc, h3, h1, ← edStep hD, ← h2]
  refine edShift hD (-a) ?_ (srt_perm _) (srt_sorted _) (srt_perm _) (srt_sorted _)
  rw [h2]
  simp
theorem endLen (x : List Int) : (cEnd x).length = x.length := by
  unfold cEnd edL
  rw [rotLen, cdLen, srtLen, List.length_map, cSumsLen]
theorem rotSucc {k : Nat} {x : List Int} (h : k < x.length) : ∃ a r, rotL k x = a :: r ∧ rotL (k + 1) x = r ++ [a] := by
  obtain ⟨a, ha⟩ : ∃ a, x[k]? = some a := ⟨_, List.getElem?_eq_getElem h⟩
  refine ⟨a, x.drop (k + 1) ++ x.take k, ?_, ?_⟩
  · unfold rotL
    rw [List.drop_eq_getElem_cons h]
    have : x[k] = a := by
      rw [List.getElem?_eq_getElem h] at ha
      exact Option.some.inj ha
    rw [this]
    rfl
  · unfold rotL
    rw [List.take_succ, ha, List.append_assoc]
    rfl
theorem rotSum (k : Nat) (x : List Int) : (rotL k x).sum = x.sum := by
  unfold rotL
  rw [List.sum_append, Int.add_comm, ← List.sum_append, List.take_append_drop]
theorem rotAll {x : List Int} (hD : 0 < x.sum) : ∀ k, k ≤ x.length → cSteps (rotL k x) = cSteps x ∧ cEnd (rotL k x) = rotL k (cEnd x)
  | 0, _ => by
    have e : ∀ l : List Int, rotL 0 l = l := fun l => by
      unfold rotL
      simp
    rw [e, e]
    exact ⟨rfl, rfl⟩
  | k + 1, h => by
    obtain ⟨i1, i2⟩ := rotAll hD k (by omega)
    obtain ⟨a, r, h1, h2⟩ := rotSucc (x := x) (k := k) (by omega)
    have hs : 0 < (a :: r).sum := by
      rw [← h1, rotSum]
      exact hD
    rw [h1] at i1 i2
    rw [h2, stepsRot1 hs, endRot1 hs, i1, i2]
    refine ⟨rfl, ?_⟩
    obtain ⟨b, s, g1, g2⟩ := rotSucc (x := cEnd x) (k := k) (by rw [endLen]; omega)
    rw [g1, g2]
    rfl
/-! ### mirrored -/
theorem revRot {k : Nat} {l : List Int} (hk : k ≤ l.length) : (rotL k l).reverse = rotL (l.length - k) l.reverse := by
  unfold rotL
  rw [List.reverse_append, List.drop_reverse, List.take_reverse, show l.length - (l.length - k) = k by omega]
theorem cdMir (D c : Int) : ∀ {t : List Int}, t ≠ [] → cdL D (mirL c t) = rotL 1 (cdL D t).reverse
  | [], h => absurd rfl h
  | a :: r, _ => by
    have e1 : (cdL D (a :: r)).reverse = (diffL (r ++ [a + D])).reverse ++ [] ∨ True := .inr trivial
    obtain ⟨q, z, hq⟩ : ∃ q z, a :: r = q ++ [z] := ⟨(a :: r).dropLast, (a :: r).getLast (by simp), (List.dropLast_concat_getLast (by simp)).symm⟩
    have c1 : cdL D (a :: r) = diffL (a :: r) ++ [a + D - z] := by
      show diffL ((a :: r) ++ [a + D]) = _
      rw [hq, List.append_assoc]
      exact diffSnoc q z (a + D)
    have c2 : cdL D (mirL c (a :: r)) = diffL (mirL c (a :: r)) ++ [a + D - z] := by
      have m1 : mirL c (a :: r) = mirL c r ++ [c - a] := by
        unfold mirL
        rw [List.map_cons, List.reverse_cons]
      have m2 : (mirL c (a :: r)).getD 0 0 = c - z := by
        rw [hq]
        unfold mirL
        rw [List.map_append, List.reverse_append]
        rfl
      unfold cdL
      rw [m2, m1, List.append_assoc]
      have := diffSnoc (mirL c r) (c - a) (c - z + D)
      rw [show c - z + D - (c - a) = a + D - z by omega] at this
      exact this
    rw [c2, c1, diffMir, List.reverse_append]
    rfl
theorem edMir {D : Int} (hD : 0 < D) (u : List Int) (hu : u ≠ []) : edL D ((mirL D u).map fun z => z / D).sum (srt ((mirL D u).map fun z => z % D)) = rotL 1 (edL D (u.map fun z => z / D).sum (srt (u.map fun z => z % D))).reverse := by
  have e0 : mirL D u = (mirL (D - 1) u).map fun z => z + 1 := by
    unfold mirL
    rw [← List.map_reverse, ← List.map_reverse, List.map_map]
    refine List.map_congr_left fun z _ => ?_
    show D - z = D - 1 - z + 1
    omega
  have ne : mirL (D - 1) u ≠ [] := fun z => by
    have := congrArg List.length z
    unfold mirL at this
    rw [List.length_reverse, List.length_map, List.length_nil] at this
    exact hu (List.eq_nil_of_length_eq_zero this)
  have e1 : srt ((mirL (D - 1) u).map fun z => z % D) = mirL (D - 1) (srt (u.map fun z => z % D)) := by
    refine (srt_uniq ?_ (sortedMir _ (srt_sorted _))).symm
    have f1 : ((mirL (D - 1) u).map fun z => z % D) = mirL (D - 1) (u.map fun z => z % D) := by
      unfold mirL
      rw [← List.map_reverse, ← List.map_reverse, List.map_map, ← List.map_reverse, List.map_map]
      refine List.map_congr_left fun z _ => ?_
      show (D - 1 - z) % D = D - 1 - z % D
      have m0 := Int.emod_nonneg z (show D ≠ 0 by omega)
      have m1 := Int.emod_lt_of_pos z hD
      have ea := Int.emod_add_mul_ediv z D
      rw [show D - 1 - z = (D - 1 - z % D) + D * (-(z / D)) by rw [Int.mul_neg]; omega, Int.add_mul_emod_self_left]
      exact Int.emod_eq_of_lt (by omega) (by omega)
    rw [f1]
    exact (mirPerm _ _).trans (((srt_perm _).map _).trans (mirPerm _ _).symm)
  have e2 : ((mirL (D - 1) u).map fun z => z / D).sum = -(u.map fun z => z / D).sum := by
    have f : ∀ u : List Int, ((u.map fun z => D - 1 - z).map fun z => z / D).sum = -(u.map fun z => z / D).sum := fun u => by
      induction u with
      | nil => rfl
      | cons z u ih =>
        rw [List.map_cons, List.map_cons, List.sum_cons, List.map_cons, List.sum_cons, ih]
        have m0 := Int.emod_nonneg z (show D ≠ 0 by omega)
        have m1 := Int.emod_lt_of_pos z hD
        have ea := Int.emod_add_mul_ediv z D
        have : (D - 1 - z) / D = -(z / D) := by
          rw [show D - 1 - z = (D - 1 - z % D) + D * (-(z / D)) by rw [Int.mul_neg]; omega, Int.add_mul_ediv_left _ _ (show D ≠ 0 by omega), show (D - 1 - z % D) / D = 0 from Int.ediv_eq_zero_of_lt (by omega) (by omega)]
          omega
        rw [this]
        omega
    unfold mirL
    rw [List.map_reverse, perm_sum (List.reverse_perm _)]
    exact f u
  rw [e0, edShift hD 1 ne (srt_perm _) (srt_sorted _) (srt_perm _) (srt_sorted _), e1, e2]
  unfold edL
  have lm : (mirL (D - 1) (srt (u.map fun z => z % D))).length = (srt (u.map fun z => z % D)).length := by
    unfold mirL
    rw [List.length_reverse, List.length_map]
  have n0 : 0 < (srt (u.map fun z => z % D)).length := by
    rw [srtLen, List.length_map]
    exact List.length_pos_iff.mpr hu
  rw [lm, cdMir D (D - 1) (List.length_pos_iff.mp n0)]
  generalize (u.map fun z => z / D).sum = k
  have lc := cdLen D (srt (u.map fun z => z % D))
  generalize cdL D (srt (u.map fun z => z % D)) = l at lc ⊢
  generalize (srt (u.map fun z => z % D)).length = n at lc n0 ⊢
  have h1 := Int.emod_nonneg k (show (n : Int) ≠ 0 by omega)
  have h2 := Int.emod_lt_of_pos k (show (0 : Int) < n by omega)
  have h3 := Int.emod_nonneg (-k) (show (n : Int) ≠ 0 by omega)
  have h4 := Int.emod_lt_of_pos (-k) (show (0 : Int) < n by omega)
  rw [revRot (by omega), lc, rotRot (by rw [List.length_reverse]; omega) (by rw [List.length_reverse]; omega), rotRot (by rw [List.length_reverse]; omega) (by rw [List.length_reverse]; omega), List.length_reverse, lc]
  congr 1
  have c : ((((-k) % (n : Int)).toNat + 1 : Nat) : Int) % (n : Int) = (((1 + (n - (k % (n : Int)).toNat) : Nat)) : Int) % (n : Int) := by
    rw [Int.natCast_add, Int.toNat_of_nonneg h3, Int.natCast_add, Int.natCast_sub (by omega), Int.toNat_of_nonneg h1]
    rw [Int.emod_add_emod]
    show (-k + 1) % (n : Int) = (1 + ((n : Int) - k % (n : Int))) % (n : Int)
    have ea := Int.emod_add_mul_ediv k (n : Int)
    rw [show (1 : Int) + ((n : Int) - k % (n : Int)) = (-k + 1) + (n : Int) * (1 + k / (n : Int)) by rw [Int.mul_add]; omega, Int.add_mul_emod_self_left]
  omega
theorem revAll {x : List Int} (hx : x ≠ []) (hD : 0 < x.sum) : cSteps x.reverse = cSteps x ∧ cEnd x.reverse = (cEnd x).reverse := by
  cases x with
  | nil => exact absurd rfl hx
  | cons a r =>
    obtain ⟨T, h1, h2, h3⟩ := cSumsCons a r
    have hs : ((a :: r).reverse).sum = (a :: r).sum := perm_sum (List.reverse_perm _)
    have e : cSums (a :: r).reverse = mirL (a :: r).sum (sumsFrom a r) := by
      unfold cSums sumsL
      rw [sumsMir]
      show (mirL (0 + 0 + (a :: r).sum) (0 :: sumsFrom (0 + a) r)).dropLast = _
      rw [show (0 : Int) + 0 + (a :: r).sum = (a :: r).sum by omega, Int.zero_add]
      unfold mirL
      rw [List.map_cons, List.reverse_cons, List.dropLast_concat]
    refine ⟨?_, ?_⟩
    · unfold cSteps
      rw [hs, e, cycMir, h2, cycRot hD, h1]
    · unfold cEnd
      rw [hs, e, edMir hD _ (by rw [h2]; simp), h2, edStep hD, h1]
      have l0 : 0 < (edL (a :: r).sum ((0 :: T).map fun z => z / (a :: r).sum).sum (srt ((0 :: T).map fun z => z % (a :: r).sum))).length := by
        unfold edL
        rw [rotLen, cdLen, srtLen, List.length_map]
        exact Nat.succ_pos _
      generalize edL (a :: r).sum ((0 :: T).map fun z => z / (a :: r).sum).sum (srt ((0 :: T).map fun z => z % (a :: r).sum)) = l at l0 ⊢
      rw [revRot (by omega), rotRot (by rw [List.length_reverse]; omega) (by rw [List.length_reverse]; omega), List.length_reverse, show 1 + (l.length - 1) = l.length by omega, Nat.mod_self]
      unfold rotL
      simp

theorem rotScale (t : Int) (k : Nat) (l : List Int) : rotL k (scaleL t l) = scaleL t (rotL k l) := by
  unfold rotL scaleL
  rw [List.map_append, List.map_drop, List.map_take]
theorem cdScale (t D : Int) (l : List Int) : cdL (t * D) (scaleL t l) = scaleL t (cdL D l) := by
  unfold cdL
  rw [← diffScale, getDScale, ← Int.mul_add]
  congr 1
  unfold scaleL
  rw [List.map_append]
  rfl
theorem scaleAll {t : Int} (ht : 0 < t) {x : List Int} : cSteps (scaleL t x) = cSteps x ∧ cEnd (scaleL t x) = scaleL t (cEnd x) := by
  have e : cSums (scaleL t x) = scaleL t (cSums x) := by
    unfold cSums
    have := sumsScale t x 0
    rw [Int.mul_zero] at this
    unfold sumsL
    rw [this]
    unfold scaleL
    rw [List.map_dropLast]
  refine ⟨?_, ?_⟩
  · unfold cSteps
    rw [e, scaleSum, cycScale ht]
  · unfold cEnd
    rw [e, scaleSum]
    have f1 : ((scaleL t (cSums x)).map fun z => z / (t * x.sum)) = (cSums x).map fun z => z / x.sum := by
      unfold scaleL
      rw [List.map_map]
      exact List.map_congr_left fun z _ => Int.mul_ediv_mul_of_pos _ _ ht
    have f2 : srt ((scaleL t (cSums x)).map fun z => z % (t * x.sum)) = scaleL t (srt ((cSums x).map fun z => z % x.sum)) := by
      refine (srt_uniq ?_ (sortedScale ht (srt_sorted _))).symm
      have g : ((scaleL t (cSums x)).map fun z => z % (t * x.sum)) = scaleL t ((cSums x).map fun z => z % x.sum) := by
        unfold scaleL
        rw [List.map_map, List.map_map]
        exact List.map_congr_left fun z _ => Int.mul_emod_mul_of_pos _ _ ht
      rw [g]
      exact (srt_perm _).map _
    rw [f1, f2]
    unfold edL
    rw [cdScale, show (scaleL t (srt ((cSums x).map fun z => z % x.sum))).length = (srt ((cSums x).map fun z => z % x.sum)).length from List.length_map .., rotScale]
theorem sumsPop (x : List Int) : sumsL x = cSums x ++ [x.sum] := by
  obtain ⟨P, h⟩ := sumsFrom_init x 0
  unfold cSums sumsL
  rw [h, List.dropLast_concat, Int.zero_add]
theorem endedSums {x : List Int} (h : ∀ z ∈ x, 0 ≤ z) : (cSums x).Pairwise (· ≤ ·) ∧ ∀ z ∈ cSums x, 0 ≤ z ∧ z ≤ x.sum := by
  obtain ⟨h1, h2⟩ := sumsSorted x 0 h
  have h1 : (sumsL x).Pairwise (· ≤ ·) := h1
  have h2 : ∀ z ∈ sumsL x, 0 ≤ z := h2
  rw [sumsPop] at h1 h2
  obtain ⟨g1, _, g3⟩ := List.pairwise_append.mp h1
  exact ⟨g1, fun z hz => ⟨h2 z (List.mem_append_left _ hz), g3 z hz _ (List.mem_singleton.mpr rfl)⟩⟩
theorem sumN_zero' {n : Nat} {f : Nat → Int} (h : ∀ i, i < n → f i = 0) : sumN n f = 0 := by
  rw [sumN_congr h]
  induction n with
  | zero => rfl
  | succ n ih =>
    rw [sumN_succ, ih fun i hi => h i (by omega)]
    rfl
theorem endedCyc {x : List Int} (h : ∀ z ∈ x, 0 ≤ z) (hD : 0 < x.sum) : cSteps x = 0 ∧ cEnd x = x := by
  obtain ⟨so, inS⟩ := endedSums h
  have n0 : 0 < x.length := by
    cases x with
    | nil => exact absurd hD (by simp)
    | cons a r => exact Nat.succ_pos _
  refine ⟨?_, ?_⟩
  · unfold cSteps cycL
    refine sumN_zero' fun i hi => sumN_zero' fun j hj => ?_
    have bi := inS _ (getD_mem hi)
    have bj := inS _ (getD_mem hj)
    have ord : ∀ i j, i < j → j < (cSums x).length → (cSums x).getD i 0 ≤ (cSums x).getD j 0 := fun i j hij hj => by
      have z := List.pairwise_iff_getElem.mp so i j (by omega) hj hij
      rw [List.getD_eq_getElem?_getD, List.getD_eq_getElem?_getD, List.getElem?_eq_getElem (by omega), List.getElem?_eq_getElem hj]
      exact z
    unfold cT
    by_cases c : j < i
    · have o := ord j i c hi
      rw [if_pos c]
      have q : -1 ≤ ((cSums x).getD j 0 - (cSums x).getD i 0) / x.sum := Int.le_ediv_of_mul_le hD (by omega)
      omega
    · rw [if_neg c]
      have o : (cSums x).getD i 0 ≤ (cSums x).getD j 0 := by
        by_cases e : i = j
        · rw [e]
          exact Int.le_refl _
        · exact ord i j (by omega) hj
      have q : 0 ≤ ((cSums x).getD j 0 - (cSums x).getD i 0) / x.sum := Int.ediv_nonneg (by omega) (by omega)
      omega
  · have split := splitSorted so x.sum
    obtain ⟨A, hA⟩ : ∃ A, (cSums x).filter (fun z => decide (z < x.sum)) = A := ⟨_, rfl⟩
    obtain ⟨B, hB⟩ : ∃ B, (cSums x).filter (fun z => !decide (z < x.sum)) = B := ⟨_, rfl⟩
    rw [hA, hB] at split
    have inA : ∀ z ∈ A, 0 ≤ z ∧ z < x.sum := fun z hz => by
      rw [← hA] at hz
      obtain ⟨h1, h2⟩ := List.mem_filter.mp hz
      exact ⟨(inS z h1).1, of_decide_eq_true h2⟩
    have inB : ∀ z ∈ B, z = x.sum := fun z hz => by
      rw [← hB] at hz
      obtain ⟨h1, h2⟩ := List.mem_filter.mp hz
      have h2 : ¬ z < x.sum := by simpa using h2
      have := inS z h1
      omega
    have lAB : A.length + B.length = x.length := by
      rw [← cSumsLen x, split, List.length_append]
    have et : srt ((cSums x).map fun z => z % x.sum) = (B.map fun z => z - x.sum) ++ A := by
      refine (srt_uniq ?_ ?_).symm
      · rw [split, List.map_append]
        have g1 : (A.map fun z => z % x.sum) = A := (List.map_congr_left fun z hz => by
          have := inA z hz
          show z % x.sum = z
          exact Int.emod_eq_of_lt (by omega) (by omega)).trans (List.map_id A)
        have g2 : (B.map fun z => z % x.sum) = B.map fun z => z - x.sum := List.map_congr_left fun z hz => by
          rw [inB z hz, Int.emod_self, Int.sub_self]
        rw [g1, g2]
        exact List.perm_append_comm
      · refine List.pairwise_append.mpr ⟨?_, by rw [← hA]; exact so.filter _, fun a ha b hb => ?_⟩
        · have sB : B.Pairwise (· ≤ ·) := by rw [← hB]; exact so.filter _
          exact List.pairwise_map.mpr (sB.imp fun {a b} hab => by show a - x.sum ≤ b - x.sum; omega)
        · obtain ⟨w, hw, rfl⟩ := List.mem_map.mp ha
          have := inB w hw
          have := inA b hb
          omega
    have eK : ((cSums x).map fun z => z / x.sum).sum = (B.length : Int) := by
      rw [split, List.map_append, List.sum_append]
      have g1 : (A.map fun z => z / x.sum).sum = 0 := by
        have : ∀ A : List Int, (∀ z ∈ A, 0 ≤ z ∧ z < x.sum) → (A.map fun z => z / x.sum).sum = 0 := fun A => by
          induction A with
          | nil => intro _; rfl
          | cons a A ih =>
            intro hA
            have := hA a List.mem_cons_self
            rw [List.map_cons, List.sum_cons, ih fun z hz => hA z (List.mem_cons_of_mem _ hz), Int.ediv_eq_zero_of_lt (by omega) (by omega)]
            rfl
        exact this A inA
      have g2 : (B.map fun z => z / x.sum).sum = (B.length : Int) := by
        have : ∀ B : List Int, (∀ z ∈ B, z = x.sum) → (B.map fun z => z / x.sum).sum = (B.length : Int) := fun B => by
          induction B with
          | nil => intro _; rfl
          | cons b B ih =>
            intro hB
            rw [List.map_cons, List.sum_cons, ih fun z hz => hB z (List.mem_cons_of_mem _ hz), hB b List.mem_cons_self, Int.ediv_self (by omega), List.length_cons]
            omega
        exact this B inB
      rw [g1, g2, Int.zero_add]
    unfold cEnd edL
    rw [eK, et, cdRot, ← split]
    have ln : ((B.map fun z => z - x.sum) ++ A).length = x.length := by
      rw [List.length_append, List.length_map]
      omega
    rw [ln, rotMod (a := (x.length : Int)) (by rw [cdLen, cSumsLen]) n0 A.length (by omega) (by omega), Int.emod_self]
    have e0 : ∀ l : List Int, rotL (0 : Int).toNat l = l := fun l => by
      unfold rotL
      simp
    rw [e0]
    cases x with
    | nil => exact absurd n0 (by simp)
    | cons a r =>
      obtain ⟨T, h1, _, _⟩ := cSumsCons a r
      have z := sumsPop (a :: r)
      unfold cdL
      rw [h1] at z ⊢
      have e1 : (0 :: T) ++ [(0 :: T).getD 0 0 + (a :: r).sum] = sumsL (a :: r) := by
        rw [z]
        show (0 :: T) ++ [0 + (a :: r).sum] = _
        rw [Int.zero_add]
      rw [e1]
      exact diffSums (a :: r) 0

/-! ### what cycle_steps and cycle_end answer -/
def stV (x : List Int) : V := if neverR x x.sum = true then .non else if x.sum = 0 then .int 0 else .int (cSteps x)
def endO (x : List Int) : Option (List Int) := if neverR x x.sum = true then none else if x.sum = 0 then some x else some (cEnd x)
theorem neverZero {x : List Int} (h : neverR x x.sum = false) (h0 : x.sum = 0) : ∀ z ∈ x, z = 0 := fun z hz => by
  unfold neverR at h
  rw [h0, decide_eq_false (by omega), decide_eq_true rfl, Bool.false_or, Bool.true_and] at h
  have := List.any_eq_false.mp h z hz
  simpa using this
theorem neverPerm {x y : List Int} (h : x.Perm y) : neverR y y.sum = neverR x x.sum := by
  unfold neverR
  rw [perm_sum h.symm]
  have e : (y.any fun z => !decide (z = 0)) = x.any fun z => !decide (z = 0) := by
    rw [Bool.eq_iff_iff, List.any_eq_true, List.any_eq_true]
    exact ⟨fun ⟨z, a, b⟩ => ⟨z, h.mem_iff.mpr a, b⟩, fun ⟨z, a, b⟩ => ⟨z, h.mem_iff.mp a, b⟩⟩
  rw [e]
theorem neverScale {t : Int} (ht : 0 < t) (x : List Int) : neverR (scaleL t x) (scaleL t x).sum = neverR x x.sum := by
  unfold neverR
  rw [scaleSum]
  have e1 : decide (t * x.sum < 0) = decide (x.sum < 0) := by
    congr 1
    have := ltScale ht x.sum 0
    rw [Int.mul_zero] at this
    exact propext this
  have e2 : decide (t * x.sum = 0) = decide (x.sum = 0) := by
    congr 1
    exact propext ⟨fun h => (Int.mul_eq_zero.mp h).resolve_left (by omega), fun h => by rw [h, Int.mul_zero]⟩
  have e3 : ((scaleL t x).any fun z => !decide (z = 0)) = x.any fun z => !decide (z = 0) := by
    unfold scaleL
    rw [List.any_map]
    congr 1
    funext z
    show (!decide (t * z = 0)) = !decide (z = 0)
    congr 2
    exact propext ⟨fun h => (Int.mul_eq_zero.mp h).resolve_left (by omega), fun h => by rw [h, Int.mul_zero]⟩
  rw [e1, e2, e3]
theorem cases3 (x : List Int) : (neverR x x.sum = true) ∨ (neverR x x.sum = false ∧ x.sum = 0) ∨ (neverR x x.sum = false ∧ 0 < x.sum) := by
  cases e : neverR x x.sum with
  | true => exact .inl rfl
  | false =>
    by_cases h0 : x.sum = 0
    · exact .inr (.inl ⟨rfl, h0⟩)
    · exact .inr (.inr ⟨rfl, never_pos e h0⟩)
theorem rotPerm (k : Nat) (x : List Int) : x.Perm (rotL k x) := by
  have z : (x.take k ++ x.drop k).Perm (rotL k x) := List.perm_append_comm
  rwa [List.take_append_drop] at z
theorem rotV {k : Nat} {x : List Int} (hk : k ≤ x.length) : stV (rotL k x) = stV x ∧ endO (rotL k x) = (endO x).map (rotL k) := by
  have n := neverPerm (rotPerm k x)
  have s := rotSum k x
  unfold stV endO
  rw [n, s]
  rcases cases3 x with h | ⟨h, h0⟩ | ⟨h, h0⟩
  · simp [h]
  · have h' := h
    rw [h0] at h'
    simp [h', h0]
  · obtain ⟨a, b⟩ := rotAll h0 k hk
    have ne : x.sum ≠ 0 := by omega
    simp [h, ne, a, b]
theorem revV {x : List Int} (hx : x ≠ []) : stV x.reverse = stV x ∧ endO x.reverse = (endO x).map List.reverse := by
  have n := neverPerm (List.reverse_perm x).symm
  have s : x.reverse.sum = x.sum := perm_sum (List.reverse_perm x)
  unfold stV endO
  rw [n, s]
  rcases cases3 x with h | ⟨h, h0⟩ | ⟨h, h0⟩
  · simp [h]
  · have h' := h
    rw [h0] at h'
    simp [h', h0]
  · obtain ⟨a, b⟩ := revAll hx h0
    have ne : x.sum ≠ 0 := by omega
    simp [h, ne, a, b]
theorem scaleV {t : Int} (ht : 0 < t) {x : List Int} : stV (scaleL t x) = stV x ∧ endO (scaleL t x) = (endO x).map (scaleL t) := by
  have n := neverScale ht x
  have s := scaleSum t x
  have sz : (scaleL t x).sum = 0 ↔ x.sum = 0 := by
    rw [s]
    exact ⟨fun h => (Int.mul_eq_zero.mp h).resolve_left (by omega), fun h => by rw [h, Int.mul_zero]⟩
  unfold stV endO
  rw [n]
  rcases cases3 x with h | ⟨h, h0⟩ | ⟨h, h0⟩
  · simp [h]
  · have h' := h
    rw [h0] at h'
    simp [h', h0, sz.mpr h0]
  · obtain ⟨a, b⟩ := scaleAll ht (x := x)
    have q : ¬ (scaleL t x).sum = 0 := fun z => by have := sz.mp z; omega
    have ne : x.sum ≠ 0 := by omega
    simp [h, ne, q, a, b]
theorem endSum (x : List Int) (hx : x ≠ []) (hD : 0 < x.sum) : (cEnd x).sum = x.sum ∧ ∀ z ∈ cEnd x, 0 ≤ z := by
  have ne : srt ((cSums x).map fun z => z % x.sum) ≠ [] := fun z => by
    have := congrArg List.length z
    rw [srtLen, List.length_map, cSumsLen, List.length_nil] at this
    exact hx (List.eq_nil_of_length_eq_zero this)
  have so := srt_sorted ((cSums x).map fun z => z % x.sum)
  have bd : ∀ z ∈ srt ((cSums x).map fun z => z % x.sum), 0 ≤ z ∧ z < x.sum := fun z hz => by
    obtain ⟨w, _, rfl⟩ := List.mem_map.mp ((srt_perm _).mem_iff.mp hz)
    exact ⟨Int.emod_nonneg w (by omega), Int.emod_lt_of_pos w hD⟩
  unfold cEnd edL
  generalize srt ((cSums x).map fun z => z % x.sum) = t at ne so bd ⊢
  cases t with
  | nil => exact absurd rfl ne
  | cons a r =>
    refine ⟨?_, fun z hz => ?_⟩
    · rw [rotSum]
      show (diffL (a :: r ++ [a + x.sum])).sum = _
      rw [diffL_sum]
      omega
    · have hz := (rotPerm _ _).mem_iff.mpr hz
      refine diffL_nonneg ((a :: r) ++ [a + x.sum]) (List.pairwise_append.mpr ⟨so, List.pairwise_singleton .., fun p hp q hq => ?_⟩) z hz
      rw [List.mem_singleton.mp hq]
      have := bd p hp
      have := bd a List.mem_cons_self
      omega
theorem endOld {x e : List Int} (hx : x ≠ []) (h : endO x = some e) : stV e = .int 0 ∧ endO e = some e ∧ e.length = x.length ∧ e.sum = x.sum := by
  unfold endO at h
  rcases cases3 x with h1 | ⟨h1, h0⟩ | ⟨h1, h0⟩
  · simp [h1] at h
  · have h' := h1
    rw [h0] at h'
    have h : x = e := by simpa [h', h0] using h
    subst h
    refine ⟨?_, ?_, rfl, rfl⟩
    · unfold stV
      simp [h', h0]
    · unfold endO
      simp [h', h0]
  · have ne : x.sum ≠ 0 := by omega
    have h : cEnd x = e := by simpa [h1, ne] using h
    subst h
    obtain ⟨s, nn⟩ := endSum x hx h0
    obtain ⟨a, b⟩ := endedCyc nn (by rw [s]; exact h0)
    have n := never_of_pos (x := cEnd x) (D := (cEnd x).sum) (by rw [s]; exact h0)
    have ns : (cEnd x).sum ≠ 0 := by omega
    refine ⟨?_, ?_, endLen x, s⟩
    · unfold stV
      simp [n, ns, a]
    · unfold endO
      simp [n, ns, b]

end K21

set_option Elab.async false
set_option linter.all false
set_option maxRecDepth 100000
set_option maxHeartbeats 8000000
namespace K21
open PySem PySem.Spec PyProof.Rows L2 FNX
/-! ## a cycle's firing: what it does to the sums -/
theorem cyc3 (z p q D : Int) (T : List Int) : cycL (z :: p :: q :: T) D =
    (cT (z :: p :: q :: T) D 0 0 + (cT (z :: p :: q :: T) D 0 1 + (cT (z :: p :: q :: T) D 0 2 + sumN T.length fun j => cT (z :: p :: q :: T) D 0 (j + 3)))) +
    ((cT (z :: p :: q :: T) D 1 0 + (cT (z :: p :: q :: T) D 1 1 + (cT (z :: p :: q :: T) D 1 2 + sumN T.length fun j => cT (z :: p :: q :: T) D 1 (j + 3)))) +
    ((cT (z :: p :: q :: T) D 2 0 + (cT (z :: p :: q :: T) D 2 1 + (cT (z :: p :: q :: T) D 2 2 + sumN T.length fun j => cT (z :: p :: q :: T) D 2 (j + 3)))) +
    sumN T.length fun i => cT (z :: p :: q :: T) D (i + 3) 0 + (cT (z :: p :: q :: T) D (i + 3) 1 + (cT (z :: p :: q :: T) D (i + 3) 2 + sumN T.length fun j => cT (z :: p :: q :: T) D (i + 3) (j + 3))))) := by
  unfold cycL
  show sumN (T.length + 1 + 1 + 1) (fun i => sumN (T.length + 1 + 1 + 1) fun j => cT (z :: p :: q :: T) D i j) = _
  simp only [sumN_succ']
theorem cTat (s : List Int) (D : Int) (i j : Nat) : cT s D i j = max 0 (-((s.getD j 0 - s.getD i 0) / D) - (if j < i then 1 else 0)) := rfl
theorem g3 (z p q : Int) (T : List Int) (i : Nat) : (z :: p :: q :: T).getD (i + 3) 0 = T.getD i 0 := by
  rw [getD_consS, getD_consS, getD_consS]
theorem cycSwap {z p q D : Int} {T : List Int} (hD : 0 < D) (h : q < p) : cycL (z :: p :: q :: T) D = cycL (z :: q :: p :: T) D + 1 := by
  rw [cyc3, cyc3]
  have a0 : ∀ x y : Int, (z :: x :: y :: T).getD 0 0 = z := fun _ _ => rfl
  have a1 : ∀ x y : Int, (z :: x :: y :: T).getD 1 0 = x := fun _ _ => rfl
  have a2 : ∀ x y : Int, (z :: x :: y :: T).getD 2 0 = y := fun _ _ => rfl
  have e0 : (sumN T.length fun j => cT (z :: p :: q :: T) D 0 (j + 3)) = sumN T.length fun j => cT (z :: q :: p :: T) D 0 (j + 3) := sumN_congr fun j _ => by
    rw [cTat, cTat, g3, g3, a0, a0]
  have e1 : (sumN T.length fun j => cT (z :: p :: q :: T) D 1 (j + 3)) = sumN T.length fun j => cT (z :: q :: p :: T) D 2 (j + 3) := sumN_congr fun j _ => by
    rw [cTat, cTat, g3, g3, a1, a2, if_neg (by omega), if_neg (by omega)]
  have e2 : (sumN T.length fun j => cT (z :: p :: q :: T) D 2 (j + 3)) = sumN T.length fun j => cT (z :: q :: p :: T) D 1 (j + 3) := sumN_congr fun j _ => by
    rw [cTat, cTat, g3, g3, a1, a2, if_neg (by omega), if_neg (by omega)]
  have e3 : (sumN T.length fun i => cT (z :: p :: q :: T) D (i + 3) 0 + (cT (z :: p :: q :: T) D (i + 3) 1 + (cT (z :: p :: q :: T) D (i + 3) 2 + sumN T.length fun j => cT (z :: p :: q :: T) D (i + 3) (j + 3)))) =
      sumN T.length fun i => cT (z :: q :: p :: T) D (i + 3) 0 + (cT (z :: q :: p :: T) D (i + 3) 1 + (cT (z :: q :: p :: T) D (i + 3) 2 + sumN T.length fun j => cT (z :: q :: p :: T) D (i + 3) (j + 3))) := sumN_congr fun i _ => by
    have f0 : cT (z :: p :: q :: T) D (i + 3) 0 = cT (z :: q :: p :: T) D (i + 3) 0 := by rw [cTat, cTat, g3, g3, a0, a0]
    have f1 : cT (z :: p :: q :: T) D (i + 3) 1 = cT (z :: q :: p :: T) D (i + 3) 2 := by rw [cTat, cTat, g3, g3, a1, a2, if_pos (by omega), if_pos (by omega)]
    have f2 : cT (z :: p :: q :: T) D (i + 3) 2 = cT (z :: q :: p :: T) D (i + 3) 1 := by rw [cTat, cTat, g3, g3, a1, a2, if_pos (by omega), if_pos (by omega)]
    have f3 : (sumN T.length fun j => cT (z :: p :: q :: T) D (i + 3) (j + 3)) = sumN T.length fun j => cT (z :: q :: p :: T) D (i + 3) (j + 3) := sumN_congr fun j _ => by
      rw [cTat, cTat, g3, g3, g3, g3]
    omega
  rw [e0, e1, e2, e3]
  have c00 : cT (z :: p :: q :: T) D 0 0 = cT (z :: q :: p :: T) D 0 0 := by rw [cTat, cTat, a0, a0]
  have c01 : cT (z :: p :: q :: T) D 0 1 = cT (z :: q :: p :: T) D 0 2 := by rw [cTat, cTat, a0, a0, a1, a2, if_neg (by omega), if_neg (by omega)]
  have c02 : cT (z :: p :: q :: T) D 0 2 = cT (z :: q :: p :: T) D 0 1 := by rw [cTat, cTat, a0, a0, a1, a2, if_neg (by omega), if_neg (by omega)]
  have c10 : cT (z :: p :: q :: T) D 1 0 = cT (z :: q :: p :: T) D 2 0 := by rw [cTat, cTat, a0, a0, a1, a2, if_pos (by omega), if_pos (by omega)]
  have c20 : cT (z :: p :: q :: T) D 2 0 = cT (z :: q :: p :: T) D 1 0 := by rw [cTat, cTat, a0, a0, a1, a2, if_pos (by omega), if_pos (by omega)]
  have c11 : cT (z :: p :: q :: T) D 1 1 = cT (z :: q :: p :: T) D 2 2 := by rw [cTat, cTat, a1, a2, if_neg (by omega), if_neg (by omega), Int.sub_self]
  have c22 : cT (z :: p :: q :: T) D 2 2 = cT (z :: q :: p :: T) D 1 1 := by rw [cTat, cTat, a1, a2, if_neg (by omega), if_neg (by omega), Int.sub_self]
  have l1 : (q - p) / D ≤ -1 := by
    have := Int.ediv_mul_le (q - p) (show D ≠ 0 by omega)
    by_cases c : 0 ≤ (q - p) / D
    · have := Int.mul_nonneg c (Int.le_of_lt hD)
      omega
    · omega
  have l2 : 0 ≤ (p - q) / D := Int.ediv_nonneg (by omega) (by omega)
  have c12 : cT (z :: p :: q :: T) D 1 2 = -((q - p) / D) := by
    rw [cTat, a1, a2, if_neg (by omega)]
    omega
  have c21 : cT (z :: p :: q :: T) D 2 1 = 0 := by
    rw [cTat, a1, a2, if_pos (by omega)]
    omega
  have d12 : cT (z :: q :: p :: T) D 1 2 = 0 := by
    rw [cTat, a1, a2, if_neg (by omega)]
    omega
  have d21 : cT (z :: q :: p :: T) D 2 1 = -((q - p) / D) - 1 := by
    rw [cTat, a1, a2, if_pos (by omega)]
    omega
  omega
theorem fire3 {a b c : Int} {r : List Int} (hD : 0 < (a :: b :: c :: r).sum) (hb : b < 0) :
    ((a + b) :: (0 - b) :: (c + b) :: r).sum = (a :: b :: c :: r).sum ∧ cSteps ((a + b) :: (0 - b) :: (c + b) :: r) = cSteps (a :: b :: c :: r) - 1 ∧
      cEnd ((a + b) :: (0 - b) :: (c + b) :: r) = cEnd (a :: b :: c :: r) := by
  have es : ((a + b) :: (0 - b) :: (c + b) :: r).sum = (a :: b :: c :: r).sum := by
    simp only [List.sum_cons]
    omega
  obtain ⟨T, hT⟩ := sumsFrom_init r (a + b + c)
  have h1 : cSums (a :: b :: c :: r) = 0 :: a :: (a + b) :: T := by
    unfold cSums sumsL
    show (0 :: (0 + a) :: (0 + a + b) :: sumsFrom (0 + a + b + c) r).dropLast = _
    rw [show 0 + a + b + c = a + b + c by omega, hT, show (0 : Int) + a + b = a + b by omega, Int.zero_add]
    show ((0 :: a :: (a + b) :: T) ++ [a + b + c + r.sum]).dropLast = _
    rw [List.dropLast_concat]
  have h2 : cSums ((a + b) :: (0 - b) :: (c + b) :: r) = 0 :: (a + b) :: a :: T := by
    unfold cSums sumsL
    show (0 :: (0 + (a + b)) :: (0 + (a + b) + (0 - b)) :: sumsFrom (0 + (a + b) + (0 - b) + (c + b)) r).dropLast = _
    rw [show 0 + (a + b) + (0 - b) + (c + b) = a + b + c by omega, hT, show (0 : Int) + (a + b) + (0 - b) = a by omega, Int.zero_add]
    show ((0 :: (a + b) :: a :: T) ++ [a + b + c + r.sum]).dropLast = _
    rw [List.dropLast_concat]
  refine ⟨es, ?_, ?_⟩
  · unfold cSteps
    rw [es, h1, h2, cycSwap hD (show a + b < a by omega)]
    omega
  · have pp : (0 :: (a + b) :: a :: T).Perm (0 :: a :: (a + b) :: T) := (List.Perm.swap a (a + b) T).cons 0
    unfold cEnd
    rw [es, h1, h2, srtCongr (pp.map fun z => z % (a :: b :: c :: r).sum), perm_sum (pp.map fun z => z / (a :: b :: c :: r).sum)]
/-- what the law's own firing of a cycle's node makes -/
def fireC (x : List Int) (v : Nat) : List Int :=
  ((x.set ((v + x.length - 1) % x.length) (x.getD ((v + x.length - 1) % x.length) 0 + x.getD v 0)).set ((v + 1) % x.length)
    ((x.set ((v + x.length - 1) % x.length) (x.getD ((v + x.length - 1) % x.length) 0 + x.getD v 0)).getD ((v + 1) % x.length) 0 + x.getD v 0)).set v (0 - x.getD v 0)
theorem fireC_len (x : List Int) (v : Nat) : (fireC x v).length = x.length := by
  unfold fireC
  rw [List.length_set, List.length_set, List.length_set]
theorem getDset (x : List Int) (k i : Nat) (a : Int) (hk : k < x.length) : (x.set k a).getD i 0 = if i = k then a else x.getD i 0 := by
  rw [List.getD_eq_getElem?_getD, List.getElem?_set]
  by_cases c : k = i
  · subst c
    rw [if_pos rfl, if_pos hk, if_pos rfl]
    rfl
  · rw [if_neg c, if_neg (fun e => c e.symm), List.getD_eq_getElem?_getD]
theorem modPred {n v : Nat} (hv : v < n) : (v + n - 1) % n = if v = 0 then n - 1 else v - 1 := by
  by_cases c : v = 0
  · subst c
    rw [if_pos rfl, Nat.zero_add, Nat.mod_eq_of_lt (by omega)]
  · rw [if_neg c, show v + n - 1 = (v - 1) + n by omega, Nat.add_mod_right, Nat.mod_eq_of_lt (by omega)]
theorem modSucc {n v : Nat} (hv : v < n) : (v + 1) % n = if v + 1 = n then 0 else v + 1 := by
  by_cases c : v + 1 = n
  · rw [if_pos c, c, Nat.mod_self]
  · rw [if_neg c, Nat.mod_eq_of_lt (by omega)]
theorem fireC_at {x : List Int} {v : Nat} (h3 : 3 ≤ x.length) (hv : v < x.length) (i : Nat) :
    (fireC x v).getD i 0 = if i = v then 0 - x.getD v 0 else if i = (v + x.length - 1) % x.length ∨ i = (v + 1) % x.length then x.getD i 0 + x.getD v 0 else x.getD i 0 := by
  have hp : (v + x.length - 1) % x.length < x.length := Nat.mod_lt _ (by omega)
  have hq : (v + 1) % x.length < x.length := Nat.mod_lt _ (by omega)
  have npq : (v + 1) % x.length ≠ (v + x.length - 1) % x.length := by
    rw [modPred hv, modSucc hv]
    split <;> split <;> omega
  unfold fireC
  rw [getDset _ _ _ _ (by rw [List.length_set, List.length_set]; exact hv)]
  by_cases c : i = v
  · rw [if_pos c, if_pos c]
  · rw [if_neg c, if_neg c, getDset _ _ _ _ (by rw [List.length_set]; exact hq), getDset _ _ _ _ hp, getDset _ _ _ _ hp, if_neg npq]
    by_cases c1 : i = (v + 1) % x.length
    · rw [if_pos c1, if_pos (.inr c1), c1]
    · rw [if_neg c1]
      by_cases c2 : i = (v + x.length - 1) % x.length
      · rw [if_pos c2, if_pos (.inl c2), c2]
      · rw [if_neg c2, if_neg (by rintro (h | h) <;> contradiction)]
theorem modLt2 {a n : Nat} (h : a < n + n) : a % n = if a < n then a else a - n := by
  by_cases c : a < n
  · rw [if_pos c, Nat.mod_eq_of_lt c]
  · rw [if_neg c, Nat.mod_eq_sub_mod (by omega), Nat.mod_eq_of_lt (by omega)]
theorem fireRot {x : List Int} {v k : Nat} (h3 : 3 ≤ x.length) (hv : v < x.length) (hk : k < x.length) :
    rotL k (fireC x v) = fireC (rotL k x) ((v + x.length - k) % x.length) := by
  have lk : (rotL k x).length = x.length := rotLen k x
  have hw : (v + x.length - k) % x.length < x.length := Nat.mod_lt _ (by omega)
  have ew : (v + x.length - k) % x.length = if v + x.length - k < x.length then v + x.length - k else v - k := by
    rw [modLt2 (by omega)]
    split <;> omega
  refine extCd (by rw [rotLen, fireC_len, fireC_len, lk]) fun i hi => ?_
  rw [rotLen, fireC_len] at hi
  have hj : (i + k) % x.length < x.length := Nat.mod_lt _ (by omega)
  have ej : (i + k) % x.length = if i + k < x.length then i + k else i + k - x.length := modLt2 (by omega)
  rw [rotAt k _ i (by rw [fireC_len]; omega) (by rw [fireC_len]; exact hi), fireC_len, fireC_at h3 hv, fireC_at (by rw [lk]; exact h3) (by rw [lk]; exact hw), lk,
    rotAt k x i (by omega) hi, rotAt k x _ (by omega) hw]
  have e1 : ((v + x.length - k) % x.length + k) % x.length = v := by
    rw [ew, modLt2 (by split <;> omega)]
    split <;> split <;> omega
  have ep : (v + x.length - 1) % x.length = if v = 0 then x.length - 1 else v - 1 := modPred hv
  have eq : (v + 1) % x.length = if v + 1 = x.length then 0 else v + 1 := modSucc hv
  have ep' := modPred hw
  have eq' := modSucc hw
  have i1 : (i + k) % x.length = v ↔ i = (v + x.length - k) % x.length := by
    rw [ej, ew]
    split <;> split <;> omega
  have i2 : (i + k) % x.length = (v + x.length - 1) % x.length ↔ i = ((v + x.length - k) % x.length + x.length - 1) % x.length := by
    rw [ep', ep, ej, ew]
    split <;> split <;> split <;> split <;> omega
  have i3 : (i + k) % x.length = (v + 1) % x.length ↔ i = ((v + x.length - k) % x.length + 1) % x.length := by
    rw [eq', eq, ej, ew]
    split <;> split <;> split <;> split <;> omega
  rw [e1]
  simp only [i1, i2, i3]
theorem rotInj {k : Nat} {l m : List Int} (hk : k ≤ l.length) (hl : l.length = m.length) (h : rotL k l = rotL k m) : l = m := by
  have e : ∀ u : List Int, u.length = l.length → rotL (l.length - k) (rotL k u) = u := fun u hu => by
    rw [rotRot (by omega) (by omega), show l.length - k + k = u.length by omega, Nat.mod_self]
    unfold rotL
    rw [List.drop_zero, List.take_zero, List.append_nil]
  rw [← e l rfl, h, e m hl.symm]
theorem fireAll {x : List Int} {v : Nat} (h3 : 3 ≤ x.length) (hv : v < x.length) (hn : x.getD v 0 < 0) (hD : 0 < x.sum) :
    (fireC x v).sum = x.sum ∧ cSteps (fireC x v) = cSteps x - 1 ∧ cEnd (fireC x v) = cEnd x := by
  have hk : (v + x.length - 1) % x.length < x.length := Nat.mod_lt _ (by omega)
  have ek := modPred hv
  have fr := fireRot h3 hv hk
  have e1 : (v + x.length - (v + x.length - 1) % x.length) % x.length = 1 := by
    rw [ek, modLt2 (by split <;> omega)]
    split <;> split <;> omega
  rw [e1] at fr
  have g1 : (rotL ((v + x.length - 1) % x.length) x).getD 1 0 = x.getD v 0 := by
    rw [rotAt _ x 1 (by omega) (by omega)]
    congr 1
    rw [ek, modLt2 (by split <;> omega)]
    split <;> split <;> omega
  obtain ⟨a, b, c, r, hx⟩ : ∃ a b c r, rotL ((v + x.length - 1) % x.length) x = a :: b :: c :: r := by
    have := rotLen ((v + x.length - 1) % x.length) x
    match rotL ((v + x.length - 1) % x.length) x, this with
    | [], h => exact absurd h (by simp; omega)
    | [_], h => exact absurd h (by simp; omega)
    | [_, _], h => exact absurd h (by simp; omega)
    | a :: b :: c :: r, _ => exact ⟨a, b, c, r, rfl⟩
  have hb : b < 0 := by
    rw [hx] at g1
    have : b = x.getD v 0 := g1
    omega
  have sx := rotSum ((v + x.length - 1) % x.length) x
  obtain ⟨s1, s2, s3⟩ := fire3 (a := a) (b := b) (c := c) (r := r) (by rw [← hx, sx]; exact hD) hb
  have ef : fireC (a :: b :: c :: r) 1 = (a + b) :: (0 - b) :: (c + b) :: r := by
    have h4 : 3 ≤ (a :: b :: c :: r).length := by rw [← hx, rotLen]; exact h3
    refine extCd (by rw [fireC_len]; rfl) fun i hi => ?_
    have p0 : (1 + (a :: b :: c :: r).length - 1) % (a :: b :: c :: r).length = 0 := by
      rw [show 1 + (a :: b :: c :: r).length - 1 = (a :: b :: c :: r).length by omega, Nat.mod_self]
    have q2 : (1 + 1) % (a :: b :: c :: r).length = 2 := Nat.mod_eq_of_lt h4
    rw [fireC_at h4 (by omega), p0, q2]
    match i with
    | 0 => rfl
    | 1 => rfl
    | 2 => rfl
    | i + 3 =>
      rw [if_neg (by omega), if_neg (by omega), g3, g3]
  rw [hx, ef] at fr
  have sf := rotSum ((v + x.length - 1) % x.length) (fireC x v)
  have sum : (fireC x v).sum = x.sum := by rw [← sf, fr, s1, ← hx, sx]
  have hD' : 0 < (fireC x v).sum := by omega
  obtain ⟨a1, a2⟩ := rotAll hD ((v + x.length - 1) % x.length) (by omega)
  obtain ⟨b1, b2⟩ := rotAll hD' ((v + x.length - 1) % x.length) (by rw [fireC_len]; omega)
  refine ⟨sum, ?_, ?_⟩
  · rw [← b1, fr, s2, ← hx, a1]
  · refine rotInj (k := (v + x.length - 1) % x.length) (by rw [endLen, fireC_len]; omega) (by rw [endLen, endLen, fireC_len]) ?_
    rw [← b2, ← a2, fr, s3, hx]
theorem sumNnn {n : Nat} {f : Nat → Int} (h : ∀ i, i < n → 0 ≤ f i) : 0 ≤ sumN n f := by
  induction n with
  | zero => exact Int.le_refl 0
  | succ n ih =>
    rw [sumN_succ]
    have h1 := ih fun i hi => h i (by omega)
    have h2 := h n (by omega)
    omega
theorem stepsNonneg (x : List Int) : 0 ≤ cSteps x := sumNnn fun i _ => sumNnn fun j _ => by
  unfold cT
  omega
theorem stepsDone {x : List Int} (h3 : 3 ≤ x.length) (hD : 0 < x.sum) (h : cSteps x = 0) : ∀ z ∈ x, 0 ≤ z := fun z hz => by
  obtain ⟨i, hi, rfl⟩ := List.getElem_of_mem hz
  by_cases c : 0 ≤ x[i]
  · exact c
  · have e : x.getD i 0 = x[i] := by
      rw [List.getD_eq_getElem?_getD, List.getElem?_eq_getElem hi]
      rfl
    have := (fireAll h3 hi (by omega) hD).2.1
    have := stepsNonneg (fireC x i)
    omega
/-! ## the law's own count of arcs -/
def arcS (x : List Int) (i : Nat) (L : Nat) : Int := sumN L fun t => x.getD ((i + t) % x.length) 0
def lawT (x : List Int) (i t : Nat) : Int := if arcS x i (t + 1) < 0 then (0 - arcS x i (t + 1) + x.sum - 1) / x.sum else 0
def lawN (x : List Int) : Int := sumN x.length fun i => sumN (x.length - 1) fun t => lawT x i t
theorem sumsAt : ∀ (x : List Int) (s : Int) (k : Nat), k ≤ x.length → (sumsFrom s x).getD k 0 = s + (x.take k).sum
  | [], s, k, h => by
    obtain rfl : k = 0 := by simpa using h
    show s = s + 0
    omega
  | a :: x, s, 0, _ => by
    show s = s + 0
    omega
  | a :: x, s, k + 1, h => by
    show (s :: sumsFrom (s + a) x).getD (k + 1) 0 = s + (a :: x.take k).sum
    rw [getD_consS, sumsAt x (s + a) k (by simpa using h), List.sum_cons]
    omega
theorem cSumsAt {x : List Int} {k : Nat} (h : k < x.length) : (cSums x).getD k 0 = (x.take k).sum := by
  have e := sumsAt x 0 k (by omega)
  have p := sumsPop x
  unfold sumsL at p
  rw [p, List.getD_eq_getElem?_getD, List.getElem?_append_left (by rw [cSumsLen]; exact h), ← List.getD_eq_getElem?_getD, Int.zero_add] at e
  exact e
theorem takeSucc {x : List Int} {k : Nat} (h : k < x.length) : (x.take (k + 1)).sum = (x.take k).sum + x.getD k 0 := by
  rw [List.take_succ_eq_append_getElem h, List.sum_append, List.getD_eq_getElem?_getD, List.getElem?_eq_getElem h]
  simp
theorem arcEq {x : List Int} {i : Nat} (hi : i < x.length) : ∀ L, L ≤ x.length → arcS x i L = if i + L < x.length then (x.take (i + L)).sum - (x.take i).sum else (x.take (i + L - x.length)).sum + x.sum - (x.take i).sum
  | 0, _ => by
    rw [if_pos (by omega), Nat.add_zero, Int.sub_self]
    rfl
  | L + 1, h => by
    have ih := arcEq hi L (by omega)
    have e : arcS x i (L + 1) = arcS x i L + x.getD ((i + L) % x.length) 0 := sumN_succ _ _
    rw [e, ih]
    by_cases c : i + L < x.length
    · rw [if_pos c, Nat.mod_eq_of_lt c]
      have t := takeSucc c
      by_cases c2 : i + (L + 1) < x.length
      · rw [if_pos c2, show i + (L + 1) = i + L + 1 by omega, t]
        omega
      · rw [if_neg c2, show i + (L + 1) - x.length = 0 by omega]
        have t2 : (x.take (i + L + 1)).sum = x.sum := by rw [List.take_of_length_le (by omega)]
        rw [t2] at t
        rw [List.take_zero, List.sum_nil]
        omega
    · rw [if_neg c, if_neg (by omega), modLt2 (by omega), if_neg c, show i + (L + 1) - x.length = (i + L - x.length) + 1 by omega, takeSucc (by omega)]
      omega
theorem ceilNeg {a D : Int} (hD : 0 < D) : (0 - a + D - 1) / D = -(a / D) := by
  have h1 := Int.emod_add_mul_ediv a D
  have h2 := Int.emod_nonneg a (show D ≠ 0 by omega)
  have h3 := Int.emod_lt_of_pos a hD
  have e : 0 - a + D - 1 = (D - 1 - a % D) + D * (-(a / D)) := by
    rw [Int.mul_neg]
    omega
  rw [e, Int.add_mul_ediv_left _ _ (by omega), Int.ediv_eq_zero_of_lt (by omega) (by omega)]
  omega
theorem ediv_neg_iff {a D : Int} (hD : 0 < D) : a < 0 ↔ a / D < 0 := ⟨fun h => Int.ediv_neg_of_neg_of_pos h hD, fun h => by
  by_cases c : 0 ≤ a
  · have := Int.ediv_nonneg c (Int.le_of_lt hD)
    omega
  · omega⟩
theorem lawTerm {x : List Int} {i t : Nat} (hi : i < x.length) (ht : t + 1 < x.length) (hD : 0 < x.sum) : lawT x i t = cT (cSums x) x.sum i ((i + (t + 1)) % x.length) := by
  have hj : (i + (t + 1)) % x.length < x.length := Nat.mod_lt _ (by omega)
  have ej : (i + (t + 1)) % x.length = if i + (t + 1) < x.length then i + (t + 1) else i + (t + 1) - x.length := modLt2 (by omega)
  rw [cTat, cSumsAt hi, cSumsAt hj]
  unfold lawT
  rw [ceilNeg hD]
  have a := arcEq hi (t + 1) (by omega)
  by_cases c : i + (t + 1) < x.length
  · rw [if_pos c] at a ej
    rw [ej, if_neg (show ¬ i + (t + 1) < i by omega), ← a]
    have := ediv_neg_iff (a := arcS x i (t + 1)) hD
    split <;> omega
  · rw [if_neg c] at a ej
    rw [ej, if_pos (show i + (t + 1) - x.length < i by omega)]
    have e : (x.take (i + (t + 1) - x.length)).sum - (x.take i).sum = arcS x i (t + 1) + x.sum * (-1) := by omega
    rw [e, Int.add_mul_ediv_left _ _ (by omega)]
    have := ediv_neg_iff (a := arcS x i (t + 1)) hD
    split <;> omega
theorem sumRot {n : Nat} (hn : 0 < n) (g : Nat → Int) : ∀ i, (sumN n fun t => g ((i + t) % n)) = sumN n g
  | 0 => sumN_congr fun t ht => by rw [Nat.zero_add, Nat.mod_eq_of_lt ht]
  | i + 1 => by
    rw [← sumRot hn g i]
    obtain ⟨m, rfl⟩ : ∃ m, n = m + 1 := ⟨n - 1, by omega⟩
    rw [sumN_succ, sumN_succ', show i + 1 + m = i + 0 + (m + 1) by omega, Nat.add_mod_right, Int.add_comm]
    congr 1
    exact sumN_congr fun t _ => by rw [show i + 1 + t = i + (t + 1) by omega]
theorem lawCount {x : List Int} (hD : 0 < x.sum) : lawN x = cSteps x := by
  unfold lawN cSteps cycL
  rw [cSumsLen]
  refine sumN_congr fun i hi => ?_
  rw [← sumRot (by omega) (fun j => cT (cSums x) x.sum i j) i]
  obtain ⟨m, hm⟩ : ∃ m, x.length = m + 1 := ⟨x.length - 1, by omega⟩
  have e : (sumN x.length fun t => cT (cSums x) x.sum i ((i + t) % x.length)) = sumN (m + 1) fun t => cT (cSums x) x.sum i ((i + t) % x.length) := by rw [← hm]
  rw [e, sumN_succ', Nat.add_zero, Nat.mod_eq_of_lt hi, cTat, Int.sub_self, Int.zero_ediv, if_neg (by omega), show x.length - 1 = m by omega]
  have e2 : (sumN m fun t => lawT x i t) = sumN m fun t => cT (cSums x) x.sum i ((i + (t + 1)) % x.length) := sumN_congr fun t ht => lawTerm hi (by omega) hD
  rw [e2]
  omega

end K21

set_option Elab.async false
set_option linter.all false
set_option maxRecDepth 100000
set_option maxHeartbeats 8000000
namespace K21
open PySem PySem.Spec PyProof.Rows L2 FNX
/-! ## lines.py cycles, refusing; the law's own firing and count -/
def cycD : PyData → Bool
  | .list ds => decide (3 ≤ ds.length) && decide (ds.length ≤ 200) && ds.all isI
  | _ => false
def spRefC (K : PySem.W.Frag) (CP : Addr) : Sp := fun vs H Q E => ∃ v d, vs = [v] ∧ Rd K H v d ∧ lenD d ≤ 100000 ∧ cycD d = false ∧ told CP v H E
def spRefC1 (K : PySem.W.Frag) (CP : Addr) : Sp := fun vs H Q E => ∃ v d, vs = [v, .int 3] ∧ Rd K H v d ∧ lenD d ≤ 100000 ∧ cycD d = false ∧ told CP v H E
def EndV (H : Hp) (x : List Int) (v : V) : Prop := (endO x = none ∧ v = .non) ∨ ∃ q e, endO x = some e ∧ v = .ref q ∧ H q = some (.lst (e.map V.int))
theorem toSt {H : Hp} {Q : VK} {E : XK} {a : Addr} {x : List Int} (ha : H a = some (.lst (x.map V.int))) (l1 : 3 ≤ x.length) (l2 : x.length ≤ 200) (b : x.sum.natAbs < 2 ^ 2000) (k : ∀ H', Same H H' → Q (stV x) H') : spCycleSteps [.ref a] H Q E := by
  refine ⟨a, x, rfl, ha, l1, l2, b, fun H' s => ?_⟩
  have z := k H' s
  unfold stV at z
  refine ⟨fun h => by rwa [if_pos h] at z, fun h h0 => ?_, fun h0 => ?_⟩
  · rw [if_neg (by rw [h]; decide), if_pos h0] at z
    exact z
  · rw [if_neg (by rw [never_of_pos h0]; decide), if_neg (by omega)] at z
    exact z
theorem toEnd {H : Hp} {Q : VK} {E : XK} {a : Addr} {x : List Int} (ha : H a = some (.lst (x.map V.int))) (l1 : 3 ≤ x.length) (l2 : x.length ≤ 200) (b : x.sum.natAbs < 2 ^ 2000) (k : ∀ v H', Same H H' → EndV H' x v → Q v H') : spCycleEnd [.ref a] H Q E := by
  refine ⟨a, x, rfl, ha, l1, l2, b, fun H' s h => k _ H' s (.inl ⟨?_, rfl⟩), fun q H' nq s h h0 hq => k _ H' s (.inr ⟨q, x, ?_, rfl, hq⟩), fun q H' t h0 pt st nq s hq => k _ H' s (.inr ⟨q, cEnd x, ?_, rfl, ?_⟩)⟩
  · unfold endO
    rw [if_pos h]
  · unfold endO
    rw [if_neg (by rw [h]; decide), if_pos h0]
  · unfold endO
    rw [if_neg (by rw [never_of_pos h0]; decide), if_neg (by omega)]
  · rw [hq]
    have e : t = srt ((cSums x).map fun z => z % x.sum) := srt_uniq pt st
    unfold cEnd edL
    rw [← e, show t.length = x.length by rw [pt.length_eq, List.length_map]; exact cSumsLen x]
    rfl
theorem endSame {H H' : Hp} {x : List Int} {v : V} (h : EndV H x v) (s : Same H H') : EndV H' x v := by
  rcases h with h | ⟨q, e, h1, h2, h3⟩
  · exact .inl h
  · exact .inr ⟨q, e, h1, h2, s _ _ h3⟩
theorem qne {H : Hp} {q p : Addr} {e : List Int} (h : H q = some (.lst (e.map V.int))) (hp : PoolAt H p) (l : 3 ≤ e.length) : q ≠ p := fun z => by
  obtain ⟨c1, c2, w, _⟩ := hp
  rw [z, w] at h
  injection h with h
  injection h with h
  have := congrArg List.length h
  rw [List.length_map] at this
  simp at this
  omega
def stD (x : List Int) : PyData := match stV x with | .int i => .int i | _ => .none
def endD (x : List Int) : PyData := match endO x with | none => .none | some e => posD e
theorem stCase (x : List Int) : stV x = .non ∨ ∃ i, stV x = .int i := by
  unfold stV
  split
  · exact .inl rfl
  · split
    · exact .inr ⟨_, rfl⟩
    · exact .inr ⟨_, rfl⟩
theorem dpSt {K : PySem.W.Frag} {H : Hp} (x : List Int) : Dp K H (stV x) (stD x) := by
  unfold stD
  rcases stCase x with e | ⟨i, e⟩
  · rw [e]
    exact .non
  · rw [e]
    exact .int i
theorem dpEnd {K : PySem.W.Frag} {H : Hp} {x : List Int} {v : V} (h : EndV H x v) : Dp K H v (endD x) := by
  unfold endD
  rcases h with ⟨e, rfl⟩ | ⟨q, e, h, rfl, hq⟩
  · rw [e]
    exact .non
  · rw [h]
    exact .lst (SqL.of hq) (dpInts e)
theorem shapedTwo (x y : List Int) : SeqAt.shaped (.list [stD x, endD y]) = true := by
  have s : stD x = .none ∨ ∃ i, stD x = .int i := by
    unfold stD
    split
    · exact .inr ⟨_, rfl⟩
    · exact .inl rfl
  have e : endD y = .none ∨ ∃ l, endD y = posD l := by
    unfold endD
    split
    · exact .inl rfl
    · exact .inr ⟨_, rfl⟩
  rcases s with s | ⟨i, s⟩ <;> rcases e with e | ⟨l, e⟩ <;> rw [s, e]
  · decide +kernel
  · unfold SeqAt.shaped
    have e1 : PyData.canLay0 (.list [.none, posD l]) = true := by
      show (true && (PyData.canLayAll0 (l.map PyData.int) && true)) = true
      rw [layInts l]
      rfl
    have e2 : PyData.depth (.list [.none, posD l]) ≤ 64 := by
      have := depInts l
      show max 0 (max (PyData.depthAll (l.map PyData.int) + 1) 0) + 1 ≤ 64
      omega
    rw [e1, decide_eq_true e2]
    rfl
  · unfold SeqAt.shaped
    rfl
  · unfold SeqAt.shaped
    have e1 : PyData.canLay0 (.list [.int i, posD l]) = true := by
      show (true && (PyData.canLayAll0 (l.map PyData.int) && true)) = true
      rw [layInts l]
      rfl
    have e2 : PyData.depth (.list [.int i, posD l]) ≤ 64 := by
      have := depInts l
      show max 0 (max (PyData.depthAll (l.map PyData.int) + 1) 0) + 1 ≤ 64
      omega
    rw [e1, decide_eq_true e2]
    rfl
theorem sumAbs {C : Nat} : ∀ x : List Int, (∀ v ∈ x, v.natAbs ≤ C) → x.sum.natAbs ≤ x.length * C
  | [], _ => Nat.zero_le _
  | a :: x, h => by
    have ih := sumAbs x fun v hv => h v (List.mem_cons_of_mem _ hv)
    have ha := h a List.mem_cons_self
    rw [List.sum_cons, List.length_cons, Nat.add_mul, Nat.one_mul]
    omega
theorem sumBig {C k : Nat} {x : List Int} (h : ∀ v ∈ x, v.natAbs ≤ C) (l : x.length ≤ 60) (b : 60 * C < 2 ^ 2000) : x.sum.natAbs < 2 ^ 2000 := by
  have := sumAbs x h
  have := Nat.mul_le_mul_right C l
  omega
def spFired : Sp := fun vs H Q _ => ∃ (a : Addr) (x : List Int) (v : Nat), vs = [.ref a, .int (v : Int)] ∧ H a = some (.lst (x.map V.int)) ∧ 3 ≤ x.length ∧ x.length ≤ 200 ∧ v < x.length ∧
  ∀ q H', H q = none → Same H H' → H' q = some (.lst ((fireC x v).map V.int)) → Q (.ref q) H'
def spCount : Sp := fun vs H Q _ => ∃ (a : Addr) (x : List Int), vs = [.ref a] ∧ H a = some (.lst (x.map V.int)) ∧ 3 ≤ x.length ∧ x.length ≤ 200 ∧ 0 < x.sum ∧ x.sum.natAbs < 2 ^ 2000 ∧
  ∀ H', Same H H' → Q (.int (lawN x)) H'
def twoC (x : List Int) (v : Nat) : List Int := [(((v + x.length - 1) % x.length : Nat) : Int), (((v + 1) % x.length : Nat) : Int)]
theorem twoC_fire (x : List Int) (v : Nat) : ((twoC x v).foldl (fun y o => y.set o.toNat (y.getD o.toNat 0 + x.getD v 0)) x).set v (0 - x.getD v 0) = fireC x v := rfl
theorem twoC_in {x : List Int} {v : Nat} (h : 0 < x.length) : ∀ o ∈ twoC x v, 0 ≤ o ∧ o < x.length := fun o ho => by
  unfold twoC at ho
  have h1 := Nat.mod_lt (v + x.length - 1) h
  have h2 := Nat.mod_lt (v + 1) h
  rcases List.mem_cons.mp ho with e | e
  · omega
  · have := List.mem_singleton.mp e
    omega
theorem twoC_vals {x : List Int} {v : Nat} (h : 3 ≤ x.length) (hv : v < x.length) : [V.int (((v : Int) - 1) % (x.length : Int)), V.int (((v : Int) + 1) % (x.length : Int))] = (twoC x v).map V.int := by
  have e1 : ((v : Int) - 1) % (x.length : Int) = (((v + x.length - 1) % x.length : Nat) : Int) := by
    rw [Int.natCast_emod, show ((v + x.length - 1 : Nat) : Int) = ((v : Int) - 1) + (x.length : Int) by omega, Int.add_emod_right]
  have e2 : ((v : Int) + 1) % (x.length : Int) = (((v + 1) % x.length : Nat) : Int) := by
    rw [Int.natCast_emod]
    rfl
  rw [e1, e2]
  rfl
section
variable {P : Program} {w : World} {K : PySem.W.Frag} {mg : Str → Option Value} {base : Heap} {CP : Addr} {t200 : Tok}
theorem ok_sumsX {f : Addr} {fd : FuncData} (F : Fun K "checked_sums" "checked_sums" s_checked_sums f fd) (M : Nms mg) (mL : mg "LONGEST_LINE" = some (.int 200 t200)) (EP : Ex P w K mg base "InvalidPosition" CP) (tyP : PySem.W.typeIn K (.ref CP) = some (.type "type"))
    (GL : At P w K mg base CX0 2 "is_integer_list" ["thing", "length"] (spIntList K)) : FnOk P w K mg base (L2.CX P w) 3 f fd ["numbers", "fewest"] (spRefC1 K CP) := by
  obtain ⟨fL, fdL, GL, mG, kG, bG⟩ := GL
  refine F.okX sc_sums (fun vs H Q E h => ?_) (fun cdv A outer s H vs Q E hr h => ?_)
  · obtain ⟨v, d, rfl, _⟩ := h
    rfl
  · obtain ⟨v, d, rfl, hd, hdl, hno, t⟩ := h
    have nd := sc_sums.nd
    refine ⟨_, (pss_cons (ps_if (PW.pt (pw_or (pt_not (pt_val (pe_callB call_isi (by rfl) M.isi boot_isi (pa_cons (pv 0) (pa_cons (pe_bltn (v := V.ty "list") rfl M.list (by decide +kernel) rfl) pa_nil))))) (pw_or1 (pt_not (pt_chain op_le op_le (pv 1) (pe_callB call_len_seq (by rfl) M.len boot_len1 (pa_cons (pv 0) pa_nil)) (pe_glob (v := .int 200) (by rfl) mL ⟨_, rfl⟩)))))) (pss_one (ps_raiseX rfl EP tyP hr (takes_of rfl rfl rfl rfl) rfl (pa_cons (pv 0) pa_nil))) pss_nil)
      (pss_cons (ps_if (pt_not (pt_val (pe_call GL hr (by rfl) mG kG bG .nil pass0 (pa_cons (pv 0) (pa_cons (pe_callB call_len_seq (by rfl) M.len boot_len1 (pa_cons (pv 0) pa_nil)) pa_nil))))) (pss_one (ps_raiseX rfl EP tyP hr (takes_of rfl rfl rfl rfl) rfl (pa_cons (pv 0) pa_nil))) pss_nil)
      (pss_cons (ps_set (i := 2) nd rfl (Or.inl rfl) (pe_lst (pa_cons pe_int pa_nil)))
      (pss_cons (ps_for PassesOwn.leaving rfl (pi_list (pv 0)) (pg_name (i := 3) nd rfl (Or.inl rfl)) (pss_one (ps_expr (pe_bm PySem.F.plainAttrs_list PySem.F.slot_list_append PySem.F.type_list_append mt_append (pv 2) (pa_cons (pe_op op_add (pe_ix (r := rIxL K) ix_list (pv 2) (pe_un un_neg pe_int) (fun _ _ => rfl)) (pv 3)) pa_nil)))))
      (pss_one (ps_ret (pv 2))))))), ?_⟩
    refine ⟨_, rfl, v, _, _, _, _, rfl, .ty _, rdTy hd, kitL K d, _, rfl, ?_⟩
    cases d with
    | none => exact iteT ⟨_, rfl, v, rfl, fun dd H' nd s2 hx => t H' dd s2 nd hx⟩
    | bool _ => exact iteT ⟨_, rfl, v, rfl, fun dd H' nd s2 hx => t H' dd s2 nd hx⟩
    | int _ => exact iteT ⟨_, rfl, v, rfl, fun dd H' nd s2 hx => t H' dd s2 nd hx⟩
    | str _ => exact iteT ⟨_, rfl, v, rfl, fun dd H' nd s2 hx => t H' dd s2 nd hx⟩
    | tuple _ => exact iteT ⟨_, rfl, v, rfl, fun dd H' nd s2 hx => t H' dd s2 nd hx⟩
    | dict _ => exact iteT ⟨_, rfl, v, rfl, fun dd H' nd s2 hx => t H' dd s2 nd hx⟩
    | list ds =>
      obtain ⟨a, xs, rfl, hxs, hds⟩ := rdList hd
      have hlen := dpAllLen hds
      refine iteF ⟨_, rfl, _, rfl, a, _, rfl, .inl hxs, _, _, rfl, rfl, _, rfl, ?_⟩
      rw [hlen]
      by_cases c1 : (3 : Int) ≤ (ds.length : Int)
      case neg =>
        rw [decide_eq_false c1]
        exact iteF ⟨_, rfl, iteT ⟨_, rfl, _, rfl, fun dd H' nd s2 hx => t H' dd s2 nd hx⟩⟩
      rw [decide_eq_true c1]
      refine iteT ⟨_, _, rfl, rfl, _, rfl, ?_⟩
      by_cases c2 : (ds.length : Int) ≤ 200
      case neg =>
        rw [decide_eq_false c2]
        exact iteT ⟨_, rfl, _, rfl, fun dd H' nd s2 hx => t H' dd s2 nd hx⟩
      rw [decide_eq_true c2]
      refine iteF ⟨_, rfl, _, rfl, a, _, rfl, .inl hxs, ?_⟩
      rw [hlen]
      refine ⟨.ref a, .list ds, ds.length, rfl, hd, hdl, fun H1 s1 => ⟨_, rfl, ?_⟩⟩
      have e : isIL ds.length (.list ds) = false := by
        have z : (decide (3 ≤ ds.length) && decide (ds.length ≤ 200) && ds.all isI) = false := hno
        rw [decide_eq_true (by omega), decide_eq_true (by omega)] at z
        show (decide (ds.length = ds.length) && ds.all isI) = false
        rw [decide_eq_true rfl]
        exact z
      rw [e]
      exact iteT ⟨_, rfl, _, rfl, fun dd H' nd s2 hx => t H' dd (s1.trans s2) (s1.free nd) hx⟩
theorem ok_cstepsX {f : Addr} {fd : FuncData} (F : Fun K "cycle_steps" "cycle_steps" s_cycle_steps f fd) (M : Nms mg) (GS : At P w K mg base (L2.CX P w) 3 "checked_sums" ["numbers", "fewest"] (spRefC1 K CP)) (GN : At P w K mg base CX0 1 "never_ends_round" ["numbers", "period"] spNever) :
    FnOk P w K mg base (L2.CX P w) 4 f fd ["numbers"] (spRefC K CP) := by
  obtain ⟨g, gd, GS, mG, kG, bG⟩ := GS
  obtain ⟨n, nd, GN, mN, kN, bN⟩ := GN
  refine F.okX sc_cycle_steps (fun vs H Q E h => ?_) (fun cdv A outer s H vs Q E hr h => ?_)
  · obtain ⟨v, d, rfl, _⟩ := h
    rfl
  · obtain ⟨v, d, rfl, hd, hdl, hno, t⟩ := h
    have hr1 : Room 1 _ := hr.mono (by decide)
    refine ⟨_, pss_cons (ps_set (i := 1) sc_cycle_steps.nd rfl (Or.inl rfl) (pe_call GS hr (by rfl) mG kG bG .nil (passes_call (E := E) (takes_of rfl rfl rfl rfl) (fun _ _ _ _ h => h)) (pa_cons (pv 0) (pa_cons pe_int pa_nil))))
      (pss_cons (ps_set (i := 2) sc_cycle_steps.nd rfl (Or.inl rfl) (pe_bm0 PySem.F.plainAttrs_list PySem.F.slot_list_pop PySem.F.type_list_pop mt_pop (pv 1)))
      (pss_cons (ps_if (pt_val (pe_call GN hr1 (by rfl) mN kN bN .nil pass0 (pa_cons (pv 0) (pa_cons (pv 2) pa_nil)))) (pss_one (ps_ret pe_non)) pss_nil)
      (pss_cons (ps_if (pt_cmpR op_eq (pv 2) pe_int (nomark _)) (pss_one (ps_ret pe_int)) pss_nil)
      (pss_cons (ps_set (i := 3) sc_cycle_steps.nd rfl (Or.inl rfl) pe_int)
      (pss_cons (ps_for PassesOwn.leaving rfl (pi_enum (by rfl) M.enumerate (pa_cons (pv 1) pa_nil)) (pg_tup rfl (pgs_cons (pg_name (i := 4) sc_cycle_steps.nd rfl (Or.inl rfl)) (pgs_cons (pg_name (i := 5) sc_cycle_steps.nd rfl (Or.inl rfl)) pgs_nil)))
        (pss_one (ps_for PassesOwn.leaving rfl (pi_enum (by rfl) M.enumerate (pa_cons (pv 1) pa_nil)) (pg_tup rfl (pgs_cons (pg_name (i := 6) sc_cycle_steps.nd rfl (Or.inl rfl)) (pgs_cons (pg_name (i := 7) sc_cycle_steps.nd rfl (Or.inl rfl)) pgs_nil)))
          (pss_cons (ps_set (i := 8) sc_cycle_steps.nd rfl (Or.inl rfl) (pe_un un_neg (pe_op op_fdivW (pe_op op_sub (pv 7) (pv 5)) (pv 2))))
          (pss_cons (ps_set (i := 9) sc_cycle_steps.nd rfl (Or.inl rfl) (pe_callTy call_int1 (by rfl) M.int (by decide +kernel) (pa_cons (pe_cmpR op_lt (pv 6) (pv 4) (nomark _)) pa_nil)))
          (pss_one (ps_aug (i := 3) sc_cycle_steps.nd rfl (Or.inl rfl) (pe_callB (call_max2 rfl) (by rfl) M.max boot_max1 (pa_cons pe_int (pa_cons (pe_op op_sub (pv 8) (pv 9)) pa_nil))) ip_add)))))))
      (pss_one (ps_ret (pv 3)))))))), ?_⟩
    exact ⟨_, rfl, v, d, rfl, hd, hdl, hno, t⟩
theorem ok_cendX {f : Addr} {fd : FuncData} (F : Fun K "cycle_end" "cycle_end" s_cycle_end f fd) (M : Nms mg) (mS : mg "sum" = none) (GS : At P w K mg base (L2.CX P w) 3 "checked_sums" ["numbers", "fewest"] (spRefC1 K CP)) (GN : At P w K mg base CX0 1 "never_ends_round" ["numbers", "period"] spNever)
    (GD : At P w K mg base CX0 1 "differences" ["sums"] spDiff) : FnOk P w K mg base (L2.CX P w) 4 f fd ["numbers"] (spRefC K CP) := by
  obtain ⟨g, gd, GS, mG, kG, bG⟩ := GS
  obtain ⟨n, nd, GN, mN, kN, bN⟩ := GN
  obtain ⟨d, dd, GD, mD, kD, bD⟩ := GD
  refine F.okX sc_cycle_end (fun vs H Q E h => ?_) (fun cdv A outer s H vs Q E hr h => ?_)
  · obtain ⟨v, d, rfl, _⟩ := h
    rfl
  · obtain ⟨v, d, rfl, hd, hdl, hno, t⟩ := h
    have hr1 : Room 1 _ := hr.mono (by decide)
    refine ⟨_, pss_cons (ps_set (i := 1) sc_cycle_end.nd rfl (Or.inl rfl) (pe_call GS hr (by rfl) mG kG bG .nil (passes_call (E := E) (takes_of rfl rfl rfl rfl) (fun _ _ _ _ h => h)) (pa_cons (pv 0) (pa_cons pe_int pa_nil))))
      (pss_cons (ps_set (i := 2) sc_cycle_end.nd rfl (by first | exact Or.inl rfl | exact Or.inr rfl) (pe_bm0 PySem.F.plainAttrs_list PySem.F.slot_list_pop PySem.F.type_list_pop mt_pop (pv 1)))
      (pss_cons (ps_if (pt_val (pe_call GN hr1 (by rfl) mN kN bN .nil pass0 (pa_cons (pv 0) (pa_cons (pv 2) pa_nil)))) (pss_one (ps_ret pe_non)) pss_nil)
      (pss_cons (ps_if (pt_cmpR op_eq (pv 2) pe_int (nomark _)) (pss_one (ps_ret (pe_callTy call_list_of (by rfl) M.list (by decide +kernel) (pa_cons (pv 0) pa_nil)))) pss_nil)
      (pss_cons (ps_set (i := 3) sc_cycle_end.nd rfl (Or.inl rfl) (pe_callB cr_sortedI (by rfl) M.sorted boot_sorted1 (pa_cons
        (pe_lc (own := [("number", 6)]) (g := gName 6) (tt := tYes) rfl sc_cycle_end.nd (pi_list (pv 1))
          (blkOk_by (own := [("number", 6)]) (N := ["numbers", "sums", "period", "ordered", "steps_up", "shift", "number"]) (sc := defScope s_cycle_end) (by decide +kernel))
          (fun _ _ _ _ _ => pg_name (i := 6) sc_cycle_end.nd rfl (Or.inl rfl)) (fun _ _ _ _ _ => pts_nil)
          (fun _ _ _ _ _ => pe_op op_mod (pv 6) (pv 2))) pa_nil)))
      (pss_cons (ps_set (i := 4) sc_cycle_end.nd rfl (Or.inl rfl) (pe_call GD hr1 (by rfl) mD kD bD .nil pass0 (pa_cons (pe_op op_cat (pv 3) (pe_lst (pa_cons (pe_op op_add (pe_ix ix_list (pv 3) pe_int (fun _ _ => rfl)) (pv 2)) pa_nil))) pa_nil)))
      (pss_cons (ps_set (i := 5) sc_cycle_end.nd rfl (Or.inl rfl) (pe_op op_mod (pe_callB (show CallR _ (.builtin "sum") (rSum K) from cr_sum rfl) (by rfl) mS boot_sum1 (pa_cons
        (pe_lc (own := [("number", 6)]) (g := gName 6) (tt := tYes) rfl sc_cycle_end.nd (pi_list (pv 1))
          (blkOk_by (own := [("number", 6)]) (N := ["numbers", "sums", "period", "ordered", "steps_up", "shift", "number"]) (sc := defScope s_cycle_end) (by decide +kernel))
          (fun _ _ _ _ _ => pg_name (i := 6) sc_cycle_end.nd rfl (Or.inl rfl)) (fun _ _ _ _ _ => pts_nil)
          (fun _ _ _ _ _ => pe_op op_fdivW (pv 6) (pv 2))) pa_nil)) (pe_callB call_len_seq (by rfl) M.len boot_len1 (pa_cons (pv 0) pa_nil))))
      (pss_one (ps_ret (pe_op op_cat (pe_slice (r := rSlL K) sl_list (pv 4) (po_some (pv 5)) po_none) (pe_slice (r := rSlL K) sl_list (pv 4) po_none (po_some (pv 5)))))))))))), ?_⟩
    exact ⟨_, rfl, v, d, rfl, hd, hdl, hno, t⟩
theorem sc_firedC : FnScope ["_law_row", "_law_node", "_law_many", "_law_found", "_law_other"] ["_law_row", "_law_node"] (defScope s__law_fired) := ⟨rfl, rfl, rfl, by decide +kernel, rfl, by decide +kernel, by decide +kernel⟩
theorem ok_firedC {f : Addr} {fd : FuncData} (F : Fun K "_law_fired" "_law_fired" s__law_fired f fd) (M : Nms mg) : FnOk P w K mg base CX0 1 f fd ["_law_row", "_law_node"] spFired := by
  refine F.ok sc_firedC (fun vs H Q E h => ?_) (fun cdv A outer s H vs Q E hr h => ?_)
  · obtain ⟨a, x, v, rfl, _⟩ := h
    rfl
  · obtain ⟨a, x, v, rfl, ha, l1, l2, hv, k⟩ := h
    have nd := sc_firedC.nd
    refine ⟨_, (pss_cons (ps_set (i := 2) nd rfl (Or.inl rfl) (pe_callB call_len_seq (by rfl) M.len boot_len1 (pa_cons (pv 0) pa_nil)))
      (pss_cons (ps_set (i := 3) nd rfl (Or.inl rfl) (pe_callTy call_list_of (by rfl) M.list (by decide +kernel) (pa_cons (pv 0) pa_nil)))
      (pss_cons (ps_for PassesOwn.never rfl (pi_list (pe_lst (pa_cons (pe_op op_mod (pe_op op_sub (pv 1) pe_int) (pv 2)) (pa_cons (pe_op op_mod (pe_op op_add (pv 1) pe_int) (pv 2)) pa_nil)))) (pg_name (i := 4) nd rfl (Or.inl rfl)) (pss_one (ps_asg (pe_op op_add (pe_ix (r := rIxL K) ix_list (pv 3) (pv 4) (fun _ _ => rfl)) (pe_ix (r := rIxL K) ix_list (pv 0) (pv 1) (fun _ _ => rfl))) (pg_sub (pv 3) (pv 4) set_list))))
      (pss_cons (ps_asg (pe_op op_sub pe_int (pe_ix (r := rIxL K) ix_list (pv 0) (pv 1) (fun _ _ => rfl))) (pg_sub (pv 3) (pv 1) set_list))
      (pss_one (ps_ret (pv 3))))))), ?_⟩
    have hD : (0 : Int) < (x.length : Int) := by omega
    refine ⟨_, rfl, a, _, rfl, .inl (SqL.of ha), ?_⟩
    rw [List.length_map]
    refine ⟨_, rfl, a, _, rfl, .inl (SqL.of ha), fun p np => ?_⟩
    have ap : a ≠ p := ne_of_none ha np
    obtain ⟨H1, q1, s1, h1⟩ := newAt (.lst (x.map V.int)) np
    rw [q1]
    refine ⟨_, rfl, _, _, rfl, rfl, _, rfl, _, _, rfl, rfl, hD, _, rfl, _, _, rfl, rfl, _, rfl, _, _, rfl, rfl, hD, by show 2 ≤ sizeLine; decide, fun L nL => ?_⟩
    have Lp : p ≠ L := ne_of_none h1 nL
    have aL : a ≠ L := ne_of_none (s1 _ _ ha) nL
    have ev := twoC_vals l1 hv
    obtain ⟨H2, q2, s2, h2⟩ := newAt (.lst ((twoC x v).map V.int)) nL
    rw [← ev] at q2 h2
    have q2' : upd H1 L (.lst [V.int (((v : Int) - 1) % (x.length : Int)), V.int (((v : Int) + 1) % (x.length : Int))]) = H2 := q2
    rw [ev] at h2
    show _
    rw [q2']
    have hin := twoC_in (x := x) (v := v) (by omega)
    have h12 := s2 _ _ h1
    have ha2 := s2 _ _ (s1 _ _ ha)
    refine ⟨L, rfl, ⟨_, SqL.of h2⟩, for_list (K := K) (a := L) (xs := (twoC x v).map V.int) (fun i σ H' => ∃ o4 : Option V, σ = [some (.ref a), some (.int (v : Int)), some (.int (x.length : Int)), some (.ref p), o4] ∧
      H' p = some (.lst ((((twoC x v).take i).foldl (fun y o => y.set o.toNat (y.getD o.toNat 0 + x.getD v 0)) x).map V.int)) ∧ ∀ b, b ≠ p → H' b = H2 b)
      ⟨none, rfl, h12, fun b _ => rfl⟩ (fun i σ H' _ h => ?_) (fun i y σ H' hi h => ?_) (fun σ H' h => ?_)⟩
    · obtain ⟨o4, _, _, h3⟩ := h
      exact SqL.of ((h3 L (Ne.symm Lp)).trans h2)
    · obtain ⟨o4, rfl, e1, e2⟩ := h
      obtain ⟨o, ho, rfl⟩ := intsAt hi
      have hb := hin o (List.mem_of_getElem? ho)
      have hl2 := foldSetLen (x.getD v 0) ((twoC x v).take i) x
      have hb' : o < (((twoC x v).take i).foldl (fun y o => y.set o.toNat (y.getD o.toNat 0 + x.getD v 0)) x).length := by
        rw [hl2]
        exact hb.2
      refine ⟨_, rfl, _, rfl, p, _, o, _, rfl, rfl, SqL.of e1, atInt hb.1 hb', _, rfl, _, rfl, a, _, (v : Int), _, rfl, rfl, SqL.of ((e2 a ap).trans ha2), atInt (by omega) (by omega), _, _, rfl, rfl, ?_⟩
      refine ⟨_, rfl, _, rfl, p, _, o, _, rfl, rfl, e1, ixInt hb.1 hb', ?_⟩
      refine ⟨_, rfl, ?_, fun b hb2 => by rw [upd_ne hb2]; exact e2 b hb2⟩
      rw [upd_same, takeMore ho, List.foldl_append, mapSet]
      rfl
    · obtain ⟨o4, rfl, e1, e2⟩ := h
      rw [List.length_map, List.take_length] at e1
      have hl2 := foldSetLen (x.getD v 0) (twoC x v) x
      refine ⟨_, rfl, _, rfl, a, _, (v : Int), _, rfl, rfl, SqL.of ((e2 a ap).trans ha2), atInt (by omega) (by omega), _, _, rfl, rfl, ?_⟩
      refine ⟨_, rfl, _, rfl, p, _, (v : Int), _, rfl, rfl, e1, ixInt (by omega) (by rw [hl2]; omega), ?_⟩
      refine ⟨_, rfl, k p _ np (fun b o e => ?_) ?_⟩
      · have z := ne_of_none e np
        rw [upd_ne z, e2 b z]
        exact s2 _ _ (s1 _ _ e)
      · rw [upd_same, mapSet, ← twoC_fire]
        rfl
theorem sc_countC : FnScope ["_law_row", "_law_total", "_law_many", "_law_count_here", "_law_start", "_law_arc", "_law_size"] ["_law_row"] (defScope s__law_count) := ⟨rfl, rfl, rfl, by decide +kernel, rfl, by decide +kernel, by decide +kernel⟩
theorem ok_countC {f : Addr} {fd : FuncData} (F : Fun K "_law_count" "_law_count" s__law_count f fd) (M : Nms mg) (n_sum : mg "sum" = none) : FnOk P w K mg base CX0 1 f fd ["_law_row"] spCount := by
  refine F.ok sc_countC (fun vs H Q E h => ?_) (fun cdv A outer s H vs Q E hr h => ?_)
  · obtain ⟨a, x, rfl, _⟩ := h
    rfl
  · obtain ⟨a, x, rfl, ha, l1, l2, hD, hb, k⟩ := h
    have nd := sc_countC.nd
    refine ⟨_, (pss_cons (ps_par (i := 1) (j := 2) (by rfl) nd rfl rfl (by decide) rfl rfl (pa_cons (pe_callB (show CallR _ (.builtin "sum") (rSum K) from cr_sum rfl) (by rfl) n_sum boot_sum1 (pa_cons (pv 0) pa_nil)) (pa_cons (pe_callB call_len_seq (by rfl) M.len boot_len1 (pa_cons (pv 0) pa_nil)) pa_nil)) (by rfl))
      (pss_cons (ps_set (i := 3) nd rfl (Or.inl rfl) pe_int)
      (pss_cons (ps_for PassesOwn.never rfl (pi_range1 rfl M.range (pa_cons (pv 2) pa_nil)) (pg_name (i := 4) nd rfl (Or.inl rfl)) (pss_cons (ps_set (i := 5) nd rfl (Or.inl rfl) pe_int)
      (pss_one (ps_for PassesOwn.never rfl (pi_range1 rfl M.range (pa_cons (pe_op op_sub (pv 2) pe_int) pa_nil)) (pg_name (i := 6) nd rfl (Or.inl rfl)) (pss_cons (ps_set (i := 5) nd rfl (Or.inl rfl) (pe_op op_add (pv 5) (pe_ix (r := rIxL K) ix_list (pv 0) (pe_op op_mod (pe_op op_add (pv 4) (pv 6)) (pv 2)) (fun _ _ => rfl))))
      (pss_one (ps_if (pt_cmpR op_lt (pv 5) pe_int (nomark _)) (pss_one (ps_set (i := 3) nd rfl (Or.inl rfl) (pe_op op_add (pv 3) (pe_op op_fdivW (pe_op op_sub (pe_op op_add (pe_op op_sub pe_int (pv 5)) (pv 1)) pe_int) (pv 1))))) pss_nil)))))))
      (pss_one (ps_ret (pv 3)))))), ?_⟩
    have hN : (0 : Int) < (x.length : Int) := by omega
    refine ⟨_, rfl, a, x, rfl, SqL.of ha, _, rfl, a, _, rfl, .inl (SqL.of ha), ?_⟩
    rw [List.length_map]
    refine ⟨_, _, rfl, ?_⟩
    refine ⟨_, rfl, x.length, rfl, by omega, by omega, for_range (lo := 0) (fun i σ H' => ∃ o4 o5 o6 : Option V, σ = [some (.ref a), some (.int x.sum), some (.int (x.length : Int)), some (.int (sumN i fun i => sumN (x.length - 1) fun t => lawT x i t)), o4, o5, o6] ∧ Same H H')
      ⟨none, none, none, rfl, Same.refl H⟩ (fun i σ H' hi h => ?_) (fun σ H' h => ?_)⟩
    · obtain ⟨o4, o5, o6, rfl, sm⟩ := h
      rw [Int.zero_add]
      refine ⟨_, rfl, _, _, rfl, rfl, ((x.length - 1 : Nat) : Int), by rw [show ((x.length - 1 : Nat) : Int) = (x.length : Int) - 1 by omega], by omega, by omega, for_range (lo := 0) (fun j σ H' => ∃ o6 : Option V, σ = [some (.ref a), some (.int x.sum), some (.int (x.length : Int)), some (.int ((sumN i fun i => sumN (x.length - 1) fun t => lawT x i t) + sumN j fun t => lawT x i t)), some (.int (i : Int)), some (.int (arcS x i j)), o6] ∧ Same H H')
        ⟨o6, by rw [sumN_zero, Int.add_zero]; rfl, sm⟩ (fun j σ H' hj h => ?_) (fun σ H' h => ?_)⟩
      · obtain ⟨o6, rfl, sm⟩ := h
        rw [Int.zero_add]
        have em : ((i : Int) + (j : Int)) % (x.length : Int) = (((i + j) % x.length : Nat) : Int) := by
          rw [Int.natCast_emod]
          rfl
        have hm := Nat.mod_lt (i + j) (show 0 < x.length by omega)
        refine ⟨_, rfl, _, rfl, _, rfl, _, rfl, _, _, rfl, rfl, _, rfl, _, _, rfl, rfl, hN, a, _, _, _, rfl, rfl, SqL.of (sm _ _ ha), atInt (x := x) (i := ((i : Int) + (j : Int)) % (x.length : Int)) (by omega) (by omega), _, _, rfl, rfl, ?_⟩
        have ea : arcS x i j + x.getD (((i : Int) + (j : Int)) % (x.length : Int)).toNat 0 = arcS x i (j + 1) := by
          rw [em, Int.toNat_natCast]
          unfold arcS
          rw [sumN_succ]
        rw [show ((fun i j : Int => V.int (i + j)) (arcS x i j) (x.getD (((i : Int) + (j : Int)) % (x.length : Int)).toNat 0)) = V.int (arcS x i (j + 1)) from congrArg V.int ea]
        refine ⟨_, rfl, _, _, rfl, rfl, _, rfl, ?_⟩
        have es : (sumN (j + 1) fun t => lawT x i t) = (sumN j fun t => lawT x i t) + lawT x i j := sumN_succ ..
        by_cases c : arcS x i (j + 1) < 0
        · rw [decide_eq_true c]
          refine iteT ?_
          refine ⟨_, rfl, _, rfl, _, _, rfl, rfl, _, rfl, _, _, rfl, rfl, _, _, rfl, rfl, _, rfl, _, _, rfl, rfl, wide_div (b := 2000) hD hb (by decide) (by decide), _, _, rfl, rfl, ?_⟩
          refine ⟨some (.int (j : Int)), ?_, sm⟩
          have et : lawT x i j = (0 - arcS x i (j + 1) + x.sum - 1) / x.sum := by
            unfold lawT
            rw [if_pos c]
          rw [es, et, ← Int.add_assoc]
          rfl
        · rw [decide_eq_false c]
          refine iteF ⟨some (.int (j : Int)), ?_, sm⟩
          have et : lawT x i j = 0 := by
            unfold lawT
            rw [if_neg c]
          rw [es, et, Int.add_zero]
          rfl
      · obtain ⟨o6, rfl, sm⟩ := h
        refine ⟨some (.int (i : Int)), some (.int (arcS x i (x.length - 1))), o6, ?_, sm⟩
        rw [sumN_succ]
        rfl
    · obtain ⟨o4, o5, o6, rfl, sm⟩ := h
      exact ⟨_, rfl, k H' sm⟩
end

end K21

set_option Elab.async false
set_option linter.all false
set_option maxRecDepth 100000
set_option maxHeartbeats 8000000
namespace K21
open PySem PySem.Spec PyProof.Rows L2 FNX
/-! ## the law's judgement of one row -/
theorem eqvAllInts : ∀ x y : List Int, PyData.eqvAll (x.map PyData.int) (y.map PyData.int) = decide (x = y)
  | [], [] => rfl
  | [], _ :: _ => rfl
  | _ :: _, [] => rfl
  | a :: x, b :: y => by
    have e : PyData.eqvAll ((a :: x).map PyData.int) ((b :: y).map PyData.int) = ((a == b) && PyData.eqvAll (x.map PyData.int) (y.map PyData.int)) := by
      first
        | rfl
        | simp [PyData.eqvAll, PyData.eqv]
    rw [e, eqvAllInts x y]
    by_cases c : a = b
    · subst c
      by_cases d : x = y
      · subst d
        simp
      · rw [beq_self_eq_true, Bool.true_and, decide_eq_false d, decide_eq_false (fun z => d (List.cons.inj z).2)]
    · rw [show (a == b) = false from by simpa using c, Bool.false_and, decide_eq_false (fun z => c (List.cons.inj z).1)]
theorem eqvInts (x y : List Int) : PyData.eqv (posD x) (posD y) = decide (x = y) := by
  rw [← eqvAllInts]
  first
    | rfl
    | simp [PyData.eqv, posD]
theorem stPos {x : List Int} (h : 0 < x.sum) : stV x = .int (cSteps x) := by
  unfold stV
  rw [if_neg (by rw [never_of_pos h]; decide), if_neg (by omega)]
theorem endPos {x : List Int} (h : 0 < x.sum) : endO x = some (cEnd x) := by
  unfold endO
  rw [if_neg (by rw [never_of_pos h]; decide), if_neg (by omega)]
theorem neverNot {x : List Int} (h : ¬ 0 < x.sum) (hz : ¬ x = List.replicate x.length 0) : neverR x x.sum = true := by
  cases e : neverR x x.sum with
  | true => rfl
  | false =>
    refine absurd ?_ hz
    have h0 : x.sum = 0 := by
      by_cases c : x.sum = 0
      · exact c
      · exact absurd (never_pos e c) h
    exact List.eq_replicate_iff.mpr ⟨rfl, neverZero e h0⟩
theorem zeroNever {x : List Int} (hz : x = List.replicate x.length 0) : x.sum = 0 ∧ neverR x x.sum = false := by
  have a : ∀ z ∈ x, z = 0 := (List.eq_replicate_iff.mp hz).2
  have s : x.sum = 0 := by
    have := sumAbs (C := 0) x fun v hv => by rw [a v hv]; decide
    omega
  refine ⟨s, ?_⟩
  unfold neverR
  rw [s, decide_eq_false (by omega), decide_eq_true rfl, Bool.false_or, Bool.true_and]
  refine List.any_eq_false.mpr fun z hz => ?_
  rw [a z hz]
  decide
theorem sumNle {n : Nat} {f : Nat → Int} {B : Nat} (h : ∀ i, i < n → (f i).natAbs ≤ B) : (sumN n f).natAbs ≤ n * B := by
  induction n with
  | zero => exact Nat.zero_le _
  | succ n ih =>
    rw [sumN_succ, Nat.succ_mul]
    have h1 := ih fun i hi => h i (by omega)
    have h2 := h n (by omega)
    omega
theorem takeBd {C : Nat} {x : List Int} (h : ∀ v ∈ x, v.natAbs ≤ C) (k : Nat) : ((x.take k).sum).natAbs ≤ x.length * C := by
  have h1 := sumAbs (x.take k) fun v hv => h v (List.mem_of_mem_take hv)
  have h2 : (x.take k).length ≤ x.length := by
    rw [List.length_take]
    omega
  exact Nat.le_trans h1 (Nat.mul_le_mul_right _ h2)
theorem cTle {a b D : Int} {i j : Nat} {s : List Int} (hD : 0 < D) (ha : s.getD i 0 = a) (hb : s.getD j 0 = b) : (cT s D i j).natAbs ≤ (b - a).natAbs := by
  rw [cTat, ha, hb]
  have h1 : 0 ≤ (b - a) → 0 ≤ (b - a) / D := fun h => Int.ediv_nonneg h (Int.le_of_lt hD)
  have h2 : b - a < 0 → (b - a) ≤ (b - a) / D := fun h => by
    have e1 := Int.emod_add_mul_ediv (b - a) D
    have e2 := Int.emod_nonneg (b - a) (show D ≠ 0 by omega)
    have e3 : (b - a) / D < 0 := Int.ediv_neg_of_neg_of_pos h hD
    have e4 : D * ((b - a) / D) ≤ 1 * ((b - a) / D) := Int.mul_le_mul_of_nonpos_right (by omega) (by omega)
    have e5 := Int.emod_lt_of_pos (b - a) hD
    by_cases c : (b - a) ≤ (b - a) / D
    · exact c
    · exfalso
      have e6 : D * ((b - a) / D) ≤ D * (b - a - 1) := Int.mul_le_mul_of_nonneg_left (by omega) (by omega)
      have e7 : D * (b - a - 1) ≤ 1 * (b - a - 1) := Int.mul_le_mul_of_nonpos_right (by omega) (by omega)
      have e8 : D * (b - a - 1) + (D - 1) ≤ b - a - 1 := by
        have : D * (b - a - 1) = D * (b - a) - D := by rw [Int.mul_sub, Int.mul_one]
        have e9 : D * (b - a) ≤ 1 * (b - a) := Int.mul_le_mul_of_nonpos_right (by omega) (by omega)
        omega
      omega
  split <;> by_cases c : 0 ≤ b - a
  · have := h1 c
    omega
  · have := h2 (by omega)
    omega
  · have := h1 c
    omega
  · have := h2 (by omega)
    omega
theorem stepsBd {C : Nat} {x : List Int} (h : ∀ v ∈ x, v.natAbs ≤ C) (hD : 0 < x.sum) : (cSteps x).natAbs ≤ x.length * (x.length * (x.length * C + x.length * C)) := by
  unfold cSteps cycL
  rw [cSumsLen]
  refine sumNle fun i hi => sumNle fun j hj => ?_
  refine Nat.le_trans (cTle hD (cSumsAt hi) (cSumsAt hj)) ?_
  have h1 := takeBd h i
  have h2 := takeBd h j
  omega
theorem fireNext {x : List Int} {v : Nat} (h3 : 3 ≤ x.length) (hv : v < x.length) (hn : x.getD v 0 < 0) (hD : 0 < x.sum) :
    (fireC x v).length = x.length ∧ (fireC x v).sum = x.sum ∧ cSteps (fireC x v) = cSteps x - 1 ∧ cEnd (fireC x v) = cEnd x := ⟨fireC_len x v, (fireAll h3 hv hn hD).1, (fireAll h3 hv hn hD).2.1, (fireAll h3 hv hn hD).2.2⟩
def negI (x : List Int) : List Int := ((List.range x.length).filter fun i => decide (x.getD i 0 < 0)).map fun i : Nat => (i : Int)
theorem negI_nil {x : List Int} (h : negI x = []) : ∀ z ∈ x, 0 ≤ z := fun z hz => by
  obtain ⟨i, hi, rfl⟩ := List.getElem_of_mem hz
  by_cases c : 0 ≤ x[i]
  · exact c
  · exfalso
    have e : x.getD i 0 = x[i] := by
      rw [List.getD_eq_getElem?_getD, List.getElem?_eq_getElem hi]
      rfl
    have m : (i : Int) ∈ negI x := List.mem_map.mpr ⟨i, List.mem_filter.mpr ⟨List.mem_range.mpr hi, decide_eq_true (by omega)⟩, rfl⟩
    rw [h] at m
    cases m
theorem negI_at {x : List Int} {r : Nat} (h : r < (negI x).length) : ∃ v : Nat, (negI x).getD r 0 = (v : Int) ∧ v < x.length ∧ x.getD v 0 < 0 := by
  have m : (negI x).getD r 0 ∈ negI x := by
    rw [List.getD_eq_getElem?_getD, List.getElem?_eq_getElem h]
    exact List.getElem_mem h
  obtain ⟨v, hv, e⟩ := List.mem_map.mp m
  obtain ⟨h1, h2⟩ := List.mem_filter.mp hv
  exact ⟨v, e.symm, List.mem_range.mp h1, of_decide_eq_true h2⟩
theorem negI_len (x : List Int) : (negI x).length ≤ x.length := by
  unfold negI
  rw [List.length_map]
  have z := List.length_filter_le (fun i => decide (x.getD i 0 < 0)) (List.range x.length)
  rw [List.length_range] at z
  exact z
theorem takeZ (n : Nat) : (List.replicate n (0 : Int)).length = n := List.length_replicate
def spZeros : Sp := fun vs H Q _ => ∃ n : Nat, vs = [.int (n : Int)] ∧ 3 ≤ n ∧ n ≤ 200 ∧ ∀ H', Same H H' → Q (.bl true) H'
def spRightC : Sp := fun vs H Q _ => ∃ (p a : Addr) (x : List Int), vs = [.ref p, .ref a] ∧ PoolAt H p ∧ H a = some (.lst (x.map V.int)) ∧ a ≠ p ∧ 3 ≤ x.length ∧ x.length ≤ 31 ∧ (∀ v ∈ x, v.natAbs ≤ 10 ^ 40) ∧
  ∀ H', SameX p H H' → PoolAt H' p → Q (.bl true) H'
section
variable {P : Program} {w : World} {K : PySem.W.Frag} {mg : Str → Option Value} {base : Heap}
theorem sc_zeros : FnScope ["_law_many", "_law_row", "_law_found"] ["_law_many"] (defScope s__law_zeros) := ⟨rfl, rfl, rfl, by decide +kernel, rfl, by decide +kernel, by decide +kernel⟩
theorem ok_zeros {f : Addr} {fd : FuncData} (F : Fun K "_law_zeros" "_law_zeros" s__law_zeros f fd) (M : Nms mg) (GB : At P w K mg base CX0 4 "cycle_end" ["numbers"] spCycleEnd) : FnOk P w K mg base CX0 5 f fd ["_law_many"] spZeros := by
  obtain ⟨fB, fdB, GB, mB, kB, bB⟩ := GB
  refine F.ok sc_zeros (fun vs H Q E h => ?_) (fun cdv A outer s H vs Q E hr h => ?_)
  · obtain ⟨n, rfl, _⟩ := h
    rfl
  · obtain ⟨n, rfl, l1, l2, k⟩ := h
    have nd := sc_zeros.nd
    have hu64 : A.units + 3 + 64 < cLine := hr.units
    refine ⟨_, (pss_cons (ps_set (i := 1) nd rfl (Or.inl rfl) (pe_op op_rep (pe_lst (pa_cons pe_int pa_nil)) (pv 0)))
      (pss_cons (ps_set (i := 2) nd rfl (Or.inl rfl) (pe_call GB hr (by rfl) mB kB bB .nil pass0 (pa_cons (pv 1) pa_nil)))
      (pss_cons (ps_if (pt_cmpR (op_neD hu64) (pv 2) (pv 1) (nomark _)) (pss_one (ps_ret pe_bl)) pss_nil)
      (pss_cons (ps_expr (pe_bm PySem.F.plainAttrs_list PySem.F.slot_list_append PySem.F.type_list_append mt_append (pv 2) (pa_cons pe_int pa_nil)))
      (pss_one (ps_ret (pe_cmpR (op_eqD hu64) (pv 1) (pe_op op_rep (pe_lst (pa_cons pe_int pa_nil)) (pv 0)) (nomark _)))))))), ?_⟩
    refine ⟨by show 1 ≤ sizeLine; decide, fun z nz => ?_⟩
    obtain ⟨H1, q1, s1, h1⟩ := newAt (.lst [V.int 0]) nz
    rw [q1]
    refine ⟨_, rfl, z, n, _, rfl, rfl, h1, by omega, by omega, by show 1 * ((n : Int).toNat) ≤ sizeLine; rw [sizeLine_eq]; omega, fun R nR => ?_⟩
    have ez : (List.replicate ((n : Int).toNat) [V.int 0]).flatten = (List.replicate n (0 : Int)).map V.int := repZero n
    rw [ez]
    obtain ⟨H2, q2, s2, h2⟩ := newAt (.lst ((List.replicate n (0 : Int)).map V.int)) nR
    rw [q2]
    have lz := takeZ n
    obtain ⟨z1, z2⟩ := zeroNever (x := List.replicate n 0) (by rw [lz])
    refine ⟨_, rfl, ?_⟩
    dsimp only [tNil, tCons, tC]
    change spCycleEnd [V.ref R] H2 _ _
    refine ⟨R, List.replicate n 0, rfl, h2, by omega, by omega, by rw [z1]; decide, (fun H3 s3 hn => by rw [z2] at hn; cases hn), fun q H3 nq s3 _ _ hq => ?_, fun q H3 t h0 => by rw [z1] at h0; exact absurd h0 (by decide)⟩
    have h3 := s3 _ _ h2
    have Rq : R ≠ q := ne_of_none h2 nq
    refine ⟨_, rfl, _, rfl, posD (List.replicate n 0), posD (List.replicate n 0), .lst (SqL.of hq) (dpInts _), .lst (SqL.of h3) (dpInts _), shapedInts _, shapedInts _, _, rfl, ?_⟩
    rw [eqvInts, decide_eq_true rfl]
    refine iteF ?_
    refine ⟨_, rfl, .inl ⟨rfl, _, SqL.of hq⟩, q, _, _, rfl, rfl, hq, by rw [List.length_map, lz, sizeLine_eq]; omega, ?_⟩
    have s4 : Same H2 (upd H3 q (.lst ((List.replicate n (0 : Int)).map V.int ++ [V.int 0]))) := fun b o e => by
      rw [upd_ne (ne_of_none e nq)]
      exact s3 _ _ e
    generalize (upd H3 q (.lst ((List.replicate n (0 : Int)).map V.int ++ [V.int 0]))) = H4 at s4 ⊢
    refine ⟨_, rfl, by show 1 ≤ sizeLine; decide, fun z' nz' => ?_⟩
    obtain ⟨H5, q5, s5, h5⟩ := newAt (.lst [V.int 0]) nz'
    rw [q5]
    refine ⟨_, rfl, z', n, _, rfl, rfl, h5, by omega, by omega, by show 1 * ((n : Int).toNat) ≤ sizeLine; rw [sizeLine_eq]; omega, fun R' nR' => ?_⟩
    rw [ez]
    obtain ⟨H6, q6, s6, h6⟩ := newAt (.lst ((List.replicate n (0 : Int)).map V.int)) nR'
    rw [q6]
    refine ⟨posD (List.replicate n 0), posD (List.replicate n 0), .lst (SqL.of (s6 _ _ (s5 _ _ (s4 _ _ h2)))) (dpInts _), .lst (SqL.of h6) (dpInts _), shapedInts _, shapedInts _, ?_⟩
    rw [eqvInts, decide_eq_true rfl]
    exact k _ (s1.trans (s2.trans (s4.trans (s5.trans s6))))
theorem sc_rightC : FnScope ["_law_pool_here", "_law_row", "_law_total", "_law_seen", "_law_due", "_law_count_here", "_law_end", "_law_turns", "_law_here", "_law_turn", "_law_low", "_law_node"] ["_law_pool_here", "_law_row"] (defScope s__law_right) := ⟨rfl, rfl, rfl, by decide +kernel, rfl, by decide +kernel, by decide +kernel⟩
theorem ok_rightC {f : Addr} {fd : FuncData} (F : Fun K "_law_right" "_law_right" s__law_right f fd) (M : Nms mg) (n_sum : mg "sum" = none)
    (GT : At P w K mg base CX0 1 "_law_take" ["_law_pool_here", "_law_sides"] spTake) (GA : At P w K mg base CX0 4 "cycle_steps" ["numbers"] spCycleSteps) (GB : At P w K mg base CX0 4 "cycle_end" ["numbers"] spCycleEnd)
    (GC : At P w K mg base CX0 1 "_law_count" ["_law_row"] spCount) (GF : At P w K mg base CX0 1 "_law_fired" ["_law_row", "_law_node"] spFired) : GOk P w K mg base 5 f fd ["_law_pool_here", "_law_row"] spRightC := by
  obtain ⟨fT, fdT, GT, mT, kT, bT⟩ := GT
  obtain ⟨fA, fdA, GA, mA, kA, bA⟩ := GA
  obtain ⟨fB, fdB, GB, mB, kB, bB⟩ := GB
  obtain ⟨fC, fdC, GC, mC, kC, bC⟩ := GC
  obtain ⟨fF, fdF, GF, mF, kF, bF⟩ := GF
  refine okG F sc_rightC (fun vs H Q E h => ?_) (fun cdv A outer s H vs Q E hgd hr h => ?_)
  · obtain ⟨p, a, x, rfl, _⟩ := h
    rfl
  · obtain ⟨p, a, x, rfl, hp, ha, hap, l1, l2, bx, k⟩ := h
    have nd := sc_rightC.nd
    have hr1 : Room 1 _ := hr.mono (by decide)
    have hu64 : A.units + 3 + 64 < cLine := hr.units
    refine ⟨_, (pss_cons (ps_par (i := 2) (j := 3) (by rfl) nd rfl rfl (by decide) rfl rfl (pa_cons (pe_callB (show CallR _ (.builtin "sum") (rSum K) from cr_sum rfl) (by rfl) n_sum boot_sum1 (pa_cons (pv 1) pa_nil)) (pa_cons (pe_callB (show CallR _ (.builtin "repr") (rRepr K) from call_repr hgd hr.units) (by rfl) M.repr boot_repr1 (pa_cons (pv 1) pa_nil)) pa_nil)) (by rfl))
      (pss_cons (ps_if (PW.pt (pw_or (pt_cmpR op_lt (pv 2) pe_int (nomark _)) (pw_or1 (pt_cmpR op_eq (pv 2) pe_int (nomark _))))) (pss_cons (ps_set (i := 4) nd rfl (Or.inl rfl) (pe_ifExp (pt_cmpR (op_eqD hu64) (pv 1) (pe_op op_rep (pe_lst (pa_cons pe_int pa_nil)) (pe_callB call_len_seq (by rfl) M.len boot_len1 (pa_cons (pv 1) pa_nil))) (nomark _)) (pe_lst (pa_cons pe_int (pa_cons (pv 1) pa_nil))) (pe_lst (pa_cons pe_non (pa_cons pe_non pa_nil)))))
      (pss_one (ps_ret (pe_cmpR op_eq (pe_callB (show CallR _ (.builtin "repr") (rRepr K) from call_repr hgd hr.units) (by rfl) M.repr boot_repr1 (pa_cons (pe_lst (pa_cons (pe_call GA hr (by rfl) mA kA bA .nil pass0 (pa_cons (pv 1) pa_nil)) (pa_cons (pe_call GB hr (by rfl) mB kB bB .nil pass0 (pa_cons (pv 1) pa_nil)) pa_nil))) pa_nil)) (pe_callB (show CallR _ (.builtin "repr") (rRepr K) from call_repr hgd hr.units) (by rfl) M.repr boot_repr1 (pa_cons (pv 4) pa_nil)) (nomark _))))) pss_nil)
      (pss_cons (ps_par (i := 5) (j := 6) (by rfl) nd rfl rfl (by decide) rfl rfl (pa_cons (pe_call GA hr (by rfl) mA kA bA .nil pass0 (pa_cons (pv 1) pa_nil)) (pa_cons (pe_call GB hr (by rfl) mB kB bB .nil pass0 (pa_cons (pv 1) pa_nil)) pa_nil)) (by rfl))
      (pss_cons (ps_if (PW.pt (pw_or (pt_cmpR op_isN (pv 5) pe_non (nomark _)) (pw_or1 (pt_cmpR op_isN (pv 6) pe_non (nomark _))))) (pss_one (ps_ret pe_bl)) pss_nil)
      (pss_cons (ps_if (PW.pt (pw_or (pt_cmpR op_ne (pe_callB (show CallR _ (.builtin "repr") (rRepr K) from call_repr hgd hr.units) (by rfl) M.repr boot_repr1 (pa_cons (pv 5) pa_nil)) (pe_callB (show CallR _ (.builtin "repr") (rRepr K) from call_repr hgd hr.units) (by rfl) M.repr boot_repr1 (pa_cons (pe_call GC hr1 (by rfl) mC kC bC .nil pass0 (pa_cons (pv 1) pa_nil)) pa_nil)) (nomark _)) (pw_or (pt_cmpR op_ne (pe_callB (show CallR _ (.builtin "sum") (rSum K) from cr_sum rfl) (by rfl) n_sum boot_sum1 (pa_cons (pv 6) pa_nil)) (pv 2) (nomark _)) (pw_or (pt_cmpR op_lt (pe_callB (show CallR _ (.builtin "min") (rMin K) from cr_min rfl) (by rfl) M.min boot_min1 (pa_cons (pv 6) pa_nil)) pe_int (nomark _)) (pw_or1 (pt_cmpR op_ne (pe_callB (show CallR _ (.builtin "repr") (rRepr K) from call_repr hgd hr.units) (by rfl) M.repr boot_repr1 (pa_cons (pv 1) pa_nil)) (pv 3) (nomark _))))))) (pss_one (ps_ret pe_bl)) pss_nil)
      (pss_cons (ps_asg (pe_tup (pa_cons (pe_callB (call_min2 rfl) (by rfl) M.min boot_min1 (pa_cons (pv 5) (pa_cons pe_int pa_nil))) (pa_cons (pv 1) pa_nil))) (pg_tup rfl (pgs_cons (pg_name (i := 7) nd rfl (Or.inl rfl)) (pgs_cons (pg_name (i := 8) nd rfl (Or.inr rfl)) pgs_nil))))
      (pss_cons (ps_if (pt_cmpR op_le (pv 5) pe_int (nomark _)) (pss_one (ps_set (i := 7) nd rfl (Or.inl rfl) (pv 5))) pss_nil)
      (pss_cons (ps_for PassesOwn.never rfl (pi_range1 rfl M.range (pa_cons (pv 7) pa_nil)) (pg_name (i := 9) nd rfl (Or.inl rfl)) (pss_cons (ps_setLc (i := 10) (own := [("_law_node", 11)]) (g := gName 11) (by rfl) nd rfl rfl (sw_true rfl rfl rfl (by decide +kernel)) (pi_range1 rfl M.range (pa_cons (pe_callB call_len_seq (by rfl) M.len boot_len1 (pa_cons (pv 8) pa_nil)) pa_nil)) (blkOk_by (own := [("_law_node", 11)]) (N := ["_law_pool_here", "_law_row", "_law_total", "_law_seen", "_law_due", "_law_count_here", "_law_end", "_law_turns", "_law_here", "_law_turn", "_law_low", "_law_node"]) (sc := defScope s__law_right) (by decide +kernel)) (fun _ _ _ _ _ => pg_name (i := 11) nd rfl (Or.inl rfl)) (fun _ _ _ _ _ => pts_one (pt_cmpR op_lt (pe_ix (r := rIxL K) ix_list (pv 8) (pv 11) (fun _ _ => rfl)) pe_int (nomark _))) (fun _ _ _ _ _ => (pv 11)))
      (pss_cons (ps_if (pt_cmpR (op_eqD hu64) (pv 10) (pe_lst pa_nil) (nomark _)) (pss_one (ps_ret pe_bl)) pss_nil)
      (pss_cons (ps_set (i := 8) nd rfl (Or.inr rfl) (pe_call GF hr1 (by rfl) mF kF bF .nil pass0 (pa_cons (pv 8) (pa_cons (pe_ix (r := rIxL K) ix_list (pv 10) (pe_call GT hr1 (by rfl) mT kT bT .nil pass0 (pa_cons (pv 0) (pa_cons (pe_callB call_len_seq (by rfl) M.len boot_len1 (pa_cons (pv 10) pa_nil)) pa_nil))) (fun _ _ => rfl)) pa_nil))))
      (pss_one (ps_if (PW.pt (pw_and (pt_cmpR op_lt (pv 9) pe_int (nomark _)) (pw_and1 (PW.pt (pw_or (pt_cmpR op_ne (pe_call GA hr (by rfl) mA kA bA .nil pass0 (pa_cons (pv 8) pa_nil)) (pe_op op_sub (pe_op op_sub (pv 5) (pv 9)) pe_int) (nomark _)) (pw_or1 (pt_cmpR (op_neD hu64) (pe_call GB hr (by rfl) mB kB bB .nil pass0 (pa_cons (pv 8) pa_nil)) (pv 6) (nomark _)))))))) (pss_one (ps_ret pe_bl)) pss_nil))))))
      (pss_one (ps_ret (pe_or (pe_cmpR op_lt (pv 7) (pv 5) (nomark _)) (pe_one (pe_cmpR (op_eqD hu64) (pv 8) (pv 6) (nomark _)))))))))))))), ?_⟩
    have l200 : x.length ≤ 200 := by omega
    have big : x.sum.natAbs < 2 ^ 2000 := sumBig (k := 0) bx (by omega) (by decide +kernel)
    have xne : x ≠ [] := fun z => by rw [z] at l1; simp at l1
    have shX : Shw 1 63002 (posD x) := shwBigs (fun v hv => Nat.le_trans (bx v hv) (by decide +kernel)) (by omega)
    obtain ⟨sX1, sX2, sX3⟩ := shwLine shX (by decide) (by decide)
    refine ⟨_, rfl, a, x, rfl, SqL.of ha, _, rfl, .ref a, posD x, rfl, .dat (.lst (SqL.of ha) (dpInts x)), sX1, sX2, sX3, ?_⟩
    refine ⟨_, _, rfl, ?_⟩
    by_cases hD : 0 < x.sum
    case neg =>
      refine ⟨_, rfl, _, _, rfl, rfl, _, rfl, ?_⟩
      by_cases c1 : x.sum < 0
      case' pos =>
        rw [decide_eq_true c1]
        refine iteT ?_
      case' neg =>
        rw [decide_eq_false c1]
        refine iteF ⟨_, rfl, rfl, _, rfl, ?_⟩
        rw [decVI, decide_eq_true (by omega)]
        refine iteT ?_
      all_goals
        refine ⟨_, rfl, by show 1 ≤ sizeLine; decide, fun z nz => ?_⟩
        obtain ⟨H1, q1, s1, h1⟩ := newAt (.lst [V.int 0]) nz
        rw [q1]
        refine ⟨_, rfl, a, _, rfl, .inl (SqL.of (s1 _ _ ha)), ?_⟩
        refine ⟨z, _, _, rfl, rfl, h1, by omega, by rw [List.length_map]; omega, ?_, fun R nR => ?_⟩
        · rw [List.length_map]
          show 1 * ((x.length : Int).toNat) ≤ sizeLine
          rw [sizeLine_eq]
          omega
        have ez : (List.replicate (((x.map V.int).length : Int).toNat) [V.int 0]).flatten = (List.replicate x.length (0 : Int)).map V.int := by
          rw [List.length_map, show ((x.length : Int).toNat) = x.length by omega]
          exact repZero x.length
        rw [ez]
        obtain ⟨H2, q2, s2, h2⟩ := newAt (.lst ((List.replicate x.length (0 : Int)).map V.int)) nR
        rw [q2]
        have s02 := s1.trans s2
        have ha2 := s02 _ _ ha
        refine ⟨posD x, posD (List.replicate x.length 0), .lst (SqL.of ha2) (dpInts _), .lst (SqL.of h2) (dpInts _), shapedInts _, shapedInts _, _, rfl, ?_⟩
        rw [eqvInts]
        by_cases hz : x = List.replicate x.length 0
        · rw [decide_eq_true hz]
          obtain ⟨z1, z2⟩ := zeroNever hz
          refine iteT ⟨_, rfl, by show 2 ≤ sizeLine; decide, fun D nD => ?_⟩
          obtain ⟨H3, q3, s3, h3⟩ := newAt (.lst [V.int 0, V.ref a]) nD
          rw [q3]
          refine ⟨_, rfl, ?_⟩
          dsimp only [tNil, tCons, tC]
          change spCycleSteps [V.ref a] H3 _ _
          refine toSt (s3 _ _ ha2) l1 l200 big fun H4 s4 => ?_
          refine ⟨_, rfl, ?_⟩
          dsimp only [tNil, tCons, tC]
          change spCycleEnd [V.ref a] H4 _ _
          refine toEnd ((s3.trans s4) _ _ ha2) l1 l200 big fun v H5 s5 hv => ?_
          refine ⟨by show 2 ≤ sizeLine; decide, fun Z nZ => ?_⟩
          obtain ⟨H6, q6, s6, h6⟩ := newAt (.lst [stV x, v]) nZ
          rw [q6]
          have es : stV x = .int 0 := by
            unfold stV
            rw [if_neg (by rw [z2]; decide), if_pos z1]
          have ed : endD x = posD x := by
            unfold endD endO
            rw [if_neg (by rw [z2]; decide), if_pos z1]
          have dv : Dp K H6 v (posD x) := ed ▸ dpEnd (endSame hv s6)
          have shP : Shw 2 126010 (.list [.int 0, posD x]) := shwList (k := 1) (L := 63002) (m := 2) (fun e he => by
            rcases List.mem_cons.mp he with rfl | he
            · exact (shwInt (i := 0) (by decide)).mono (by decide) (by decide)
            · rw [List.mem_singleton.mp he]
              exact shX) (by show 2 ≤ 2; decide)
          obtain ⟨p1, p2, p3⟩ := shwLine shP (by decide) (by decide)
          rw [es] at h6
          have m := (s4.trans s5).trans s6
          refine ⟨.ref Z, .list [.int 0, posD x], rfl, .dat (.lst (SqL.of h6) (.cons (.int 0) (.cons dv .nil))), p1, p2, p3, ?_⟩
          refine ⟨_, rfl, .ref D, .list [.int 0, posD x], rfl, .dat (.lst (SqL.of (m _ _ h3)) (.cons (.int 0) (.cons (.lst (SqL.of ((s3.trans m) _ _ ha2)) (dpInts x)) .nil))), p1, p2, p3, rfl, ?_⟩
          rw [decide_eq_true rfl]
          exact k _ (Same.x (s02.trans (s3.trans m))) (hp.same (s02.trans (s3.trans m)))
        · rw [decide_eq_false hz]
          have hn := neverNot hD hz
          refine iteF ⟨by show 2 ≤ sizeLine; decide, fun D nD => ?_⟩
          obtain ⟨H3, q3, s3, h3⟩ := newAt (.lst [V.non, V.non]) nD
          rw [q3]
          refine ⟨_, rfl, ?_⟩
          dsimp only [tNil, tCons, tC]
          change spCycleSteps [V.ref a] H3 _ _
          refine toSt (s3 _ _ ha2) l1 l200 big fun H4 s4 => ?_
          refine ⟨_, rfl, ?_⟩
          dsimp only [tNil, tCons, tC]
          change spCycleEnd [V.ref a] H4 _ _
          refine toEnd ((s3.trans s4) _ _ ha2) l1 l200 big fun v H5 s5 hv => ?_
          refine ⟨by show 2 ≤ sizeLine; decide, fun Z nZ => ?_⟩
          obtain ⟨H6, q6, s6, h6⟩ := newAt (.lst [stV x, v]) nZ
          rw [q6]
          have es : stV x = .non := by
            unfold stV
            rw [if_pos hn]
          have ed : endD x = .none := by
            unfold endD endO
            rw [if_pos hn]
          have dv : Dp K H6 v .none := ed ▸ dpEnd (endSame hv s6)
          have shP : Shw 1 14 (.list [.none, .none]) := shwList (k := 0) (L := 4) (m := 2) (fun e he => by
            have : e = .none := by
              rcases List.mem_cons.mp he with rfl | he
              · rfl
              · exact List.mem_singleton.mp he
            rw [this]
            exact ⟨by decide, by decide, by decide⟩) (by show 2 ≤ 2; decide)
          obtain ⟨p1, p2, p3⟩ := shwLine shP (by decide) (by decide)
          rw [es] at h6
          have m := (s4.trans s5).trans s6
          refine ⟨.ref Z, .list [.none, .none], rfl, .dat (.lst (SqL.of h6) (.cons .non (.cons dv .nil))), p1, p2, p3, ?_⟩
          refine ⟨_, rfl, .ref D, .list [.none, .none], rfl, .dat (.lst (SqL.of (m _ _ h3)) (.cons .non (.cons .non .nil))), p1, p2, p3, rfl, ?_⟩
          rw [decide_eq_true rfl]
          exact k _ (Same.x (s02.trans (s3.trans m))) (hp.same (s02.trans (s3.trans m)))
    refine ⟨_, rfl, _, _, rfl, rfl, _, rfl, ?_⟩
    rw [decide_eq_false (by omega)]
    refine iteF ⟨_, rfl, rfl, _, rfl, ?_⟩
    rw [decVI, decide_eq_false (by omega)]
    refine iteF ?_
    obtain ⟨e1, e2⟩ := endSum x xne hD
    have lE := endLen x
    refine ⟨_, rfl, ?_⟩
    dsimp only [tNil, tCons, tC]
    change spCycleSteps [V.ref a] H _ _
    refine toSt ha l1 l200 big fun H1 s1 => ?_
    rw [stPos hD]
    refine ⟨_, rfl, ?_⟩
    dsimp only [tNil, tCons, tC]
    change spCycleEnd [V.ref a] H1 _ _
    refine toEnd (s1 _ _ ha) l1 l200 big fun v H2 s2 hv => ?_
    obtain ⟨q, rfl, hq⟩ : ∃ q, v = .ref q ∧ H2 q = some (.lst ((cEnd x).map V.int)) := by
      rcases hv with ⟨z, _⟩ | ⟨q, e, h1, h2, h3⟩
      · rw [endPos hD] at z
        cases z
      · rw [endPos hD] at h1
        cases h1
        exact ⟨q, h2, h3⟩
    refine ⟨_, _, rfl, ?_⟩
    refine ⟨_, rfl, rfl, _, rfl, ?_⟩
    rw [decide_eq_false (fun z => by cases z)]
    refine iteF ⟨_, rfl, rfl, _, rfl, ?_⟩
    rw [decide_eq_false (fun z => by cases z)]
    refine iteF ?_
    have bS := stepsBd bx hD
    have shC : Shw 0 61 (.int (cSteps x)) := shwBig (Nat.le_trans bS (Nat.le_trans (Nat.mul_le_mul l2 (Nat.mul_le_mul l2 (Nat.add_le_add (Nat.mul_le_mul_right _ l2) (Nat.mul_le_mul_right _ l2)))) (by decide +kernel)))
    obtain ⟨sC1, sC2, sC3⟩ := shwLine shC (by decide) (by decide)
    have s02 := s1.trans s2
    refine ⟨_, rfl, .int (cSteps x), .int (cSteps x), rfl, .dat (.int _), sC1, sC2, sC3, ?_⟩
    refine ⟨_, rfl, a, x, rfl, s02 _ _ ha, l1, l200, hD, big, fun H3 s3 => ?_⟩
    rw [lawCount hD]
    refine ⟨.int (cSteps x), .int (cSteps x), rfl, .dat (.int _), sC1, sC2, sC3, rfl, _, rfl, ?_⟩
    rw [decide_eq_true rfl]
    refine iteF ?_
    have hq3 := s3 _ _ hq
    have s03 := s02.trans s3
    have ha3 := s03 _ _ ha
    refine ⟨_, rfl, q, cEnd x, rfl, SqL.of hq3, _, rfl, rfl, _, rfl, ?_⟩
    rw [e1, decide_eq_true rfl]
    refine iteF ?_
    refine ⟨_, rfl, q, cEnd x, rfl, SqL.of hq3, by omega, fun mn hm _ => ⟨_, _, rfl, rfl, _, rfl, ?_⟩⟩
    have m0 := e2 mn hm
    rw [decide_eq_false (by omega)]
    refine iteF ?_
    refine ⟨_, rfl, .ref a, posD x, rfl, .dat (.lst (SqL.of ha3) (dpInts x)), sX1, sX2, sX3, _, rfl, rfl, _, rfl, ?_⟩
    rw [decide_eq_true rfl]
    refine iteF ?_
    refine ⟨_, rfl, _, _, rfl, _, rfl, by show 2 ≤ sizeLine; decide, fun T nT => ?_⟩
    obtain ⟨H4, q4, s4, h4⟩ := newAt (.tup [V.int (if 12 < cSteps x then 12 else cSteps x), V.ref a]) nT
    rw [q4]
    refine ⟨T, _, rfl, SqT.of h4, rfl, _, _, rfl, _, _, rfl, rfl, ?_⟩
    have c0 := stepsNonneg x
    have s04 := s03.trans s4
    have hp4 := hp.same s04
    have ha4 := s04 _ _ ha
    have hq4 := s4 _ _ hq3
    have qp : q ≠ p := qne hq4 hp4 (by omega)
    refine ⟨_, rfl, _, _, rfl, rfl, _, rfl, ?_⟩
    by_cases c4 : cSteps x ≤ 400
    case' pos =>
      rw [decide_eq_true c4]
      refine iteT ⟨_, rfl, ?_⟩
      obtain ⟨C7, h7⟩ : ∃ C7 : Int, C7 = cSteps x := ⟨_, rfl⟩
      have b7 : 0 ≤ C7 ∧ C7 ≤ 400 ∧ C7 ≤ cSteps x := ⟨by omega, by omega, by omega⟩
    case' neg =>
      rw [decide_eq_false c4]
      refine iteF ?_
      obtain ⟨C7, h7⟩ : ∃ C7 : Int, C7 = if 12 < cSteps x then 12 else cSteps x := ⟨_, rfl⟩
      have b7 : 0 ≤ C7 ∧ C7 ≤ 400 ∧ C7 ≤ cSteps x := by
        rw [h7]
        split <;> exact ⟨by omega, by omega, by omega⟩
    all_goals
      obtain ⟨τ, hτ⟩ : ∃ τ : Nat, C7 = (τ : Int) := ⟨C7.toNat, by omega⟩
      refine ⟨_, rfl, (τ : Int), by rw [← hτ, h7], by omega, by omega, for_range (lo := 0) (fun i σ H' => ∃ (h : Addr) (y : List Int) (o9 o10 o11 : Option V),
        σ = [some (.ref p), some (.ref a), some (.int x.sum), some (.str (posD x).shown), none, some (.int (cSteps x)), some (.ref q), some (.int C7), some (.ref h), o9, o10, o11] ∧ SameX p H H' ∧ PoolAt H' p ∧
        H' q = some (.lst ((cEnd x).map V.int)) ∧ h ≠ p ∧ H' h = some (.lst (y.map V.int)) ∧ y.length = x.length ∧ y.sum = x.sum ∧ cSteps y = cSteps x - (i : Int) ∧ cEnd y = cEnd x)
        ⟨a, x, none, none, none, by rw [h7]; rfl, Same.x s04, hp4, hq4, hap, ha4, rfl, rfl, by omega, rfl⟩ (fun i σ H' hi hst => ?_) (fun σ H' hst => ?_)⟩
      · obtain ⟨h, y, o9, o10, o11, rfl, sx, hpi, hqi, hhp, hh, ly, sy, cy, ey⟩ := hst
        rw [Int.zero_add]
        have hDy : 0 < y.sum := by omega
        have hne : negI y ≠ [] := fun z => by
          have := (endedCyc (negI_nil z) hDy).1
          omega
        have nl := negI_len y
        have nl0 : 0 < (negI y).length := List.length_pos_iff.mpr hne
        refine ⟨_, rfl, h, _, rfl, .inl (SqL.of hh), (y.length : Int), by rw [List.length_map], by omega, by omega, fun L nL => ?_⟩
        refine lc_range (lo := 0) (n := y.length) (fun j H'' => Same H' H'' ∧ H'' L = some (.lst ((((List.range j).filter fun i => decide (y.getD i 0 < 0)).map fun i : Nat => (i : Int)).map V.int)))
          ⟨same_upd nL, upd_same⟩ (fun j H'' hj h' => ?_) (fun H7 h7' => ?_)
        · obtain ⟨sl, el⟩ := h'
          rw [Int.zero_add]
          refine ⟨rfl, ?_⟩
          refine ⟨_, rfl, _, rfl, h, _, _, _, rfl, rfl, SqL.of (sl _ _ hh), atInt (by omega) (by omega), _, _, rfl, rfl, _, rfl, ?_⟩
          rw [show ((j : Int)).toNat = j by omega]
          have more := filtMore (fun i => decide (y.getD i 0 < 0)) j
          by_cases cn : y.getD j 0 < 0
          · rw [decide_eq_true cn] at more ⊢
            rw [if_pos rfl] at more
            refine iteT ⟨_, rfl, _, el, ?_, fun b u z => ?_, ?_⟩
            · rw [List.length_map, List.length_map]
              have z := List.length_filter_le (fun i => decide (y.getD i 0 < 0)) (List.range j)
              rw [List.length_range] at z
              rw [sizeLine_eq]
              omega
            · rw [upd_ne (ne_of_none z nL)]
              exact sl _ _ z
            · rw [upd_same, more, List.map_append, List.map_append]
              rfl
          · rw [decide_eq_false cn] at more ⊢
            rw [if_neg Bool.false_ne_true, List.append_nil] at more
            refine iteF ⟨sl, ?_⟩
            rw [more]
            exact el
        obtain ⟨s7, hL⟩ := h7'
        have hL : H7 L = some (.lst ((negI y).map V.int)) := hL
        refine ⟨_, rfl, by show 0 ≤ sizeLine; decide, fun D nD => ?_⟩
        obtain ⟨H8, q8, s8, h8⟩ := newAt (.lst ([] : List V)) nD
        rw [q8]
        have hL8 := s8 _ _ hL
        refine ⟨posD (negI y), .list [], .lst (SqL.of hL8) (dpInts _), .lst (SqL.of h8) .nil, shapedInts _, shapedInts [], _, rfl, ?_⟩
        rw [show PyData.eqv (posD (negI y)) (.list []) = false from by rw [show PyData.list [] = posD [] from rfl, eqvInts, decide_eq_false hne]]
        refine iteF ?_
        have s78 := s7.trans s8
        have hp8 := hpi.same s78
        have hh8 := s78 _ _ hh
        have Lp : L ≠ p := Ne.symm (hpi.ne nL)
        refine ⟨_, rfl, _, rfl, _, rfl, _, rfl, L, _, rfl, .inl (SqL.of hL8), p, ((negI y).length : Int), by rw [List.length_map]; rfl, hp8, by omega, by omega, fun r H9 r0 r1 hp9 t9 => ?_⟩
        obtain ⟨v, hv, v1, v2⟩ := negI_at (x := y) (r := r.toNat) (by omega)
        refine ⟨L, _, r, _, rfl, rfl, SqL.of ((t9 L Lp).trans hL8), atInt r0 r1, ?_⟩
        have sx9 : SameX p H H9 := (sx.trans (Same.x s78)).trans (sameX_take t9)
        refine ⟨h, y, v, by rw [hv]; rfl, (t9 h hhp).trans hh8, by omega, by omega, v1, fun q' G1 nq' g1 hq' => ?_⟩
        obtain ⟨f1, f2, f3, f4⟩ := fireNext (by omega) v1 v2 hDy
        have sxG : SameX p H G1 := sx9.trans (Same.x g1)
        have hpG := hp9.same g1
        have hqG := g1 _ _ ((t9 q qp).trans (s78 _ _ hqi))
        have q'p : q' ≠ p := Ne.symm (hp9.ne nq')
        have hDz : 0 < (fireC y v).sum := by omega
        have bigz : (fireC y v).sum.natAbs < 2 ^ 2000 := by rw [f2, sy]; exact big
        have fin : ∀ Hn, Same G1 Hn → SameX p H Hn ∧ PoolAt Hn p ∧ Hn q = some (.lst ((cEnd x).map V.int)) ∧ q' ≠ p ∧ Hn q' = some (.lst ((fireC y v).map V.int)) ∧ (fireC y v).length = x.length ∧ (fireC y v).sum = x.sum ∧
            cSteps (fireC y v) = cSteps x - ((i + 1 : Nat) : Int) ∧ cEnd (fireC y v) = cEnd x := fun Hn s => ⟨sxG.trans (Same.x s), hpG.same s, s _ _ hqG, q'p, s _ _ hq', by omega, by omega, by omega, by rw [f4, ey]⟩
        refine ⟨_, rfl, _, _, rfl, rfl, _, rfl, ?_⟩
        by_cases c12 : (i : Int) < 12
        · rw [decide_eq_true c12]
          refine iteT ?_
          refine ⟨_, rfl, ?_⟩
          dsimp only [tNil, tCons, tC]
          change spCycleSteps [V.ref q'] G1 _ _
          refine toSt hq' (by omega) (by omega) bigz fun G2 g2 => ?_
          rw [stPos hDz]
          refine ⟨_, rfl, _, rfl, _, _, rfl, rfl, _, _, rfl, rfl, rfl, _, rfl, ?_⟩
          have ec : V.int (cSteps (fireC y v)) = V.int (cSteps x - (i : Int) - 1) := congrArg V.int (by omega)
          rw [decide_eq_true ec]
          refine iteF ?_
          refine ⟨_, rfl, ?_⟩
          dsimp only [tNil, tCons, tC]
          change spCycleEnd [V.ref q'] G2 _ _
          refine toEnd (g2 _ _ hq') (by omega) (by omega) bigz fun w' G3 g3 hw => ?_
          obtain ⟨r', rfl, hr'⟩ : ∃ r', w' = .ref r' ∧ G3 r' = some (.lst ((cEnd x).map V.int)) := by
            rcases hw with ⟨z, _⟩ | ⟨r', e, h1, h2, h3⟩
            · rw [endPos hDz] at z
              cases z
            · rw [endPos hDz, f4, ey] at h1
              cases h1
              exact ⟨r', h2, h3⟩
          refine ⟨_, rfl, posD (cEnd x), posD (cEnd x), .lst (SqL.of hr') (dpInts _), .lst (SqL.of ((g2.trans g3) _ _ hqG)) (dpInts _), shapedInts _, shapedInts _, _, rfl, ?_⟩
          rw [eqvInts, decide_eq_true rfl]
          exact iteF ⟨q', fireC y v, some (.int (i : Int)), some (.ref L), o11, rfl, fin _ (g2.trans g3)⟩
        · rw [decide_eq_false c12]
          exact iteF ⟨q', fireC y v, some (.int (i : Int)), some (.ref L), o11, rfl, fin _ (Same.refl _)⟩
      · obtain ⟨h, y, o9, o10, o11, rfl, sx, hpi, hqi, hhp, hh, ly, sy, cy, ey⟩ := hst
        have cy' : cSteps y = cSteps x - (τ : Int) := by
          rw [cy]
          congr 1
        have hDy : 0 < y.sum := by omega
        refine ⟨_, rfl, _, rfl, _, _, rfl, rfl, _, rfl, ?_⟩
        by_cases cl : C7 < cSteps x
        · rw [decide_eq_true cl]
          exact iteT (k _ sx hpi)
        · rw [decide_eq_false cl]
          have c0y := stepsNonneg y
          have done := endedCyc (stepsDone (by omega) hDy (by omega)) hDy
          have eyx : y = cEnd x := by rw [← ey, done.2]
          refine iteF ?_
          refine ⟨_, rfl, _, rfl, posD y, posD (cEnd x), .lst (SqL.of hh) (dpInts _), .lst (SqL.of hqi) (dpInts _), shapedInts _, shapedInts _, ?_⟩
          rw [eqvInts, decide_eq_true eyx]
          exact k _ sx hpi
end

end K21

set_option Elab.async false
set_option linter.all false
set_option maxRecDepth 100000
set_option maxHeartbeats 8000000
namespace K21
open PySem PySem.Spec PyProof.Rows L2 FNX
/-! ## law -/
theorem toldHeadT {K : PySem.W.Frag} {C : Addr} {w : Str} {r : List (Addr × Str)} {v : V} {d : PyData} {H : Hp} {Q : VK} (x : PySem.W.exmOne K (.ref C) (.ref C) = some true) (hd : ∀ H', Same H H' → Rd K H' v d)
    (sh : d.showable = true ∧ d.depth ≤ 60 ∧ d.shown.length ≤ sizeLine) (k : ∀ H', Same H H' → Q (.str d.shown) H') : told C v H (wErr K mkText Q ((C, w) :: r)) :=
  fun H' dd s _ hx => ⟨true, x, fun _ => ⟨rfl, dd, v, d, rfl, hx, hd H' s, sh.1, sh.2.1, sh.2.2, k H' s⟩, (fun z => nomatch z)⟩
theorem dpAllApp {K : PySem.W.Frag} {H : Hp} : ∀ {xs ys : List V} {ds es : List PyData}, DpAll K H xs ds → DpAll K H ys es → DpAll K H (xs ++ ys) (ds ++ es)
  | [], _, _, _, h, g => by
    cases h
    exact g
  | _ :: _, _, _, _, h, g => by
    cases h with
    | cons a b => exact .cons a (dpAllApp b g)
theorem repC (c : Int) (n : Nat) : (List.replicate n [V.int c]).flatten = (List.replicate n c).map V.int := by
  induction n with
  | zero => rfl
  | succ n ih =>
    rw [List.replicate_succ, List.flatten_cons, ih, List.replicate_succ, List.map_cons]
    rfl
theorem cutLast (x : List Int) (h : 1 ≤ x.length) : cutL x none (some (-1)) = x.dropLast := by
  unfold cutL
  rw [HT.sIx_none, List.drop_zero, Nat.sub_zero, List.dropLast_eq_take]
  congr 1
  show (if (-1 : Int) < 0 then ((-1 : Int) + (x.length : Int)).toNat else min (-1 : Int).toNat x.length) = _
  rw [if_pos (by decide)]
  omega
theorem cutTwo (x : List Int) (h : 2 ≤ x.length) : cutL x none (some 2) = x.take 2 := cut_to x 2 h
def longL : List Int := List.replicate 100 1 ++ List.replicate 99 (-1) ++ [5]
theorem longLen : longL.length = 200 := by decide +kernel
theorem longSum : longL.sum = 6 := by decide +kernel
theorem longBd : ∀ v ∈ longL ++ [0], v.natAbs ≤ 5 := by decide +kernel
theorem dropBd {C : Nat} {x : List Int} (h : ∀ v ∈ x, v.natAbs ≤ C) : (x.dropLast).sum.natAbs ≤ x.length * C := by
  have h1 := sumAbs (x.dropLast) fun v hv => h v ((List.dropLast_sublist x).subset hv)
  have h2 : (x.dropLast).length ≤ x.length := by
    rw [List.length_dropLast]
    omega
  exact Nat.le_trans h1 (Nat.mul_le_mul_right _ h2)
def RowOk (x : List Int) : Prop := 3 ≤ x.length ∧ x.length ≤ 31 ∧ ∀ v ∈ x, v.natAbs ≤ 10 ^ 40
theorem rowOkLast {C : Nat} {x : List Int} {t : Int} (l1 : 3 ≤ x.length) (l2 : x.length ≤ 31) (h : ∀ v ∈ x, v.natAbs ≤ C) (hC : C ≤ 10 ^ 40) (ht : t.natAbs ≤ 10 ^ 40) : RowOk (x.dropLast ++ [t]) := by
  refine ⟨?_, ?_, fun v hv => ?_⟩
  · rw [List.length_append, List.length_dropLast, List.length_singleton]
    omega
  · rw [List.length_append, List.length_dropLast, List.length_singleton]
    omega
  · rcases List.mem_append.mp hv with hv | hv
    · exact Nat.le_trans (h v ((List.dropLast_sublist x).subset hv)) hC
    · rw [List.mem_singleton.mp hv]
      exact ht
section
variable {P : Program} {w : World} {K : PySem.W.Frag} {mg : Str → Option Value} {base : Heap} {CP : Addr}
theorem sc_law : FnScope ["_law_script", "_law_k", "_law_pool_here", "_law_many", "_law_row", "_law_small", "_law_rows", "_law_one", "_law_bad", "_law_long", "_law_node"] ["_law_script"] (defScope s_law) := ⟨rfl, rfl, rfl, by decide +kernel, rfl, by decide +kernel, by decide +kernel⟩
theorem ok_law {f fE c Pt : Addr} {fd fdE : FuncData} (F : FunC K "law" "law" s_law f fd c) (M : Nms mg) (n_sum : mg "sum" = none) (TB : LamX.TabB base mg c Pt)
    (FE : Fun K "_law_error" "_law_error" s__law_error fE fdE) (mE : mg "_law_error" = some (.ref fE)) (bE : L2.Binds K fdE ["_law_door"] [])
    (E0 : Ex P w K mg base "InvalidPosition" CP) (x00 : PySem.W.exmOne K (.ref CP) (.ref CP) = some true)
    (GP : At P w K mg base CX0 1 "_law_pool" ["_law_script", "_law_k"] (spPool K))
    (GT : At P w K mg base CX0 1 "_law_take" ["_law_pool_here", "_law_sides"] spTake)
    (GS : At P w K mg base CX0 3 "_law_numbers" ["_law_pool_here", "_law_many"] spNumbers)
    (GA : At P w K mg base CX0 4 "cycle_steps" ["numbers"] spCycleSteps) (GB : At P w K mg base CX0 4 "cycle_end" ["numbers"] spCycleEnd)
    (GAX : At P w K mg base (L2.CX P w) 4 "cycle_steps" ["numbers"] (spRefC K CP)) (GBX : At P w K mg base (L2.CX P w) 4 "cycle_end" ["numbers"] (spRefC K CP))
    (GC : At P w K mg base CX0 1 "_law_count" ["_law_row"] spCount) (GZ : At P w K mg base CX0 5 "_law_zeros" ["_law_many"] spZeros)
    (GR : AtG P w K mg base 5 "_law_right" ["_law_pool_here", "_law_row"] spRightC) :
    GOk P w K mg base 10 f fd ["_law_script"] (spLawT K [(c, Pt)]) := by
  obtain ⟨fP, fdP, GP, mP, kP, bP⟩ := GP
  obtain ⟨fT, fdT, GT, mT, kT, bT⟩ := GT
  obtain ⟨fS, fdS, GS, mS, kS, bS⟩ := GS
  obtain ⟨fA, fdA, GA, mA, kA, bA⟩ := GA
  obtain ⟨fB, fdB, GB, mB, kB, bB⟩ := GB
  obtain ⟨fAX, fdAX, GAX, mAX, kAX, bAX⟩ := GAX
  obtain ⟨fBX, fdBX, GBX, mBX, kBX, bBX⟩ := GBX
  obtain ⟨fC, fdC, GC, mC, kC, bC⟩ := GC
  obtain ⟨fZ, fdZ, GZ, mZ, kZ, bZ⟩ := GZ
  obtain ⟨fR, fdR, GR, mR, kR, bR⟩ := GR
  refine okGC F sc_law (fun vs H Q E h => ?_) (fun A outer s H vs Q E hgd hr9 h => ?_)
  · obtain ⟨a, ns, rfl, _⟩ := h
    rfl
  · obtain ⟨a, ns, rfl, hS, hlen, hT0, kont⟩ := h
    have nd := sc_law.nd
    have hr := hr9
    have hr1 : Room 1 _ := hr.mono (by decide)
    have hr2 : Room 2 _ := hr.mono (by decide)
    have hr3 : Room 3 _ := hr.mono (by decide)
    have hr4 : Room 4 _ := hr.mono (by decide)
    have hr5 : Room 5 _ := hr.mono (by decide)
    have hu64 : A.units + 3 + 64 < cLine := hr.units
    refine ⟨_, (pss_cons (ps_for PassesOwn.never rfl (pi_range1 rfl M.range (pa_cons (pe_callB (call_max2 rfl) (by rfl) M.max boot_max1 (pa_cons pe_int (pa_cons (pe_callB (call_min2 rfl) (by rfl) M.min boot_min1 (pa_cons (pe_callB call_len_seq (by rfl) M.len boot_len1 (pa_cons (pv 0) pa_nil)) (pa_cons pe_int pa_nil))) pa_nil))) pa_nil)) (pg_name (i := 1) nd rfl (Or.inl rfl)) (pss_cons (ps_set (i := 2) nd rfl (Or.inr rfl) (pe_call GP hr1 (by rfl) mP kP bP .nil pass0 (pa_cons (pv 0) (pa_cons (pv 1) pa_nil))))
      (pss_cons (ps_set (i := 3) nd rfl (Or.inl rfl) (pe_op op_add pe_int (pe_call GT hr1 (by rfl) mT kT bT .nil pass0 (pa_cons (pv 2) (pa_cons (pe_ix (r := rIxL K) ix_list (pe_lst (pa_cons pe_int (pa_cons pe_int pa_nil))) (pe_call GT hr1 (by rfl) mT kT bT .nil pass0 (pa_cons (pv 2) (pa_cons pe_int pa_nil))) (fun _ _ => rfl)) pa_nil)))))
      (pss_cons (ps_if (pt_not (pt_val (pe_call GZ hr5 (by rfl) mZ kZ bZ .nil pass0 (pa_cons (pv 3) pa_nil)))) (pss_one (ps_ret pe_bl)) pss_nil)
      (pss_cons (ps_set (i := 4) nd rfl (Or.inl rfl) (pe_call GS hr3 (by rfl) mS kS bS .nil pass0 (pa_cons (pv 2) (pa_cons (pv 3) pa_nil))))
      (pss_cons (ps_setLc (i := 5) (own := [("_law_node", 10)]) (g := gName 10) (tt := tYes) (by rfl) nd rfl rfl (sw_true rfl rfl rfl (by decide +kernel)) (pi_range1 rfl M.range (pa_cons (pv 3) pa_nil)) (blkOk_by (own := [("_law_node", 10)]) (N := ["_law_script", "_law_k", "_law_pool_here", "_law_many", "_law_row", "_law_small", "_law_rows", "_law_one", "_law_bad", "_law_long", "_law_node"]) (sc := defScope s_law) (by decide +kernel)) (fun _ _ _ _ _ => pg_name (i := 10) nd rfl (Or.inl rfl)) (fun _ _ _ _ _ => pts_nil) (fun _ _ _ _ _ => (pe_op op_sub (pe_call GT hr1 (by rfl) mT kT bT .nil pass0 (pa_cons (pv 2) (pa_cons pe_int pa_nil))) pe_int)))
      (pss_cons (ps_set (i := 6) nd rfl (Or.inl rfl) (pe_lst (pa_cons (pv 4) (pa_cons (pv 5) (pa_cons (pe_op op_rep (pe_lst (pa_cons pe_int pa_nil)) (pv 3)) (pa_cons (pe_op op_cat (pe_slice sl_list (pv 4) po_none (po_some (pe_un un_neg pe_int))) (pe_lst (pa_cons (pe_op op_sub pe_int (pe_callB (show CallR _ (.builtin "sum") (rSum K) from cr_sum rfl) (by rfl) n_sum boot_sum1 (pa_cons (pe_slice sl_list (pv 4) po_none (po_some (pe_un un_neg pe_int))) pa_nil))) pa_nil))) (pa_cons (pe_op op_cat (pe_slice sl_list (pv 4) po_none (po_some (pe_un un_neg pe_int))) (pe_lst (pa_cons (pe_op op_sub pe_int (pe_callB (show CallR _ (.builtin "sum") (rSum K) from cr_sum rfl) (by rfl) n_sum boot_sum1 (pa_cons (pe_slice sl_list (pv 4) po_none (po_some (pe_un un_neg pe_int))) pa_nil))) pa_nil))) pa_nil)))))))
      (pss_cons (ps_expr (pe_bm PySem.F.plainAttrs_list PySem.F.slot_list_append PySem.F.type_list_append mt_append (pv 6) (pa_cons (pe_op op_cat (pe_slice sl_list (pv 5) po_none (po_some (pe_un un_neg pe_int))) (pe_lst (pa_cons (pe_op op_sub (pe_op op_add pe_int (pe_call GT hr1 (by rfl) mT kT bT .nil pass0 (pa_cons (pv 2) (pa_cons pe_int pa_nil)))) (pe_callB (show CallR _ (.builtin "sum") (rSum K) from cr_sum rfl) (by rfl) n_sum boot_sum1 (pa_cons (pe_slice sl_list (pv 5) po_none (po_some (pe_un un_neg pe_int))) pa_nil))) pa_nil))) pa_nil)))
      (pss_cons (ps_for PassesOwn.never rfl (pi_list (pv 6)) (pg_name (i := 7) nd rfl (Or.inl rfl)) (pss_one (ps_if (pt_not (pt_val (pe_callG hgd GR hr5 (by rfl) mR kR bR pass0 (pa_cons (pv 2) (pa_cons (pv 7) pa_nil))))) (pss_one (ps_ret pe_bl)) pss_nil)))
      (pss_one (ps_for PassesOwn.never rfl (pi_list (pe_lst (pa_cons pe_non (pa_cons (pe_lst pa_nil) (pa_cons (pe_slice sl_list (pv 4) po_none (po_some pe_int)) (pa_cons (pe_callTy call_tuple_of (by rfl) M.tuple (by decide +kernel) (pa_cons (pv 4) pa_nil)) (pa_cons pe_dnewK (pa_cons (pe_op op_cat (pv 4) (pe_lst (pa_cons pe_bl pa_nil))) (pa_cons (pe_op op_cat (pv 4) (pe_lst (pa_cons pe_str pa_nil))) (pa_cons pe_str pa_nil)))))))))) (pg_name (i := 8) nd rfl (Or.inr rfl)) (pss_cons (ps_if (pt_cmpR op_ne (pe_door (T := lamT Pt) (TT := TErrK K mkText [(CP, "position")]) (by rfl) mE FE bE sc_error (Or.inl rfl) (fun cdg => err_gives hgd hr2 M.repr E0) TB rfl (List.mem_singleton.mpr rfl)
              (fun p hp _ => by rw [List.mem_singleton.mp hp]; rfl) hr9 (show LamX.LamS (defScope s_law) _ from LamX.lamS_by (by decide +kernel)) rfl (fun _ _ _ _ _ => rfl)
              (fun A outer s H E f c' hr => (pe_call GAX (hr.mono (by decide)) (by rfl) mAX kAX bAX .nil (passes_call (E := E) (takes_of rfl rfl rfl rfl) (fun _ _ _ _ h => h)) (pa_cons (pv 8) pa_nil)))) (pe_callB (show CallR _ (.builtin "repr") (rRepr K) from call_repr hgd hr.units) (by rfl) M.repr boot_repr1 (pa_cons (pv 8) pa_nil)) (nomark _)) (pss_one (ps_ret pe_bl)) pss_nil)
      (pss_one (ps_if (pt_cmpR op_ne (pe_door (T := lamT Pt) (TT := TErrK K mkText [(CP, "position")]) (by rfl) mE FE bE sc_error (Or.inl rfl) (fun cdg => err_gives hgd hr2 M.repr E0) TB rfl (List.mem_singleton.mpr rfl)
              (fun p hp _ => by rw [List.mem_singleton.mp hp]; rfl) hr9 (show LamX.LamS (defScope s_law) _ from LamX.lamS_by (by decide +kernel)) rfl (fun _ _ _ _ _ => rfl)
              (fun A outer s H E f c' hr => (pe_call GBX (hr.mono (by decide)) (by rfl) mBX kBX bBX .nil (passes_call (E := E) (takes_of rfl rfl rfl rfl) (fun _ _ _ _ h => h)) (pa_cons (pv 8) pa_nil)))) (pe_callB (show CallR _ (.builtin "repr") (rRepr K) from call_repr hgd hr.units) (by rfl) M.repr boot_repr1 (pa_cons (pv 8) pa_nil)) (nomark _)) (pss_one (ps_ret pe_bl)) pss_nil))))))))))))))
      (pss_cons (ps_set (i := 9) nd rfl (Or.inr rfl) (pe_op op_cat (pe_op op_cat (pe_op op_rep (pe_lst (pa_cons pe_int pa_nil)) pe_int) (pe_op op_rep (pe_lst (pa_cons (pe_un un_neg pe_int) pa_nil)) pe_int)) (pe_lst (pa_cons pe_int pa_nil))))
      (pss_cons (ps_if (PW.pt (pw_or (pt_cmpR op_ne (pe_call GA hr4 (by rfl) mA kA bA .nil pass0 (pa_cons (pv 9) pa_nil)) (pe_call GC hr1 (by rfl) mC kC bC .nil pass0 (pa_cons (pv 9) pa_nil)) (nomark _)) (pw_or1 (pt_cmpR op_ne (pe_door (T := lamT Pt) (TT := TErrK K mkText [(CP, "position")]) (by rfl) mE FE bE sc_error (Or.inl rfl) (fun cdg => err_gives hgd hr2 M.repr E0) TB rfl (List.mem_singleton.mpr rfl)
              (fun p hp _ => by rw [List.mem_singleton.mp hp]; rfl) hr9 (show LamX.LamS (defScope s_law) _ from LamX.lamS_by (by decide +kernel)) rfl (fun _ _ _ _ _ => rfl)
              (fun A outer s H E f c' hr => (pe_call GAX (hr.mono (by decide)) (by rfl) mAX kAX bAX .nil (passes_call (E := E) (takes_of rfl rfl rfl rfl) (fun _ _ _ _ h => h)) (pa_cons (pe_op op_cat (pv 9) (pe_lst (pa_cons pe_int pa_nil))) pa_nil)))) (pe_callB (show CallR _ (.builtin "repr") (rRepr K) from call_repr hgd hr.units) (by rfl) M.repr boot_repr1 (pa_cons (pe_op op_cat (pv 9) (pe_lst (pa_cons pe_int pa_nil))) pa_nil)) (nomark _))))) (pss_one (ps_ret pe_bl)) pss_nil)
      (pss_one (ps_ret (pe_and (pe_cmpR op_eq (pe_callB (show CallR _ (.builtin "sum") (rSum K) from cr_sum rfl) (by rfl) n_sum boot_sum1 (pa_cons (pe_call GB hr4 (by rfl) mB kB bB .nil pass0 (pa_cons (pv 9) pa_nil)) pa_nil)) pe_int (nomark _)) (pe_one (pe_cmpR op_ge (pe_callB (show CallR _ (.builtin "min") (rMin K) from cr_min rfl) (by rfl) M.min boot_min1 (pa_cons (pe_call GB hr4 (by rfl) mB kB bB .nil pass0 (pa_cons (pv 9) pa_nil)) pa_nil)) pe_int (nomark _))))))))), ?_⟩
    have bnd : ∀ l : Nat, 1 ≤ (if (if (5 : Int) < (l : Int) then (5 : Int) else (l : Int)) > 1 then (if (5 : Int) < (l : Int) then (5 : Int) else (l : Int)) else 1) ∧
        (if (if (5 : Int) < (l : Int) then (5 : Int) else (l : Int)) > 1 then (if (5 : Int) < (l : Int) then (5 : Int) else (l : Int)) else 1) ≤ 5 := fun l => by
      split <;> split <;> omega
    have bl := bnd (ns.map V.int).length
    have lenP : ∀ z : List Int, z.length ≤ 1000 → lenD (posD z) ≤ 100000 := fun z hz => by
      show (z.map PyData.int).length ≤ 100000
      rw [List.length_map]
      omega
    refine ⟨_, rfl, a, _, rfl, .inl hS, _, _, rfl, _, _, rfl, _, rfl, by omega, by omega, for_range (lo := 0) (fun i σ H' => ∃ v1 v2 v3 v4 v5 v6 v7 v8 v10 : Option V,
      σ = [some (.ref a), v1, v2, v3, v4, v5, v6, v7, v8, none, v10] ∧ SqL K H' a (ns.map V.int) ∧ LamX.Tabs (lamT Pt) H') ⟨none, none, none, none, none, none, none, none, none, rfl, hS, tabs0 hT0⟩ ?_ ?_⟩
    case refine_2 =>
      rintro σ H0 ⟨v1, v2, v3, v4, v5, v6, v7, v8, v10, rfl, hS0, tb⟩
      refine ⟨by show 1 ≤ sizeLine; decide, fun y1 ny1 => ?_⟩
      obtain ⟨H1, q1, s1, h1⟩ := newAt (.lst [V.int 1]) ny1
      rw [q1]
      refine ⟨y1, 100, _, rfl, rfl, h1, by decide, by decide, by rw [sizeLine_eq]; decide, fun A1 nA1 => ?_⟩
      rw [show (List.replicate ((100 : Int).toNat) [V.int 1]).flatten = (List.replicate 100 (1 : Int)).map V.int from repC 1 100]
      obtain ⟨H2, q2, s2, h2⟩ := newAt (.lst ((List.replicate 100 (1 : Int)).map V.int)) nA1
      rw [q2]
      refine ⟨_, rfl, by show 1 ≤ sizeLine; decide, fun y2 ny2 => ?_⟩
      obtain ⟨H3, q3, s3, h3⟩ := newAt (.lst [V.int (-1)]) ny2
      rw [q3]
      refine ⟨y2, 99, _, rfl, rfl, h3, by decide, by decide, by rw [sizeLine_eq]; decide, fun A2 nA2 => ?_⟩
      rw [show (List.replicate ((99 : Int).toNat) [V.int (-1)]).flatten = (List.replicate 99 (-1 : Int)).map V.int from repC (-1) 99]
      obtain ⟨H4, q4, s4, h4⟩ := newAt (.lst ((List.replicate 99 (-1 : Int)).map V.int)) nA2
      rw [q4]
      refine ⟨A1, A2, _, _, rfl, rfl, s4 _ _ (s3 _ _ h2), h4, by rw [List.length_map, List.length_map, List.length_replicate, List.length_replicate, sizeLine_eq]; decide, fun A3 nA3 => ?_⟩
      rw [← List.map_append]
      obtain ⟨H5, q5, s5, h5⟩ := newAt (.lst ((List.replicate 100 (1 : Int) ++ List.replicate 99 (-1 : Int)).map V.int)) nA3
      rw [q5]
      refine ⟨by show 1 ≤ sizeLine; decide, fun y3 ny3 => ?_⟩
      obtain ⟨H6, q6, s6, h6⟩ := newAt (.lst [V.int 5]) ny3
      rw [q6]
      refine ⟨A3, y3, _, _, rfl, rfl, s6 _ _ h5, h6, by rw [List.length_map, List.length_append, List.length_replicate, List.length_replicate, sizeLine_eq]; decide, fun L nL => ?_⟩
      rw [show ((List.replicate 100 (1 : Int) ++ List.replicate 99 (-1 : Int)).map V.int ++ [V.int 5]) = longL.map V.int from by unfold longL; rw [List.map_append]; rfl]
      obtain ⟨H7, q7, s7, h7⟩ := newAt (.lst (longL.map V.int)) nL
      rw [q7]
      have m7 := s1.trans (s2.trans (s3.trans (s4.trans (s5.trans (s6.trans s7)))))
      have c1 : 3 ≤ longL.length := by rw [longLen]; decide
      have c2 : longL.length ≤ 200 := by rw [longLen]; decide
      have c3 : 0 < longL.sum := by rw [longSum]; decide
      have c4 : longL.sum.natAbs < 2 ^ 2000 := by rw [longSum]; decide +kernel
      refine ⟨_, rfl, ?_⟩
      dsimp only [tNil, tCons, tC]
      change spCycleSteps [V.ref L] H7 _ _
      refine toSt h7 c1 c2 c4 fun H8 s8 => ?_
      rw [stPos c3]
      refine ⟨_, rfl, L, longL, rfl, s8 _ _ h7, c1, c2, c3, c4, fun H9 s9 => ?_⟩
      rw [lawCount c3]
      refine ⟨rfl, _, rfl, ?_⟩
      rw [decide_eq_true rfl]
      refine iteF ?_
      have m9 := m7.trans (s8.trans s9)
      have hL9 := (s8.trans s9) _ _ h7
      have tb9 := Same.tabs m9 tb
      have shB : Shw 1 63002 (posD (longL ++ [0])) := shwBigs (fun v hv => Nat.le_trans (longBd v hv) (by decide +kernel)) (by rw [List.length_append, longLen]; decide)
      obtain ⟨sB1, sB2, sB3⟩ := shwLine shB (by decide) (by decide)
      have lB : (longL ++ [0]).length = 201 := by rw [List.length_append, longLen]; rfl
      have lBn : (longL.map V.int).length + 1 ≤ sizeLine := by rw [List.length_map, longLen, sizeLine_eq]; decide
      refine ⟨tb9, fun D1 xt1 tb1 => ?_⟩
      have hL1 := xt1 _ _ hL9 (fun _ c => by cases c)
      refine ⟨_, rfl, by show 1 ≤ sizeLine; decide, fun z3 nz3 => ?_⟩
      obtain ⟨E1, r1, e1, g1⟩ := newAt (.lst [V.int 0]) nz3
      rw [r1]
      refine ⟨L, z3, _, _, rfl, rfl, e1 _ _ hL1, g1, lBn, fun R3 nR3 => ?_⟩
      obtain ⟨E2, r2, e2, g2⟩ := newAt (.lst ((longL ++ [0]).map V.int)) nR3
      rw [show (longL.map V.int ++ [V.int 0]) = (longL ++ [0]).map V.int from by rw [List.map_append]; rfl, r2]
      dsimp only [tNil, tCons, tC]
      change spRefC K CP [V.ref R3] E2 _ _
      refine ⟨.ref R3, posD (longL ++ [0]), rfl, .dat (.lst (SqL.of g2) (dpInts _)), lenP _ (by rw [lB]; decide), ?_, toldHeadT (d := posD (longL ++ [0])) x00 (fun H3 s3 => .dat (.lst (SqL.of (s3 _ _ g2)) (dpInts _))) ⟨sB1, sB2, sB3⟩ (fun D2 sp2 => ?_)⟩
      · show (decide (3 ≤ ((longL ++ [0]).map PyData.int).length) && decide (((longL ++ [0]).map PyData.int).length ≤ 200) && ((longL ++ [0]).map PyData.int).all isI) = false
        rw [show (List.map PyData.int (longL ++ [0])).length = 201 from (by rw [List.length_map, lB])]
        rfl
      have sD2 := e1.trans (e2.trans sp2)
      refine ⟨_, rfl, by show 1 ≤ sizeLine; decide, fun z4 nz4 => ?_⟩
      obtain ⟨E3, r3, e3, g3⟩ := newAt (.lst [V.int 0]) nz4
      rw [r3]
      refine ⟨L, z4, _, _, rfl, rfl, e3 _ _ (sD2 _ _ hL1), g3, lBn, fun R4 nR4 => ?_⟩
      obtain ⟨E4, r4, e4, g4⟩ := newAt (.lst ((longL ++ [0]).map V.int)) nR4
      rw [show (longL.map V.int ++ [V.int 0]) = (longL ++ [0]).map V.int from by rw [List.map_append]; rfl, r4]
      have sE4 := sD2.trans (e3.trans e4)
      have hLE := sE4 _ _ hL1
      refine ⟨.ref R4, posD (longL ++ [0]), rfl, .dat (.lst (SqL.of g4) (dpInts _)), sB1, sB2, sB3, rfl, _, rfl, ?_⟩
      rw [decide_eq_true rfl]
      refine iteF ?_
      obtain ⟨f1, f2⟩ := endSum longL (fun z => by rw [z] at c1; simp at c1) c3
      have endAt : ∀ {v : V} {Hx : Hp}, EndV Hx longL v → ∃ q, v = .ref q ∧ Hx q = some (.lst ((cEnd longL).map V.int)) := fun {v Hx} hv => by
        rcases hv with ⟨z, _⟩ | ⟨q, e, h1, h2, h3⟩
        · rw [endPos c3] at z
          cases z
        · rw [endPos c3] at h1
          cases h1
          exact ⟨q, h2, h3⟩
      refine ⟨_, rfl, ?_⟩
      dsimp only [tNil, tCons, tC]
      change spCycleEnd [V.ref L] E4 _ _
      refine toEnd hLE c1 c2 c4 fun v1' E5 e5 hv1 => ?_
      obtain ⟨qa, rfl, hqa⟩ := endAt hv1
      refine ⟨qa, cEnd longL, rfl, SqL.of hqa, rfl, _, rfl, ?_⟩
      rw [f1, longSum, decide_eq_true rfl]
      refine iteT ?_
      refine ⟨_, rfl, ?_⟩
      dsimp only [tNil, tCons, tC]
      change spCycleEnd [V.ref L] E5 _ _
      refine toEnd (e5 _ _ hLE) c1 c2 c4 fun v2' E6 e6 hv2 => ?_
      obtain ⟨qb, rfl, hqb⟩ := endAt hv2
      have lqb := endLen longL
      refine ⟨qb, cEnd longL, rfl, SqL.of hqb, by omega, fun mn hm _ => ⟨_, _, rfl, rfl, ?_⟩⟩
      rw [show ((fun i j : Int => V.bl (decide (j ≤ i))) mn 0) = V.bl true from congrArg V.bl (decide_eq_true (f2 mn hm))]
      exact kont _
    rintro i σ H0 hi ⟨v1, v2, v3, v4, v5, v6, v7, v8, v10, rfl, hS0, hTab⟩
    have hi6 : i < 5 := by omega
    refine ⟨_, rfl, _, rfl, a, ns, (0 : Int) + i, rfl, hS0, by omega, by omega, fun p H1 np s1 hp1 => ?_⟩
    refine ⟨_, rfl, by show 2 ≤ sizeLine; decide, fun Ml nM => ?_⟩
    obtain ⟨H2, q2, s2, h2⟩ := newAt (.lst [V.int 6, V.int 28]) nM
    rw [q2]
    have hp2 := hp1.same s2
    have hMp : Ml ≠ p := (hp1.ne nM).symm
    refine ⟨_, rfl, p, 2, rfl, hp2, by decide, by decide, fun r2 H3 r20 r21 hp3 t3 => ?_⟩
    have h3 := (t3 Ml hMp).trans h2
    obtain ⟨sd, hsd, sd1, sd2⟩ : ∃ sd : Int, atI [V.int 6, V.int 28] r2 = some (V.int sd) ∧ 0 < sd ∧ sd ≤ 28 := by
      obtain rfl | rfl : r2 = 0 ∨ r2 = 1 := by omega
      · exact ⟨6, rfl, by decide, by decide⟩
      · exact ⟨28, rfl, by decide, by decide⟩
    refine ⟨Ml, _, r2, _, rfl, rfl, SqL.of h3, hsd, ?_⟩
    refine ⟨p, sd, rfl, hp3, sd1, by omega, fun r H4 r0 r1 hp4 t4 => ⟨_, _, rfl, rfl, ?_⟩⟩
    obtain ⟨n, hn⟩ : ∃ n : Nat, (3 : Int) + r = (n : Int) := ⟨(3 + r).toNat, by omega⟩
    rw [show ((fun i j : Int => V.int (i + j)) 3 r) = V.int (n : Int) from congrArg V.int hn]
    have n3 : 3 ≤ n := by omega
    have n30 : n ≤ 31 := by omega
    have sx4 : SameX p H0 H4 := ((Same.x s1).trans (Same.x s2)).trans ((sameX_take t3).trans (sameX_take t4))
    refine ⟨_, rfl, n, rfl, n3, by omega, fun H5 s5 => ⟨_, rfl, iteF ?_⟩⟩
    have hp5 := hp4.same s5
    have sx5 := sx4.trans (Same.x (p := p) s5)
    refine ⟨_, rfl, _, rfl, p, n, rfl, hp5, by omega, fun h H6 x nh s6 hp6 hx lx bx => ?_⟩
    have hhp : h ≠ p := (hp5.ne nh).symm
    refine ⟨_, rfl, n, rfl, by omega, by omega, fun D hD => ?_⟩
    have pD := hp6.ne hD
    refine lc_range (lo := 0) (n := n) (fun i H'' => SameX p H6 H'' ∧ PoolAt H'' p ∧ ∃ z : List Int, H'' D = some (.lst (z.map V.int)) ∧ z.length = i ∧ ∀ o ∈ z, o.natAbs ≤ 4)
      ⟨Same.x (same_upd hD), hp6.same (same_upd hD), [], upd_same, rfl, by simp⟩ (fun i H'' hi h => ?_) (fun G0 h => ?_)
    · obtain ⟨sx2, hpp2, z, e1, e2, e3⟩ := h
      refine ⟨rfl, ?_⟩
      refine ⟨_, rfl, p, 7, rfl, hpp2, by decide, by decide, fun r H2' r0 r1 hp2' t => ⟨_, _, rfl, rfl, ?_⟩⟩
      have hD2 : H2' D = some (.lst (z.map V.int)) := (t D pD.symm).trans e1
      refine ⟨_, hD2, by rw [List.length_map, e2, sizeLine_eq]; omega, fun b o hb e => ?_, ?_, z ++ [r - 3], by rw [upd_same, List.map_append]; rfl, by rw [List.length_append, e2]; rfl, fun o ho => ?_⟩
      · rw [upd_ne (ne_of_none e hD)]
        exact sameX_take t b o hb (sx2 b o hb e)
      · obtain ⟨c1, c2, w1, w2⟩ := hp2'
        exact ⟨c1, c2, by rw [upd_ne pD]; exact w1, w2⟩
      · rcases List.mem_append.mp ho with ho | ho
        · exact e3 o ho
        · rw [List.mem_singleton.mp ho]
          omega
    obtain ⟨sx7, hp7, z, hz, lz, bz⟩ := h
    have hxz := sx7 _ _ hhp hx
    have hDp : D ≠ p := pD.symm
    have sxG0 : SameX p H0 G0 := (sx5.trans s6).trans sx7
    have l3 : 3 ≤ x.length := by omega
    have l31 : x.length ≤ 31 := by omega
    have dl : x.dropLast.length = x.length - 1 := List.length_dropLast
    have dz : z.dropLast.length = z.length - 1 := List.length_dropLast
    refine ⟨_, rfl, _, rfl, by show 1 ≤ sizeLine; decide, fun y0 ny0 => ?_⟩
    obtain ⟨G1, q1, g1, k1⟩ := newAt (.lst [V.int 0]) ny0
    rw [q1]
    refine ⟨_, rfl, y0, n, _, rfl, rfl, k1, by omega, by omega, by show 1 * ((n : Int).toNat) ≤ sizeLine; rw [sizeLine_eq]; omega, fun R2 nR2 => ?_⟩
    rw [show (List.replicate ((n : Int).toNat) [V.int 0]).flatten = (List.replicate n (0 : Int)).map V.int from repZero n]
    obtain ⟨G2, q2, g2, k2⟩ := newAt (.lst ((List.replicate n (0 : Int)).map V.int)) nR2
    rw [q2]
    have m2 := g1.trans g2
    refine ⟨_, rfl, _, rfl, (-1 : Int), rfl, h, _, rfl, SqL.of (m2 _ _ hxz), fun C1 nC1 => ?_⟩
    rw [cut_map, cutLast _ (by omega)]
    obtain ⟨G3, q3, g3, k3⟩ := newAt (.lst (x.dropLast.map V.int)) nC1
    rw [q3]
    have m3 := m2.trans g3
    refine ⟨_, rfl, _, rfl, (-1 : Int), rfl, h, _, rfl, SqL.of (m3 _ _ hxz), fun C2 nC2 => ?_⟩
    rw [cut_map, cutLast _ (by omega)]
    obtain ⟨G4, q4, g4, k4⟩ := newAt (.lst (x.dropLast.map V.int)) nC2
    rw [q4]
    refine ⟨C2, x.dropLast, rfl, SqL.of k4, _, _, rfl, rfl, by show 1 ≤ sizeLine; decide, fun E1 nE1 => ?_⟩
    obtain ⟨t1, ht1⟩ : ∃ t1 : Int, 0 - x.dropLast.sum = t1 := ⟨_, rfl⟩
    rw [show ((fun i j : Int => V.int (i - j)) 0 x.dropLast.sum) = V.int t1 from congrArg V.int ht1]
    obtain ⟨G5, q5, g5, k5⟩ := newAt (.lst [V.int t1]) nE1
    rw [q5]
    refine ⟨C1, E1, _, _, rfl, rfl, g5 _ _ (g4 _ _ k3), k5, by rw [List.length_map, sizeLine_eq]; show x.dropLast.length + 1 ≤ _; omega, fun R3 nR3 => ?_⟩
    obtain ⟨G6, q6, g6, k6⟩ := newAt (.lst ((x.dropLast ++ [t1]).map V.int)) nR3
    rw [show (x.dropLast.map V.int ++ [V.int t1]) = (x.dropLast ++ [t1]).map V.int from by rw [List.map_append]; rfl, q6]
    have m6 := m3.trans (g4.trans (g5.trans g6))
    refine ⟨_, rfl, _, rfl, (-1 : Int), rfl, h, _, rfl, SqL.of (m6 _ _ hxz), fun C3 nC3 => ?_⟩
    rw [cut_map, cutLast _ (by omega)]
    obtain ⟨G7, q7, g7, k7⟩ := newAt (.lst (x.dropLast.map V.int)) nC3
    rw [q7]
    have m7 := m6.trans g7
    refine ⟨_, rfl, _, rfl, (-1 : Int), rfl, h, _, rfl, SqL.of (m7 _ _ hxz), fun C4 nC4 => ?_⟩
    rw [cut_map, cutLast _ (by omega)]
    obtain ⟨G8, q8, g8, k8⟩ := newAt (.lst (x.dropLast.map V.int)) nC4
    rw [q8]
    refine ⟨C4, x.dropLast, rfl, SqL.of k8, _, _, rfl, rfl, by show 1 ≤ sizeLine; decide, fun E2 nE2 => ?_⟩
    obtain ⟨t2, ht2⟩ : ∃ t2 : Int, 1 - x.dropLast.sum = t2 := ⟨_, rfl⟩
    rw [show ((fun i j : Int => V.int (i - j)) 1 x.dropLast.sum) = V.int t2 from congrArg V.int ht2]
    obtain ⟨G9, q9, g9, k9⟩ := newAt (.lst [V.int t2]) nE2
    rw [q9]
    refine ⟨C3, E2, _, _, rfl, rfl, g9 _ _ (g8 _ _ k7), k9, by rw [List.length_map, sizeLine_eq]; show x.dropLast.length + 1 ≤ _; omega, fun R4 nR4 => ?_⟩
    obtain ⟨G10, q10, g10, k10⟩ := newAt (.lst ((x.dropLast ++ [t2]).map V.int)) nR4
    rw [show (x.dropLast.map V.int ++ [V.int t2]) = (x.dropLast ++ [t2]).map V.int from by rw [List.map_append]; rfl, q10]
    have m10 := m7.trans (g8.trans (g9.trans g10))
    refine ⟨by show 5 ≤ sizeLine; decide, fun W nW => ?_⟩
    obtain ⟨G11, q11, g11, k11⟩ := newAt (.lst [V.ref h, V.ref D, V.ref R2, V.ref R3, V.ref R4]) nW
    rw [q11]
    have m11 := m10.trans g11
    have hp11 := hp7.same m11
    have hWp : W ≠ p := ((hp7.same m10).ne nW).symm
    refine ⟨_, rfl, .inl ⟨rfl, _, SqL.of k11⟩, ?_⟩
    refine ⟨_, rfl, _, rfl, (-1 : Int), rfl, D, _, rfl, SqL.of (m11 _ _ hz), fun C5 nC5 => ?_⟩
    rw [cut_map, cutLast _ (by omega)]
    obtain ⟨G12, q12, g12, k12⟩ := newAt (.lst (z.dropLast.map V.int)) nC5
    rw [q12]
    have hp12 := hp11.same g12
    have C5p : C5 ≠ p := (hp11.ne nC5).symm
    refine ⟨_, rfl, p, 9, rfl, hp12, by decide, by decide, fun r9 G13 r90 r91 hp13 t13 => ⟨_, _, rfl, rfl, ?_⟩⟩
    have sx13 : SameX p G0 G13 := ((Same.x m11).trans (Same.x g12)).trans (sameX_take t13)
    refine ⟨_, rfl, _, rfl, (-1 : Int), rfl, D, _, rfl, SqL.of (sx13 _ _ hDp hz), fun C6 nC6 => ?_⟩
    rw [cut_map, cutLast _ (by omega)]
    obtain ⟨G14, q14, g14, k14⟩ := newAt (.lst (z.dropLast.map V.int)) nC6
    rw [q14]
    refine ⟨C6, z.dropLast, rfl, SqL.of k14, _, _, rfl, rfl, by show 1 ≤ sizeLine; decide, fun E3 nE3 => ?_⟩
    obtain ⟨t3', ht3⟩ : ∃ t3' : Int, 1 + r9 - z.dropLast.sum = t3' := ⟨_, rfl⟩
    rw [show ((fun i j : Int => V.int (i - j)) (1 + r9) z.dropLast.sum) = V.int t3' from congrArg V.int ht3]
    obtain ⟨G15, q15, g15, k15⟩ := newAt (.lst [V.int t3']) nE3
    rw [q15]
    have k12' := (g14.trans g15) _ _ ((t13 C5 C5p).trans k12)
    refine ⟨C5, E3, _, _, rfl, rfl, k12', k15, by rw [List.length_map, sizeLine_eq]; show z.dropLast.length + 1 ≤ _; omega, fun R5 nR5 => ?_⟩
    obtain ⟨G16, q16, g16, k16⟩ := newAt (.lst ((z.dropLast ++ [t3']).map V.int)) nR5
    rw [show (z.dropLast.map V.int ++ [V.int t3']) = (z.dropLast ++ [t3']).map V.int from by rw [List.map_append]; rfl, q16]
    have m1316 := g14.trans (g15.trans g16)
    have hW16 : G16 W = some (.lst [V.ref h, V.ref D, V.ref R2, V.ref R3, V.ref R4]) := m1316 _ _ ((t13 W hWp).trans (g12 _ _ k11))
    have hp16 := hp13.same m1316
    have sx16 : SameX p G0 G16 := sx13.trans (Same.x m1316)
    refine ⟨W, _, _, rfl, rfl, hW16, by show 5 + 1 ≤ sizeLine; rw [sizeLine_eq]; decide, ?_⟩
    have nWG0 : G0 W = none := m10.free nW
    have e17 : ∀ b, b ≠ W → (upd G16 W (.lst ([V.ref h, V.ref D, V.ref R2, V.ref R3, V.ref R4] ++ [V.ref R5]))) b = G16 b := fun b hb => upd_ne hb
    have hW17 : (upd G16 W (.lst ([V.ref h, V.ref D, V.ref R2, V.ref R3, V.ref R4] ++ [V.ref R5]))) W = some (.lst [V.ref h, V.ref D, V.ref R2, V.ref R3, V.ref R4, V.ref R5]) := upd_same
    have hp17 : PoolAt (upd G16 W (.lst ([V.ref h, V.ref D, V.ref R2, V.ref R3, V.ref R4] ++ [V.ref R5]))) p := by
      obtain ⟨c1, c2, w1, w2⟩ := hp16
      exact ⟨c1, c2, by rw [upd_ne (Ne.symm hWp)]; exact w1, w2⟩
    have sx17 : SameX p G0 (upd G16 W (.lst ([V.ref h, V.ref D, V.ref R2, V.ref R3, V.ref R4] ++ [V.ref R5]))) := fun b o hb e => by
      rw [upd_ne (ne_of_none e nWG0)]
      exact sx16 b o hb e
    have at16 : ∀ {b : Addr} {o : HO}, b ≠ p → G10 b = some o → (upd G16 W (.lst ([V.ref h, V.ref D, V.ref R2, V.ref R3, V.ref R4] ++ [V.ref R5]))) b = some o := fun {b o} hb e => by
      rw [upd_ne (ne_of_none e nW)]
      exact m1316 _ _ ((t13 b hb).trans (g12 _ _ (g11 _ _ e)))
    have f2 := at16 ((hp7.same g1).ne nR2).symm ((g3.trans (g4.trans (g5.trans (g6.trans (g7.trans (g8.trans (g9.trans g10))))))) _ _ k2)
    have f3 := at16 ((hp7.same (m3.trans (g4.trans g5))).ne nR3).symm ((g7.trans (g8.trans (g9.trans g10))) _ _ k6)
    have f4 := at16 ((hp7.same (m7.trans (g8.trans g9))).ne nR4).symm k10
    have f0 := sx17 _ _ hhp hxz
    have f1 := sx17 _ _ hDp hz
    have R5W : R5 ≠ W := Ne.symm (ne_of_none ((g14.trans g15) _ _ ((t13 W hWp).trans (g12 _ _ k11))) nR5)
    have f5 : (upd G16 W (.lst ([V.ref h, V.ref D, V.ref R2, V.ref R3, V.ref R4] ++ [V.ref R5]))) R5 = some (.lst ((z.dropLast ++ [t3']).map V.int)) := (e17 R5 R5W).trans k16
    have R5p : R5 ≠ p := ((hp13.same (g14.trans g15)).ne nR5).symm
    generalize (upd G16 W (.lst ([V.ref h, V.ref D, V.ref R2, V.ref R3, V.ref R4] ++ [V.ref R5]))) = G17 at hW17 hp17 sx17 f0 f1 f2 f3 f4 f5 ⊢
    have dB := dropBd bx
    have dB' : x.length * 100000000000000000000000000000000000000 ≤ 31 * 100000000000000000000000000000000000000 := Nat.mul_le_mul_right _ l31
    have zB := dropBd bz
    have zB' : z.length * 4 ≤ 31 * 4 := Nat.mul_le_mul_right _ (by omega)
    have b40 : (100000000000000000000000000000000000000 : Nat) ≤ 10 ^ 40 := by decide +kernel
    have b41 : 31 * (100000000000000000000000000000000000000 : Nat) + 1 ≤ 10 ^ 40 := by decide +kernel
    have b42 : (1000 : Nat) ≤ 10 ^ 40 := by decide +kernel
    have rowsOK : ∀ j y, [V.ref h, V.ref D, V.ref R2, V.ref R3, V.ref R4, V.ref R5][j]? = some y → ∃ b u, y = V.ref b ∧ G17 b = some (.lst (u.map V.int)) ∧ b ≠ p ∧ RowOk u := fun j y hj => by
      have hlt : j < 6 := (List.getElem?_eq_some_iff.mp hj).1
      obtain rfl | rfl | rfl | rfl | rfl | rfl : j = 0 ∨ j = 1 ∨ j = 2 ∨ j = 3 ∨ j = 4 ∨ j = 5 := by omega
      · exact ⟨h, x, (Option.some.inj hj).symm, f0, hhp, l3, l31, fun v hv => Nat.le_trans (bx v hv) b40⟩
      · exact ⟨D, z, (Option.some.inj hj).symm, f1, hDp, by omega, by omega, fun v hv => by have := bz v hv; omega⟩
      · exact ⟨R2, List.replicate n 0, (Option.some.inj hj).symm, f2, ((hp7.same g1).ne nR2).symm, by rw [List.length_replicate]; omega, by rw [List.length_replicate]; omega, fun v hv => by rw [(List.mem_replicate.mp hv).2]; decide +kernel⟩
      · exact ⟨R3, _, (Option.some.inj hj).symm, f3, ((hp7.same (m3.trans (g4.trans g5))).ne nR3).symm, rowOkLast l3 l31 bx b40 (by omega)⟩
      · exact ⟨R4, _, (Option.some.inj hj).symm, f4, ((hp7.same (m7.trans (g8.trans g9))).ne nR4).symm, rowOkLast l3 l31 bx b40 (by omega)⟩
      · exact ⟨R5, _, (Option.some.inj hj).symm, f5, R5p, rowOkLast (by omega) (by omega) bz (by omega) (by omega)⟩
    have sx017 : SameX p H0 G17 := sxG0.trans sx17
    clear sx17 sx16 f1 f2 f3 f4 f5 at16 e17
    refine ⟨_, rfl, W, rfl, ⟨_, SqL.of hW17⟩, for_list (K := K) (a := W) (xs := [V.ref h, V.ref D, V.ref R2, V.ref R3, V.ref R4, V.ref R5]) (fun j σ H' => ∃ o7 : Option V,
        σ = [some (.ref a), some (.int (0 + i)), some (.ref p), some (.int (n : Int)), some (.ref h), some (.ref D), some (.ref W), o7, v8, none, v10] ∧ SameX p G17 H' ∧ PoolAt H' p)
      ⟨v7, rfl, SameX.refl, hp17⟩ (fun j σ H' _ h => ?_) (fun j y σ H' hj h => ?_) (fun σ H' h => ?_)⟩
    · obtain ⟨_, _, sx, _⟩ := h
      exact SqL.of (sx _ _ hWp hW17)
    · obtain ⟨o7, rfl, sx, hpp⟩ := h
      obtain ⟨b, u, rfl, hu, hbp, ok1, ok2, ok3⟩ := rowsOK j y hj
      refine ⟨_, rfl, _, rfl, p, b, u, rfl, hpp, sx _ _ hbp hu, hbp, ok1, ok2, ok3, fun H'' sx' hpp' => ⟨_, rfl, iteF ⟨_, rfl, sx.trans sx', hpp'⟩⟩⟩
    obtain ⟨o7, rfl, sxL, hpL⟩ := h
    have s0L : Same H0 H' := (sx017.trans sxL).same np
    have hSA := sqLSame hS0 s0L
    have hTA := Same.tabs s0L hTab
    have hxA := sxL _ _ hhp f0
    refine ⟨by show 0 ≤ sizeLine; decide, fun R0' nR0 => ?_⟩
    obtain ⟨B1, p1, b1, u1⟩ := newAt (.lst ([] : List V)) nR0
    rw [p1]
    refine ⟨_, rfl, (2 : Int), rfl, h, _, rfl, SqL.of (b1 _ _ hxA), fun R1' nR1 => ?_⟩
    rw [cut_map, cutTwo _ (by omega)]
    obtain ⟨B2, p2, b2, u2⟩ := newAt (.lst ((x.take 2).map V.int)) nR1
    rw [p2]
    have b12 := b1.trans b2
    refine ⟨_, rfl, h, _, rfl, .inl ⟨SqL.of (b12 _ _ hxA), fun R2' nR2' => ?_⟩⟩
    obtain ⟨B3, p3, b3, u3⟩ := newAt (.tup (x.map V.int)) nR2'
    rw [p3]
    intro R3' nR3'
    obtain ⟨B4, p4, b4, u4⟩ := newAt (.dK []) nR3'
    rw [p4]
    have b14 := b12.trans (b3.trans b4)
    refine ⟨_, rfl, by show 1 ≤ sizeLine; decide, fun y2 ny2 => ?_⟩
    obtain ⟨B5, p5, b5, u5⟩ := newAt (.lst [V.bl true]) ny2
    rw [p5]
    refine ⟨h, y2, _, _, rfl, rfl, b5 _ _ (b14 _ _ hxA), u5, by rw [List.length_map, sizeLine_eq]; show x.length + 1 ≤ _; omega, fun R4' nR4' => ?_⟩
    obtain ⟨B6, p6, b6, u6⟩ := newAt (.lst (x.map V.int ++ [V.bl true])) nR4'
    rw [p6]
    have b16 := b14.trans (b5.trans b6)
    refine ⟨_, rfl, by show 1 ≤ sizeLine; decide, fun y3 ny3 => ?_⟩
    obtain ⟨B7, p7, b7, u7⟩ := newAt (.lst [V.str "1"]) ny3
    rw [p7]
    refine ⟨h, y3, _, _, rfl, rfl, b7 _ _ (b16 _ _ hxA), u7, by rw [List.length_map, sizeLine_eq]; show x.length + 1 ≤ _; omega, fun R5' nR5' => ?_⟩
    obtain ⟨B8, p8, b8, u8⟩ := newAt (.lst (x.map V.int ++ [V.str "1"])) nR5'
    rw [p8]
    refine ⟨by show 8 ≤ sizeLine; decide, fun L8 nL8 => ?_⟩
    obtain ⟨D0, qL, sL, hL⟩ := newAt (.lst [V.non, V.ref R0', V.ref R1', V.ref R2', V.ref R3', V.ref R4', V.ref R5', V.str "123"]) nL8
    rw [qL]
    have tD := b16.trans (b7.trans (b8.trans sL))
    have n8 := b8.trans sL
    have n6 := b7.trans n8
    have n4 := b5.trans (b6.trans n6)
    have r0' := (b2.trans (b3.trans (b4.trans n4))) _ _ u1
    have r1' := (b3.trans (b4.trans n4)) _ _ u2
    have r2' := (b4.trans n4) _ _ u3
    have r3' := n4 _ _ u4
    have r4' := n6 _ _ u6
    have r5' := sL _ _ u8
    have hSD := sqLSame hSA tD
    have hTD := Same.tabs tD hTA
    clear p1 p2 p3 p4 p5 p6 p7 p8 qL
    refine ⟨L8, rfl, ⟨_, SqL.of hL⟩, for_list (K := K) (a := L8) (xs := [V.non, V.ref R0', V.ref R1', V.ref R2', V.ref R3', V.ref R4', V.ref R5', V.str "123"]) (fun i6 σ G => ∃ o8 : Option V, σ = [some (.ref a), some (.int (0 + i)), some (.ref p), some (.int (n : Int)), some (.ref h), some (.ref D), some (.ref W), o7, o8, none, v10] ∧ LamX.ExtN D0 G ∧ LamX.Tabs (lamT Pt) G)
      ⟨_, rfl, LamX.ExtN.refl D0, hTD⟩ (fun i6 σ G _ h6 => ?_) (fun i6 y σ G hi6 h6 => ?_) (fun σ G h6 => ?_)⟩
    · obtain ⟨_, _, xt, _⟩ := h6
      exact sqLExt (SqL.of hL) xt
    · obtain ⟨w8, rfl, xt, tb⟩ := h6
      have mixed : ∀ (b : V) (e : PyData), Shw 0 10 e → (∀ H4, Dp K H4 b e) → isI e = false → ∀ R : Addr, D0 R = some (.lst (x.map V.int ++ [b])) → ∃ d, (∀ H4, LamX.ExtN D0 H4 → Rd K H4 (.ref R) d) ∧ cycD d = false ∧ lenD d ≤ 100000 ∧ Shw 3 30000 d := fun b e she hbe hei R hR => by
        refine ⟨.list (x.map PyData.int ++ [e]), fun H4 z => .dat (.lst (SqL.of (z _ _ hR (fun _ c => by cases c))) (dpAllApp (dpInts x) (.cons (hbe H4) .nil))), ?_, ?_, (shwList (k := 0) (L := 121) (m := 61) (fun e' he => ?_) ?_).mono (by decide) (by decide)⟩
        · show (_ && (x.map PyData.int ++ [e]).all isI) = false
          rw [List.all_append, show [e].all isI = false from (by show (isI e && true) = false; rw [hei]; rfl), Bool.and_false, Bool.and_false]
        · show (x.map PyData.int ++ [e]).length ≤ 100000
          rw [List.length_append, List.length_map, List.length_singleton]
          omega
        · rcases List.mem_append.mp he with he | he
          · obtain ⟨v, hv, rfl⟩ := List.mem_map.mp he
            exact shwPow (k := 120) (by decide) (by decide) (Nat.lt_of_le_of_lt (bx v hv) (by decide +kernel))
          · rw [List.mem_singleton.mp he]
            exact she.mono (by decide) (by decide)
        · rw [List.length_append, List.length_map, List.length_singleton]
          omega
      obtain ⟨d, hd, hw, hdl, hsh⟩ : ∃ d, (∀ H4, LamX.ExtN D0 H4 → Rd K H4 y d) ∧ cycD d = false ∧ lenD d ≤ 100000 ∧ Shw 3 30000 d := by
        have hlt : i6 < 8 := (List.getElem?_eq_some_iff.mp hi6).1
        obtain rfl | rfl | rfl | rfl | rfl | rfl | rfl | rfl : i6 = 0 ∨ i6 = 1 ∨ i6 = 2 ∨ i6 = 3 ∨ i6 = 4 ∨ i6 = 5 ∨ i6 = 6 ∨ i6 = 7 := by omega
        · obtain rfl : V.non = y := Option.some.inj hi6
          exact ⟨.none, fun _ _ => .dat .non, rfl, by decide, by decide +kernel, by decide +kernel, by decide +kernel⟩
        · obtain rfl : V.ref R0' = y := Option.some.inj hi6
          exact ⟨.list [], fun H4 z => .dat (.lst (SqL.of (z _ _ r0' (fun _ c => by cases c))) .nil), rfl, by decide, by decide +kernel, by decide +kernel, by decide +kernel⟩
        · obtain rfl : V.ref R1' = y := Option.some.inj hi6
          refine ⟨posD (x.take 2), fun H4 z => .dat (.lst (SqL.of (z _ _ r1' (fun _ c => by cases c))) (dpInts _)), ?_, ?_, (shwInts (k := 120) (m := 201) (by decide) (by decide) (fun v hv => ?_) ?_).mono (by decide) (by decide)⟩
          · show (decide (3 ≤ ((x.take 2).map PyData.int).length) && decide (((x.take 2).map PyData.int).length ≤ 200) && _) = false
            rw [show (List.map PyData.int (x.take 2)).length = 2 from (by rw [List.length_map, List.length_take]; omega)]
            rfl
          · show ((x.take 2).map PyData.int).length ≤ 100000
            rw [List.length_map, List.length_take]
            omega
          · exact Nat.lt_of_le_of_lt (bx v (List.mem_of_mem_take hv)) (by decide +kernel)
          · rw [List.length_take]
            omega
        · obtain rfl : V.ref R2' = y := Option.some.inj hi6
          refine ⟨.tuple (x.map PyData.int), fun H4 z => .dat (.tup (SqT.of (z _ _ r2' (fun _ c => by cases c))) (dpInts _)), rfl, Nat.zero_le _, (shwTup (k := 0) (L := 121) (m := 60) (fun e he => ?_) ?_).mono (by decide) (by decide)⟩
          · obtain ⟨v, hv, rfl⟩ := List.mem_map.mp he
            exact shwPow (k := 120) (by decide) (by decide) (Nat.lt_of_le_of_lt (bx v hv) (by decide +kernel))
          · rw [List.length_map]
            omega
        · obtain rfl : V.ref R3' = y := Option.some.inj hi6
          exact ⟨.dict [], fun H4 z => .dct [] (z _ _ r3' (fun _ c => by cases c)), rfl, Nat.zero_le _, by simp only [PyData.showable, PyData.showableKv], by decide +kernel, by decide +kernel⟩
        · obtain rfl : V.ref R4' = y := Option.some.inj hi6
          exact mixed (.bl true) (.bool true) ⟨by decide +kernel, by decide +kernel, by decide +kernel⟩ (fun _ => .bl _) rfl R4' r4'
        · obtain rfl : V.ref R5' = y := Option.some.inj hi6
          exact mixed (.str "1") (.str "1") ⟨by decide +kernel, by decide +kernel, by decide +kernel⟩ (fun _ => .str _) rfl R5' r5'
        · obtain rfl : V.str "123" = y := Option.some.inj hi6
          exact ⟨.str "123", fun _ _ => .dat (.str _), rfl, by decide, by decide +kernel, by decide +kernel, by decide +kernel⟩
      obtain ⟨sY1, sY2, sY3⟩ := shwLine hsh (by decide) (by decide)
      refine ⟨tb, fun D1 xt1 tb1 => ?_⟩
      have xt2 := xt.trans xt1
      refine ⟨_, rfl, ?_⟩
      dsimp only [tNil, tCons, tC]
      change spRefC K CP [y] D1 _ _
      refine ⟨y, d, rfl, hd _ xt2, hdl, hw, toldHeadT x00 (fun H3 s3 => hd _ (xt2.trans (Same.ext s3))) ⟨sY1, sY2, sY3⟩ (fun D2 sp2 => ?_)⟩
      have xt3 := xt2.trans (Same.ext sp2)
      have tb3 := Same.tabs sp2 tb1
      refine ⟨_, rfl, y, d, rfl, hd _ xt3, sY1, sY2, sY3, rfl, _, rfl, ?_⟩
      rw [decide_eq_true rfl]
      refine iteF ⟨tb3, fun D3 xt4 tb4 => ?_⟩
      have xt5 := xt3.trans xt4
      refine ⟨_, rfl, ?_⟩
      dsimp only [tNil, tCons, tC]
      change spRefC K CP [y] D3 _ _
      refine ⟨y, d, rfl, hd _ xt5, hdl, hw, toldHeadT x00 (fun H3 s3 => hd _ (xt5.trans (Same.ext s3))) ⟨sY1, sY2, sY3⟩ (fun D4 sp4 => ?_)⟩
      have xt6 := xt5.trans (Same.ext sp4)
      refine ⟨_, rfl, y, d, rfl, hd _ xt6, sY1, sY2, sY3, rfl, _, rfl, ?_⟩
      rw [decide_eq_true rfl]
      exact iteF ⟨_, rfl, xt6, Same.tabs sp4 tb4⟩
    obtain ⟨w8, rfl, xt, tb⟩ := h6
    exact ⟨_, _, _, _, _, _, _, _, _, rfl, sqLExt hSD xt, tb⟩
end

end K21

set_option Elab.async false
set_option linter.all false
set_option maxRecDepth 100000
set_option maxHeartbeats 8000000
namespace K21
open PySem PySem.Spec PyProof.Rows L2 FNX
section
variable {P : Program} {w : World} {K : PySem.W.Frag} {mg : Str → Option Value} {base : Heap} {CG : Addr} {CX : CXT} {k : Nat} {x qual : Str} {st : Stmt} {f : Addr} {ps : List Str} {sp : Sp}
theorem at_of (F : FnF K mg x st f) (ok : ∀ fd, Fun K x x st f fd → FnOk P w K mg base CX k f fd ps sp)
    (b : ∀ (kV doc pm : Value) (an : Option Addr) (cdv ct : Value) (us : List Value), us.length = ps.length → bindArgs (PySem.W.fnOf x x (defArgs st) (defBody st) (defScope st) .none kV doc pm an cdv ct) ⟨us, []⟩ = pure (ps.zip us)) : At P w K mg base CX k x ps sp := by
  obtain ⟨g, fd, F⟩ := F
  exact ⟨f, fd, ok fd F, g, F.kp, F.binds b⟩
theorem atG_of (F : FnF K mg x st f) (ok : ∀ fd, Fun K x x st f fd → GOk P w K mg base k f fd ps sp)
    (b : ∀ (kV doc pm : Value) (an : Option Addr) (cdv ct : Value) (us : List Value), us.length = ps.length → bindArgs (PySem.W.fnOf x x (defArgs st) (defBody st) (defScope st) .none kV doc pm an cdv ct) ⟨us, []⟩ = pure (ps.zip us)) : AtG P w K mg base k x ps sp := by
  obtain ⟨g, fd, F⟩ := F
  exact ⟨f, fd, ok fd F, g, F.kp, F.binds b⟩
end
theorem tInvalidPosition : InitTxt s_InvalidPosition_init := ⟨⟨rfl, rfl, rfl, by decide +kernel, rfl, by decide +kernel, by decide +kernel⟩, ⟨_, _, _, _, rfl⟩, fun _ _ _ _ _ _ _ us hl => match us, hl with | [_, _], _ => rfl, fun _ _ _ _ _ _ _ _ _ => rfl⟩
theorem all_mk {l : PySem.W.OpenLaw} {w : World} {K : PySem.W.Frag} {h : Heap} {mg : Str → Option Value} {fa fL cL tL fE  f0 f1 f2 f3 f4 f5 f6 f7 f8 f9 f10 f11 f12 f13 f14 c0  : Addr} {t0 : Tok} (X : K.In h) (G : h.Ns mainGlobals mg) (hfa : mg "law" = some (.ref fa))
    (C0 : Cl K mg "InvalidPosition" c0) (ty0 : PySem.W.typeIn K (.ref c0) = some (.type "type"))
    (F0 : FnF K mg "is_integer" s_is_integer f0)
    (F1 : FnF K mg "is_integer_list" s_is_integer_list f1)
    (F2 : FnF K mg "checked_sums" s_checked_sums f2)
    (F3 : FnF K mg "differences" s_differences f3)
    (F4 : FnF K mg "never_ends_round" s_never_ends_round f4)
    (F5 : FnF K mg "cycle_steps" s_cycle_steps f5)
    (F6 : FnF K mg "cycle_end" s_cycle_end f6)
    (F7 : FnF K mg "_law_pool" s__law_pool f7)
    (F8 : FnF K mg "_law_take" s__law_take f8)
    (F9 : FnF K mg "_law_number" s__law_number f9)
    (F10 : FnF K mg "_law_numbers" s__law_numbers f10)
    (F11 : FnF K mg "_law_fired" s__law_fired f11)
    (F12 : FnF K mg "_law_count" s__law_count f12)
    (F13 : FnF K mg "_law_zeros" s__law_zeros f13)
    (F14 : FnF K mg "_law_right" s__law_right f14)
    (FE : FnF K mg "_law_error" s__law_error fE)
    (FL : FnC K mg "law" s_law fL cL tL)
    (i0 : PySem.W.nsIn K mainGlobals "LONGEST_LINE" = some (some (.int 200 t0)))
    (z0 : PySem.W.nsIn K mainGlobals "isinstance" = some none)
    (z1 : PySem.W.nsIn K mainGlobals "int" = some none)
    (z2 : PySem.W.nsIn K mainGlobals "bool" = some none)
    (z3 : PySem.W.nsIn K mainGlobals "list" = some none)
    (z4 : PySem.W.nsIn K mainGlobals "tuple" = some none)
    (z5 : PySem.W.nsIn K mainGlobals "len" = some none)
    (z6 : PySem.W.nsIn K mainGlobals "all" = some none)
    (z7 : PySem.W.nsIn K mainGlobals "range" = some none)
    (z8 : PySem.W.nsIn K mainGlobals "enumerate" = some none)
    (z9 : PySem.W.nsIn K mainGlobals "min" = some none)
    (z10 : PySem.W.nsIn K mainGlobals "max" = some none)
    (z11 : PySem.W.nsIn K mainGlobals "sorted" = some none)
    (z12 : PySem.W.nsIn K mainGlobals "repr" = some none)
    (z13 : PySem.W.nsIn K mainGlobals "sum" = some none)
    (z14 : PySem.W.nsIn K mainGlobals "any" = some none)
    (x0 : PySem.W.exmOne K (.ref c0) (.ref c0) = some true)
    : ∃ (fd : FuncData) (cs : List (Addr × Addr)), (∀ p ∈ cs, ∃ y, Door K mg ["law"] y p.1 p.2) ∧ (∀ (s : Shared) (v : Value), BindsTo s fd ⟨[v], []⟩ [("_law_script", v)]) ∧
        (∀ (H : Hp) (a : Addr) (ns : List Int), ns.length ≤ 63 → (∀ p ∈ cs, H p.2 = some (.tbl #[])) → SqL K H a (ns.map V.int) → spLawT K cs [.ref a] H (fun v _ => v = .bl true) fun _ _ _ => False) ∧
        ∀ base : Heap, K.In base → base.Ns mainGlobals mg → (∀ p ∈ cs, LamX.TabB base mg p.1 p.2) → GOk l.prog w K mg base 10 fa fd ["_law_script"] (spLawT K cs) := by
  obtain ⟨gL, ⟨fdL, FL⟩, DL⟩ := FL
  have e := hfa.symm.trans gL
  cases e
  obtain ⟨gE, fdE, FE⟩ := FE
  refine ⟨fdL, [(cL, tL)], fun p hp => by rw [List.mem_singleton.mp hp]; exact ⟨_, DL⟩, fun s v => ?_, fun H a ns hl hT hS => ⟨a, ns, rfl, hS, hl, hT, fun _ => rfl⟩, fun base KB NB TBs => ?_⟩
  · obtain ⟨oc, od, kV, doc, pm, an, ct, osl, rfl, _, _⟩ := FL.ex
    exact .of_eq rfl
  have TB := TBs (cL, tL) List.mem_cons_self
  have bE : L2.Binds K fdE ["_law_door"] [] := FE.binds (fun _ _ _ _ _ _ us hl => match us, hl with | [_], _ => rfl)
  have no : ∀ {x : Str}, PySem.W.nsIn K mainGlobals x = some none → mg x = none := fun z => PySem.W.mg_none_of X G z
  have M : Nms mg := {isi := no z0, int := no z1, bool := no z2, list := no z3, tuple := no z4, len := no z5, all := no z6, range := no z7, enumerate := no z8, min := no z9, max := no z10, sorted := no z11, repr := no z12 }
  have n_sum : mg "sum" = none := no z13
  have n_any : mg "any" = none := no z14
  have i_LONGEST_LINE := PySem.W.mg_of X G i0
  have EP : Ex l.prog w K mg base "InvalidPosition" c0 := C0.ex

  have a_is_integer : At l.prog w K mg base CX0 1 "is_integer" ["thing"] (spIsInteger K) := at_of F0 (fun fd F => ok_is_integer F M) (fun _ _ _ _ _ _ us hl => match us, hl with | [_], _ => rfl)
  have a_is_integer_list : At l.prog w K mg base CX0 2 "is_integer_list" ["thing", "length"] (spIntList K) := at_of F1 (fun fd F => ok_int_list F M a_is_integer) (fun _ _ _ _ _ _ us hl => match us, hl with | [_, _], _ => rfl)
  have a_checked_sums : At l.prog w K mg base CX0 3 "checked_sums" ["numbers", "fewest"] spSums := at_of F2 (fun fd F => ok_sums F M i_LONGEST_LINE a_is_integer_list) (fun _ _ _ _ _ _ us hl => match us, hl with | [_, _], _ => rfl)
  have a_checked_sumsX : At l.prog w K mg base (L2.CX l.prog w) 3 "checked_sums" ["numbers", "fewest"] (spRefC1 K c0) := at_of F2 (fun fd F => ok_sumsX F M i_LONGEST_LINE EP ty0 a_is_integer_list) (fun _ _ _ _ _ _ us hl => match us, hl with | [_, _], _ => rfl)
  have a_differences : At l.prog w K mg base CX0 1 "differences" ["sums"] spDiff := at_of F3 (fun fd F => ok_diff F M) (fun _ _ _ _ _ _ us hl => match us, hl with | [_], _ => rfl)
  have a_never_ends_round : At l.prog w K mg base CX0 1 "never_ends_round" ["numbers", "period"] spNever := at_of F4 (fun fd F => ok_never F n_any) (fun _ _ _ _ _ _ us hl => match us, hl with | [_, _], _ => rfl)
  have a_cycle_steps : At l.prog w K mg base CX0 4 "cycle_steps" ["numbers"] spCycleSteps := at_of F5 (fun fd F => ok_cycle_steps F M a_checked_sums a_never_ends_round) (fun _ _ _ _ _ _ us hl => match us, hl with | [_], _ => rfl)
  have a_cycle_stepsX : At l.prog w K mg base (L2.CX l.prog w) 4 "cycle_steps" ["numbers"] (spRefC K c0) := at_of F5 (fun fd F => ok_cstepsX F M a_checked_sumsX a_never_ends_round) (fun _ _ _ _ _ _ us hl => match us, hl with | [_], _ => rfl)
  have a_cycle_end : At l.prog w K mg base CX0 4 "cycle_end" ["numbers"] spCycleEnd := at_of F6 (fun fd F => ok_cycle_end F M n_sum a_checked_sums a_never_ends_round a_differences) (fun _ _ _ _ _ _ us hl => match us, hl with | [_], _ => rfl)
  have a_cycle_endX : At l.prog w K mg base (L2.CX l.prog w) 4 "cycle_end" ["numbers"] (spRefC K c0) := at_of F6 (fun fd F => ok_cendX F M n_sum a_checked_sumsX a_never_ends_round a_differences) (fun _ _ _ _ _ _ us hl => match us, hl with | [_], _ => rfl)
  have a__law_pool : At l.prog w K mg base CX0 1 "_law_pool" ["_law_script", "_law_k"] (spPool K) := at_of F7 (fun fd F => ok_pool F M.len) (fun _ _ _ _ _ _ us hl => match us, hl with | [_, _], _ => rfl)
  have a__law_take : At l.prog w K mg base CX0 1 "_law_take" ["_law_pool_here", "_law_sides"] spTake := at_of F8 (fun fd F => ok_take F) (fun _ _ _ _ _ _ us hl => match us, hl with | [_, _], _ => rfl)
  have a__law_number : At l.prog w K mg base CX0 2 "_law_number" ["_law_pool_here"] spNumber := at_of F9 (fun fd F => ok_number F a__law_take) (fun _ _ _ _ _ _ us hl => match us, hl with | [_], _ => rfl)
  have a__law_numbers : At l.prog w K mg base CX0 3 "_law_numbers" ["_law_pool_here", "_law_many"] spNumbers := at_of F10 (fun fd F => ok_numbers F M a__law_number) (fun _ _ _ _ _ _ us hl => match us, hl with | [_, _], _ => rfl)
  have a__law_fired : At l.prog w K mg base CX0 1 "_law_fired" ["_law_row", "_law_node"] spFired := at_of F11 (fun fd F => ok_firedC F M) (fun _ _ _ _ _ _ us hl => match us, hl with | [_, _], _ => rfl)
  have a__law_count : At l.prog w K mg base CX0 1 "_law_count" ["_law_row"] spCount := at_of F12 (fun fd F => ok_countC F M n_sum) (fun _ _ _ _ _ _ us hl => match us, hl with | [_], _ => rfl)
  have a__law_zeros : At l.prog w K mg base CX0 5 "_law_zeros" ["_law_many"] spZeros := at_of F13 (fun fd F => ok_zeros F M a_cycle_end) (fun _ _ _ _ _ _ us hl => match us, hl with | [_], _ => rfl)
  have a__law_right : AtG l.prog w K mg base 5 "_law_right" ["_law_pool_here", "_law_row"] spRightC := atG_of F14 (fun fd F => ok_rightC F M n_sum a__law_take a_cycle_steps a_cycle_end a__law_count a__law_fired) (fun _ _ _ _ _ _ us hl => match us, hl with | [_, _], _ => rfl)
  exact ok_law FL M n_sum TB FE gE bE EP x0 a__law_pool a__law_take a__law_numbers a_cycle_steps a_cycle_end a_cycle_stepsX a_cycle_endX a__law_count a__law_zeros a__law_right
end K21

set_option Elab.async false
set_option linter.all false
open PySem PySem.W PyProof.Rows
set_option maxRecDepth 100000 in
set_option maxHeartbeats 0 in
theorem PySem.Challenge.cw_firenegatives_k21_whole_cycles_in_closed_holds : PySem.Challenge.rw_firenegatives_k21_whole_cycles_in_closed.Holds := by
  w_on; o_law; k_head; (case hw => w_witness2)
  k_fill
  refine FNX.walkGK (l := PySem.Challenge.rw_firenegatives_k21_whole_cycles_in_closed) (n := 63) (k := 10) (x := "_law_script") K21.spLawT ["law"] rfl (by decide) rfl ⟨rfl, by decide, by decide⟩ (by decide +kernel) (fun w h Y => PySem.W.km_in_of Y) ?F
  case F =>
    intro w mg fa h KX G hmg
    refine' K21.all_mk KX G hmg
      (FNX.mkCl KX G ?_ (FNX.mkXC F.excBase_ValueError FNX.chainVal ?_ ?_ ?_ ?_ ?_ ?_ ?_ ?_ ?_ ?_ ?_) K21.tInvalidPosition ?_ ?_ ?_ ?_ ?_) ?_
      (FNX.mkF KX G ?_ ?_ ?_ ?_) (FNX.mkF KX G ?_ ?_ ?_ ?_) (FNX.mkF KX G ?_ ?_ ?_ ?_) (FNX.mkF KX G ?_ ?_ ?_ ?_) (FNX.mkF KX G ?_ ?_ ?_ ?_) (FNX.mkF KX G ?_ ?_ ?_ ?_) (FNX.mkF KX G ?_ ?_ ?_ ?_) (FNX.mkF KX G ?_ ?_ ?_ ?_) (FNX.mkF KX G ?_ ?_ ?_ ?_) (FNX.mkF KX G ?_ ?_ ?_ ?_) (FNX.mkF KX G ?_ ?_ ?_ ?_) (FNX.mkF KX G ?_ ?_ ?_ ?_) (FNX.mkF KX G ?_ ?_ ?_ ?_) (FNX.mkF KX G ?_ ?_ ?_ ?_) (FNX.mkF KX G ?_ ?_ ?_ ?_) (FNX.mkF KX G ?_ ?_ ?_ ?_) (FNX.mkFC KX G ?_ ?_ ?_ ?_ ?_ ?u11 ?hdL ?noL)
      ?_ ?_ ?_ ?_ ?_ ?_ ?_ ?_ ?_ ?_ ?_ ?_ ?_ ?_ ?_ ?_ ?x0
    any_goals k_is
    case u11 => rfl
    case hdL => kernel_rfl
    case noL => kernel_rfl
    case x0 => kernel_rfl
#print axioms PySem.Challenge.cw_firenegatives_k21_whole_cycles_in_closed_holds
