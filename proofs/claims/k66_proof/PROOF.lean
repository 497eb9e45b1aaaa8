import PyProof.Rows.All
import Wide.All
import OpenK.AllK
import Wide.FinOn
import HandS.ForExc
import HandS.ExcInit
import HandS.IsInst
import KE.KExcIs
import HandS.ForMost
import KE.DataMinMax
import HandS.Defaults
import HandS.EndTab
import HandS.TryMany
import KE.KNestM
import HandS.DeepEq
import PyProof.Conv_int_bool
import HandS.Wide
import HandS.Flow
import HandS.Style
import HandS.Deep
import HandS.SortRule
import HandS.SortInts
import HandS.Walk
import HandS.Nested
import PySem.Challenge.RW_firenegatives_k66_links_judged
set_option Elab.async false
set_option linter.all false
set_option maxRecDepth 100000
set_option maxHeartbeats 4000000
/-! ## Built-in bases of the package's exceptions -/
namespace FNX
open PySem PySem.F

/-- no class of the chain refuses a store -/
def Pass (l : List Value) : Prop := ∀ self : Value, refuseLoop self "__setattr__" l = pure ()
theorem passRun : Pass [.type "RuntimeError", .type "Exception", .type "BaseException", .type "object"] := fun self => by kernel_rfl
theorem passOver : Pass [.type "OverflowError", .type "ArithmeticError", .type "Exception", .type "BaseException", .type "object"] := fun self => by kernel_rfl
theorem passLook : Pass [.type "LookupError", .type "Exception", .type "BaseException", .type "object"] := fun self => by kernel_rfl
theorem passKey : Pass [.type "KeyError", .type "LookupError", .type "Exception", .type "BaseException", .type "object"] := fun self => by kernel_rfl
theorem passIndex : Pass [.type "IndexError", .type "LookupError", .type "Exception", .type "BaseException", .type "object"] := fun self => by kernel_rfl
theorem passVal : Pass [.type "ValueError", .type "Exception", .type "BaseException", .type "object"] := fun self => by kernel_rfl
theorem Pass.ref {l : List Value} (h : Pass l) (c : Addr) : Pass (.ref c :: l) := fun self => by
  rw [refuseLoop_ref]
  exact h self
end FNX

/-! ## C(..), C an exception class of the program with an `__init__` of its own -/
namespace FNX
open PySem PySem.W PySem.Calls PyProof.Rows PySem.HandSPX
/-- what the chain of the class behind itself has, and has not -/
structure Chain (B : String) (bm : List Value) : Prop where
  base : bm.contains (.type B) = true
  obj : bm.contains (.type "object") = true
  noA : bm.contains (.type "AttributeError") = false
  noN : bm.contains (.type "NameError") = false
  some1 : bm.isEmpty = false
  pass : Pass bm
section
variable {prog : Program} {w : World} {A : Around} {E : Value → Shared → Prop} {R : Result → Shared → Prop}
variable {h : Heap} {g : Array GenState} {d : Drawn} {t : Nat} {os : OsState} {nm q : Str} {C N : Addr} {bs bm bmB : List Value}
variable {hdct : Bool} {sn : List Str} {sub : List Value} {ab : Bool} {col : Option Bool} {dd : Option Addr}
variable {k0 k1 k2 k3 k5 : Option Value} {B newId initId : String} {us : List Value} {kw : List (Str × Value)}

theorem newChecked {M : Model} {Q : Unit → Shared → Prop} (F : ExcBaseFacts B newId initId bmB) (L : Chain B bm)
    (hC : h.get? C = some (excClassObj nm q C N bs bm hdct sn sub ab col dd k0 k1 k2 k3 k5 newId)) (hq : Q () ⟨h, g, d, t, os⟩) :
    wpAny M A (checkBuiltinCall newId ⟨.ref C :: us, kw⟩) Q E ⟨h, g, d, t, os⟩ := by
  have in1 : (Value.ref C :: bm).contains (.type B) = true := by simp only [List.contains_cons, L.base, Bool.or_true]
  have star := F.noStar
  simp only [checkBuiltinCall, F.newKind, F.newSplit, F.newRow]
  repeat (first
    | refine wpAny_loadPart_at hC ?_
    | (refine wpAny_isSubtype_exc hC ?_; rw [in1])
    | refine wpAny_staticBase_exc hC ?_
    | refine wpAny_madeBy_exc hC ?_
    | simp only [bne_self_eq_false, Bool.false_eq_true, if_false]
    | wp_step)
  exact hq

theorem newMade (F : ExcBaseFacts B newId initId bmB) (L : Chain B bm)
    (hC : h.get? C = some (excClassObj nm q C N bs bm hdct sn sub ab col dd k0 k1 k2 k3 k5 newId)) (hl : us.length ≤ sizeLine)
    (hq : R (.ok (.ret (.ref (h.objs.size + 1)))) ⟨(h.push (kdv_tup us)).push (excO C h.objs.size), g, d, t, os⟩) :
    codeAny (model prog w) A (.builtin newId ⟨.ref C :: us, kw⟩) R ⟨h, g, d, t, os⟩ := by
  have ends := F.ends
  have in1 : (Value.ref C :: bm).contains (.type B) = true := by simp only [List.contains_cons, L.base, Bool.or_true]
  have no1 : (Value.ref C :: bm).contains (.type "AttributeError") = false := by simp only [List.contains_cons, L.noA]; rfl
  have no2 : (Value.ref C :: bm).contains (.type "NameError") = false := by simp only [List.contains_cons, L.noN]; rfl
  refine codeAny_builtinAt F.entry ?_
  unfold Builtin.«BaseException.__new__»
  refine PySem.wpAt_bind ?_
  show PySem.wpAt _ _ _ (stack >>= _) _ _ _
  refine PySem.wpAt_bind (PySem.wpAt_stack fun p below => PySem.wpAt_of_wpAny ?_)
  wp_walk
  refine PySem.wpAt_of_wpAny ?_
  rw [F.owner]
  repeat (first
    | with_reducible refine wpAny_madeHere_exc F.canon hC ?_
    | with_reducible refine wpAny_loadPart_at hC ?_
    | (with_reducible refine wpAny_isSubtype_exc hC ?_; first | rw [in1] | rw [no1] | rw [no2])
    | wp_step)
  show R _ _
  rw [Heap.size_push]
  exact hq

theorem typeCalled {fI : Addr} {Q : Fin → Shared → Prop} (F : ExcBaseFacts B newId initId bmB) (L : Chain B bm)
    (hC : h.get? C = some (excClassObj nm q C N bs bm hdct sn sub ab col dd k0 k1 k2 k3 k5 newId)) (hl : us.length ≤ sizeLine)
    (hi : Looks (model prog w) h (typeLookup (.ref C) "__init__") (some (.ref fI)))
    (hb : ∀ self, Looks (model prog w) h (bindSpecial (.ref fI) self) (.ref fI, [self]))
    (hq : codeAny (model prog w) A (.call (.ref fI) ⟨.ref (h.objs.size + 1) :: us, kw⟩)
      (fun r s' => match r with
        | .ok (.ret v) => v = .none ∧ Q (.done (.ret (.ref (h.objs.size + 1)))) s'
        | .ok _ => False
        | .error e => E e s')
      ⟨(h.push (kdv_tup us)).push (excO C h.objs.size), g, d, t, os⟩) :
    wpAny (model prog w) A (Builtin.«type.__call__» ⟨.ref C :: us, kw⟩) Q E ⟨h, g, d, t, os⟩ := by
  repeat (first | with_reducible refine wpAny_loadPart_at hC ?_ | with_reducible refine wpAny_madeBy_exc hC ?_ | wp_step)
  refine codeAny_call_builtin_code (Code.quiet_builtin _ F.quiet) (newChecked F L hC (newMade F L hC hl ?_))
  show wpAny _ _ _ _ _ _
  have old : ∀ b o, h.get? b = some o → ((h.push (kdv_tup us)).push (excO C h.objs.size)).get? b = some o :=
    fun b o e => Heap.get?_push_of_some _ (Heap.get?_push_of_some _ e)
  have hC2 := old _ _ hC
  have at1 : ((h.push (kdv_tup us)).push (excO C h.objs.size)).get? (h.objs.size + 1) = some (excO C h.objs.size) := by heap_get
  have self1 : (Value.ref C :: bm).contains (.ref C) = true := by simp
  have i2 := hi.keeps old
  have b2 := (hb (.ref (h.objs.size + 1))).keeps old
  unfold isInstance
  repeat (first
    | with_reducible refine wpAny_loadPart_at at1 ?_
    | (with_reducible refine wpAny_isSubtype_exc hC2 ?_; rw [self1])
    | wp_step)
  show wpAny _ _ (typeLookup (.ref C) _) _ _ _
  refine i2.at (wpAny_holding (wpAny_bind (b2.at ?_)))
  refine wpAny_bind (wpAny_call (codeAny_mono hq fun r s' z => ?_))
  rcases r with e | (v | _ | _ | _) <;> first | exact z | exact z.elim | skip
  obtain ⟨rfl, z⟩ := z
  first
    | exact wpAny_pure (wpAny_pure z)
    | (wp_walk; exact z)

theorem called {fI : Addr} (F : ExcBaseFacts B newId initId bmB) (L : Chain B bm)
    (hC : h.get? C = some (excClassObj nm q C N bs bm hdct sn sub ab col dd k0 k1 k2 k3 k5 newId)) (hl : us.length ≤ sizeLine)
    (hi : Looks (model prog w) h (typeLookup (.ref C) "__init__") (some (.ref fI)))
    (hb : ∀ self, Looks (model prog w) h (bindSpecial (.ref fI) self) (.ref fI, [self]))
    (hq : codeAny (model prog w) (A.under (.builtin "type.__call__" ⟨.ref C :: us, kw⟩)) (.call (.ref fI) ⟨.ref (h.objs.size + 1) :: us, kw⟩)
      (InitBack (h.objs.size + 1) R) ⟨(h.push (kdv_tup us)).push (excO C h.objs.size), g, d, t, os⟩) :
    codeAny (model prog w) A (.call (.ref C) ⟨us, kw⟩) R ⟨h, g, d, t, os⟩ := by
  have f1 := tc_lookup
  have f2 := tc_bind (.ref C)
  have ty : (⟨h, g, d, t, os⟩ : Shared).TypeIs (.ref C) "type" := ⟨_, hC, rfl⟩
  refine codeAny_of_tree ?_
  show wpAny _ _ (callAny (.ref C) _) _ _ _
  repeat (any_goals (first | assumption | with_reducible refine wpAny_loadPart_at hC ?_ | wp_step))
  refine ⟨rfl, codeAny_call_builtin_at (Code.quiet_builtin _ (by decide +kernel)) entry_typeCall
    (wpAny_check_type_call_sub hC (typeCalled F L hC hl hi hb (codeAny_mono hq fun r s' z => ?_)))⟩
  rcases r with e | (v | _ | _ | _) <;> exact z
end

/-! ## self.name = v on an exception without a dict -/
section
open PySem.Builtin PySem.Builtin.ObjectAttr
variable {prog : Program} {w : World} {A : Around} {R : Result → Shared → Prop} {hp : Heap} {g : Array GenState} {d : Drawn} {t : Nat} {os : OsState}
theorem stored {K : Frag} {name : Str} {tk : Tok} {v : Value} {x C : Addr} {fv : Array Value} {cd : ClassData}
    (X : K.In hp) (hx : hp.get? x = some { cls := .ref C, data := .fields fv }) (hcd : clsIn K C = some cd)
    (hp1 : Pass cd.mro) (hob : cd.mro.contains (.type "object") = true) (hne : cd.mro.isEmpty = false)
    (hh : cd.hasDict = true) (ha : findIn K (.ref C) name = some none)
    (hq : ∀ h' tk' dx, (∀ b o, b ≠ x → hp.get? b = some o → h'.get? b = some o) → hp.objs.size ≤ dx → dx ≠ x →
      h'.get? x = some { cls := .ref C, dict := some dx, data := .fields fv } → h'.Ns1 dx (fun y => if y = name then some v else none) →
      R (.ok (.ret .none)) ⟨h', g, d, tk', os⟩) :
    codeAny (model prog w) A (.call (.builtin "object.__setattr__") ⟨[.ref x, .str name tk, v], []⟩) R ⟨hp, g, d, t, os⟩ := by
  have I : InstAt hp x { cls := .ref C, data := .fields fv } C none := ⟨hx, rfl, rfl, trivial⟩
  have SF := F.store_object
  have nx : x ≠ hp.objs.size := Nat.ne_of_lt (Heap.lt_size hx)
  have mro : mroIn K C (.type "object") = some true := by
    unfold mroIn
    rw [hcd, Option.bind_some, if_neg (by rw [hne]; decide), hob]
  have isO : Looks (model prog w) hp (isInstance (.ref x) (.type "object")) true := I.type.andThen (looks_mroIn X mro)
  refine codeAny_call_builtin SF.slot.plain SF.entry (@check_slot (model prog w) _ _ ⟨hp, g, d, t, os⟩ "object.__setattr__" "object"
    "__setattr__" (.ref x) [.str name tk, v] [] _ SF.kind SF.split isO (SF.args (.ref x) (.str name tk) v) ?_)
  have m1 : Looks (model prog w) hp (mroOf (.ref C)) cd.mro := (looks_clsIn X hcd).andThen .now
  have m2 : Looks (model prog w) hp (storeTaker? none) none := .now
  have m3 : Looks (model prog w) hp (classData C) cd := looks_clsIn X hcd
  rw [osa_eq, refuse_eq]
  refine wpAny_bind (wpAny_bind (I.type.at (wpAny_bind (m1.at ?_))))
  rw [hp1 _]
  refine wpAny_pure (wpAny_bind (I.type.at (wpAny_bind ((looks_findIn X ha).at (wpAny_bind (m2.at ?_))))))
  show wpAny _ _ (storeInOwnDict (.ref x) (.ref C) (.str name tk) name v false) _ _ _
  obtain ⟨nm, bs, mro, ns, qn, hd, sn, sb, ab, col, del⟩ := cd
  dsimp only at hh
  subst hh
  unfold storeInOwnDict ownDictForStores
  repeat (first
    | with_reducible refine store_in_new ?_ ?_
    | with_reducible refine wpAny_loadPart_at hx ?_
    | with_reducible refine m3.at ?_
    | wp_step)
  · exact ⟨_, #[], _, (Heap.get?_update_ne _ _ _ _ nx.symm).trans (Heap.get?_push_at rfl rfl), rfl, fun e he => absurd he (by simp), fun _ => rfl⟩
  · intro h' tk' hn' hs
    have hx1 : (hp.push { cls := .type "dict", data := .dict #[] }).get? x = some { cls := .ref C, data := .fields fv } :=
      Heap.get?_push_of_some _ hx
    refine hq h' tk' hp.objs.size (fun b o hb ho => ?_) (Nat.le_refl _) nx.symm ?_ hn'
    · refine (hs.2 b (Nat.ne_of_lt (Heap.lt_size ho))).trans ?_
      exact (Heap.get?_update_ne _ _ _ _ hb).trans (Heap.get?_push_of_some _ ho)
    · exact (hs.2 x nx).trans (Heap.get?_update_self _ hx1 rfl)
end
end FNX

set_option Elab.async false
set_option linter.all false
set_option maxRecDepth 100000
set_option maxHeartbeats 4000000
/-! ## Exceptions that the program holds as values: `exo` at a, its own dict `exd` at d -/
namespace FNX
open PySem PySem.Spec PyProof.Rows L2

/-- what the written part says of an exception class -/
structure XC (K : PySem.W.Frag) (C : Addr) : Prop where
  cls : ∃ nm q N bs bm sn sub ab col dd k0 k1 k2 k3 k5 B newId initId bmB,
    K.lookup C = some (excClassObj nm q C N bs bm true sn sub ab col dd k0 k1 k2 k3 k5 newId) ∧ ExcBaseFacts B newId initId bmB ∧ Chain B bm
  sa : PySem.W.findIn K (.ref C) "__setattr__" = some (some (.builtin "object.__setattr__"))
  ga : PySem.W.findIn K (.ref C) "__getattribute__" = some (some (.builtin "BaseException.__getattribute__"))
  gg : PySem.W.findIn K (.ref C) "__getattr__" = some none
  noV : PySem.W.findIn K (.ref C) "value" = some none
  exC : PySem.W.subIn K (.ref C) (.type "BaseException") = some true
  kC : PySem.W.keepIn K (.ref C) = true
  hdC : PySem.W.hasDictIn K C = true
  ic : PySem.W.isClsIn K C = true
  cC : PySem.W.findIn K (.ref C) "__class__" = some (some (.builtin "object.__class__"))
  mC : PySem.W.mroIn K C (.type "object") = some true
/-- and of `__class__` -/
structure XK0 (K : PySem.W.Frag) : Prop where
  sg : PySem.W.specialIn K (.builtin "object.__class__") "__get__" = some (some (.builtin "getset_descriptor.__get__"))
  st : PySem.W.takesIn K (.builtin "object.__class__") = some true

/-- an exception of the class at C with value = v -/
def XAt (H : Hp) (a C : Addr) (v : V) : Prop := ∃ d, H a = some (exo a C (some d)) ∧ H d = some (exd d [("value", v)])
theorem XAt.same {H H' : Hp} {a C : Addr} {v : V} (x : XAt H a C v) (s : Same H H') : XAt H' a C v := by
  obtain ⟨d, h1, h2⟩ := x
  exact ⟨d, s _ _ h1, s _ _ h2⟩
/-- one without a value of its own -/
def XAt0 (H : Hp) (a C : Addr) : Prop := H a = some (exo a C none)

theorem mut_exo {a C : Addr} {d : Option Addr} {H : Hp} (e : H a = some (exo a C d)) : Mut (H a) := by
  rw [e]
  exact True.intro

section
variable {X : Cx} {pins : List (Addr × Obj)} {σ : L2.St} {H : Hp} {s : Shared} {a C : Addr} {y : V} {u : Value}

/-- self.value = y -/
theorem xst_new {Q : Unit → Shared → Prop} {E : Value → Shared → Prop} {A : Around} (T : XC X.K C) (I : Inv X pins σ H s) (e : H a = some (exo a C none)) (ry : RelV y u)
    (h : ∀ dx s', H dx = none → dx ≠ a → Inv X pins σ (upd (upd H dx (exd dx [("value", y)])) a (exo a C (some dx))) s' → Q () s') :
    wpAny (model X.prog X.w) A (setAttr (.ref a) "value" u) Q E s := by
  obtain ⟨nm, q, N, bs, bm, sn, sub, ab, col, dd, k0, k1, k2, k3, k5, B, newId, initId, bmB, hC, F, L⟩ := T.cls
  have hcl : PySem.W.clsIn X.K C = some ⟨nm, bs, .ref C :: bm, N, q, true, sn, sub, ab, col, false⟩ := by
    unfold PySem.W.clsIn
    rw [hC] <;> rfl
  obtain ⟨t1, ho⟩ := exo_at I.hok e
  obtain ⟨hp, g, d, t, os⟩ := s
  refine PySem.W.set_plain I.kIn (ox := { cls := .ref C, dict := none, data := .fields #[.ref t1, .none, .none, .none, .bool false, .none] })
    (od := none) ⟨ho, rfl, rfl, trivial⟩ T.sa ?_
  refine stored I.kIn ho hcl (L.pass.ref C) (by simp only [List.contains_cons, L.obj, Bool.or_true]) rfl rfl T.noV
    (fun h' tk' dx k dn dne hx hn => ?_)
  have fresh : H dx = none := I.hok.fresh dn
  have nd : ∀ {b : Addr} {o : Obj}, hp.get? b = some o → b ≠ dx := fun q => Nat.ne_of_lt (Nat.lt_of_lt_of_le (Heap.lt_size q) dn)
  have na : ∀ {b : Addr}, H b = none → b ≠ a := fun {b} n z => by
    rw [z, e] at n
    cases n
  have U : Un X.fs [] H (upd (upd H dx (exd dx [("value", y)])) a (exo a C (some dx))) hp h' := {
    keep := fun b o q n _ _ => k b o (na n) q
    slot := fun b o q n _ _ => ⟨o.slots, k b o (na n) q⟩
    free := fun b o q n _ => by
      rw [upd_ne (na n), upd_ne (nd q)]
      exact n
    there := fun b o q _ => by
      by_cases hb : b = a
      · exact ⟨_, by rw [hb]; exact hx⟩
      · exact ⟨o, k b o hb q⟩
    tups := fun b xs q => by
      rw [upd_ne (at_ne e q exo_tup), upd_ne (ne_of_none q fresh)]
      exact q
    frzs := fun b o v q => by
      rw [upd_ne (at_ne e q exo_frz), upd_ne (ne_of_none q fresh)]
      exact q
    tbls := fun b ps q => ⟨#[], by
      rw [upd_ne (at_ne e q exo_tbl), upd_ne (ne_of_none q fresh), q]
      simp⟩ }
  refine h dx _ fresh dne (I.un (t' := tk') U fun b o q => ?_)
  by_cases hb : b = a
  · subst hb
    rw [upd_same] at q
    cases q
    exact exo_ok hx
  rw [upd_ne hb] at q
  by_cases hd : b = dx
  · subst hd
    rw [upd_same] at q
    cases q
    exact exd_ok hn (relO_put (fs := []) ry fun g => True.intro)
  rw [upd_ne hd] at q
  refine (I.hok b o q).stay (fun c v hc z => k c v ?_ z) (fun c hc => ?_) (fun c xs hc => ?_)
  · rcases hc with hc | hc
    · rw [hc]
      exact hb
    · exact at_ne e hc exo_own
  · rw [upd_ne (at_ne e hc exo_own), upd_ne (ne_of_none hc fresh)]
    exact hc
  · rw [upd_ne (at_ne e hc exo_tup), upd_ne (ne_of_none hc fresh)]
    exact hc
end

/-- self.value = e, self a new exception -/
def tXst (K : PySem.W.Frag) (to te : TE) : TS := fun D σ H => te σ H fun y H1 => to σ H1 fun x H2 => ∃ a C : Addr, x = .ref a ∧ XC K C ∧
  H2 a = some (exo a C none) ∧ ∀ dx, H2 dx = none → dx ≠ a → D.nx σ (upd (upd H2 dx (exd dx [("value", y)])) a (exo a C (some dx)))
section
variable {X : Cx} {o e : Expr} {to te : TE} {p' pos : Pos}
theorem ps_xst (ho : PE X o to) (he : PE X e te) (hs : swapsWith e (some (.Attribute o "value" p')) pos.line X.env = pure false := by rfl) :
    PS X (.Assign [.Attribute o "value" p'] e pos) (tXst X.K to te) := by
  refine ⟨fun pins s σ H D I h => ?_⟩
  refine plainObj_wpAny_Assign_Attribute (thn (he.run pins s σ H _ I h) fun v s1 hv => ?_) hs
  obtain ⟨y, H1, I1, r1, q1⟩ := hv
  refine thn (ho.run pins s1 σ H1 _ I1 q1) fun u s2 hu => ?_
  obtain ⟨x, H2, I2, r2, a, C, rfl, T, ea, q⟩ := hu
  obtain rfl : u = Value.ref a := r2
  exact xst_new T I2 ea r1 fun dx s' n ne J => ⟨σ, _, J, q dx n ne⟩
end

/-- what `__init__` promises -/
def spX (C : Addr) : Sp := fun vs H Q _ => ∃ (a : Addr) (v : V), vs = [.ref a, v] ∧ H a = some (exo a C none) ∧
  ∀ dx, H dx = none → dx ≠ a → Q .non (upd (upd H dx (exd dx [("value", v)])) a (exo a C (some dx)))
section
variable {P : Program} {w : World} {K : PySem.W.Frag} {mg : Str → Option Value} {base : Heap}
theorem xinit_ok {st : Stmt} {qual : Str} {f C : Addr} {fd : FuncData} (F : Fun K "__init__" qual st f fd)
    (S : FnScope ["self", "value"] ["self", "value"] (defScope st))
    (hb : ∃ q1 q2 q3 q4, defBody st = [.Assign [.Attribute (.Name "self" q1) "value" q2] (.Name "value" q3) q4]) (T : XC K C) :
    FnOk P w K mg base CX0 1 f fd ["self", "value"] (spX C) := by
  obtain ⟨q1, q2, q3, q4, hb⟩ := hb
  have vis : ∀ x ∈ (["self", "value"] : List Str), Vis (defScope st) x := fun x hx => by
    rcases S.par x hx with z | z
    · exact .inl z
    · exact .inr (.inl z)
  refine F.ok S (fun vs H Q E h => ?_) (fun cdv A outer s H vs Q E hr h => ?_)
  · obtain ⟨a, v, rfl, _⟩ := h
    rfl
  · obtain ⟨a, v, rfl, ha, k⟩ := h
    rw [hb]
    refine ⟨_, pss_one (ps_xst (pv 0 rfl (vis _ (by simp))) (pv 1 rfl (vis _ (by simp)))), ?_⟩
    exact ⟨_, rfl, _, rfl, a, C, rfl, T, ha, fun dx n ne => k dx n ne⟩
end

/-- the class x of the program stands at C; its `__init__` keeps its promise -/
structure Ex (P : Program) (w : World) (K : PySem.W.Frag) (mg : Str → Option Value) (base : Heap) (x : Str) (C : Addr) : Prop where
  xc : XC K C
  mgC : mg x = some (.ref C)
  mkd : ∃ fI fd, PySem.W.findIn K (.ref C) "__init__" = some (some (.ref fI)) ∧ PySem.W.typeIn K (.ref fI) = some (.type "function") ∧
    FnOk P w K mg base CX0 1 fI fd ["self", "value"] (spX C) ∧ Binds K fd ["self", "value"] [] ∧
    ∀ (s : Shared) (u v : Value), BindsTo s fd ⟨[u], [(("value" : Str), v)]⟩ ((["self", "value"] : List Str).zip [u, v])

theorem upd_again {H : Hp} {a d : Addr} {o1 o2 o3 : HO} (h : d ≠ a) : upd (upd (upd H a o1) d o2) a o3 = upd (upd H d o2) a o3 := by
  funext b
  by_cases hb : b = a
  · rw [hb, upd_same, upd_same]
  · rw [upd_ne hb, upd_ne hb]
    by_cases hd : b = d
    · rw [hd, upd_same, upd_same]
    · rw [upd_ne hd, upd_ne hd, upd_ne hb]

/-- the reading of C(e), C(value=e) -/
def wMk (C : Addr) (v : V) (H : Hp) (Q : VK) : Prop := ∀ a H', H a = none → Same H H' → XAt H' a C v → Q (.ref a) H'
section
variable {X : Cx} {x : Str} {C : Addr} {e : Expr} {te : TE} {p pos kpos : Pos} {pins : List (Addr × Obj)} {σ : L2.St} {H : Hp} {s : Shared} {v : V} {u : Value} {Q : VK} {ta : TA}
theorem xmade (T : Ex X.prog X.w X.K X.mg X.base x C) (hr : Room 2 X.A) (I : Inv X pins σ H s) (r : RelV v u) (q : wMk C v H Q)
    {us : List Value} {kw : List (Str × Value)} (hform : (us = [u] ∧ kw = []) ∨ (us = [] ∧ kw = [(("value" : Str), u)])) :
    wpAny (model X.prog X.w) X.A (call (.ref C) us kw) (EP X pins σ Q) X.xe s := by
  obtain ⟨fI, fd, iC, tI, F1, hb, hk⟩ := T.mkd
  obtain ⟨nm, qn, N, bs, bm, sn, sub, ab, col, dd, k0, k1, k2, k3, k5, B, newId, initId, bmB, hC, F, L⟩ := T.xc.cls
  obtain ⟨hp, g, dr, tk, os⟩ := s
  have sz : hp.objs.size ≤ hp.objs.size + 1 := Nat.le_succ _
  have hn : H (hp.objs.size + 1) = none := I.hok.fresh sz
  have old : ∀ b o, hp.get? b = some o → ((hp.push (PySem.W.kdv_tup us)).push (PySem.HandSPX.excO C hp.objs.size)).get? b = some o :=
    fun b o z => Heap.get?_push_of_some _ (Heap.get?_push_of_some _ z)
  have at1 : ((hp.push (PySem.W.kdv_tup us)).push (PySem.HandSPX.excO C hp.objs.size)).get? (hp.objs.size + 1) =
      some (PySem.HandSPX.excO C hp.objs.size) := by heap_get
  have I2 : Inv X pins σ (upd H (hp.objs.size + 1) (exo (hp.objs.size + 1) C none))
      ⟨(hp.push (PySem.W.kdv_tup us)).push (PySem.HandSPX.excO C hp.objs.size), g, dr, tk, os⟩ :=
    I.laid (t' := tk) (o := exo (hp.objs.size + 1) C none) old sz (exo_ok at1)
  have r2 : Vals [V.ref (hp.objs.size + 1), v] [Value.ref (hp.objs.size + 1), u] := .cons rfl (.cons r .nil)
  have hus : us.length ≤ sizeLine := by
    rcases hform with ⟨rfl, _⟩ | ⟨rfl, _⟩
    · rw [sizeLine_eq]; exact (by decide : 1 ≤ 16777216)
    · rw [sizeLine_eq]; exact (by decide : 0 ≤ 16777216)
  have bind : ∀ s' : Shared, X.K.In s'.heap → BindsTo s' fd ⟨Value.ref (hp.objs.size + 1) :: us, kw⟩ ((["self", "value"] : List Str).zip [Value.ref (hp.objs.size + 1), u]) := fun s' ks => by
    rcases hform with ⟨rfl, rfl⟩ | ⟨rfl, rfl⟩
    · exact hb s' [Value.ref (hp.objs.size + 1), u] ks rfl
    · exact hk s' _ _
  have hsp : spX C [V.ref (hp.objs.size + 1), v] (upd H (hp.objs.size + 1) (exo (hp.objs.size + 1) C none))
      (fun z H2 => z = .non ∧ Q (.ref (hp.objs.size + 1)) H2) (fun _ _ _ => False) := by
    refine ⟨_, _, rfl, upd_same, fun dx n ne => ⟨rfl, ?_⟩⟩
    rw [upd_ne ne] at n
    rw [upd_again ne]
    refine q _ _ hn (fun b o z => ?_) ⟨dx, upd_same, ?_⟩
    · rw [upd_ne (ne_of_none z hn), upd_ne (ne_of_none z n)]
      exact z
    · rw [upd_ne ne, upd_same]
  refine wpAny_call (called F L (I.kIn _ _ hC) hus (PySem.W.looks_findIn I.kIn iC) (fun self => PySem.W.bind_fn I.kIn self tI)
    (codeAny_mono (F1.run _ X.stack _ _ ⟨Value.ref (hp.objs.size + 1) :: us, kw⟩ _ _ _ (fun _ _ _ => False) (hr.make C us kw)
      (I2.env0.make C us kw) (bind _ I2.kIn) r2 hsp) fun r s' hq' => ?_))
  cases r with
  | error er => exact False.elim hq'
  | ok fl =>
    cases fl with
    | ret u' =>
      obtain ⟨z, H2, J, rz, ez, q2⟩ := I2.after hq'
      subst ez
      exact ⟨rz, .ref (hp.objs.size + 1), H2, J, rfl, q2⟩
    | next => exact False.elim hq'
    | brk => exact False.elim hq'
    | cont => exact False.elim hq'

/-- C(e) -/
def tX (C : Addr) (t : TA) : TE := fun σ H Q => t σ H fun vs H1 => ∃ v, vs = [v] ∧ wMk C v H1 Q
theorem pe_x (T : Ex X.prog X.w X.K X.mg X.base x C) (hr : Room 2 X.A) (hg : Gl X x) (ha : PA X (e :: []) ta)
    (hdb : (x == ("__debug__" : Str)) = false := by decide) (he : starEach (e :: []) X.env = (false, eval e X.env) :: starEach [] X.env := by rfl)
    (hpl : (backTo pos (starEach [] X.env)).any (·.1) = false := by rfl) :
    PE X (.Call (.Name x p) [e] [] pos) (tX C ta) := by
  refine ⟨fun pins s σ H Q I h => ?_⟩
  refine wpAny_Call_Name_kw (ld_glob I hg T.mgC ?_ hdb)
  refine PySem.W.callWith_K (h₀ := X.base) I.ok.mod.kin T.xc.kC (thn (ha.run pos pins s σ H _ I h) fun us s1 hu => ?_) he hpl
  obtain ⟨vs, H1, I1, r1, v, rfl, q⟩ := hu
  refine ⟨I1.kIn, ?_⟩
  cases r1 with
  | cons rv rn =>
    cases rn
    exact xmade T hr I1 rv q (.inl ⟨rfl, rfl⟩)
/-- C(value=e) -/
theorem pe_xk (T : Ex X.prog X.w X.K X.mg X.base x C) (hr : Room 2 X.A) (hg : Gl X x) (ha : PK X [⟨some "value", e, kpos⟩] ta)
    (hdb : (x == ("__debug__" : Str)) = false := by decide)
    (hall : (backToKw pos (keywordEach [⟨some "value", e, kpos⟩] X.env)).all (·.1.isSome) = true := by rfl)
    (hks : (backToKw pos (keywordEach [⟨some "value", e, kpos⟩] X.env)).filterMap (·.1) = [("value" : Str)] := by rfl)
    (hpl : ((backTo pos (starEach [] X.env)).any (·.1) || (backToKw pos (keywordEach [⟨some "value", e, kpos⟩] X.env)).any (·.1.isNone)) = false := by rfl) :
    PE X (.Call (.Name x p) [] [⟨some "value", e, kpos⟩] pos) (tX C ta) := by
  refine ⟨fun pins s σ H Q I h => ?_⟩
  refine wpAny_Call_Name_kw (ld_glob I hg T.mgC ?_ hdb)
  refine PySem.W.callWith_KW0 (h₀ := X.base) I.ok.mod.kin T.xc.kC hall (thn (ha.run pos pins s σ H _ I h) fun us s1 hu => ?_) hpl
  obtain ⟨vs, H1, I1, r1, v, rfl, q⟩ := hu
  refine ⟨I1.kIn, ?_⟩
  rw [hks]
  cases r1 with
  | cons rv rn =>
    cases rn
    exact xmade T hr I1 rv q (.inr ⟨rfl, rfl⟩)
end

/-! ### e.value, isinstance(e, D) -/
section
variable {X : Cx} {e : Expr} {te : TE} {pos : Pos}
def tXv (K : PySem.W.Frag) (te : TE) : TE := fun σ H Q => te σ H fun x H1 => ∃ a C v, x = .ref a ∧ XC K C ∧ XAt H1 a C v ∧ Q v H1
theorem inst_of {pins : List (Addr × Obj)} {σ : L2.St} {H : Hp} {s : Shared} {a C : Addr} {v : V} (I : Inv X pins σ H s) (x : XAt H a C v) :
    ∃ oe od, PySem.W.InstAt s.heap a oe C (some od) ∧ ∃ u, RelV v u ∧ PySem.W.lookIn "value" od = some (some u) := by
  obtain ⟨d, h1, h2⟩ := x
  obtain ⟨t1, ho⟩ := exo_at I.hok h1
  obtain ⟨mA, hns, rel⟩ := exd_at I.hok h2
  obtain ⟨od, h3, hl⟩ := lookIn_ns hns
  have l : List.lookup ("value" : Str) [(("value" : Str), v)] = some v := by simp [List.lookup]
  obtain ⟨u, hu, ru⟩ := RelO.some_of (v := v) (o := mA "value") (by rw [← l]; exact rel "value")
  exact ⟨_, od, ⟨ho, rfl, rfl, h3⟩, u, ru, by rw [hl, hu]⟩
theorem pe_xv (he : PE X e te) (hb : attributeBase e "value" X.env (eval e X.env) = eval e X.env := by rfl) : PE X (.Attribute e "value" pos) (tXv X.K te) := by
  refine ⟨fun pins s σ H Q I h => ?_⟩
  refine attr_of hb (thn (he.run pins s σ H _ I h) fun u s1 hh => ?_)
  obtain ⟨x, H1, I1, rx, a, C, v, rfl, T, xa, q⟩ := hh
  obtain rfl : u = Value.ref a := rx
  obtain ⟨oe, od, J, z, rz, hl⟩ := inst_of I1 xa
  exact HandSPX.exc_get I1.kIn J T.ga T.gg T.exC (PySem.W.findObj_own T.hdC T.noV rfl hl) (handed_of rz) ⟨v, H1, I1.tok _, rz, q⟩
/-- isinstance(e, D) -/
def rIsX (K : PySem.W.Frag) : List V → Hp → VK → Prop := fun xs H Q => ∃ (a C : Addr) (c : V) (u : Value) (b : Bool), xs = [.ref a, c] ∧ ClsV c u ∧
  (XAt0 H a C ∨ ∃ v, XAt H a C v) ∧ XC K C ∧ XK0 K ∧ PySem.W.kitOne K (.ref C) u = some b ∧ Q (.bl b) H
theorem call_isx : CallR X (.builtin "isinstance") (rIsX X.K) := by
  intro pins s σ H xs us Q I r h
  obtain ⟨a, C, c, u, b, rfl, k, hx, T, Z, e, q⟩ := h
  obtain ⟨u1, u2, rfl, r1, r2⟩ := vals2 r
  have e2 := k.eq r2
  subst e2
  obtain rfl : u1 = Value.ref a := r1
  rcases hx with hx | ⟨v, hx⟩
  · obtain ⟨t1, ho⟩ := exo_at I.hok hx
    have J : PySem.W.InstAt s.heap a _ C none := ⟨ho, rfl, rfl, trivial⟩
    exact PySem.W.kia_one (PySem.W.kitx_exc T.ic T.ga T.gg T.exC T.cC Z.sg Z.st T.mC) I.kIn J e (fun z => nomatch z) fun tk => ⟨.bl b, H, I.tok tk, rfl, q⟩
  · obtain ⟨oe, od, J, _⟩ := inst_of I hx
    exact PySem.W.kia_one (PySem.W.kitx_exc T.ic T.ga T.gg T.exC T.cC Z.sg Z.st T.mC) I.kIn J e (fun z => nomatch z) fun tk => ⟨.bl b, H, I.tok tk, rfl, q⟩
end
end FNX

set_option Elab.async false
set_option linter.all false
set_option maxRecDepth 100000
set_option maxHeartbeats 4000000
/-! ## An exception made of nothing, under IndexError -/
namespace FNX
open PySem PySem.Spec PyProof.Rows L2

abbrev ixTail : List Value := [.type "IndexError", .type "LookupError", .type "Exception", .type "BaseException", .type "object"]
def sp0 (C : Addr) : Sp := fun vs H Q _ => ∃ (a : Addr), vs = [.ref a] ∧ H a = some (exo a C none) ∧ Q .non H
structure XC0 (K : PySem.W.Frag) (C : Addr) : Prop where
  xc : XC K C
  cls : ∃ nm q N bs sn sub ab col dd k0 k1 k2 k3 k5, K.lookup C = some (excClassObj nm q C N bs ixTail true sn sub ab col dd k0 k1 k2 k3 k5 "IndexError.__new__")
  vI : PySem.W.findCls K (.type "IndexError") (.type "type") "__init__" = some (.val (.builtin "IndexError.__init__"))
structure Ex0 (P : Program) (w : World) (K : PySem.W.Frag) (mg : Str → Option Value) (base : Heap) (x : Str) (C : Addr) : Prop where
  x0 : XC0 K C
  mgC : mg x = some (.ref C)
  mkd : ∃ fI fd, PySem.W.findIn K (.ref C) "__init__" = some (some (.ref fI)) ∧ PySem.W.typeIn K (.ref fI) = some (.type "function") ∧
    FnOk P w K mg base CX0 1 fI fd ["self"] (sp0 C) ∧ Binds K fd ["self"] []

theorem typIx : typeOf (.type "IndexError") = pure (.type "type") := by kernel_rfl
def tIxI (K : PySem.W.Frag) (ta : TA) : TE := fun σ H Q => ta σ H fun vs H1 => ∃ (a C : Addr), vs = [.ref a] ∧ XC0 K C ∧ H1 a = some (exo a C none) ∧ Q .non H1
section
variable {X : Cx} {e : Expr} {ta : TA} {p1 p2 pos : Pos}
theorem pe_ixinit {pl : Sem Bool} (hg : Gl X "IndexError") (hm : X.mg "IndexError" = none)
    (vI : PySem.W.findCls X.K (.type "IndexError") (.type "type") "__init__" = some (.val (.builtin "IndexError.__init__"))) (ha : PA X [e] ta)
    (hc : eval (.Call (.Attribute (.Name "IndexError" p1) "__init__" p2) [e] [] pos) X.env = (do
      let ov ← eval (.Name "IndexError" p1) X.env
      standAt p2.atName
      let (f, first) ← holding [ov] (getMethod ov "__init__" pl)
      callWith pos f first (backTo pos (starEach [e] X.env)) (backToKw pos (keywordEach [] X.env))) := by rfl)
    (he : starEach [e] X.env = (false, eval e X.env) :: starEach [] X.env := by rfl) (hpl : (backTo pos (starEach [] X.env)).any (·.1) = false := by rfl) :
    PE X (.Call (.Attribute (.Name "IndexError" p1) "__init__" p2) [e] [] pos) (tIxI X.K ta) := by
  refine ⟨fun pins s σ H Q I h => ?_⟩
  refine PySem.W.methodCall_KW (ld_blt I hg hm PyProof.Rows.Boot.«IndexError» ?_ (by decide) (by decide)) hc
  obtain ⟨m, fr⟩ := I.fr
  refine PySem.W.method_type fr I.ok.mod.kin typIx (by decide +kernel) vI (by decide +kernel) ?_
  show wpAny _ _ (callWith pos (Value.builtin "IndexError.__init__") [] (backTo pos (starEach [e] X.env)) []) _ _ _
  refine PyProof.Rows.callWith_method1 (thn (ha.run pos pins _ σ H _ (I.tok _) h) fun us s1 hu => ?_) he hpl
  obtain ⟨vs, H1, I1, r1, a, C, rfl, T, ea, q⟩ := hu
  obtain ⟨nm, qn, N, bs, sn, sub, ab, col, dd, k0, k1, k2, k3, k5, hC⟩ := T.cls
  obtain ⟨t1, ho⟩ := exo_at I1.hok ea
  cases r1 with
  | @cons _ u0 _ ur ra rw' =>
    cases rw'
    obtain rfl : u0 = Value.ref a := ra
    obtain ⟨hp, g, d, t, os⟩ := s1
    refine wpAny_call (PySem.HandSPX.init_base F.excBase_IndexError (fun Y => rfl) (I1.kIn _ _ hC) ho (by rw [sizeLine_eq]; exact (by decide : 0 ≤ 16777216)) fun h' t2 k hx => ?_)
    have J := I1.write (t' := t) (x := a) (e := a) (o := exo a C none) (mut_exo ea) (.inl rfl) k ⟨_, hx⟩ (exo_ok hx)
    have eu : upd H1 a (exo a C none) = H1 := by
      funext b
      by_cases hb : b = a
      · rw [hb, upd_same, ea]
      · rw [upd_ne hb]
    rw [eu] at J
    exact ⟨.non, H1, J, rfl, q⟩
end
section
variable {X : Cx} {x : Str} {C : Addr} {p pos : Pos} {pins : List (Addr × Obj)} {σ : L2.St} {H : Hp} {s : Shared} {Q : VK}
def wMk0 (C : Addr) (H : Hp) (Q : VK) : Prop := ∀ a H', H a = none → Same H H' → XAt0 H' a C → Q (.ref a) H'
theorem xmade0 (T : Ex0 X.prog X.w X.K X.mg X.base x C) (hr : Room 2 X.A) (I : Inv X pins σ H s) (q : wMk0 C H Q) :
    wpAny (model X.prog X.w) X.A (call (.ref C) []) (EP X pins σ Q) X.xe s := by
  obtain ⟨fI, fd, iC, tI, F1, hb⟩ := T.mkd
  obtain ⟨nm, qn, N, bs, bm, sn, sub, ab, col, dd, k0, k1, k2, k3, k5, B, newId, initId, bmB, hC, F, L⟩ := T.x0.xc.cls
  obtain ⟨hp, g, dr, tk, os⟩ := s
  have sz : hp.objs.size ≤ hp.objs.size + 1 := Nat.le_succ _
  have hn : H (hp.objs.size + 1) = none := I.hok.fresh sz
  have old : ∀ b o, hp.get? b = some o → ((hp.push (PySem.W.kdv_tup [])).push (PySem.HandSPX.excO C hp.objs.size)).get? b = some o :=
    fun b o z => Heap.get?_push_of_some _ (Heap.get?_push_of_some _ z)
  have at1 : ((hp.push (PySem.W.kdv_tup [])).push (PySem.HandSPX.excO C hp.objs.size)).get? (hp.objs.size + 1) =
      some (PySem.HandSPX.excO C hp.objs.size) := by heap_get
  have I2 : Inv X pins σ (upd H (hp.objs.size + 1) (exo (hp.objs.size + 1) C none))
      ⟨(hp.push (PySem.W.kdv_tup [])).push (PySem.HandSPX.excO C hp.objs.size), g, dr, tk, os⟩ :=
    I.laid (t' := tk) (o := exo (hp.objs.size + 1) C none) old sz (exo_ok at1)
  have hsp : sp0 C [V.ref (hp.objs.size + 1)] (upd H (hp.objs.size + 1) (exo (hp.objs.size + 1) C none))
      (fun z H2 => z = .non ∧ Q (.ref (hp.objs.size + 1)) H2) (fun _ _ _ => False) := by
    refine ⟨_, rfl, upd_same, rfl, q _ _ hn (fun b o z => ?_) upd_same⟩
    rw [upd_ne (ne_of_none z hn)]
    exact z
  have rv : Vals [V.ref (hp.objs.size + 1)] [Value.ref (hp.objs.size + 1)] := .cons rfl .nil
  refine wpAny_call (called F L (I.kIn _ _ hC) (by rw [sizeLine_eq]; exact (by decide : 0 ≤ 16777216)) (PySem.W.looks_findIn I.kIn iC) (fun self => PySem.W.bind_fn I.kIn self tI)
    (codeAny_mono (F1.run _ X.stack _ _ ⟨[Value.ref (hp.objs.size + 1)], []⟩ [Value.ref (hp.objs.size + 1)] _ _ (fun _ _ _ => False) (hr.make C [] [])
      (I2.env0.make C [] []) (hb _ [Value.ref (hp.objs.size + 1)] I2.kIn rfl) rv hsp) fun r s' hq' => ?_))
  cases r with
  | error er => exact False.elim hq'
  | ok fl =>
    cases fl with
    | ret u' =>
      obtain ⟨z, H2, J, rz, ez, q2⟩ := I2.after hq'
      subst ez
      exact ⟨rz, .ref (hp.objs.size + 1), H2, J, rfl, q2⟩
    | next => exact False.elim hq'
    | brk => exact False.elim hq'
    | cont => exact False.elim hq'
/-- C() -/
theorem pe_x0 (T : Ex0 X.prog X.w X.K X.mg X.base x C) (hr : Room 2 X.A) (hg : Gl X x) (hdb : (x == ("__debug__" : Str)) = false := by decide) :
    PE X (.Call (.Name x p) [] [] pos) (fun _ H Q => wMk0 C H Q) := by
  refine ⟨fun pins s σ H Q I h => ?_⟩
  refine wpAny_Call_Name_kw (ld_glob I hg T.mgC ?_ hdb)
  exact PySem.W.callWith_K0 I.kIn T.x0.xc.kC (xmade0 T hr I h)
end
end FNX

set_option Elab.async false
set_option linter.all false
set_option maxRecDepth 100000
set_option maxHeartbeats 4000000
/-! ## repr of data, where no repr runs further out; defs that are called there -/
namespace FNX
open PySem PySem.Spec PyProof.Rows L2

/-- what stands at a value, as data: HandS's, and a dict of texts and ints -/
inductive Rd (K : PySem.W.Frag) (H : Hp) : V → PyData → Prop
  | dat {v : V} {d : PyData} (h : Dp K H v d) : Rd K H v d
  | dct {a : Addr} (kvs : List (Str × Int)) (h : H a = some (.dK (kvs.map fun p => (Sum.inr p.1, V.int p.2)))) :
      Rd K H (.ref a) (.dict (kvs.map fun p => (.str p.1, .int p.2)))
mutual
theorem dpNoDict {K : PySem.W.Frag} {H : Hp} : ∀ (d : PyData) (v : V), Dp K H v d → d.hasDict = false
  | .none, _, _ => by simp only [PyData.hasDict]
  | .bool _, _, _ => by simp only [PyData.hasDict]
  | .int _, _, _ => by simp only [PyData.hasDict]
  | .str _, _, _ => by simp only [PyData.hasDict]
  | .list xs, _, h => by
    cases h with
    | lst _ hs =>
      simp only [PyData.hasDict]
      exact dpNoDictAll xs _ hs
  | .tuple xs, _, h => by
    cases h with
    | tup _ hs =>
      simp only [PyData.hasDict]
      exact dpNoDictAll xs _ hs
  | .dict _, _, h => by cases h
theorem dpNoDictAll {K : PySem.W.Frag} {H : Hp} : ∀ (ds : List PyData) (vs : List V), DpAll K H vs ds → PyData.hasDictAll ds = false
  | [], _, _ => by simp only [PyData.hasDictAll]
  | d :: ds, _, h => by
    cases h with
    | cons h1 h2 => simp only [PyData.hasDictAll, dpNoDict d _ h1, dpNoDictAll ds _ h2, Bool.or_self]
end

theorem readsKeys {P : Program} {w : World} {h : Heap} : ∀ (kvs : List (Str × Int)) (vs : List (Key × Value)) (es : List DictEntry),
    KV (kvs.map fun p => ((Sum.inr p.1 : Key), V.int p.2)) vs → Pairs (mixKind P w) es vs →
    ReadsAll h (es.map (·.key)) ((kvs.map fun p => ((PyData.str p.1, PyData.int p.2) : PyData × PyData)).map (·.1)) [] ∧
    ReadsAll h (es.map (·.val)) ((kvs.map fun p => ((PyData.str p.1, PyData.int p.2) : PyData × PyData)).map (·.2)) []
  | [], _, _, r, p => by
    cases r
    cases p
    exact ⟨.nil, .nil⟩
  | (x, i) :: kvs, _, _, r, p => by
    cases r with
    | cons r1 r2 =>
      rename_i q vs
      obtain ⟨k, u⟩ := q
      obtain ⟨rfl, t, rfl⟩ := r1
      cases p with
      | @cons e _ es _ p1 p3 p2 =>
        obtain ⟨h1, h2⟩ := readsKeys (h := h) kvs vs _ r2 p2
        have p1 : keyIs (Sum.inr x) _ = true := p1
        rcases keyIs_shape p1 with ⟨j, t', e1, e2⟩ | ⟨y, t', e1, e2⟩
        · cases e1
        · injection e1 with e1
          subst e1
          constructor
          · show ReadsAll h (e.key :: _) _ []
            rw [e2]
            exact ReadsAll.cons (as := []) (.str x t') h1
          · show ReadsAll h (e.val :: _) _ []
            rw [p3]
            exact ReadsAll.cons (as := []) (.int i t) h2

section
variable {X : Cx} {pins : List (Addr × Obj)} {σ : L2.St} {H : Hp} {s : Shared}
theorem rdReads (I : Inv X pins σ H s) {v : V} {d : PyData} {u : Value} (h : Rd X.K H v d) (r : RelV v u) :
    ∃ as, Reads s.heap u d as ∧ (d.hasDict = true → sysModules ∉ as) := by
  cases h with
  | dat h =>
    obtain ⟨as, q⟩ := Dp.reads I d v u h r
    exact ⟨as, q, PyData.noDict_hsm (dpNoDict d v h)⟩
  | @dct a kvs h =>
    obtain rfl : u = Value.ref a := r
    obtain ⟨_, hs, vs, rv, o, es, ep, ho, hx, hd, _, hp, _⟩ := (show ObjOk X.prog X.w H s.heap a (.dK _) from I.hok a _ h)
    obtain ⟨h1, h2⟩ := readsKeys (h := s.heap) kvs vs es.toList rv hp
    refine ⟨_, Reads.dict ho hx.1 hd h1 h2, fun _ z => ?_⟩
    have z : sysModules ∈ [a] := by simpa using z
    have z := List.mem_singleton.mp z
    rw [← z] at hs
    simp at hs
/-- repr(x) -/
def rRepr (K : PySem.W.Frag) : List V → Hp → VK → Prop := fun xs H Q => ∃ v d, xs = [v] ∧ Rd K H v d ∧ d.showable = true ∧ d.depth ≤ 60 ∧
  d.shown.length ≤ sizeLine ∧ Q (.str d.shown) H
theorem call_repr (hg : X.A.guards = some []) (hu : X.A.units + 64 < cLine) : CallR X (.builtin "repr") (rRepr X.K) := by
  intro pins s σ H xs us Q I r h
  obtain ⟨v, d, rfl, hd, h1, h2, h3, q⟩ := h
  cases r with
  | cons r1 r2 =>
    cases r2
    rename_i u
    obtain ⟨as, hr, hsm⟩ := rdReads I hd r1
    have done : ∀ h' u' tk, (∀ b o, s.heap.get? b = some o → h'.get? b = some o) → EP X pins σ Q (.str d.shown u') { s with heap := h', toks := tk } :=
      fun h' u' tk k => ⟨.str d.shown, H, I.un (t' := tk) (Un.kept k) (I.hok.kept k), ⟨u', rfl⟩, q⟩
    have fin : ∀ {x : Str} {u' : Tok}, x = d.shown → EP X pins σ Q (.str x u') { s with toks := s.toks + 1 } := fun {x u'} e => by
      rw [e]
      exact done s.heap u' (s.toks + 1) fun _ _ z => z
    cases hr with
    | none => exact PySem.P.repr_of_none (fin (by simp only [PyData.shown]))
    | bool b => exact PySem.P.repr_of_bool (fin (by simp only [PyData.shown]))
    | int i t => exact PySem.P.repr_of_int (by simpa [PyData.showable] using h1) (fin (by simp only [PyData.shown]))
    | str x t => exact PySem.P.repr_of_str (fin (by simp only [PyData.shown])) (by simpa only [PyData.shown] using h3)
    | list a1 a2 a3 a4 => exact repr_of_reads' (.list a1 a2 a3 a4) h1 hsm hg (by omega) (fun _ _ e => e) (fun h' u tk k => done h' u tk k) h3
    | tuple a1 a2 a3 a4 => exact repr_of_reads' (.tuple a1 a2 a3 a4) h1 hsm hg (by omega) (fun _ _ e => e) (fun h' u tk k => done h' u tk k) h3
    | dict a1 a2 a3 a4 a5 => exact repr_of_reads' (.dict a1 a2 a3 a4 a5) h1 hsm hg (by omega) (fun _ _ e => e) (fun h' u tk k => done h' u tk k) h3
end

/-! ### defs that are called where no repr runs -/
structure GOk (P : Program) (w : World) (K : PySem.W.Frag) (mg : Str → Option Value) (base : Heap) (k : Nat) (f : Addr) (fd : FuncData) (ps : List Str) (sp : Sp) : Prop where
  len : ∀ vs H Q E, sp vs H Q E → vs.length = ps.length
  run : ∀ (A : Around) (outer : List Env) (s : Shared) (H : Hp) (args : Args) (us : List Value) (vs : List V) (Q : VK) (E : XK), A.guards = some [] → Room k A →
    Env0 P w K mg base A outer s H → BindsTo s fd args (ps.zip us) → Vals vs us → sp vs H Q E → codeAny (model P w) A (.call (.ref f) args) (CR CX0 outer P w H s Q E) s
section
variable {P : Program} {w : World} {K : PySem.W.Frag} {mg : Str → Option Value} {base : Heap}
theorem okG {x qual : Str} {st : Stmt} {f : Addr} {fd : FuncData} {N ps : List Str} {k : Nat} {sp : Sp} (F : Fun K x qual st f fd) (S : FnScope N ps (defScope st))
    (len : ∀ vs H Q E, sp vs H Q E → vs.length = ps.length)
    (hbody : ∀ (cdv : Value) (A : Around) (outer : List Env) (s : Shared) (H : Hp) (vs : List V) (Q : VK) (E : XK), A.guards = some [] →
      Room k (A.deeper (envOfC qual (defScope st) s.heap.objs.size f cdv)) → sp vs H Q E →
      ∃ t, PSs (cxOf CX0 P w K mg base N qual (defScope st) f cdv A outer s H E).nox (defBody st) t ∧ t { nx := fun _ H' => Q .non H', rt := Q } (start N vs) H) :
    GOk P w K mg base (k + 1) f fd ps sp := by
  refine ⟨len, fun A outer s H args us vs Q E hg hr e0 hb r hs => ?_⟩
  -- a promise that is kept around this A alone
  obtain ⟨oc, od, kV, doc, pm, an, cdv, ct, osl, rfl, lk, hcd⟩ := F.ex
  have KX : K.In s.heap := e0.mod.kin.keeps fun b o e => (e0.bs b o e).1
  have lim : s.heap.NoLimit := e0.mod.nolimit.keeps fun b o e => (e0.bs b o e).1
  have hl := len _ _ _ _ hs
  have kinds : ∀ y ∈ ps.zip us, (defScope st).names.lookup y.1 = some .local ∨
      ((defScope st).names.lookup y.1 = some .cell ∧ ((cellsFrom (s.heap.objs.size + 1) (defScope st).names []).lookup y.1).isSome = true) := fun y hy => by
    rcases S.par y.1 (List.of_mem_zip (show (y.1, y.2) ∈ ps.zip us from hy)).1 with z | z
    · exact .inl z
    · exact .inr ⟨z, PySem.W.cellsFrom_some _ _ _ (.inl z)⟩
  refine codeAny_call_function hr.depth (KX _ _ lk) rfl S.co S.gen rfl (PySem.W.codeRec_of KX hcd) (hb _ _ _ _ ?_)
  refine wpAny_newFunctionEnv_cells S.kind kinds fun env he s1 x => ?_
  subst he
  refine ⟨lim.keeps x.toInCall.keep, codeAny_func ?_⟩
  obtain ⟨t, ht, hq⟩ := hbody cdv A outer s H vs Q E hg (hr.deeper _) hs
  have I := inv_start (CX := CX0) (E := E) S hr.hd e0 hl r x
  refine wpAny_mono (ht.nox.run [] s1 _ H _ I hq) (fun fl s' z => ?_) fun e s' z => z
  cases fl with
  | ret u =>
    obtain ⟨v, σ', H', J, rv, q⟩ := z
    exact ⟨v, H', J.os, J.bare, J.base, J.hok, rv, q⟩
  | next =>
    obtain ⟨σ', H', J, q⟩ := z
    exact ⟨V.non, H', J.os, J.bare, J.base, J.hok, rfl, q⟩
  | brk =>
    obtain ⟨_, _, _, q⟩ := z
    exact q.elim
  | cont =>
    obtain ⟨_, _, _, q⟩ := z
    exact q.elim
end
end FNX

set_option Elab.async false
set_option linter.all false
set_option maxRecDepth 100000
set_option maxHeartbeats 4000000
/-! ## The law's own call, made where no repr runs -/
namespace FNX
open PySem PySem.Spec PyProof.Rows L2

section
variable {P : Program} {w : World} {K : PySem.W.Frag} {mg mb : Str → Option Value} {k : Nat} {fa a : Addr} {fd : FuncData} {x : Str} {sp : Sp} {s : Shared} {vs : List Value} {ns : List Int}
abbrev LawEnd (s : Shared) (r : Result) (s' : Shared) : Prop := r = .ok (.ret (.bool true)) ∧ OldK s.heap s'.heap ∧ s'.os = s.os ∧ AllBare s'.gens

/-- from an abstract heap that tracks the script at most -/
theorem lawFrom {H : Hp} (KX : K.In s.heap) (hns : s.heap.Ns mainGlobals mg) (hb : s.heap.Ns builtinsNs mb) (hbb : ∀ x : Str, x ≠ "__name__" → mb x = bootBuiltins x)
    (hlim : s.heap.NoLimit) (hg : s.gens = #[]) (hr : Room k callerA)
    (F : ∀ base : Heap, K.In base → base.Ns mainGlobals mg → GOk P w K mg base k fa fd [x] sp) (hbind : ∀ (s : Shared) (u : Value), BindsTo s fd ⟨[u], []⟩ [(x, u)])
    (hsp : sp [.ref a] H (fun v _ => v = .bl true) fun _ _ _ => False) (hok : HOk P w H s.heap)
    (hlist : ∀ b u, H b = some u → (∃ o xs, u = .frz o (.lst xs)) ∧ K.lookup b = none ∧ ∀ o es ep, s.heap.get? b = some o → o.data ≠ .dict es ep) :
    codeAny (model P w) callerA (.call (.ref fa) ⟨[.ref a], []⟩) (LawEnd s) s := by
  have seen : ∀ {b : Addr} {o : Obj}, s.heap.get? b = some o → H b = none → (hidT s.heap H).get? b = some o := fun e n => hidT_get e n
  have noD : ∀ {b : Addr} {o : Obj} {es : Array DictEntry} {ep : Nat}, s.heap.get? b = some o → o.data = .dict es ep → H b = none := fun {b o es ep} e d => by
    cases q : H b with
    | none => rfl
    | some u => exact absurd d ((hlist b u q).2.2 o es ep e)
  have keep : ∀ {b : Addr} {m : Str → Option Value}, s.heap.Ns b m → (hidT s.heap H).Ns b m := fun n => by
    obtain ⟨o, es, ep, e, d, r⟩ := n
    exact ⟨o, es, ep, seen e (noD e d), d, r⟩
  have kin : K.In (hidT s.heap H) := fun b o e => seen (KX b o e) (by
    cases q : H b with
    | none => rfl
    | some u =>
      have z := (hlist b u q).2.1
      rw [z] at e
      cases e)
  have mod : Mod K mg (hidT s.heap H) := ⟨kin, keep hns, ⟨mb, keep hb, hbb⟩, by
    obtain ⟨mc, h1, h2⟩ := hlim
    exact ⟨mc, keep h1, h2⟩⟩
  have e0 : Env0 P w K mg (hidT s.heap H) callerA [] s H :=
    ⟨rfl, mod, fun b o e => of_hidT e, Nat.le_of_eq (hidT_size _ _), trivial, fun b hb => absurd (show b ∈ ([] : List Addr) from hb) (by simp), hok, .of_eq hg⟩
  have rv : Vals [V.ref a] [Value.ref a] := .cons rfl .nil
  refine codeAny_mono ((F _ kin (keep hns)).run callerA [] s H ⟨[.ref a], []⟩ [.ref a] [.ref a] _ _ rfl hr e0 (hbind s (.ref a)) rv hsp) fun r s' z => ?_
  cases r with
  | error e => exact False.elim z
  | ok fl =>
    cases fl with
    | next => exact False.elim z
    | brk => exact False.elim z
    | cont => exact False.elim z
    | ret u =>
      obtain ⟨v, H', os, bare, un, hok', rv', q⟩ := z
      obtain rfl : v = .bl true := q
      obtain rfl : u = Value.bool true := rv'
      refine ⟨rfl, OldK.of_keep fun b o e => ?_, os, bare⟩
      cases q : H b with
      | none => exact un.keep b o e q (fun z => absurd (show b ∈ ([] : List Addr) from z) (by simp)) (by simp)
      | some t =>
        obtain ⟨⟨ob, xs, rfl⟩, _, _⟩ := hlist b t q
        obtain ⟨e1, _⟩ := hok b _ q
        obtain ⟨e2, _⟩ := hok' b _ (un.frzs b ob _ q)
        rw [e] at e1
        cases e1
        exact e2

theorem lawCalled (KX : K.In s.heap) (hns : s.heap.Ns mainGlobals mg) (hb : s.heap.Ns builtinsNs mb) (hbb : ∀ x : Str, x ≠ "__name__" → mb x = bootBuiltins x)
    (hlim : s.heap.NoLimit) (hg : s.gens = #[]) (ha : s.heap.get? a = some { cls := .type "list", data := .seq vs.toArray }) (hi : IntsAre vs ns) (hl : ns.length ≤ sizeLine)
    (hr : Room k callerA) (F : ∀ base : Heap, K.In base → base.Ns mainGlobals mg → GOk P w K mg base k fa fd [x] sp)
    (hbind : ∀ (s : Shared) (u : Value), BindsTo s fd ⟨[u], []⟩ [(x, u)])
    (hsp : ∀ H : Hp, SqL K H a (ns.map V.int) → sp [.ref a] H (fun v _ => v = .bl true) fun _ _ _ => False) :
    codeAny (model P w) callerA (.call (.ref fa) ⟨[.ref a], []⟩) (LawEnd s) s := by
  have rv := vals_ints hi
  have lenV := hi.length
  cases hk : K.lookup a with
  | some o =>
    have e := KX a o hk
    rw [ha] at e
    cases e
    refine lawFrom (H := fun _ => none) KX hns hb hbb hlim hg hr F hbind (hsp _ (.inr ⟨_, vs.toArray, _, hk, rfl, rfl, rfl, ?_, ?_⟩)) (fun b u z => nomatch z) (fun b u z => nomatch z)
    · rw [List.size_toArray, lenV]
      exact hl
    · simpa using rv
  | none =>
    have at1 : ∀ {b : Addr} {u : HO}, (if b = a then some (HO.frz { cls := .type "list", data := .seq vs.toArray } (.lst (ns.map V.int))) else none) = some u →
        b = a ∧ u = .frz { cls := .type "list", data := .seq vs.toArray } (.lst (ns.map V.int)) := fun {b u} z => by
      by_cases h : b = a
      · rw [if_pos h] at z
        exact ⟨h, (Option.some.inj z).symm⟩
      · rw [if_neg h] at z
        cases z
    refine lawFrom (H := fun b => if b = a then some (.frz { cls := .type "list", data := .seq vs.toArray } (.lst (ns.map V.int))) else none) KX hns hb hbb hlim hg hr F hbind
      (hsp _ (.inl (.inr ⟨_, if_pos rfl⟩))) (fun b u z => ?_) (fun b u z => ?_)
    · obtain ⟨rfl, rfl⟩ := at1 z
      exact ⟨ha, by rw [List.length_map]; exact hl, vs, _, rv, ha⟩
    · obtain ⟨rfl, rfl⟩ := at1 z
      refine ⟨⟨_, _, rfl⟩, hk, fun o es ep e d => ?_⟩
      rw [ha] at e
      cases e
      have d' : Data.seq vs.toArray _ = Data.dict es ep := d
      cases d'
end

/-- what the head leaves, from the law's promise -/
theorem walkG {l : PySem.W.OpenLaw} {n k : Nat} {q : Program} {loose : List Str} {XP : (Str → Option Value) → Heap → Prop} {YP : World → Heap → Prop} {d : DefRec} {K : Params → PySem.W.Frag} {sp : World → Sp} {x : Str}
    (hn : l.most = some n) (hn2 : n ≤ sizeLine) (hdf : d.params.defaults = []) (hr : Room k callerA) (hY : ∀ (w : World) (h : Heap), YP w h → (K w.params).In h)
    (F : ∀ (w : World) (mg : Str → Option Value) (fa : Addr) (h : Heap), (K w.params).In h → h.Ns mainGlobals mg → mg d.name = some (.ref fa) →
      ∃ fd : FuncData, (∀ (s : Shared) (u : Value), BindsTo s fd ⟨[u], []⟩ [(x, u)]) ∧
        ∀ base : Heap, (K w.params).In base → base.Ns mainGlobals mg → GOk l.prog w (K w.params) mg base k fa fd [x] (sp w))
    (hsp : ∀ (w : World) (H : Hp) (a : Addr) (ns : List Int), ns.length ≤ n → SqL (K w.params) H a (ns.map V.int) → sp w [.ref a] H (fun v _ => v = .bl true) fun _ _ _ => False) :
    PySem.W.WalkO q loose XP YP l.row.toRowW d [] (fun f vs => PySem.call f vs) := by
  refine Att.attach_call hn hdf fun w s₀ s₁ mg mb fa o pm cd doc a vs ns G Y ho hd hcd hmg hobj hints hlen hg => ?_
  have KX := hY w _ Y
  obtain ⟨fd, hb, hF⟩ := F w mg fa _ KX G.T.g hmg
  exact lawCalled KX G.T.g G.T.b G.T.builtins G.T.nolimit hg hobj hints (Nat.le_trans hlen hn2) hr hF hb fun H hS => hsp w H a ns hlen hS
end FNX

set_option Elab.async false
set_option linter.all false
set_option maxRecDepth 100000
set_option maxHeartbeats 4000000
/-! ## List comprehensions of one name whose elements change nothing that is tracked -/
namespace FNX
open PySem PySem.Spec PyProof.Rows L2
theorem range_more {α : Type} (n : Nat) (f : Nat → α) : (List.range (n + 1)).map f = (List.range n).map f ++ [f n] := by
  rw [List.range_succ, List.map_append]
  rfl
theorem same_upd {H : Hp} {p : Addr} {o : HO} (h : H p = none) : Same H (upd H p o) := fun b u e => by
  rw [upd_ne (ne_of_none e h)]
  exact e
/-- a turn's end: the element y, the heap behind it -/
def LcT (B : Hp) (D : Addr) (f : Nat → V) (i : Nat) (y : V) (H : Hp) : Prop := ∃ acc, H D = some (.lst acc) ∧ acc.length < sizeLine ∧
  (Same B (upd H D (.lst (acc ++ [y]))) ∧ upd H D (.lst (acc ++ [y])) D = some (.lst ((List.range (i + 1)).map f)))
theorem lcT {B H H' : Hp} {D : Addr} {f : Nat → V} {i : Nat} {y : V} (hD : B D = none) (hi : i < 1000000) (sB : Same B H) (hd : H D = some (.lst ((List.range i).map f)))
    (s : Same H H') (e : y = f i) : LcT B D f i y H' := by
  refine ⟨_, s _ _ hd, ?_, fun b o z => ?_, ?_⟩
  · rw [List.length_map, List.length_range]
    exact Nat.lt_trans hi (by rw [sizeLine_eq]; decide)
  · rw [upd_ne (ne_of_none z hD)]
    exact s _ _ (sB _ _ z)
  · rw [upd_same, range_more, e]
section
variable {K : PySem.W.Frag} {te : TE} {vs : List Nat} {σ : L2.St} {B : Hp} {D : Addr} {Qd : Hp → Prop}
theorem lc_map {a : Addr} {xs : List V} {j : Nat} (f : Nat → V) (hD : B D = none) (hl : SqL K B a xs)
    (hw : ∀ x, wipe ((wipe σ vs).set j (some x)) vs = wipe σ vs)
    (hs : ∀ i x H, xs[i]? = some x → Same B H → H D = some (.lst ((List.range i).map f)) → te ((wipe σ vs).set j (some x)) H (LcT B D f i))
    (hd : ∀ H, Same B H → H D = some (.lst ((List.range xs.length).map f)) → Qd H) :
    ∃ W : Nat → Nat → Hp → Prop, (∃ m, W 0 m (upd B D (.lst []))) ∧ ∀ i m H, W i m H →
      ((Itl K a).stop i H ∧ Qd H) ∨ ((Itl K a).go i H ∧ ∃ Nx : Hp → Prop, (∀ H', Nx H' → ∃ m', m' < m ∧ W (i + 1) m' H') ∧
        ∀ x H', (Itl K a).yld i H x H' → gName j x (wipe σ vs) H' fun σ2 H2 => wipe σ2 vs = wipe σ vs ∧ tYes σ2 H2 fun b H3 =>
          if b = true then te σ2 H3 fun y H4 => ∃ acc, H4 D = some (.lst acc) ∧ acc.length < sizeLine ∧ Nx (upd H4 D (.lst (acc ++ [y]))) else Nx H3) :=
  lc_list (K := K) (a := a) (xs := xs) (fun i H => Same B H ∧ H D = some (.lst ((List.range i).map f))) ⟨same_upd hD, upd_same⟩
    (fun i H _ h => h.1.seq hl) (fun i x H hx h => ⟨hw x, hs i x H hx h.1 h.2⟩) fun H h => hd H h.1 h.2
theorem lc_mapR {lo : Int} {n j : Nat} (f : Nat → V) (hD : B D = none)
    (hw : ∀ x, wipe ((wipe σ vs).set j (some x)) vs = wipe σ vs)
    (hs : ∀ i H, i < n → Same B H → H D = some (.lst ((List.range i).map f)) → te ((wipe σ vs).set j (some (.int (lo + i)))) H (LcT B D f i))
    (hd : ∀ H, Same B H → H D = some (.lst ((List.range n).map f)) → Qd H) :
    ∃ W : Nat → Nat → Hp → Prop, (∃ m, W 0 m (upd B D (.lst []))) ∧ ∀ i m H, W i m H →
      ((Itr lo n).stop i H ∧ Qd H) ∨ ((Itr lo n).go i H ∧ ∃ Nx : Hp → Prop, (∀ H', Nx H' → ∃ m', m' < m ∧ W (i + 1) m' H') ∧
        ∀ x H', (Itr lo n).yld i H x H' → gName j x (wipe σ vs) H' fun σ2 H2 => wipe σ2 vs = wipe σ vs ∧ tYes σ2 H2 fun b H3 =>
          if b = true then te σ2 H3 fun y H4 => ∃ acc, H4 D = some (.lst acc) ∧ acc.length < sizeLine ∧ Nx (upd H4 D (.lst (acc ++ [y]))) else Nx H3) :=
  lc_range (lo := lo) (n := n) (fun i H => Same B H ∧ H D = some (.lst ((List.range i).map f))) ⟨same_upd hD, upd_same⟩
    (fun i H hi h => ⟨hw _, hs i H hi h.1 h.2⟩) fun H h => hd H h.1 h.2
end
end FNX

set_option Elab.async false
set_option linter.all false
set_option maxRecDepth 100000
set_option maxHeartbeats 4000000
/-! ## raise C(e), and e.value in an except suite -/
namespace FNX
open PySem PySem.Spec PyProof.Rows L2
section
variable {X : Cx} {x : Str} {C : Addr} {e : Expr} {ta : TA} {p pos : Pos}
/-- C(e), to be raised: its own dict d is new and holds the value -/
def tMkX (C : Addr) (ta : TA) : L2.St → Hp → XK → Prop := fun σ H Q => ta σ H fun vs H1 => ∃ v, vs = [v] ∧
  ∀ d H', H1 d = none → Same H1 H' → H' d = some (.xd [(("value" : Str), v)]) → Q (.ref C) (some d) H'
theorem pmk_x (T : Ex X.prog X.w X.K X.mg X.base x C) (tyC : PySem.W.typeIn X.K (.ref C) = some (.type "type")) (hr : Room 2 X.A) (hg : Gl X x) (ha : PA X (e :: []) ta)
    (hdb : (x == ("__debug__" : Str)) = false := by decide) (he : starEach (e :: []) X.env = (false, eval e X.env) :: starEach [] X.env := by rfl)
    (hpl : (backTo pos (starEach [] X.env)).any (·.1) = false := by rfl) : PMk X (.Call (.Name x p) [e] [] pos) (tMkX C ta) := by
  intro pins s σ H Q I h
  refine wpAny_Call_Name_kw (ld_glob I hg T.mgC ?_ hdb)
  refine PySem.W.callWith_K (h₀ := X.base) I.ok.mod.kin T.xc.kC (thn (ha.run pos pins s σ H _ I h) fun us s1 hu => ?_) he hpl
  obtain ⟨vs, H1, I1, r1, v, rfl, q⟩ := hu
  refine ⟨I1.kIn, ?_⟩
  obtain ⟨fI, fd, iC, tI, F1, hb, hk⟩ := T.mkd
  obtain ⟨nm, qn, N, bs, bm, sn, sub, ab, col, dd, k0, k1, k2, k3, k5, B, newId, initId, bmB, hC, F, L⟩ := T.xc.cls
  cases r1 with
  | cons rv rn =>
    cases rn
    rename_i u
    show wpAny _ _ (call (.ref C) [u]) _ _ _
    obtain ⟨hp, g, dr, tk, os⟩ := s1
    have sz : hp.objs.size ≤ hp.objs.size + 1 := Nat.le_succ _
    have hn : H1 (hp.objs.size + 1) = none := I1.hok.fresh sz
    have old : ∀ b o, hp.get? b = some o → ((hp.push (PySem.W.kdv_tup [u])).push (PySem.HandSPX.excO C hp.objs.size)).get? b = some o :=
      fun b o z => Heap.get?_push_of_some _ (Heap.get?_push_of_some _ z)
    have at1 : ((hp.push (PySem.W.kdv_tup [u])).push (PySem.HandSPX.excO C hp.objs.size)).get? (hp.objs.size + 1) =
        some (PySem.HandSPX.excO C hp.objs.size) := by heap_get
    have I2 : Inv X pins σ (upd H1 (hp.objs.size + 1) (exo (hp.objs.size + 1) C none))
        ⟨(hp.push (PySem.W.kdv_tup [u])).push (PySem.HandSPX.excO C hp.objs.size), g, dr, tk, os⟩ :=
      I1.laid (t' := tk) (o := exo (hp.objs.size + 1) C none) old sz (exo_ok at1)
    have r2 : Vals [V.ref (hp.objs.size + 1), v] [Value.ref (hp.objs.size + 1), u] := .cons rfl (.cons rv .nil)
    have hsp : spX C [V.ref (hp.objs.size + 1), v] (upd H1 (hp.objs.size + 1) (exo (hp.objs.size + 1) C none))
        (fun z H2 => z = .non ∧ ∃ d : Addr, H2 (hp.objs.size + 1) = some (exo (hp.objs.size + 1) C (some d)) ∧ H2 d = some (exd d [("value", v)]) ∧ H1 d = none ∧
          Q (.ref C) (some d) (upd (del H2 (hp.objs.size + 1)) d (.xd [("value", v)]))) (fun _ _ _ => False) := by
      refine ⟨_, _, rfl, upd_same, fun dx n ne => ⟨rfl, dx, upd_same, by rw [upd_ne ne, upd_same], ?_, ?_⟩⟩
      · rw [upd_ne ne] at n
        exact n
      rw [upd_ne ne] at n
      refine q dx _ n (fun b o z => ?_) upd_same
      have h1 : b ≠ dx := ne_of_none z n
      have h2 : b ≠ hp.objs.size + 1 := ne_of_none z hn
      rw [upd_ne h1, del_ne h2, upd_ne h2, upd_ne h1, upd_ne h2]
      exact z
    refine wpAny_call (called F L (I1.kIn _ _ hC) (by rw [sizeLine_eq]; exact (by decide : 1 ≤ 16777216)) (PySem.W.looks_findIn I1.kIn iC) (fun self => PySem.W.bind_fn I1.kIn self tI)
      (codeAny_mono (F1.run _ X.stack _ _ ⟨[Value.ref (hp.objs.size + 1), u], []⟩ [Value.ref (hp.objs.size + 1), u] _ _ (fun _ _ _ => False) (hr.make C [u] [])
        (I2.env0.make C [u] []) (hb _ [Value.ref (hp.objs.size + 1), u] I2.kIn rfl) r2 hsp) fun r s' hq' => ?_))
    cases r with
    | error er => exact False.elim hq'
    | ok fl =>
      cases fl with
      | ret u' =>
        obtain ⟨z, H2, os2, bare2, un2, hok2, rz, ez, d, ea, ed, hd1, q2⟩ := hq'
        subst ez
        obtain ⟨h2, g2, d2, t2, os'⟩ := s'
        exact ⟨rz, mk_end (raises_own T.xc.exC tyC) I1 sz old un2 hok2 os2 bare2 ea ed hd1 q2⟩
      | next => exact False.elim hq'
      | brk => exact False.elim hq'
      | cont => exact False.elim hq'
/-- raise C(e) -/
def tRaiseX (C : Addr) (W : WX) (ta : TA) : TS := fun _ σ H => tMkX C ta σ H fun cls d H' => W cls d σ H'
theorem ps_raiseX {W : WX} {pos2 : Pos} (hc : X.calm = true) (T : Ex X.prog X.w X.K X.mg X.base x C) (tyC : PySem.W.typeIn X.K (.ref C) = some (.type "type")) (hr : Room 2 X.A) (tk : Takes X W)
    (hg : Gl X x) (ha : PA X (e :: []) ta) (hdb : (x == ("__debug__" : Str)) = false := by decide)
    (he : starEach (e :: []) X.env = (false, eval e X.env) :: starEach [] X.env := by rfl) (hpl : (backTo pos (starEach [] X.env)).any (·.1) = false := by rfl) :
    PS X (.Raise (some (.Call (.Name x p) [e] [] pos)) none pos2) (tRaiseX C W ta) := ps_raise hc tk (pmk_x T tyC hr hg ha hdb he hpl)
/-- e.value, e the exception that the suite holds at a -/
def tByX (C : Addr) (a : Addr) (cls : Value) (d : Option Addr) (te : TE) : TE := fun σ H Q => te σ H fun y H1 => y = .ref a ∧ cls = .ref C ∧ ∃ (dd : Addr) (v : V), d = some dd ∧
  H1 dd = some (.xd [(("value" : Str), v)]) ∧ Q v H1
theorem pe_byX {a : Addr} {oe : Obj} {cls : Value} {d : Option Addr} {pn : List (Addr × Obj)} {te : TE} (T : XC X.K C) (hz : Zc cls d oe) (hf : ∃ vs, oe.data = .fields vs) (he : PE (X.suite a ((a, oe) :: pn)) e te)
    (hb : attributeBase e "value" X.env (eval e X.env) = eval e X.env := by rfl) : PE (X.suite a ((a, oe) :: pn)) (.Attribute e "value" pos) (tByX C a cls d te) := by
  refine ⟨fun pins s σ H Q I h => ?_⟩
  refine attr_of hb (thn (he.run pins s σ H _ I h) fun u s1 hh => ?_)
  obtain ⟨y, H1, I1, rx, rfl, rfl, dd, v, rfl, ea, q⟩ := hh
  obtain rfl : u = Value.ref a := rx
  obtain ⟨ha, _⟩ := I1.pin (a, oe) (List.mem_append_left _ List.mem_cons_self)
  obtain ⟨vs, hd⟩ := hf
  obtain ⟨mA, hns, hr⟩ := (show ObjOk X.prog X.w H1 s1.heap dd (.xd [(("value" : Str), v)]) from I1.hok dd _ ea)
  obtain ⟨od, ho, hl⟩ := lookIn_ns hns
  have l : List.lookup ("value" : Str) [(("value" : Str), v)] = some v := by simp [List.lookup]
  obtain ⟨u, hu, ru⟩ := RelO.some_of (v := v) (o := mA "value") (by rw [← l]; exact hr "value")
  have J : PySem.W.InstAt s1.heap a oe C (some od) := ⟨ha, hz.1, by unfold PySem.W.notCls; rw [hd] <;> rfl, by rw [hz.2]; exact ho⟩
  exact HandSPX.exc_get I1.kIn J T.ga T.gg T.exC (PySem.W.findObj_own T.hdC T.noV rfl (by rw [hl, hu])) (handed_of ru) ⟨v, H1, I1.tok _, ru, q⟩
end
end FNX

set_option Elab.async false
set_option linter.all false
set_option maxRecDepth 100000
set_option maxHeartbeats 4000000
/-! ## Further rules: xs[i] += e, min and max of a pair, the types of data -/
namespace FNX
open PySem PySem.Spec PyProof.Rows L2
open PySem.W (AlikeAll min_tuple_data max_tuple_data minD maxD minD_ints maxD_ints)
section
variable {X : Cx}
theorem pget_list : PGet X (fun o i H Q => rIxL X.K o i H Q) := by
  intro pins s σ H o i ov iv Q I ro ri h
  obtain ⟨p, xs, k, z, rfl, rfl, hq, he, q⟩ := h
  obtain rfl : ov = Value.ref p := ro
  obtain ⟨t, rfl⟩ := ri
  obtain ⟨its, r, pl, hz⟩ := I.list hq
  obtain ⟨j, h1, h2, h3, h4, h5⟩ := atI_get he
  obtain ⟨w, ew, rw'⟩ := r.get h2
  have hl := r.length
  have hn := line63
  have fin : EP X pins σ Q w s := ⟨z, H, I, rw', q⟩
  by_cases h0 : 0 ≤ k
  · have hj : k.toNat = j := by
      rw [seqIndex_of h0 h5] at h1
      exact Option.some.inj h1
    exact wpAny_getItem_list pl.isList h0 (by omega) (by rw [hj]; simpa using ew) fin
  · have hj : (k + (its.toArray.size : Int)).toNat = j := by
      rw [seqIndex_neg (by omega) h4] at h1
      rw [List.size_toArray, ← hl]
      exact Option.some.inj h1
    exact wpAny_getItem_list_neg pl.isList (by omega) (by rw [List.size_toArray] <;> omega) (by omega) (by rw [hj]; simpa using ew) fin
theorem pairReads {h : Heap} {i j : Int} {us : List Value} (r : Vals [V.int i, V.int j] us) : ReadsAll h us [.int i, .int j] [] := by
  cases r with
  | cons r1 r2 =>
    cases r2 with
    | cons r2 r3 =>
      cases r3
      obtain ⟨t1, rfl⟩ := r1
      obtain ⟨t2, rfl⟩ := r2
      exact ReadsAll.cons (as := []) (.int i t1) (ReadsAll.cons (as := []) (.int j t2) .nil)
theorem pairAlike (i j : Int) : AlikeAll [.int i, .int j] := by
  refine ⟨fun x hx y hy => ?_, fun x hx => ?_⟩
  · simp only [List.mem_cons, List.not_mem_nil, or_false] at hx hy
    rcases hx with rfl | rfl <;> rcases hy with rfl | rfl <;> rfl
  · simp only [List.mem_cons, List.not_mem_nil, or_false] at hx
    rcases hx with rfl | rfl <;> exact PyData.noConfusion
theorem intOfReads {h : Heap} {v : Value} {k : Int} {bs : List Addr} (r : Reads h v (.int k) bs) : RelV (.int k) v := by
  cases r
  exact ⟨_, rfl⟩
/-- min(t), max(t) of a pair of ints -/
def rMinT (f : Int → Int → Int) : List V → Hp → VK → Prop := fun vs H Q => ∃ (a : Addr) (i j : Int), vs = [V.ref a] ∧ H a = some (.tup [.int i, .int j]) ∧ Q (.int (f i j)) H
theorem cr_minT (hc : X.calm = true) (hu : X.A.units + 64 < cLine) : CallR X (.builtin "min") (rMinT min) := by
  intro pins s σ H vs us Q I r h
  obtain ⟨a, i, j, rfl, hs, q⟩ := h
  obtain ⟨its, rv, ht, _⟩ := I.tuple (SqT.of hs)
  rw [Vals.ref1 r]
  obtain ⟨o, h1, h2, n, h3⟩ := ht
  refine min_tuple_data (x := .int i) (xs := [.int j]) (I.ok.hd hc) ⟨o, h1, h2, n, h3⟩ (pairReads rv) (pairAlike i j) (by show X.A.units + 1 + 0 < cLine; omega) (fun k v h' tk bs e r2 kp => ?_)
  have e2 : minD (.int i) [.int j] = .int (min i j) := minD_ints i [j]
  rw [e2] at r2
  exact ⟨.int (min i j), H, I.kept kp, intOfReads r2, q⟩
theorem cr_maxT (hc : X.calm = true) (hu : X.A.units + 64 < cLine) : CallR X (.builtin "max") (rMinT max) := by
  intro pins s σ H vs us Q I r h
  obtain ⟨a, i, j, rfl, hs, q⟩ := h
  obtain ⟨its, rv, ht, _⟩ := I.tuple (SqT.of hs)
  rw [Vals.ref1 r]
  obtain ⟨o, h1, h2, n, h3⟩ := ht
  refine max_tuple_data (x := .int i) (xs := [.int j]) (I.ok.hd hc) ⟨o, h1, h2, n, h3⟩ (pairReads rv) (pairAlike i j) (by show X.A.units + 1 + 0 < cLine; omega) (fun k v h' tk bs e r2 kp => ?_)
  have e2 : maxD (.int i) [.int j] = .int (max i j) := maxD_ints i [j]
  rw [e2] at r2
  exact ⟨.int (max i j), H, I.kept kp, intOfReads r2, q⟩
end
/-! ### what an argument is, as data -/
def tyD : PyData → String
  | .none => "NoneType"
  | .bool _ => "bool"
  | .int _ => "int"
  | .str _ => "str"
  | .list _ => "list"
  | .tuple _ => "tuple"
  | .dict _ => "dict"
theorem rdTy {K : PySem.W.Frag} {H : Hp} {v : V} {d : PyData} (h : Rd K H v d) : TyX K H v (.type (tyD d)) := by
  cases h with
  | dat h =>
    cases h with
    | non => exact .base .non
    | bl b => exact .base (.bl b)
    | int i => exact .base (.int i)
    | str x => exact .base (.str x)
    | lst s _ =>
      rcases s with (s | ⟨o, s⟩) | ⟨o, its, n, e, c, _⟩
      · exact .base (.lst s)
      · exact .base (.frz s)
      · exact .kList e c
    | tup s _ =>
      rcases s with (s | ⟨o, s⟩) | s
      · exact .base (.tup s)
      · exact .fTuple s
      · obtain ⟨o, its, n, e, c, _⟩ := s
        exact .kTuple e c
  | dct kvs h => exact .base (.dK h)
def isI : PyData → Bool
  | .int _ => true
  | _ => false
def isLst : PyData → Bool
  | .list _ => true
  | _ => false
def within (lo hi : Int) : PyData → Bool
  | .int i => decide (lo ≤ i) && decide (i ≤ hi)
  | _ => false
def isB : PyData → Bool
  | .bool _ => true
  | _ => false
def isIB : PyData → Bool
  | .int _ => true
  | .bool _ => true
  | _ => false
theorem kitI (K : PySem.W.Frag) : ∀ d : PyData, PySem.W.kitOne K (.type (tyD d)) (.type "int") = some (isIB d)
  | .none => (kit_ty (by decide +kernel) : PySem.W.kitOne K (.type "NoneType") (.type "int") = some false)
  | .bool _ => (kit_ty (by decide +kernel) : PySem.W.kitOne K (.type "bool") (.type "int") = some true)
  | .int _ => (kit_ty (by decide +kernel) : PySem.W.kitOne K (.type "int") (.type "int") = some true)
  | .str _ => (kit_ty (by decide +kernel) : PySem.W.kitOne K (.type "str") (.type "int") = some false)
  | .list _ => (kit_ty (by decide +kernel) : PySem.W.kitOne K (.type "list") (.type "int") = some false)
  | .tuple _ => (kit_ty (by decide +kernel) : PySem.W.kitOne K (.type "tuple") (.type "int") = some false)
  | .dict _ => (kit_ty (by decide +kernel) : PySem.W.kitOne K (.type "dict") (.type "int") = some false)
theorem kitBo (K : PySem.W.Frag) : ∀ d : PyData, PySem.W.kitOne K (.type (tyD d)) (.type "bool") = some (isB d)
  | .none => (kit_ty (by decide +kernel) : PySem.W.kitOne K (.type "NoneType") (.type "bool") = some false)
  | .bool _ => (kit_ty (by decide +kernel) : PySem.W.kitOne K (.type "bool") (.type "bool") = some true)
  | .int _ => (kit_ty (by decide +kernel) : PySem.W.kitOne K (.type "int") (.type "bool") = some false)
  | .str _ => (kit_ty (by decide +kernel) : PySem.W.kitOne K (.type "str") (.type "bool") = some false)
  | .list _ => (kit_ty (by decide +kernel) : PySem.W.kitOne K (.type "list") (.type "bool") = some false)
  | .tuple _ => (kit_ty (by decide +kernel) : PySem.W.kitOne K (.type "tuple") (.type "bool") = some false)
  | .dict _ => (kit_ty (by decide +kernel) : PySem.W.kitOne K (.type "dict") (.type "bool") = some false)
theorem kitL (K : PySem.W.Frag) : ∀ d : PyData, PySem.W.kitOne K (.type (tyD d)) (.type "list") = some (isLst d)
  | .none => (kit_ty (by decide +kernel) : PySem.W.kitOne K (.type "NoneType") (.type "list") = some false)
  | .bool _ => (kit_ty (by decide +kernel) : PySem.W.kitOne K (.type "bool") (.type "list") = some false)
  | .int _ => (kit_ty (by decide +kernel) : PySem.W.kitOne K (.type "int") (.type "list") = some false)
  | .str _ => (kit_ty (by decide +kernel) : PySem.W.kitOne K (.type "str") (.type "list") = some false)
  | .list _ => (kit_ty (by decide +kernel) : PySem.W.kitOne K (.type "list") (.type "list") = some true)
  | .tuple _ => (kit_ty (by decide +kernel) : PySem.W.kitOne K (.type "tuple") (.type "list") = some false)
  | .dict _ => (kit_ty (by decide +kernel) : PySem.W.kitOne K (.type "dict") (.type "list") = some false)
mutual
theorem dpSame {K : PySem.W.Frag} {H H' : Hp} (s : Same H H') : ∀ (d : PyData) (v : V), Dp K H v d → Dp K H' v d
  | .none, _, h => by cases h; exact .non
  | .bool _, _, h => by cases h; exact .bl _
  | .int _, _, h => by cases h; exact .int _
  | .str _, _, h => by cases h; exact .str _
  | .list ds, _, h => by
    cases h with
    | lst h1 h2 => exact .lst (s.seq h1) (dpSameAll s ds _ h2)
  | .tuple ds, _, h => by
    cases h with
    | tup h1 h2 =>
      refine .tup ?_ (dpSameAll s ds _ h2)
      rcases h1 with (h1 | ⟨o, h1⟩) | h1
      · exact .inl (.inl (s _ _ h1))
      · exact .inl (.inr ⟨o, s _ _ h1⟩)
      · exact .inr h1
  | .dict _, _, h => by cases h
theorem dpSameAll {K : PySem.W.Frag} {H H' : Hp} (s : Same H H') : ∀ (ds : List PyData) (vs : List V), DpAll K H vs ds → DpAll K H' vs ds
  | [], _, h => by cases h; exact .nil
  | d :: ds, _, h => by
    cases h with
    | cons h1 h2 => exact .cons (dpSame s d _ h1) (dpSameAll s ds _ h2)
end
theorem rdSame {K : PySem.W.Frag} {H H' : Hp} (s : Same H H') {v : V} {d : PyData} (h : Rd K H v d) : Rd K H' v d := by
  cases h with
  | dat h => exact .dat (dpSame s d v h)
  | dct kvs h => exact .dct kvs (s _ _ h)
end FNX

set_option Elab.async false
set_option linter.all false
set_option maxRecDepth 100000
set_option maxHeartbeats 4000000
/-! ## Calls of a def that is walked where no repr runs further out -/
namespace FNX
open PySem PySem.Spec PyProof.Rows L2
section
variable {X : Cx} {k : Nat} {f : Addr} {fd : FuncData} {ps : List Str} {sp : Sp} {E : XK} {x : Str} {p pos : Pos} {e : Expr} {es : List Expr} {t : TA}
theorem pe_callG (hgd : X.A.guards = some []) (F : GOk X.prog X.w X.K X.mg X.base k f fd ps sp) (hr : Room k X.A) (hg : Gl X x) (hm : X.mg x = some (.ref f)) (hk : PySem.W.keepIn X.K (.ref f) = true) (hb : L2.Binds X.K fd ps []) (hx : Passes CX0 X E)
    (ha : PA X (e :: es) t) (hdb : (x == ("__debug__" : Str)) = false := by decide) (he : starEach (e :: es) X.env = (false, eval e X.env) :: starEach es X.env := by rfl) (hpl : (backTo pos (starEach es X.env)).any (·.1) = false := by rfl) :
    PE X (.Call (.Name x p) (e :: es) [] pos) (tCall sp [] E t) := by
  refine ⟨fun pins s σ H Q I h => ?_⟩
  refine wpAny_Call_Name_kw (ld_glob I hg hm ?_ hdb)
  refine PySem.W.callWith_K (h₀ := X.base) I.ok.mod.kin hk (thn (ha.run pos pins s σ H _ I h) fun us s1 ⟨vs, H1, I1, r, q⟩ => ⟨I1.kIn, ?_⟩) he hpl
  have r2 : Vals (vs ++ []) (us ++ []) := r.append .nil
  have hl : (us ++ ([] : List Value)).length = ps.length := by rw [← r2.length]; exact F.len _ _ _ _ q
  refine wpAny_call (codeAny_mono (F.run X.A X.stack s1 H1 ⟨us, []⟩ (us ++ []) (vs ++ []) Q E hgd hr I1.env0 (hb s1 us I1.kIn hl) r2 q) fun r s' hq => ?_)
  cases r with
  | error e => exact hx pins σ H1 s1 e s' I1 hq
  | ok fl =>
    cases fl with
    | ret u => exact I1.after hq
    | next => exact False.elim hq
    | brk => exact False.elim hq
    | cont => exact False.elim hq
/-- where a def stands that is walked so -/
def AtG (P : Program) (w : World) (K : PySem.W.Frag) (mg : Str → Option Value) (base : Heap) (k : Nat) (x : Str) (ps : List Str) (sp : Sp) : Prop :=
  ∃ f fd, GOk P w K mg base k f fd ps sp ∧ mg x = some (.ref f) ∧ PySem.W.keepIn K (.ref f) = true ∧ L2.Binds K fd ps []
end
end FNX

set_option Elab.async false
set_option linter.all false
set_option maxRecDepth 100000
set_option maxHeartbeats 4000000
/-! ## repr of a list whose items are data, a dict among them -/
namespace FNX
open PySem PySem.Spec PyProof.Rows L2
inductive RdAll (K : PySem.W.Frag) (H : Hp) : List V → List PyData → Prop
  | nil : RdAll K H [] []
  | cons {v : V} {vs : List V} {d : PyData} {ds : List PyData} (h : Rd K H v d) (hs : RdAll K H vs ds) : RdAll K H (v :: vs) (d :: ds)
/-- repr(xs), a list that is not empty -/
def rReprL (K : PySem.W.Frag) : List V → Hp → VK → Prop := fun xs H Q => ∃ a ys ds, xs = [.ref a] ∧ SqL K H a ys ∧ RdAll K H ys ds ∧ ys ≠ [] ∧ (PyData.list ds).showable = true ∧ (PyData.list ds).depth ≤ 60 ∧
  (PyData.list ds).shown.length ≤ sizeLine ∧ Q (.str (PyData.list ds).shown) H
section
variable {X : Cx} {pins : List (Addr × Obj)} {σ : L2.St} {H : Hp} {s : Shared}
theorem reprItems (I : Inv X pins σ H s) : ∀ {vs : List V} {ds : List PyData} {us : List Value}, RdAll X.K H vs ds → Vals vs us → PyData.showableAll ds = true → (∀ t ∈ PyData.shownAll ds, t.length ≤ sizeLine) →
    ∃ as bs, ReadsAll s.heap us ds as ∧ ReadAtMost s.heap (PyData.depthAll ds) bs ∧ ReprAllK X.prog X.w bs s.heap (PyData.depthAll ds) us (PyData.shownAll ds)
  | _, _, _, .nil, r, _, _ => by
    cases r
    refine ⟨[], [], .nil, (fun _ h => nomatch h), ?_⟩
    simp only [PyData.shownAll]
    exact .nil
  | _, _, _, .cons (d := d) (ds := ds) h hs', r, hs, hz => by
    cases r with
    | cons r1 r2 =>
      have sh : d.showable = true ∧ PyData.showableAll ds = true := by simpa [PyData.showableAll] using hs
      obtain ⟨as1, q1, m1⟩ := rdReads I h r1
      obtain ⟨b1, hb1, k1⟩ := ReprK.of_reads (prog := X.prog) (w := X.w) q1 sh.1 m1 (hz _ (by simp only [PyData.shownAll]; exact List.mem_cons_self ..))
      obtain ⟨as2, b2, q2, hb2, k2⟩ := reprItems I hs' r2 sh.2 (fun t ht => hz t (by simp only [PyData.shownAll]; exact List.mem_cons_of_mem _ ht))
      refine ⟨as1 ++ as2, b1 ++ b2, .cons q1 q2, ?_, ?_⟩
      · intro b hm
        simp only [PyData.depthAll]
        rcases List.mem_append.mp hm with hm | hm
        · obtain ⟨d', as', r', hd'⟩ := hb1 b hm
          exact ⟨d', as', r', Nat.le_trans hd' (Nat.le_max_left _ _)⟩
        · obtain ⟨d', as', r', hd'⟩ := hb2 b hm
          exact ⟨d', as', r', Nat.le_trans hd' (Nat.le_max_right _ _)⟩
      · simp only [PyData.depthAll, PyData.shownAll]
        exact .cons ((k1.more fun b hb => List.mem_append_left _ hb).level_le (Nat.le_max_left _ _)) (k2.more_le (fun b hb => List.mem_append_right _ hb) (Nat.le_max_right _ _))
theorem call_reprL (hg : X.A.guards = some []) (hu : X.A.units + 64 < cLine) : CallR X (.builtin "repr") (rReprL X.K) := by
  intro pins s σ H xs us Q I r h
  obtain ⟨a, ys, ds, rfl, hy, hd, hne, h1, h2, h3, q⟩ := h
  cases r with
  | cons r1 r2 =>
    cases r2
    cases r1
    obtain ⟨its, rv, ⟨o, n, ho, hc, _, hdt⟩, _⟩ := I.list hy
    have sh : PyData.showableAll ds = true := by simpa [PyData.showable] using h1
    have hz' : (listText (PyData.shownAll ds)).length ≤ sizeLine := by simpa only [PyData.shown] using h3
    obtain ⟨as, bs, hr, hb, hk⟩ := reprItems I hd rv sh fun t ht => Nat.le_trans (listText_mem_le ht) hz'
    have hdep : (PyData.list ds).depth = PyData.depthAll ds + 1 := by simp only [PyData.depth]
    have hna : a ∉ bs := not_mem_of_deeper (.list ho hc hdt hr) (by rw [hdep]; omega) hb
    have ek : ∀ b o, s.heap.get? b = some o → s.heap.get? b = some o := fun _ _ e => e
    refine call_repr_slot (T := "list") (idr := "list.__repr__") (by omega) ⟨o, ho, hc⟩ F.slot_list_repr.toG ?_
    cases its with
    | nil =>
      cases rv
      exact absurd rfl hne
    | cons u l =>
      refine call_list_reprK ho hc hdt hna (by simpa using hk.length_eq) (fun i y e => hk.item i y (by simpa using e)) (A := X.A.in1) hg (fun b _ => Clear.nil b) ?_ ek (fun h' u' tk k => ?_) hz'
      · have z : X.A.in1.units = X.A.units + 1 := rfl
        omega
      · refine ⟨_, _, rfl, ?_⟩
        have e : (PyData.list ds).shown = listText (PyData.shownAll ds) := by simp only [PyData.shown]
        rw [← e]
        exact ⟨.str (PyData.list ds).shown, H, I.un (t' := tk) (Un.kept k) (I.hok.kept k), ⟨u', rfl⟩, q⟩
end
end FNX

set_option Elab.async false
set_option linter.all false
set_option maxRecDepth 100000
set_option maxHeartbeats 8000000
/-! ## What a head leaves: classes of exceptions, defs, methods, a method with a default -/
namespace FNX
open PySem PySem.Spec PyProof.Rows L2
/-- the text of an `__init__` that stores its value -/
structure InitTxt (st : Stmt) : Prop where
  sc : FnScope ["self", "value"] ["self", "value"] (defScope st)
  body : ∃ q1 q2 q3 q4, defBody st = [.Assign [.Attribute (.Name "self" q1) "value" q2] (.Name "value" q3) q4]
  bind : ∀ (qual : Str) (kV doc pm : Value) (an : Option Addr) (cdv ct : Value) (us : List Value), us.length = (["self", "value"] : List Str).length →
    bindArgs (PySem.W.fnOf "__init__" qual (defArgs st) (defBody st) (defScope st) .none kV doc pm an cdv ct) ⟨us, []⟩ = pure ((["self", "value"] : List Str).zip us)
  bindK : ∀ (qual : Str) (kV doc pm : Value) (an : Option Addr) (cdv ct : Value) (u v : Value),
    bindArgs (PySem.W.fnOf "__init__" qual (defArgs st) (defBody st) (defScope st) .none kV doc pm an cdv ct) ⟨[u], [(("value" : Str), v)]⟩ = pure ((["self", "value"] : List Str).zip [u, v])
/-- a class of the program, as the top has left it -/
structure Cl (K : PySem.W.Frag) (mg : Str → Option Value) (x : Str) (C : Addr) : Prop where
  xc : XC K C
  mgC : mg x = some (.ref C)
  mkd : ∃ st qual f fd, InitTxt st ∧ PySem.W.findIn K (.ref C) "__init__" = some (some (.ref f)) ∧ PySem.W.typeIn K (.ref f) = some (.type "function") ∧ Fun K "__init__" qual st f fd
theorem Cl.ex {P : Program} {w : World} {K : PySem.W.Frag} {mg : Str → Option Value} {base : Heap} {x : Str} {C : Addr} (c : Cl K mg x C) : Ex P w K mg base x C := by
  obtain ⟨st, qual, f, fd, t, h1, h2, F⟩ := c.mkd
  refine ⟨c.xc, c.mgC, f, fd, h1, h2, xinit_ok F t.sc t.body c.xc, F.binds (t.bind qual), fun s u v => ?_⟩
  obtain ⟨oc, od, kV, doc, pm, an, cdv, ct, osl, rfl, _, _⟩ := F.ex
  exact .of_eq (t.bindK qual kV doc pm an cdv ct u v)
theorem chainVal {g : Addr} : Chain "ValueError" [.ref g, .type "ValueError", .type "Exception", .type "BaseException", .type "object"] := ⟨rfl, rfl, rfl, rfl, rfl, passVal.ref g⟩
theorem chainLook : Chain "LookupError" [.type "LookupError", .type "Exception", .type "BaseException", .type "object"] := ⟨by decide +kernel, by decide +kernel, by decide +kernel, by decide +kernel, rfl, passLook⟩
theorem chainRun : Chain "RuntimeError" [.type "RuntimeError", .type "Exception", .type "BaseException", .type "object"] := ⟨by decide +kernel, by decide +kernel, by decide +kernel, by decide +kernel, rfl, passRun⟩
theorem chainOver : Chain "OverflowError" [.type "OverflowError", .type "ArithmeticError", .type "Exception", .type "BaseException", .type "object"] := ⟨by decide +kernel, by decide +kernel, by decide +kernel, by decide +kernel, rfl, passOver⟩
section
variable {K : PySem.W.Frag} {h : Heap} {mg : Str → Option Value} {x qual : Str} {C f N T e : Addr} {st : Stmt} {B newId initId : String} {bm bmB bs sub : List Value} {nm q : Str} {sn : List Str} {ab : Bool} {col : Option Bool}
  {dd od an odT : Option Addr} {k0 k1 k2 k3 k5 : Option Value} {oc kV doc pm cd ct ocT : Value} {sl slT : Array (Option Value)} {nT : Nat}
theorem mkXC (F : ExcBaseFacts B newId initId bmB) (L : Chain B bm)
    (xC : K.lookup C = some (excClassObj nm q C N bs bm true sn sub ab col dd k0 k1 k2 k3 k5 newId))
    (sa : PySem.W.findIn K (.ref C) "__setattr__" = some (some (.builtin "object.__setattr__")))
    (ga : PySem.W.findIn K (.ref C) "__getattribute__" = some (some (.builtin "BaseException.__getattribute__"))) (gg : PySem.W.findIn K (.ref C) "__getattr__" = some none)
    (nv : PySem.W.findIn K (.ref C) "value" = some none) (eC : PySem.W.subIn K (.ref C) (.type "BaseException") = some true) (kC : PySem.W.keepIn K (.ref C) = true)
    (hd : PySem.W.hasDictIn K C = true) (ic : PySem.W.isClsIn K C = true) (cC : PySem.W.findIn K (.ref C) "__class__" = some (some (.builtin "object.__class__")))
    (mC : PySem.W.mroIn K C (.type "object") = some true) : XC K C :=
  ⟨⟨nm, q, N, bs, bm, sn, sub, ab, col, dd, k0, k1, k2, k3, k5, B, newId, initId, bmB, xC, F, L⟩, sa, ga, gg, nv, eC, kC, hd, ic, cC, mC⟩
theorem mkCl (X : K.In h) (G : h.Ns mainGlobals mg) (aC : PySem.W.nsIn K mainGlobals x = some (some (.ref C))) (xc : XC K C) (t : InitTxt st)
    (a1 : PySem.W.findIn K (.ref C) "__init__" = some (some (.ref f))) (t1 : PySem.W.typeIn K (.ref f) = some (.type "function"))
    (l1 : K.lookup f = some ⟨oc, od, .func (PySem.W.fnOf "__init__" qual (defArgs st) (defBody st) (defScope st) .none kV doc pm an cd ct), sl⟩)
    (c1 : PySem.W.codeIn K cd qual = true) (kf : PySem.W.keepIn K (.ref f) = true) : Cl K mg x C :=
  ⟨xc, PySem.W.mg_of X G aC, st, qual, f, _, t, a1, t1, fun_mk l1 c1 kf⟩
/-- a def -/
def FnF (K : PySem.W.Frag) (mg : Str → Option Value) (x : Str) (st : Stmt) (f : Addr) : Prop := mg x = some (.ref f) ∧ ∃ fd, Fun K x x st f fd
theorem mkF (X : K.In h) (G : h.Ns mainGlobals mg) (a1 : PySem.W.nsIn K mainGlobals x = some (some (.ref f)))
    (l1 : K.lookup f = some ⟨oc, od, .func (PySem.W.fnOf x x (defArgs st) (defBody st) (defScope st) .none kV doc pm an cd ct), sl⟩)
    (c1 : PySem.W.codeIn K cd x = true) (kf : PySem.W.keepIn K (.ref f) = true) : FnF K mg x st f := ⟨PySem.W.mg_of X G a1, _, fun_mk l1 c1 kf⟩
/-- a method of the class at C -/
def MtF (K : PySem.W.Frag) (C : Addr) (x qual : Str) (st : Stmt) (f : Addr) : Prop := Meth K C x f ∧ ∃ fd, Fun K x qual st f fd
theorem mkMt (a1 : PySem.W.findIn K (.ref C) x = some (some (.ref f))) (l1 : K.lookup f = some ⟨oc, od, .func (PySem.W.fnOf x qual (defArgs st) (defBody st) (defScope st) .none kV doc pm an cd ct), sl⟩)
    (c1 : PySem.W.codeIn K cd qual = true) (fn : PySem.W.isFn K (.ref f) = true) (kf : PySem.W.keepIn K (.ref f) = true) : MtF K C x qual st f := ⟨⟨a1, fn, kf⟩, _, fun_mk l1 c1 kf⟩
/-- an `__init__` with one default -/
def InF (K : PySem.W.Frag) (C : Addr) (qual : Str) (st : Stmt) (f e : Addr) : Prop := Mk K C f ∧ ∃ fd, FunD K "__init__" qual (defArgs st) (defBody st) (defScope st) [.ref e] [] f fd
theorem mkIn (mk : PySem.W.makesIn K C = true) (a1 : PySem.W.findIn K (.ref C) "__init__" = some (some (.ref f))) (fn : PySem.W.isFn K (.ref f) = true) (kC : PySem.W.keepIn K (.ref C) = true)
    (l1 : K.lookup f = some ⟨oc, od, .func (PySem.W.fnOf "__init__" qual (defArgs st) (defBody st) (defScope st) (.ref T) kV doc pm an cd ct), sl⟩) (lT : K.lookup T = some ⟨ocT, odT, .seq #[.ref e] nT, slT⟩)
    (c1 : PySem.W.codeIn K cd qual = true) (kf : PySem.W.keepIn K (.ref f) = true) : InF K C qual st f e :=
  ⟨⟨mk, a1, fn, kC⟩, _, ⟨oc, od, .ref T, kV, doc, pm, an, cd, ct, sl, rfl, l1, c1, .inr ⟨by simp, T, _, [.ref e], nT, rfl, lT, rfl, .cons rfl .nil⟩, .inl rfl⟩, kf⟩
end
end FNX

set_option Elab.async false
set_option linter.all false
set_option maxRecDepth 100000
set_option maxHeartbeats 4000000
/-! ## Doors: lambdas handed to a def that catches what they raise -/
namespace FNX
open PySem PySem.Spec PyProof.Rows L2

/-! ### a try with several clauses, each with the exception's name -/
def wMas (K : PySem.W.Frag) (i : Nat) (Wout : WX) (D : Ends) : List (Value × (Addr → Value → Option Addr → TS)) → WX
  | [] => Wout
  | q :: r => wAs K q.1 i q.2 (wMas K i Wout D r) D
abbrev SuiteOk (X : Cx) (l : List Stmt) (ts : Addr → Value → Option Addr → TS) : Prop :=
  ∀ (z : Addr) (oz : Obj) (cls : Value) (d : Option Addr) (pn : List (Addr × Obj)), Zc cls d oz → (∃ us, oz.data = .fields us) → PSs (X.suite z ((z, oz) :: pn)) l (ts z cls d)
inductive Clauses (X : Cx) (n : Str) : List ExceptHandler → List (Value × (Addr → Value → Option Addr → TS)) → Prop
  | nil : Clauses X n [] []
  | cons {x : Str} {c : Value} {ts : Addr → Value → Option Addr → TS} {b : Stmt} {l : List Stmt} {p1 p2 : Pos} {hs : List ExceptHandler} {r : List (Value × (Addr → Value → Option Addr → TS))}
      (hc : Names X x c) (hsu : SuiteOk X (b :: l) ts) (hr : Clauses X n hs r) : Clauses X n (.ExceptHandler (some (.Name x p1)) (some n) (b :: l) p2 :: hs) ((c, ts) :: r)
section
variable {X : Cx} {n : Str} {i : Nat} {body : List Stmt} {h1 : ExceptHandler} {hs : List ExceptHandler} {cl : List (Value × (Addr → Value → Option Addr → TS))} {pos : Pos} {tb : WX → TS} {Wout : WX}
/-- what the clauses are asked, once the exception is caught -/
abbrev caught (X : Cx) (pins : List (Addr × Obj)) (D : Ends) (l : List ExceptHandler) : Value → Shared → Prop := fun e s1 =>
  wpAny (model X.prog X.w) X.A (noteFrame e X.env) (fun _ s2 => wpAny (model X.prog X.w) X.A (setFlight e none)
    (fun _ s3 => wpAny (model X.prog X.w) X.A (handleBy e X.env l) (SP X pins D) X.xe s3) X.xe s2) X.xe s1
theorem ps_try_mas (hst : X.stack = X.env :: X.outer) (hfr : X.env.frame = some X.env.locals) (hN : X.N.Nodup) (hi : X.N[i]? = some n) (hn : X.env.kindOf n = some .local) (tk : Takes X Wout)
    (hb : ∀ (W : WX) (pn : List (Addr × Obj)) (xe : Value → Shared → Prop), Takes (X.tr pn xe) W → PassesOwn (model X.prog X.w) X.A X.env xe → PSs (X.tr pn xe) body (tb W))
    (hc : Clauses X n (h1 :: hs) cl) : PS X (.Try body (h1 :: hs) [] [] pos) (fun D σ H => tb (wMas X.K i Wout D cl) D σ H) := by
  refine ⟨fun pins s σ H D I h => wpAny_Try_except ?_⟩
  have ok := I.ok
  have fs : X.A.frames = some (X.env :: X.outer) := ok.frames.trans (congrArg some hst)
  refine wpAny_mono ((hb (wMas X.K i Wout D cl) (X.pn ++ pins) (caught X pins D (h1 :: hs)) (fun u s' got => ?_) PassesOwn.looking).run [] s σ H D (I.toTry _) h) (fun fl s1 z => ?_) (fun _ _ z => z)
  · obtain ⟨a, B, sI, pins', σ', H', cls, d, rfl, J', nb, up, sky, na, os, ag, wish⟩ := got
    have J : Inv X pins σ' H' sI := J'.ofTry ok
    refine Sky.land Zc.steady fs hfr (show Sky B (X.env :: X.outer) a (Zc cls d) X.env.locals s'.heap from hst ▸ sky) fun hp fly upp => ?_
    have up1 := up.trans upp
    obtain ⟨oz, fz, az, zz, dz⟩ := fly.there
    have off : a ∉ frs (X.env :: X.outer) := fun hm => by
      obtain ⟨_, o2, e2, no2⟩ := fly.2.2.1.mem hm
      obtain rfl : oz = o2 := Option.some.inj (az.symm.trans e2)
      exact no2 fz dz
    have offL : a ≠ X.env.locals := fun e => off (List.mem_filterMap.mpr ⟨X.env, List.mem_cons_self, by rw [hfr, e]⟩)
    have offF : a ∉ X.fs := fun hm => by
      obtain ⟨v, hv, q⟩ := List.mem_filterMap.mp hm
      exact off (List.mem_filterMap.mpr ⟨v, List.mem_cons_of_mem _ hv, q⟩)
    have J1 : Inv X pins σ' H' { s' with heap := hp } := J.landed nb fly.1 up1 os ag
    have walk : ∀ {l : List ExceptHandler} {r : List (Value × (Addr → Value → Option Addr → TS))}, Clauses X n l r → wMas X.K i Wout D r cls d σ' H' →
        wpAny (model X.prog X.w) X.A (handleBy (.ref a) X.env l) (SP X pins D) X.xe { s' with heap := hp } := by
      intro l r hl
      induction hl with
      | nil =>
        intro want
        refine wpAny_handleBy_nil ?_
        have leave : wpAny (model X.prog X.w) X.A (setFlight (.ref a) X.env.frame) (fun _ s4 => wpAny (model X.prog X.w) X.A (throw (.ref a) : Sem Flow) (SP X pins D) X.xe s4) X.xe { s' with heap := hp } := by
          rw [hfr]
          exact HandSPX.setFlight_upZ fly fun h4 held up4 => wpAny_throw (tk _ _ ⟨a, B, sI, pins, σ', H', cls, d, rfl, J, nb, up1.trans up4, .inr (.inr (by rw [hst]; exact held)), na, os, ag, want⟩)
        obtain ⟨_, _, _, ob, vb, T, _, _, hob, _, hdb, hTb, _⟩ := id fly
        unfold PySem.passOn
        refine wpAny_bind (wpAny_field hob hdb hTb ?_)
        have nz : ¬ ((Value.ref T == Value.none) = true) := by simp
        rw [if_neg nz]
        first
          | exact wpAny_bind leave
          | exact wpAny_bind (wpAny_pure (wpAny_bind leave))
      | @cons x c ts b l2 p1 p2 hs2 r2 hnm hsu _ ih =>
        intro want
        obtain ⟨bl, hbl, yes, no⟩ := want
        have S1 := J1.suite az dz na offL offF
        have named : ∀ {Q1 : Value → Shared → Prop} {E1 : Value → Shared → Prop}, Q1 c { s' with heap := hp } →
            wpAny (model X.prog X.w) (X.A.mark (some (.ref a))) (eval (.Name x p1) X.env) Q1 E1 { s' with heap := hp } := fun q1 => by
          obtain ⟨g1, g2, g3⟩ := hnm
          rcases g3 with g3 | ⟨g3, g4, g5⟩
          · exact ld_glob (X := X.suite a ((a, oz) :: (X.pn ++ pins))) S1 g1 g3 q1 g2
          · exact ld_blt (X := X.suite a ((a, oz) :: (X.pn ++ pins))) S1 g1 g3 g4 q1 g5 g2
        have itsType : PySem.W.Looks (model X.prog X.w) hp (typeOf (.ref a)) cls := fun A1 Q1 E1 s1 k1 q1 => wpAny_typeOf_ref (k1 _ _ az) (zz.1.symm ▸ q1)
        have match_ := PySem.W.exm_one (M := model X.prog X.w) J1.kIn itsType hbl
        refine wpAny_handleBy_cons (codeAny_handlers_test (named (match_.here ?_))) (by intro e; cases e)
        cases bl with
        | false =>
          have go := ih (no rfl)
          exact go
        | true =>
          refine codeAny_handlers_suite_as (HandSPX.lands_againZ fly fun h4 fly4 up4 => ?_)
          obtain ⟨o4, f4, a4, z4, d4⟩ := fly4.there
          have J4 : Inv X pins σ' H' { s' with heap := h4 } := J.landed nb fly4.1 (up1.trans up4) os ag
          refine store_ok (X := X.suite a ((a, o4) :: (X.pn ++ pins))) (v := .ref a) (J4.suite a4 d4 na offL offF) hN hi (.inl hn) rfl (fun s5 S5 => ?_) (.inr hn)
          refine wpAny_mono ((hsu a o4 cls d (X.pn ++ pins) z4 ⟨f4, d4⟩).run [] s5 _ H' _ S5 (yes rfl a na)) (fun fl s6 z => ?_) (fun _ _ z => z.elim)
          have done : ∀ {σ6 : L2.St} {H6 : Hp} {Q6 : Shared → Prop}, Inv (X.suite a ((a, o4) :: (X.pn ++ pins))) [] σ6 H6 s6 → (∀ s7, Inv X pins (σ6.set i none) H6 s7 → Q6 s7) →
              wpAny (model X.prog X.w) X.A (do bindName X.env n .none; unbindBehindTheSuite X.env n p2) (fun _ s7 => Q6 s7) X.xe s6 := fun S6 q6 => gone_ok (S6.unsuite ok) hN hi hn q6
          cases fl with
          | ret u =>
            obtain ⟨v6, σ6, H6, S6, r6, q6⟩ := z
            exact done S6 fun s7 J7 => ⟨v6, _, _, J7, r6, q6⟩
          | next =>
            obtain ⟨σ6, H6, S6, q6⟩ := z
            exact done S6 fun s7 J7 => ⟨_, H6, J7, q6⟩
          | brk =>
            obtain ⟨σ6, H6, S6, q6⟩ := z
            exact done S6 fun s7 J7 => ⟨_, H6, J7, q6⟩
          | cont =>
            obtain ⟨σ6, H6, S6, q6⟩ := z
            exact done S6 fun s7 J7 => ⟨_, H6, J7, q6⟩
    exact walk hc wish
  · cases fl with
    | ret u =>
      obtain ⟨v, σ1, H1, J1, rv, q⟩ := z
      exact ⟨v, σ1, H1, J1.ofTry ok, rv, q⟩
    | next =>
      obtain ⟨σ1, H1, J1, q⟩ := z
      exact wpAny_execs_nil ⟨σ1, H1, J1.ofTry ok, q⟩
    | brk =>
      obtain ⟨σ1, H1, J1, q⟩ := z
      exact ⟨σ1, H1, J1.ofTry ok, q⟩
    | cont =>
      obtain ⟨σ1, H1, J1, q⟩ := z
      exact ⟨σ1, H1, J1.ofTry ok, q⟩
end

/-! ### a def whose code object is known -/
structure FunC (K : PySem.W.Frag) (x qual : Str) (st : Stmt) (f : Addr) (fd : FuncData) (c : Addr) : Prop where
  ex : ∃ (oc : Value) (od : Option Addr) (kV doc pm : Value) (an : Option Addr) (ct : Value) (osl : Array (Option Value)),
    fd = PySem.W.fnOf x qual (defArgs st) (defBody st) (defScope st) .none kV doc pm an (.ref c) ct ∧ K.lookup f = some ⟨oc, od, .func fd, osl⟩ ∧ PySem.W.codeIn K (.ref c) qual = true
  kp : PySem.W.keepIn K (.ref f) = true
section
variable {P : Program} {w : World} {K : PySem.W.Frag} {mg : Str → Option Value} {base : Heap}
theorem okGC {x qual : Str} {st : Stmt} {f c : Addr} {fd : FuncData} {N ps : List Str} {k : Nat} {sp : Sp} (F : FunC K x qual st f fd c) (S : FnScope N ps (defScope st))
    (len : ∀ vs H Q E, sp vs H Q E → vs.length = ps.length)
    (hbody : ∀ (A : Around) (outer : List Env) (s : Shared) (H : Hp) (vs : List V) (Q : VK) (E : XK), A.guards = some [] →
      Room k (A.deeper (envOfC qual (defScope st) s.heap.objs.size f (.ref c))) → sp vs H Q E →
      ∃ t, PSs (cxOf CX0 P w K mg base N qual (defScope st) f (.ref c) A outer s H E).nox (defBody st) t ∧ t { nx := fun _ H' => Q .non H', rt := Q } (start N vs) H) :
    GOk P w K mg base (k + 1) f fd ps sp := by
  refine ⟨len, fun A outer s H args us vs Q E hg hr e0 hb r hs => ?_⟩
  obtain ⟨oc, od, kV, doc, pm, an, ct, osl, rfl, lk, hcd⟩ := F.ex
  refine LamX.run_ofS (CX := CX0) lk hcd S hr e0 hb r (len _ _ _ _ hs) fun hr' => ?_
  obtain ⟨t, ht, q⟩ := hbody A outer s H vs Q E hg hr' hs
  exact ⟨t, ht.nox, q⟩
end

/-! ### what a def makes of a door -/
def wErr (K : PySem.W.Frag) (mk : Str → Str → Hp → (V → Hp → Prop) → Prop) (Q : VK) : List (Addr × Str) → XK
  | [] => fun _ _ _ => False
  | q :: r => fun cls d H => ∃ b, PySem.W.exmOne K cls (.ref q.1) = some b ∧
      (b = true → cls = .ref q.1 ∧ ∃ (dd : Addr) (v : V) (dt : PyData), d = some dd ∧ H dd = some (.xd [(("value" : Str), v)]) ∧ Rd K H v dt ∧ dt.showable = true ∧ dt.depth ≤ 60 ∧ dt.shown.length ≤ sizeLine ∧ mk q.2 dt.shown H Q) ∧
      (b = false → wErr K mk Q r cls d H)
/-- [word, repr(e.value)] -/
def mkPair : Str → Str → Hp → (V → Hp → Prop) → Prop := fun word text H Q => ∀ p, H p = none → Q (.ref p) (upd H p (.lst [.str word, .str text]))
/-- repr(e.value) -/
def mkText : Str → Str → Hp → (V → Hp → Prop) → Prop := fun _ text H Q => Q (.str text) H
def TErr (K : PySem.W.Frag) (mk : Str → Str → Hp → (V → Hp → Prop) → Prop) (cl : List (Addr × Str)) : (XK → Hp → VK → Prop) → Hp → VK → Prop :=
  fun tl H Q => tl (wErr K mk Q cl) H (fun _ H' => Q .non H')

/-! ### the law's own call, where tables of code objects grow -/
section
variable {P : Program} {w : World} {K : PySem.W.Frag} {mg mb : Str → Option Value} {k : Nat} {fa a : Addr} {fd : FuncData} {x : Str} {sp : Sp} {s : Shared} {vs : List Value} {ns : List Int} {cs : List (Addr × Addr)}
/-- the module's own dict of built-ins, as the top has left it -/
abbrev BMain (mg : Str → Option Value) (h : Heap) : Prop :=
  ∃ (bm : Addr) (ob : Obj), mg "__builtins__" = some (.ref bm) ∧ bm ≠ builtinsNs ∧ h.get? bm = some ob ∧ ob.cls = .type "module" ∧ ob.dict = some builtinsNs ∧ ob.data = .plain
theorem lawFromT {H : Hp} (KX : K.In s.heap) (hns : s.heap.Ns mainGlobals mg) (hb : s.heap.Ns builtinsNs mb) (hbb : ∀ x : Str, x ≠ "__name__" → mb x = bootBuiltins x)
    (hlim : s.heap.NoLimit) (hg : s.gens = #[]) (hr : Room k callerA)
    (hT : ∀ q ∈ cs, s.heap.get? q.2 = some (PySem.W.tabObj #[])) (hC : ∀ q ∈ cs, PySem.W.CodeHd s.heap q.1 q.2) (hbm : BMain mg s.heap)
    (F : ∀ base : Heap, K.In base → base.Ns mainGlobals mg → (∀ q ∈ cs, LamX.TabB base mg q.1 q.2) → GOk P w K mg base k fa fd [x] sp) (hbind : ∀ (s : Shared) (u : Value), BindsTo s fd ⟨[u], []⟩ [(x, u)])
    (hsp : sp [.ref a] H (fun v _ => v = .bl true) fun _ _ _ => False) (hok : HOk P w H s.heap) (hH : ∀ q ∈ cs, H q.2 = some (.tbl #[]))
    (hall : ∀ b u, H b = some u → K.lookup b = none ∧ ((∃ q ∈ cs, b = q.2) ∨ ((∃ o xs, u = .frz o (.lst xs)) ∧ ∃ o us m, s.heap.get? b = some o ∧ o.data = .seq us m))) :
    codeAny (model P w) callerA (.call (.ref fa) ⟨[.ref a], []⟩) (LawEnd s) s := by
  have seen : ∀ {b : Addr} {o : Obj}, s.heap.get? b = some o → H b = none → (hidT s.heap H).get? b = some o := fun e n => hidT_get e n
  have away : ∀ {b : Addr} {o : Obj}, s.heap.get? b = some o → (∀ us m, o.data ≠ .seq us m) → o.data ≠ .fields #[] → H b = none := fun {b o} e n1 n2 => by
    cases q : H b with
    | none => rfl
    | some u =>
      rcases (hall b u q).2 with ⟨t, ht, rfl⟩ | ⟨_, o2, us, m, e2, d2⟩
      · obtain rfl := Option.some.inj (e.symm.trans (hT t ht))
        exact absurd rfl n2
      · obtain rfl := Option.some.inj (e.symm.trans e2)
        exact absurd d2 (n1 us m)
  have dicts : ∀ {b : Addr} {o : Obj} {es : Array DictEntry} {ep : Nat}, s.heap.get? b = some o → o.data = .dict es ep → H b = none := fun e d =>
    away e (fun us m z => by rw [d] at z; cases z) (fun z => by rw [d] at z; cases z)
  have keep : ∀ {b : Addr} {m : Str → Option Value}, s.heap.Ns b m → (hidT s.heap H).Ns b m := fun n => by
    obtain ⟨o, es, ep, e, d, r⟩ := n
    exact ⟨o, es, ep, seen e (dicts e d), d, r⟩
  have kin : K.In (hidT s.heap H) := fun b o e => seen (KX b o e) (by
    cases q : H b with
    | none => rfl
    | some u =>
      rw [(hall b u q).1] at e
      cases e)
  have mod : Mod K mg (hidT s.heap H) := ⟨kin, keep hns, ⟨mb, keep hb, hbb⟩, by
    obtain ⟨mc, h1, h2⟩ := hlim
    exact ⟨mc, keep h1, h2⟩⟩
  have tabs : ∀ q ∈ cs, LamX.TabB (hidT s.heap H) mg q.1 q.2 := fun q hq => by
    have tq := hT q hq
    refine ⟨?_, ?_, fun z => ?_⟩
    · obtain ⟨o, us, file, tf, fl, tg, inF, tx, tt, e1, r1, r2, r3, rest⟩ := hC q hq
      refine ⟨o, us, file, tf, fl, tg, inF, tx, tt, seen e1 (away e1 (fun us' m z => ?_) fun z => ?_), r1, r2, r3, rest⟩
      · rw [r2] at z
        cases z
      · rw [r2] at z
        injection z with z
        rw [z] at r3
        simp at r3
    · obtain ⟨bm, ob, m1, m2, m3, m4, m5, m6⟩ := hbm
      refine ⟨bm, ob, m1, m2, fun z => ?_, fun z => ?_, seen m3 (away m3 (fun us' m z => ?_) fun z => ?_), m4, m5, m6⟩
      · obtain ⟨o, es, ep, e, d, _⟩ := hns
        rw [z, e] at m3
        obtain rfl := Option.some.inj m3
        rw [d] at m6
        cases m6
      · rw [z, tq] at m3
        obtain rfl := Option.some.inj m3
        cases m6
      · rw [m6] at z
        cases z
      · rw [m6] at z
        cases z
    · obtain ⟨o, es, ep, e, d, _⟩ := hns
      rw [z, tq] at e
      obtain rfl := Option.some.inj e
      cases d
  have e0 : Env0 P w K mg (hidT s.heap H) callerA [] s H :=
    ⟨rfl, mod, fun b o e => of_hidT e, Nat.le_of_eq (hidT_size _ _), trivial, fun b hb => absurd (show b ∈ ([] : List Addr) from hb) (by simp), hok, .of_eq hg⟩
  refine codeAny_mono ((F _ kin (keep hns) tabs).run callerA [] s H ⟨[.ref a], []⟩ [.ref a] [.ref a] _ _ rfl hr e0 (hbind s (.ref a)) (.cons rfl .nil) hsp) fun r s' z => ?_
  cases r with
  | error e => exact False.elim z
  | ok fl =>
    cases fl with
    | next => exact False.elim z
    | brk => exact False.elim z
    | cont => exact False.elim z
    | ret u =>
      obtain ⟨v, H', os, bare, un, hok', rv', q⟩ := z
      obtain rfl : v = .bl true := q
      obtain rfl : u = Value.bool true := rv'
      have grown : ∀ t ∈ cs, ∃ more : Array Value, s'.heap.get? t.2 = some { cls := .none, data := .fields more } := fun t ht => by
        obtain ⟨more, z⟩ := un.tbls t.2 #[] (hH t ht)
        exact ⟨_, hok' t.2 _ z⟩
      have same : ∀ b o, s.heap.get? b = some o → (∀ t ∈ cs, b ≠ t.2) → s'.heap.get? b = some o := fun b o e nt => by
        cases q : H b with
        | none => exact un.keep b o e q (fun z => absurd (show b ∈ ([] : List Addr) from z) (by simp)) (by simp)
        | some u =>
          rcases (hall b u q).2 with ⟨t, ht, z⟩ | ⟨⟨ob, xs, rfl⟩, _⟩
          · exact absurd z (nt t ht)
          obtain ⟨e1, _⟩ := hok b _ q
          obtain ⟨e2, _⟩ := hok' b _ (un.frzs b ob _ q)
          obtain rfl := Option.some.inj (e.symm.trans e1)
          exact e2
      have way : ∀ b : Addr, (∃ t ∈ cs, b = t.2) ∨ ∀ t ∈ cs, b ≠ t.2 := fun b => by
        by_cases c : ∃ t ∈ cs, b = t.2
        · exact .inl c
        · exact .inr fun t ht z => c ⟨t, ht, z⟩
      refine ⟨rfl, ⟨fun b o e => ?_, fun b o e => ?_⟩, os, bare⟩
      · rcases way b with ⟨t, ht, rfl⟩ | nt
        · obtain ⟨more, hm⟩ := grown t ht
          obtain rfl := Option.some.inj (e.symm.trans (hT t ht))
          exact .inr (.inl ⟨((hC t ht).tab (hT t ht)).isCodeTable, rfl, #[], more, rfl, by rw [Array.empty_append]; exact hm⟩)
        · exact .inl (same b o e nt)
      · rcases way b with ⟨t, ht, rfl⟩ | nt
        · obtain ⟨more, hm⟩ := grown t ht
          exact ⟨_, hm⟩
        · exact ⟨o, same b o e nt⟩
theorem lawCalledT (KX : K.In s.heap) (hns : s.heap.Ns mainGlobals mg) (hb : s.heap.Ns builtinsNs mb) (hbb : ∀ x : Str, x ≠ "__name__" → mb x = bootBuiltins x)
    (hlim : s.heap.NoLimit) (hg : s.gens = #[]) (hT : ∀ q ∈ cs, s.heap.get? q.2 = some (PySem.W.tabObj #[])) (nT : ∀ q ∈ cs, K.lookup q.2 = none) (hC : ∀ q ∈ cs, PySem.W.CodeHd s.heap q.1 q.2) (hbm : BMain mg s.heap)
    (ha : s.heap.get? a = some { cls := .type "list", data := .seq vs.toArray }) (hi : IntsAre vs ns) (hl : ns.length ≤ sizeLine)
    (hr : Room k callerA) (F : ∀ base : Heap, K.In base → base.Ns mainGlobals mg → (∀ q ∈ cs, LamX.TabB base mg q.1 q.2) → GOk P w K mg base k fa fd [x] sp)
    (hbind : ∀ (s : Shared) (u : Value), BindsTo s fd ⟨[u], []⟩ [(x, u)])
    (hsp : ∀ H : Hp, (∀ q ∈ cs, H q.2 = some (.tbl #[])) → SqL K H a (ns.map V.int) → sp [.ref a] H (fun v _ => v = .bl true) fun _ _ _ => False) :
    codeAny (model P w) callerA (.call (.ref fa) ⟨[.ref a], []⟩) (LawEnd s) s := by
  have rv := vals_ints hi
  have lenV := hi.length
  have aT : ∀ q ∈ cs, a ≠ q.2 := fun q hq z => by
    have e := hT q hq
    rw [← z, ha] at e
    have d := congrArg Obj.data (Option.some.inj e)
    cases d
  classical
  -- the script, where it isn't written
  let T : Hp := fun b => if ∃ q ∈ cs, b = q.2 then some (.tbl #[]) else none
  have atT : ∀ q ∈ cs, T q.2 = some (.tbl #[]) := fun q hq => if_pos ⟨q, hq, rfl⟩
  have ofT : ∀ {b u}, T b = some u → (∃ q ∈ cs, b = q.2) ∧ u = .tbl #[] := fun {b u} z => by
    by_cases c : ∃ q ∈ cs, b = q.2
    · exact ⟨c, (Option.some.inj ((if_pos c).symm.trans z)).symm⟩
    · cases (if_neg c).symm.trans z
  have okT : ∀ {b u}, T b = some u → ObjOk P w T s.heap b u ∧ ∀ H, ObjOk P w H s.heap b u := fun {b u} z => by
    obtain ⟨⟨q, hq, rfl⟩, rfl⟩ := ofT z
    exact ⟨hT q hq, fun _ => hT q hq⟩
  cases hk : K.lookup a with
  | some o =>
    have e := KX a o hk
    rw [ha] at e
    cases e
    refine lawFromT (H := T) KX hns hb hbb hlim hg hr hT hC hbm F hbind (hsp _ atT (.inr ⟨_, vs.toArray, _, hk, rfl, rfl, rfl, ?_, ?_⟩)) (fun b u z => (okT z).1) atT (fun b u z => ?_)
    · rw [List.size_toArray, lenV]
      exact hl
    · simpa using rv
    · obtain ⟨⟨q, hq, rfl⟩, _⟩ := ofT z
      exact ⟨nT q hq, .inl ⟨q, hq, rfl⟩⟩
  | none =>
    let U : Hp := fun b => if b = a then some (.frz { cls := .type "list", data := .seq vs.toArray } (.lst (ns.map V.int))) else T b
    have atU : ∀ q ∈ cs, U q.2 = some (.tbl #[]) := fun q hq => (if_neg (Ne.symm (aT q hq))).trans (atT q hq)
    have atA : U a = some (.frz { cls := .type "list", data := .seq vs.toArray } (.lst (ns.map V.int))) := if_pos rfl
    have ofU : ∀ {b u}, U b = some u → (b = a ∧ u = .frz { cls := .type "list", data := .seq vs.toArray } (.lst (ns.map V.int))) ∨ T b = some u := fun {b u} z => by
      by_cases c : b = a
      · exact .inl ⟨c, (Option.some.inj ((if_pos c).symm.trans z)).symm⟩
      · exact .inr ((if_neg c).symm.trans z)
    refine lawFromT (H := U) KX hns hb hbb hlim hg hr hT hC hbm F hbind (hsp _ atU (.inl (.inr ⟨_, atA⟩))) (fun b u z => ?_) atU (fun b u z => ?_)
    · rcases ofU z with ⟨rfl, rfl⟩ | z
      · exact ⟨ha, by rw [List.length_map]; exact hl, vs, _, rv, ha⟩
      · exact (okT z).2 _
    · rcases ofU z with ⟨rfl, rfl⟩ | z
      · exact ⟨hk, .inr ⟨⟨_, _, rfl⟩, _, _, _, ha, rfl⟩⟩
      · obtain ⟨⟨q, hq, rfl⟩, _⟩ := ofT z
        exact ⟨nT q hq, .inl ⟨q, hq, rfl⟩⟩
/-- what the head tells of a def with doors: its code object and the table -/
structure Door (K : PySem.W.Frag) (mg : Str → Option Value) (xs : List Str) (x : Str) (c Pt : Addr) : Prop where
  mem : x ∈ xs
  fn : ∃ f o fd e dd us sl, mg x = some (.ref f) ∧ K.lookup f = some o ∧ o.data = .func fd ∧ fd.code = .ref c ∧ K.lookup c = some ⟨e, dd, .fields us, sl⟩ ∧ us[11]? = some (.ref Pt)
  hd : PySem.W.codeHdIn K c Pt = true
  no : K.lookup Pt = none
/-- what the head leaves, from the law's promise; xs: the defs with doors -/
theorem walkGT {l : PySem.W.OpenLaw} {n k : Nat} {q : Program} {loose : List Str} {XP : (Str → Option Value) → Heap → Prop} {YP : World → Heap → Prop} {d : DefRec} {K : Params → PySem.W.Frag} {sp : World → List (Addr × Addr) → Sp} {x : Str} (xs : List Str)
    (hn : l.most = some n) (hn2 : n ≤ sizeLine) (hdf : d.params.defaults = []) (hr : Room k callerA) (hxs : xs.all (fun y => (recsOf q).any fun e => e.name == y) = true) (hY : ∀ (w : World) (h : Heap), YP w h → (K w.params).In h)
    (F : ∀ (w : World) (mg : Str → Option Value) (fa : Addr) (h : Heap), (K w.params).In h → h.Ns mainGlobals mg → mg d.name = some (.ref fa) →
      ∃ (fd : FuncData) (cs : List (Addr × Addr)), (∀ p ∈ cs, ∃ y, Door (K w.params) mg xs y p.1 p.2) ∧ (∀ (s : Shared) (u : Value), BindsTo s fd ⟨[u], []⟩ [(x, u)]) ∧
        (∀ (H : Hp) (a : Addr) (ns : List Int), ns.length ≤ n → (∀ p ∈ cs, H p.2 = some (.tbl #[])) → SqL (K w.params) H a (ns.map V.int) → sp w cs [.ref a] H (fun v _ => v = .bl true) fun _ _ _ => False) ∧
        ∀ base : Heap, (K w.params).In base → base.Ns mainGlobals mg → (∀ p ∈ cs, LamX.TabB base mg p.1 p.2) → GOk l.prog w (K w.params) mg base k fa fd [x] (sp w cs)) :
    PySem.W.WalkO q loose XP YP l.row.toRowW d [] (fun f vs => PySem.call f vs) := by
  refine Att.attach_call hn hdf fun w s₀ s₁ mg mb fa o pm cd doc a vs ns G Y ho hd hcd hmg hobj hints hlen hg => ?_
  have KX := hY w _ Y
  obtain ⟨fd, cs, hD, hb, hsp, hF⟩ := F w mg fa _ KX G.T.g hmg
  refine lawCalledT KX G.T.g G.T.b G.T.builtins G.T.nolimit hg (fun p hp => ?_) (fun p hp => ?_) (fun p hp => ?_) G.T.bmain hobj hints (Nat.le_trans hlen hn2) hr hF hb fun H hH hS => hsp H a ns hlen hH hS
  · obtain ⟨y, D⟩ := hD p hp
    obtain ⟨r, hr1, hr2⟩ := List.any_eq_true.mp (List.all_eq_true.mp hxs y D.mem)
    obtain rfl : r.name = y := beq_iff_eq.mp hr2
    obtain ⟨f', o', fd', c', P', t1, t2, t3, t4, _, t6⟩ := G.T.tab r hr1
    obtain ⟨f2, o2, fd2, e2, dd2, us2, sl2, d1, d2, d3, d4, d5, d6⟩ := D.fn
    obtain rfl : f2 = f' := by
      rw [d1] at t1
      injection t1 with t1
      injection t1
    obtain rfl : o2 = o' := Option.some.inj ((KX _ _ d2).symm.trans t2)
    rw [d3] at t3
    injection t3 with t3
    rw [← t3, d4] at t4
    injection t4 with t4
    obtain ⟨⟨o3, v3, g1, _, g3, g4⟩, g5⟩ := t6
    rw [← t4, KX _ _ d5] at g1
    obtain rfl := Option.some.inj g1
    injection g3 with g3
    rw [← g3, d6] at g4
    injection g4 with g4
    injection g4 with g4
    rw [g4]
    exact g5
  · obtain ⟨y, D⟩ := hD p hp
    exact D.no
  · obtain ⟨y, D⟩ := hD p hp
    exact PySem.W.codeHd_of_K KX D.hd
end
end FNX

set_option Elab.async false
set_option linter.all false
set_option maxRecDepth 100000
set_option maxHeartbeats 4000000
namespace FNX
open PySem PySem.Spec PyProof.Rows L2
theorem takes_len {X : Cx} {W : WX} (tk : Takes X W) : Takes X (fun cls d σ H => σ.length = X.N.length → W cls d σ H) := fun e s' x => tk e s' (by
  obtain ⟨a, B, sI, pins, σ, H, cls, d, h1, J, h2, h3, h4, h5, h6, h7, w⟩ := x
  exact ⟨a, B, sI, pins, σ, H, cls, d, h1, J, h2, h3, h4, h5, h6, h7, w J.len⟩)
theorem len3 {α : Type} {l : List α} (h : l.length = 3) : ∃ a b c, l = [a, b, c] := by
  match l, h with
  | [a, b, c], _ => exact ⟨a, b, c, rfl⟩
def tDoor (f c' : Addr) (q : Str) (tl : XK → Hp → VK → Prop) : WX → TS := fun W D σ H =>
  ∃ Ech : XK, (∀ cls d H' σ', Ech cls d H' → σ'.length = 3 → W cls d σ' H') ∧ σ[0]? = some (some (.ref f)) ∧ H c' = some (LamX.CodeO c' q) ∧ tl Ech H (fun _ H' => D.nx σ H')
def TErrK (K : PySem.W.Frag) (mk : Str → Str → Hp → (V → Hp → Prop) → Prop) (cl : List (Addr × Str)) : (XK → Hp → VK → Prop) → Hp → VK → Prop :=
  fun tl H Q => tl (wErr K mk Q cl) H (fun _ H' => ∃ v : V, some (some V.non) = some (some v) ∧ Q v H')
section
variable {X : Cx}
theorem pe_door {T : List (Addr × Str)} {TT : (XK → Hp → VK → Prop) → Hp → VK → Prop} {st : Stmt} {g c Pt : Addr} {fd : FuncData} {k : Nat} {params : Arguments} {body : Expr} {scope : Scope} {t : XK → TE} {p lpos pos : Pos}
    (hg : Gl X "_law_error") (hm : X.mg "_law_error" = some (.ref g)) (F : Fun X.K "_law_error" "_law_error" st g fd) (hb : L2.Binds X.K fd ["_law_door"] []) (Sg : FnScope ["_law_door", "_law_kept", "e"] ["_law_door"] (defScope st))
    (hva : Vis (defScope st) "_law_door") (hG : ∀ cdg, LamX.GivesTo X ["_law_door", "_law_kept", "e"] "_law_error" (defScope st) g cdg (defBody st) "_law_door" (X.env.qual ++ "<lambda>") TT)
    (TB : LamX.TabB X.base X.mg c Pt) (hcode : X.env.code = .ref c) (hmT : (Pt, X.env.qual ++ "<lambda>") ∈ T) (hu : ∀ p ∈ T, p.1 = Pt → p.2 = X.env.qual ++ "<lambda>") (hr : Room (k + 2) X.A)
    (L : LamX.LamS X.env.scope scope) (hdef : defaultsOf params X.env = ([], []))
    (hbind : ∀ (q : Str) (cl : List (Str × Addr)) (pm cv ctv : Value), bindArgs (PySem.W.kla_fn "<lambda>" q params body scope cl pm cv ctv) ⟨[], []⟩ = pure [])
    (hbody : ∀ (A : Around) (outer : List Env) (s : Shared) (H : Hp) (E : XK) (f c' : Addr), Room k (A.deeper (LamX.lamEnv X scope s.heap.objs.size f c')) → PE (LamX.lamCx X A outer s H E scope f c') body (t E)) :
    PE X (.Call (.Name "_law_error" p) [.Lambda params body scope lpos] [] pos) (LamX.tLam T TT t) := by
  obtain ⟨oc, od, kV, doc, pm, an, cdv, ct, osl, rfl, lk, hcd⟩ := F.ex
  exact LamX.pe_lamcall hg hm F.kp lk hcd hb Sg rfl hva (hG cdv) TB hcode hmT hu hr L hdef hbind hbody
end
def SameN (p : Addr) (H H' : Hp) : Prop := ∀ b o, b ≠ p → (∀ ps, o ≠ .tbl ps) → H b = some o → H' b = some o
theorem SameN.refl {p : Addr} {H : Hp} : SameN p H H := fun _ _ _ _ e => e
theorem SameN.trans {p : Addr} {H H1 H2 : Hp} (a : SameN p H H1) (b : SameN p H1 H2) : SameN p H H2 := fun c o n m e => b c o n m (a c o n m e)
theorem Same.n {p : Addr} {H H1 : Hp} (a : Same H H1) : SameN p H H1 := fun c o _ _ e => a c o e
theorem ExtN.n {p : Addr} {H H1 : Hp} (a : LamX.ExtN H H1) : SameN p H H1 := fun c o _ m e => a c o e m
theorem notTbl_lst {xs : List V} : ∀ ps, HO.lst xs ≠ .tbl ps := fun ps z => by cases z
theorem notTbl_tup {xs : List V} : ∀ ps, HO.tup xs ≠ .tbl ps := fun ps z => by cases z
theorem notTbl_ins {C dx : Addr} {fs : List (Str × V)} : ∀ ps, HO.ins C dx fs ≠ .tbl ps := fun ps z => by cases z
theorem Same.tabs {T : List (Addr × Str)} {H H' : Hp} (s : Same H H') (t : LamX.Tabs T H) : LamX.Tabs T H' := t.ext s
/-- lists of texts, not equal: told apart -/
def rNeS (K : PySem.W.Frag) : R2 := fun x y H Q => ∃ (a b : Addr) (xs : List Str), x = .ref a ∧ y = .ref b ∧ SqL K H a (xs.map V.str) ∧ SqL K H b (xs.map V.str) ∧ Q (.bl false) H
theorem op_neS {X : Cx} (hu : X.A.units + 64 < cLine) : OpR X (compareOp .NotEq) (rNeS X.K) := by
  intro pins s σ H x y v u Q I rx ry h
  obtain ⟨a, b, xs, rfl, rfl, ha, hb, q⟩ := h
  cases (show v = Value.ref a from rx)
  cases (show u = Value.ref b from ry)
  obtain ⟨us, r1, p1, _⟩ := I.list ha
  obtain ⟨ws, r2, p2, _⟩ := I.list hb
  have hsz : us.toArray.size = ws.toArray.size := by
    rw [List.size_toArray, List.size_toArray, ← r1.length, ← r2.length]
  refine (SeqAt.RcNeAt.lists (e := fun _ => true) p1.isList p2.isList hsz (by omega) (fun j h1 h2 => ?_)) _ _ _ _ ?_
  · have l1 := r1.length
    have h1' : j < us.length := by simpa using h1
    have h2' : j < ws.length := by simpa using h2
    obtain ⟨z, hz⟩ : ∃ z, xs[j]? = some z := ⟨xs[j]'(by rw [List.length_map] at l1; omega), List.getElem?_eq_getElem _⟩
    have hj : (xs.map V.str)[j]? = some (V.str z) := by
      rw [List.getElem?_map, hz]
      rfl
    obtain ⟨u1, e1, q1⟩ := r1.get hj
    obtain ⟨u2, e2, q2⟩ := r2.get hj
    obtain ⟨t1, rfl⟩ := q1
    obtain ⟨t2, rfl⟩ := q2
    have f1 : us.toArray[j] = .str z t1 := by
      rw [List.getElem_toArray]
      exact (List.getElem?_eq_some_iff.mp e1).2
    have f2 : ws.toArray[j] = .str z t2 := by
      rw [List.getElem_toArray]
      exact (List.getElem?_eq_some_iff.mp e2).2
    rw [f1, f2]
    have y := SeqAt.EqAt.str_str (A := X.A.in1) (s := s) z t1 z t2
    rwa [beq_self_eq_true] at y
  · rw [show ((List.range us.toArray.size).all fun _ => true) = true from List.all_eq_true.mpr fun _ _ => rfl]
    exact ⟨.bl false, H, I, rfl, q⟩
end FNX
namespace FNX
open PySem PySem.Spec PyProof.Rows L2
/-- a def with doors, as the top has left it -/
def FnC (K : PySem.W.Frag) (mg : Str → Option Value) (x : Str) (st : Stmt) (f c Pt : Addr) : Prop := mg x = some (.ref f) ∧ (∃ fd, FunC K x x st f fd c) ∧ Door K mg [x] x c Pt
theorem mkFC {K : PySem.W.Frag} {h : Heap} {mg : Str → Option Value} {x : Str} {st : Stmt} {f c Pt : Addr} {oc kV doc pm ct e : Value} {od an dd : Option Addr} {sl slc : Array (Option Value)} {us : Array Value} (X : K.In h) (G : h.Ns mainGlobals mg) (a1 : PySem.W.nsIn K mainGlobals x = some (some (.ref f)))
    (l1 : K.lookup f = some ⟨oc, od, .func (PySem.W.fnOf x x (defArgs st) (defBody st) (defScope st) .none kV doc pm an (.ref c) ct), sl⟩) (lc : K.lookup c = some ⟨e, dd, .fields us, slc⟩)
    (c1 : PySem.W.codeIn K (.ref c) x = true) (kf : PySem.W.keepIn K (.ref f) = true) (u11 : us[11]? = some (.ref Pt)) (hd : PySem.W.codeHdIn K c Pt = true) (no : K.lookup Pt = none) : FnC K mg x st f c Pt :=
  ⟨PySem.W.mg_of X G a1, ⟨_, ⟨oc, od, kV, doc, pm, an, ct, sl, rfl, l1, c1⟩, kf⟩, ⟨List.mem_singleton.mpr rfl, ⟨f, _, _, e, dd, us, slc, PySem.W.mg_of X G a1, l1, rfl, rfl, lc, u11⟩, hd, no⟩⟩
end FNX
namespace FNX
open PySem PySem.Spec PyProof.Rows L2
theorem walkGK {l : PySem.W.OpenLaw} {n k : Nat} {q : Program} {loose : List Str} {XP : (Str → Option Value) → Heap → Prop} {YP : World → Heap → Prop} {d : DefRec} {K : Params → PySem.W.Frag} {x : Str} (sp : PySem.W.Frag → List (Addr × Addr) → Sp) (xs : List Str)
    (hn : l.most = some n) (hn2 : n ≤ sizeLine) (hdf : d.params.defaults = []) (hr : Room k callerA) (hxs : xs.all (fun y => (recsOf q).any fun e => e.name == y) = true) (hY : ∀ (w : World) (h : Heap), YP w h → (K w.params).In h)
    (F : ∀ (w : World) (mg : Str → Option Value) (fa : Addr) (h : Heap), (K w.params).In h → h.Ns mainGlobals mg → mg d.name = some (.ref fa) →
      ∃ (fd : FuncData) (cs : List (Addr × Addr)), (∀ p ∈ cs, ∃ y, Door (K w.params) mg xs y p.1 p.2) ∧ (∀ (s : Shared) (u : Value), BindsTo s fd ⟨[u], []⟩ [(x, u)]) ∧
        (∀ (H : Hp) (a : Addr) (ns : List Int), ns.length ≤ n → (∀ p ∈ cs, H p.2 = some (.tbl #[])) → SqL (K w.params) H a (ns.map V.int) → sp (K w.params) cs [.ref a] H (fun v _ => v = .bl true) fun _ _ _ => False) ∧
        ∀ base : Heap, (K w.params).In base → base.Ns mainGlobals mg → (∀ p ∈ cs, LamX.TabB base mg p.1 p.2) → GOk l.prog w (K w.params) mg base k fa fd [x] (sp (K w.params) cs)) :
    PySem.W.WalkO q loose XP YP l.row.toRowW d [] (fun f vs => PySem.call f vs) := walkGT (sp := fun w cs => sp (K w.params) cs) xs hn hn2 hdf hr hxs hY F
end FNX
namespace FNX
open PySem PySem.Spec PyProof.Rows L2
theorem FunC.fn {K : PySem.W.Frag} {x qual : Str} {st : Stmt} {f c : Addr} {fd : FuncData} (F : FunC K x qual st f fd c) : Fun K x qual st f fd := by
  obtain ⟨oc, od, kV, doc, pm, an, ct, osl, e, lk, hcd⟩ := F.ex
  exact ⟨⟨oc, od, kV, doc, pm, an, .ref c, ct, osl, e, lk, hcd⟩, F.kp⟩
theorem Door.more {K : PySem.W.Frag} {mg : Str → Option Value} {xs ys : List Str} {x : Str} {c Pt : Addr} (D : Door K mg xs x c Pt) (h : x ∈ ys) : Door K mg ys x c Pt := ⟨h, D.fn, D.hd, D.no⟩
end FNX

set_option Elab.async false
set_option linter.all false
set_option maxRecDepth 100000
set_option maxHeartbeats 4000000
/-! ## Doors of any name, whose clauses keep a text or a value, and which keep what they are told -/
namespace FNX
open PySem PySem.Spec PyProof.Rows L2
abbrev MkC := V → PyData → Hp → (V → Hp → Prop) → Prop
/-- [word, repr(e.value)] -/
def mkR (word : Str) : MkC := fun _ d H Q => d.showable = true ∧ d.depth ≤ 60 ∧ d.shown.length ≤ sizeLine ∧ ∀ p, H p = none → Q (.ref p) (upd H p (.lst [.str word, .str d.shown]))
/-- [word, e.value] -/
def mkV (word : Str) : MkC := fun v _ H Q => ∀ p, H p = none → Q (.ref p) (upd H p (.lst [.str word, v]))
def wErrG (K : PySem.W.Frag) (Q : VK) : List (Addr × MkC) → XK
  | [] => fun _ _ _ => False
  | q :: r => fun cls d H => ∃ b, PySem.W.exmOne K cls (.ref q.1) = some b ∧
      (b = true → cls = .ref q.1 ∧ ∃ (dd : Addr) (v : V) (dt : PyData), d = some dd ∧ H dd = some (.xd [(("value" : Str), v)]) ∧ Rd K H v dt ∧ q.2 v dt H Q) ∧
      (b = false → wErrG K Q r cls d H)
/-- nothing is kept of what the door returns -/
def TErrG (K : PySem.W.Frag) (cl : List (Addr × MkC)) : (XK → Hp → VK → Prop) → Hp → VK → Prop :=
  fun tl H Q => tl (wErrG K Q cl) H (fun _ H' => ∃ v : V, some (some V.non) = some (some v) ∧ Q v H')
/-- ['told', what the door returns] -/
def TToldG (K : PySem.W.Frag) (word : Str) (cl : List (Addr × MkC)) : (XK → Hp → VK → Prop) → Hp → VK → Prop :=
  fun tl H Q => tl (wErrG K Q cl) H (fun v H' => 2 ≤ sizeLine ∧ ∀ p, H' p = none → ∃ u : V, some (some (V.ref p)) = some (some u) ∧ Q u (upd H' p (.lst [.str word, v])))
def tDoorV (f c' : Addr) (q : Str) (word : Str) (tl : XK → Hp → VK → Prop) : WX → TS := fun W D σ H =>
  ∃ Ech : XK, (∀ cls d H' σ', Ech cls d H' → σ'.length = 3 → W cls d σ' H') ∧ tAsg (tLst (tCons (tC (.str word)) (tCons (fun σZ HZ Q => σZ[0]? = some (some (.ref f)) ∧ HZ c' = some (LamX.CodeO c' q) ∧ tl Ech HZ Q) tNil))) (gName 1) D σ H
section
variable {X : Cx}
theorem pe_doorN {x : Str} {T : List (Addr × Str)} {TT : (XK → Hp → VK → Prop) → Hp → VK → Prop} {st : Stmt} {g c Pt : Addr} {fd : FuncData} {k : Nat} {params : Arguments} {body : Expr} {scope : Scope} {t : XK → TE} {p lpos pos : Pos}
    (hg : Gl X x) (hm : X.mg x = some (.ref g)) (F : Fun X.K x x st g fd) (hb : L2.Binds X.K fd ["_law_door"] []) (Sg : FnScope ["_law_door", "_law_kept", "e"] ["_law_door"] (defScope st))
    (hva : Vis (defScope st) "_law_door") (hG : ∀ cdg, LamX.GivesTo X ["_law_door", "_law_kept", "e"] x (defScope st) g cdg (defBody st) "_law_door" (X.env.qual ++ "<lambda>") TT)
    (TB : LamX.TabB X.base X.mg c Pt) (hcode : X.env.code = .ref c) (hmT : (Pt, X.env.qual ++ "<lambda>") ∈ T) (hu : ∀ p ∈ T, p.1 = Pt → p.2 = X.env.qual ++ "<lambda>") (hr : Room (k + 2) X.A)
    (L : LamX.LamS X.env.scope scope) (hdef : defaultsOf params X.env = ([], []))
    (hbind : ∀ (q : Str) (cl : List (Str × Addr)) (pm cv ctv : Value), bindArgs (PySem.W.kla_fn "<lambda>" q params body scope cl pm cv ctv) ⟨[], []⟩ = pure [])
    (hbody : ∀ (A : Around) (outer : List Env) (s : Shared) (H : Hp) (E : XK) (f c' : Addr), Room k (A.deeper (LamX.lamEnv X scope s.heap.objs.size f c')) → PE (LamX.lamCx X A outer s H E scope f c') body (t E))
    (hdb : (x == ("__debug__" : Str)) = false := by decide) :
    PE X (.Call (.Name x p) [.Lambda params body scope lpos] [] pos) (LamX.tLam T TT t) := by
  obtain ⟨oc, od, kV, doc, pm, an, cdv, ct, osl, rfl, lk, hcd⟩ := F.ex
  exact LamX.pe_lamcall hg hm F.kp lk hcd hb Sg rfl hva (hG cdv) TB hcode hmT hu hr L hdef hbind hbody hdb
end
end FNX

set_option Elab.async false
set_option linter.all false
set_option maxRecDepth 100000
set_option maxHeartbeats 4000000
/-! ## Further rules: int(a bool), != of two lists of the same items -/
namespace FNX
open PySem PySem.Spec PyProof.Rows L2
section
variable {X : Cx}
def rIntB : List V → Hp → VK → Prop := fun xs H Q => ∃ b : Bool, xs = [.bl b] ∧ Q (.int (if b = true then 1 else 0)) H
theorem call_intB : CallR X (.type "int") rIntB := by
  intro pins s σ H xs us Q I r h
  obtain ⟨b, rfl, q⟩ := h
  cases r with
  | cons r1 r2 =>
    cases r2
    cases r1
    exact PySem.call_int_bool ⟨.int (if b = true then 1 else 0), H, I.tok _, ⟨_, rfl⟩, q⟩
/-- lists of the same items -/
def rNeI (K : PySem.W.Frag) : R2 := fun x y H Q => ∃ (a b : Addr) (xs : List V), x = .ref a ∧ y = .ref b ∧ SqL K H a xs ∧ SqL K H b xs ∧ (∀ v ∈ xs, flatB v = true ∨ ∃ c, v = .ref c) ∧ Q (.bl false) H
theorem op_neI (hu : X.A.units + 64 < cLine) : OpR X (compareOp .NotEq) (rNeI X.K) := by
  intro pins s σ H x y v u Q I rx ry h
  obtain ⟨a, b, xs, rfl, rfl, ha, hb, hf, q⟩ := h
  cases (show v = Value.ref a from rx)
  cases (show u = Value.ref b from ry)
  obtain ⟨us, r1, p1, _⟩ := I.list ha
  obtain ⟨ws, r2, p2, _⟩ := I.list hb
  have hsz : us.toArray.size = ws.toArray.size := by
    rw [List.size_toArray, List.size_toArray, ← r1.length, ← r2.length]
  refine (SeqAt.RcNeAt.lists (e := fun _ => true) p1.isList p2.isList hsz (by omega) (fun j h1 h2 => ?_)) _ _ _ _ ?_
  · have l1 := r1.length
    have h1' : j < us.length := by simpa using h1
    obtain ⟨z, hz⟩ : ∃ z, xs[j]? = some z := ⟨xs[j]'(by omega), List.getElem?_eq_getElem _⟩
    obtain ⟨u1, e1, q1⟩ := r1.get hz
    obtain ⟨u2, e2, q2⟩ := r2.get hz
    have f1 : us.toArray[j] = u1 := by
      rw [List.getElem_toArray]
      exact (List.getElem?_eq_some_iff.mp e1).2
    have f2 : ws.toArray[j] = u2 := by
      rw [List.getElem_toArray]
      exact (List.getElem?_eq_some_iff.mp e2).2
    rw [f1, f2]
    rcases hf z (List.mem_of_getElem? hz) with hf | ⟨c, rfl⟩
    · exact eqAt_same q1 q2 hf
    · cases (show u1 = Value.ref c from q1)
      cases (show u2 = Value.ref c from q2)
      exact SeqAt.EqAt.same _
  · rw [show ((List.range us.toArray.size).all fun _ => true) = true from List.all_eq_true.mpr fun _ _ => rfl]
    exact ⟨.bl false, H, I, rfl, q⟩
end
end FNX

set_option Elab.async false
set_option linter.all false
set_option maxRecDepth 100000
set_option maxHeartbeats 8000000
namespace K66
open PySem PySem.Spec PyProof.Rows L2 FNX
def top (i : Nat) : Stmt := PySem.Challenge.pw_firenegatives_k66_links_judged.main.body.getD i (.Pass ⟨0, 0, 0, 0⟩)
abbrev s__wall : Stmt := top 0
abbrev s_InvalidSize_init : Stmt := inClass (top 3) 0
abbrev s_InvalidEdge_init : Stmt := inClass (top 4) 0
abbrev s_InvalidNode_init : Stmt := inClass (top 5) 0
abbrev s_InvalidPosition_init : Stmt := inClass (top 6) 0
abbrev s_TooMany_init : Stmt := inClass (top 7) 0
abbrev s_is_integer : Stmt := top 9
abbrev s_is_integer_within : Stmt := top 10
abbrev s_is_integer_list : Stmt := top 11
abbrev s_is_node : Stmt := top 12
abbrev s_is_node_list : Stmt := top 13
abbrev s_check_node : Stmt := top 14
abbrev s_check_position : Stmt := top 15
abbrev s_all_neighbours : Stmt := top 17
abbrev s_flip_in_place : Stmt := top 18
abbrev s_Graph_init : Stmt := inClass (top 22) 0
abbrev s_Graph_size : Stmt := inClass (top 22) 1
abbrev s_Graph_edges : Stmt := inClass (top 22) 2
abbrev s_Graph_neighbours : Stmt := inClass (top 22) 3
abbrev s_Graph_components : Stmt := inClass (top 22) 4
abbrev s_Graph_len : Stmt := inClass (top 22) 5
abbrev s_Graph_eq : Stmt := inClass (top 22) 6
abbrev s_Graph_repr : Stmt := inClass (top 22) 7
abbrev s_is_edge : Stmt := top 23
abbrev s_checked_edges : Stmt := top 24
abbrev s_neighbour_lists : Stmt := top 25
abbrev s_is_link : Stmt := top 27
abbrev s__law_pool : Stmt := top 29
abbrev s__law_take : Stmt := top 30
abbrev s__law_links : Stmt := top 31
abbrev s__law_number : Stmt := top 32
abbrev s__law_numbers : Stmt := top 33
abbrev s__law_flipped : Stmt := top 34
abbrev s__law_played : Stmt := top 35
abbrev s__law_out : Stmt := top 36
abbrev s__law_due : Stmt := top 37
abbrev s__law_bent : Stmt := top 38
abbrev s__law_asked : Stmt := top 39
abbrev s_law : Stmt := top 40
/-! ## The pool of draws -/
def PoolAt (H : Hp) (p : Addr) : Prop := ∃ c s : Int, H p = some (.lst [.int c, .int s]) ∧ 0 ≤ s ∧ s < 2147483648
def spPool (K : PySem.W.Frag) : Sp := fun vs H Q _ => ∃ (a : Addr) (ns : List Int) (k : Int), vs = [.ref a, .int k] ∧ SqL K H a (ns.map V.int) ∧ 0 ≤ k ∧ k < 100 ∧
  ∀ p H', H p = none → Same H H' → PoolAt H' p → Q (.ref p) H'
def spTake : Sp := fun vs H Q _ => ∃ (p : Addr) (n : Int), vs = [.ref p, .int n] ∧ PoolAt H p ∧ 0 < n ∧ n < 10000000000000000000 ∧
  ∀ r H', 0 ≤ r → r < n → PoolAt H' p → (∀ b, b ≠ p → H' b = H b) → Q (.int r) H'
section
variable {P : Program} {w : World} {K : PySem.W.Frag} {mg : Str → Option Value} {base : Heap}
theorem scTake : FnScope ["_law_pool_here", "_law_many", "_law_found"] ["_law_pool_here", "_law_many"] (defScope s__law_take) :=
  ⟨rfl, rfl, rfl, by decide +kernel, rfl, by decide +kernel, by decide +kernel⟩
theorem ok_take {f : Addr} {fd : FuncData} (F : Fun K "_law_take" "_law_take" s__law_take f fd) : FnOk P w K mg base CX0 1 f fd ["_law_pool_here", "_law_many"] spTake := by
  refine F.ok scTake (fun vs H Q E h => ?_) (fun cdv A outer s H vs Q E hr h => ?_)
  · obtain ⟨p, n, rfl, _⟩ := h
    rfl
  · obtain ⟨p, n, rfl, ⟨c, s0, hp, hs1, hs2⟩, hn1, hn2, k⟩ := h
    refine ⟨_, pss_cons (ps_if (pt_cmpR op_gt (pe_ix ix_list (pv 0) pe_int (fun _ _ => rfl)) pe_int (nomark _))
        (pss_cons (ps_set (i := 2) scTake.nd rfl (Or.inl rfl) (pe_op op_mod (pe_ix ix_list (pv 0) pe_int (fun _ _ => rfl)) (pv 1)))
          (pss_cons (ps_asg (pe_op op_fdivW (pe_ix ix_list (pv 0) pe_int (fun _ _ => rfl)) (pv 1)) (pg_sub (pv 0) pe_int set_list))
          (pss_one (ps_ret (pv 2))))) pss_nil)
      (pss_cons (ps_asg (pe_op op_mod (pe_op op_add (pe_op op_mul (pe_ix ix_list (pv 0) pe_int (fun _ _ => rfl)) pe_int) pe_int) pe_int) (pg_sub (pv 0) pe_int set_list))
      (pss_one (ps_ret (pe_op op_mod (pe_op op_fdiv (pe_op op_mod (pe_op op_mul (pe_ix ix_list (pv 0) pe_int (fun _ _ => rfl)) (pe_ix ix_list (pv 0) pe_int (fun _ _ => rfl))) pe_int) pe_int) (pv 1))))), ?_⟩
    refine ⟨_, rfl, p, _, _, _, rfl, rfl, SqL.of hp, atI_nat (j := 0) rfl, _, _, rfl, rfl, _, rfl, ?_⟩
    refine ite2 (fun _ => ?_) (fun _ => ?_)
    · refine ⟨_, rfl, p, _, _, _, rfl, rfl, SqL.of hp, atI_nat (j := 0) rfl, _, rfl, _, _, rfl, rfl, hn1, ?_⟩
      refine ⟨_, rfl, p, _, _, _, rfl, rfl, SqL.of hp, atI_nat (j := 0) rfl, _, rfl, _, _, rfl, rfl, wide_div (b := 64) hn1 (by omega) (by decide) (by decide), _, rfl, p, _, _, 0, rfl, rfl, hp, rfl, _, rfl, ?_⟩
      exact k _ _ (Int.emod_nonneg _ (by omega)) (Int.emod_lt_of_pos _ hn1) ⟨_, _, upd_same, hs1, hs2⟩ fun b hb => upd_ne hb
    · refine ⟨_, rfl, p, _, _, _, rfl, rfl, SqL.of hp, atI_nat (j := 1) rfl, _, _, rfl, rfl, .inr ⟨by decide, by decide⟩, _, _, rfl, rfl, _, _, rfl, rfl, (by show (0 : Int) < 2147483647; decide), _, rfl, p, _, _, 1, rfl, rfl, hp, rfl, ?_⟩
      have e1 : (0 : Int) ≤ (s0 * 48271 + 11) % 2147483647 := Int.emod_nonneg _ (by decide)
      have e2 : (s0 * 48271 + 11) % 2147483647 < 2147483647 := Int.emod_lt_of_pos _ (by decide)
      refine ⟨_, rfl, p, _, _, _, rfl, rfl, SqL.of upd_same, atI_nat (j := 1) rfl, _, rfl, p, _, _, _, rfl, rfl, SqL.of upd_same, atI_nat (j := 1) rfl, _, _, rfl, rfl, .inl ⟨?_, ?_⟩,
        _, _, rfl, rfl, (by show (0 : Int) < 2147483629; decide), _, _, rfl, rfl, ⟨by decide, by decide⟩, _, rfl, _, _, rfl, rfl, hn1, ?_⟩
      · exact Int.lt_of_lt_of_le (by decide) e1
      · exact Int.lt_of_lt_of_le e2 (by decide)
      exact k _ _ (Int.emod_nonneg _ (by omega)) (Int.emod_lt_of_pos _ hn1) ⟨_, _, upd_same, e1, by omega⟩ fun b hb => upd_ne hb

theorem boot_abs1 : bootBuiltins "abs" = some (.builtin "abs") := by decide +kernel
theorem scPool : FnScope ["_law_script", "_law_k", "_law_cell", "_law_whole", "_law_seed"] ["_law_script", "_law_k"] (defScope s__law_pool) :=
  ⟨rfl, rfl, rfl, by decide +kernel, rfl, by decide +kernel, by decide +kernel⟩
theorem mod_in (a : Int) {b : Int} (h : 0 < b) : 0 ≤ a % b ∧ a % b < b := ⟨Int.emod_nonneg _ (by omega), Int.emod_lt_of_pos _ h⟩
theorem ok_pool {f : Addr} {fd : FuncData} (F : Fun K "_law_pool" "_law_pool" s__law_pool f fd) (hlen : mg "len" = none) (n_abs : mg "abs" = none) (hint : mg "int" = none) :
    FnOk P w K mg base CX0 1 f fd ["_law_script", "_law_k"] (spPool K) := by
  refine F.ok scPool (fun vs H Q E h => ?_) (fun cdv A outer s H vs Q E hr h => ?_)
  · obtain ⟨a, ns, k, rfl, _⟩ := h
    rfl
  · obtain ⟨a, ns, k, rfl, hS, hk1, hk2, kont⟩ := h
    have nd := scPool.nd
    refine ⟨_, (pss_cons (ps_set (i := 2) nd rfl (Or.inl rfl) pe_int)
      (pss_cons (ps_if (pt_cmpR op_lt (pv 1) (pe_callB call_len_seq (by rfl) hlen PySem.boot_len (pa_cons (pv 0) pa_nil)) (nomark _)) (pss_one (ps_set (i := 2) nd rfl (Or.inl rfl) (pe_ix (r := rIxL K) ix_list (pv 0) (pv 1) (fun _ _ => rfl)))) pss_nil)
      (pss_cons (ps_set (i := 3) nd rfl (Or.inl rfl) (pe_callB call_abs (by rfl) n_abs boot_abs1 (pa_cons (pv 2) pa_nil)))
      (pss_cons (ps_set (i := 4) nd rfl (Or.inl rfl) (pe_op op_mod (pe_op op_mul (pe_op op_add (pe_op op_add (pe_op op_mod (pv 3) pe_int) (pe_op op_mul (pe_op op_mul pe_int (pv 1)) (pv 1))) pe_int) pe_int) pe_int))
      (pss_one (ps_ret (pe_lst (pa_cons (pe_op op_mul (pv 3) (pe_callTy (show CallR _ (.type "int") rIntB from call_intB) (by rfl) hint (by decide +kernel) (pa_cons (pe_cmpR op_ge (pv 3) (pe_op op_pow pe_int pe_int) (nomark _)) pa_nil))) (pa_cons (pv 4) pa_nil))))))))), ?_⟩
    refine ⟨_, rfl, _, rfl, a, _, rfl, .inl hS, _, _, rfl, rfl, _, rfl, ?_⟩
    refine ite2 (fun hlt => ?_) (fun _ => ?_)
    · have hkn : k.toNat < (ns.map V.int).length := by
        have hlt := of_decide_eq_true hlt
        rw [List.length_map] at hlt ⊢
        omega
      have hki : (ns.map V.int)[k.toNat]? = some (V.int (ns[k.toNat]'(by rw [List.length_map] at hkn; exact hkn))) := by
        rw [List.getElem?_map, List.getElem?_eq_getElem (by rw [List.length_map] at hkn; exact hkn)]
        rfl
      have hat := atI_nat hki
      rw [show ((k.toNat : Nat) : Int) = k by omega] at hat
      generalize (ns[k.toNat]'(by rw [List.length_map] at hkn; exact hkn)) = c at hat
      refine ⟨_, rfl, _, rfl, a, _, k, _, rfl, rfl, hS, hat, ?_⟩
      refine ⟨_, rfl, c, rfl, ?_⟩
      obtain ⟨w, hw⟩ : ∃ w : Int, (if (c : Int) < 0 then -c else c) = w := ⟨_, rfl⟩
      rw [hw]
      refine ⟨_, rfl, _, _, rfl, rfl, (by show (0 : Int) < 2147483629; decide), _, rfl, _, _, rfl, rfl, .inl ⟨by decide, by decide⟩, _, rfl, _, _, rfl, rfl, .inr ⟨by omega, by omega⟩, _, _, rfl, rfl,
        _, _, rfl, rfl, _, _, rfl, rfl, .inr ⟨by decide, by decide⟩, _, _, rfl, rfl, (by show (0 : Int) < 2147483647; decide), ?_⟩
      have e1 := mod_in ((w % 2147483629 + 7919 * k * k + 13) * 48271) (b := 2147483647) (by decide)
      refine ⟨_, rfl, _, rfl, _, _, rfl, rfl, ⟨by decide, by decide, by decide⟩, _, _, rfl, rfl, _, rfl, _, _, rfl, rfl, ?_, _, rfl, by show 2 ≤ sizeLine; decide, fun p hp => ?_⟩
      · exact .inr (by split <;> exact ⟨by decide, by decide⟩)
      · exact kont p _ hp (fun b o e => by rw [upd_ne (ne_of_none e hp)]; exact e) ⟨_, _, upd_same, by omega, by omega⟩
    · refine ⟨_, rfl, 0, rfl, ?_⟩
      obtain ⟨w, hw⟩ : ∃ w : Int, (if (0 : Int) < 0 then -0 else 0) = w := ⟨_, rfl⟩
      rw [hw]
      refine ⟨_, rfl, _, _, rfl, rfl, (by show (0 : Int) < 2147483629; decide), _, rfl, _, _, rfl, rfl, .inl ⟨by decide, by decide⟩, _, rfl, _, _, rfl, rfl, .inr ⟨by omega, by omega⟩, _, _, rfl, rfl,
        _, _, rfl, rfl, _, _, rfl, rfl, .inr ⟨by decide, by decide⟩, _, _, rfl, rfl, (by show (0 : Int) < 2147483647; decide), ?_⟩
      have e1 := mod_in ((w % 2147483629 + 7919 * k * k + 13) * 48271) (b := 2147483647) (by decide)
      refine ⟨_, rfl, _, rfl, _, _, rfl, rfl, ⟨by decide, by decide, by decide⟩, _, _, rfl, rfl, _, rfl, _, _, rfl, rfl, ?_, _, rfl, by show 2 ≤ sizeLine; decide, fun p hp => ?_⟩
      · exact .inr (by split <;> exact ⟨by decide, by decide⟩)
      · exact kont p _ hp (fun b o e => by rw [upd_ne (ne_of_none e hp)]; exact e) ⟨_, _, upd_same, by omega, by omega⟩
end

/-! ## checks.py -/
theorem boot_isi : bootBuiltins "isinstance" = some (.builtin "isinstance") := by decide +kernel
theorem boot_all : bootBuiltins "all" = some (.builtin "all") := by decide +kernel
theorem boot_len1 : bootBuiltins "len" = some (.builtin "len") := by decide +kernel
/-- built-in names that the program leaves as they are -/
structure Nms (mg : Str → Option Value) : Prop where
  isi : mg "isinstance" = none
  int : mg "int" = none
  bool : mg "bool" = none
  list : mg "list" = none
  tuple : mg "tuple" = none
  len : mg "len" = none
  all : mg "all" = none
  range : mg "range" = none
  enumerate : mg "enumerate" = none
  min : mg "min" = none
  max : mg "max" = none
  sorted : mg "sorted" = none
  repr : mg "repr" = none
/-- a def x stands at f and keeps sp -/
def At (P : Program) (w : World) (K : PySem.W.Frag) (mg : Str → Option Value) (base : Heap) (CX : CXT) (k : Nat) (x : Str) (ps : List Str) (sp : Sp) : Prop :=
  ∃ f fd, FnOk P w K mg base CX k f fd ps sp ∧ mg x = some (.ref f) ∧ PySem.W.keepIn K (.ref f) = true ∧ Binds K fd ps []
def spIsInteger (K : PySem.W.Frag) : Sp := fun vs H Q _ => ∃ v d, vs = [v] ∧ Rd K H v d ∧ Q (.bl (isI d)) H
def spWithin (K : PySem.W.Frag) : Sp := fun vs H Q _ => ∃ v d lo hi, vs = [v, .int lo, .int hi] ∧ Rd K H v d ∧ Q (.bl (within lo hi d)) H
def lenD : PyData → Nat
  | .list ds => ds.length
  | _ => 0
def isIL (n : Nat) : PyData → Bool
  | .list ds => decide (ds.length = n) && ds.all isI
  | _ => false
def spIntList (K : PySem.W.Frag) : Sp := fun vs H Q _ => ∃ v d, ∃ n : Nat, vs = [v, .int n] ∧ Rd K H v d ∧ lenD d ≤ 100000 ∧ ∀ H', Same H H' → Q (.bl (isIL n d)) H'
def isNode (n : Nat) (d : PyData) : Bool := within 0 ((n : Int) - 1) d
def spIsNode (K : PySem.W.Frag) : Sp := fun vs H Q _ => ∃ v d, ∃ n : Nat, vs = [.int n, v] ∧ Rd K H v d ∧ Q (.bl (isNode n d)) H
def isNL (n : Nat) : PyData → Bool
  | .list ds => ds.all (isNode n)
  | _ => false
def spNodeList (K : PySem.W.Frag) : Sp := fun vs H Q _ => ∃ v d, ∃ n : Nat, vs = [.int n, v] ∧ Rd K H v d ∧ lenD d ≤ 100000 ∧ ∀ H', Same H H' → Q (.bl (isNL n d)) H'
theorem rdInt {K : PySem.W.Frag} {H : Hp} {v : V} {i : Int} (h : Rd K H v (.int i)) : v = .int i := by
  cases h with
  | dat h => cases h; rfl
theorem rdList {K : PySem.W.Frag} {H : Hp} {v : V} {ds : List PyData} (h : Rd K H v (.list ds)) : ∃ a xs, v = .ref a ∧ SqL K H a xs ∧ DpAll K H xs ds := by
  cases h with
  | dat h =>
    cases h with
    | lst h1 h2 => exact ⟨_, _, rfl, h1, h2⟩
theorem dpAllLen {K : PySem.W.Frag} {H : Hp} : ∀ {xs : List V} {ds : List PyData}, DpAll K H xs ds → xs.length = ds.length
  | [], _, h => by cases h; rfl
  | x :: xs, _, h => by
    cases h with
    | cons h1 h2 => rw [List.length_cons, List.length_cons, dpAllLen h2]
theorem dpAllAt {K : PySem.W.Frag} {H : Hp} : ∀ {xs : List V} {ds : List PyData} {i : Nat} {x : V}, DpAll K H xs ds → xs[i]? = some x → Dp K H x (ds.getD i .none)
  | [], _, _, _, _, e => by simp at e
  | y :: xs, _, 0, x, h, e => by
    cases h with
    | cons h1 h2 =>
      have e' : y = x := Option.some.inj e
      subst e'
      exact h1
  | y :: xs, _, i + 1, x, h, e => by
    cases h with
    | cons h1 h2 => exact dpAllAt (i := i) h2 e
theorem allRange (p : PyData → Bool) : ∀ ds : List PyData, ((List.range ds.length).map fun i => p (ds.getD i .none)).all id = ds.all p := by
  intro ds
  have e : (List.range ds.length).map (fun i => p (ds.getD i .none)) = ds.map p := by
    apply List.ext_getElem
    · simp
    · intro i h1 h2
      simp only [List.length_map, List.length_range] at h1
      rw [List.getElem_map, List.getElem_range, List.getElem_map, List.getD_eq_getElem?_getD, List.getElem?_eq_getElem h1]
      rfl
  rw [e, List.all_map]
  rfl
section
variable {P : Program} {w : World} {K : PySem.W.Frag} {mg : Str → Option Value} {base : Heap} {CXa : CXT}
theorem sc_is_integer : FnScope ["thing"] ["thing"] (defScope s_is_integer) := ⟨rfl, rfl, rfl, by decide +kernel, rfl, by decide +kernel, by decide +kernel⟩
theorem ok_is_integer {f : Addr} {fd : FuncData} (F : Fun K "is_integer" "is_integer" s_is_integer f fd) (M : Nms mg) : FnOk P w K mg base CX0 1 f fd ["thing"] (spIsInteger K) := by
  refine F.ok sc_is_integer (fun vs H Q E h => ?_) (fun cdv A outer s H vs Q E hr h => ?_)
  · obtain ⟨v, d, rfl, _⟩ := h
    rfl
  · obtain ⟨v, d, rfl, hd, k⟩ := h
    refine ⟨_, pss_one (ps_ret (pe_and (pe_callB call_isi (by rfl) M.isi boot_isi (pa_cons (pv 0) (pa_cons (pe_bltn (v := V.ty "int") rfl M.int (by decide +kernel) rfl) pa_nil)))
      (pe_one (pe_not (pe_callB call_isi (by rfl) M.isi boot_isi (pa_cons (pv 0) (pa_cons (pe_bltn (v := V.ty "bool") rfl M.bool (by decide +kernel) rfl) pa_nil))))))), ?_⟩
    refine ⟨_, rfl, v, _, _, _, _, rfl, .ty _, rdTy hd, kitI K d, _, rfl, ?_⟩
    cases d with
    | int i => exact iteT ⟨_, rfl, v, _, _, _, _, rfl, .ty _, rdTy hd, kitBo K _, _, rfl, k⟩
    | bool b => exact iteT ⟨_, rfl, v, _, _, _, _, rfl, .ty _, rdTy hd, kitBo K _, _, rfl, k⟩
    | none => exact iteF k
    | str _ => exact iteF k
    | list _ => exact iteF k
    | tuple _ => exact iteF k
    | dict _ => exact iteF k
theorem sc_within : FnScope ["thing", "low", "high"] ["thing", "low", "high"] (defScope s_is_integer_within) := ⟨rfl, rfl, rfl, by decide +kernel, rfl, by decide +kernel, by decide +kernel⟩
theorem ok_within {f : Addr} {fd : FuncData} (F : Fun K "is_integer_within" "is_integer_within" s_is_integer_within f fd) (G : At P w K mg base CX0 1 "is_integer" ["thing"] (spIsInteger K)) :
    FnOk P w K mg base CX0 2 f fd ["thing", "low", "high"] (spWithin K) := by
  obtain ⟨g, gd, G, mG, kG, bG⟩ := G
  refine F.ok sc_within (fun vs H Q E h => ?_) (fun cdv A outer s H vs Q E hr h => ?_)
  · obtain ⟨v, d, lo, hi, rfl, _⟩ := h
    rfl
  · obtain ⟨v, d, lo, hi, rfl, hd, k⟩ := h
    refine ⟨_, pss_one (ps_ret (pe_and (pe_call G hr (by rfl) mG kG bG .nil pass0 (pa_cons (pv 0) pa_nil)) (pe_one (pe_chain op_le op_le (pv 1) (pv 0) (pv 2))))), ?_⟩
    refine ⟨_, rfl, v, d, rfl, hd, _, rfl, ?_⟩
    cases d with
    | int i =>
      have e := rdInt hd
      subst e
      refine iteT ⟨_, rfl, _, rfl, _, _, rfl, rfl, _, rfl, ?_⟩
      by_cases hl : lo ≤ i
      · rw [decide_eq_true hl]
        have k : Q (.bl (decide (lo ≤ i) && decide (i ≤ hi))) H := k
        rw [decide_eq_true hl, Bool.true_and] at k
        exact iteT ⟨_, rfl, _, _, rfl, rfl, k⟩
      · rw [decide_eq_false hl]
        have k : Q (.bl (decide (lo ≤ i) && decide (i ≤ hi))) H := k
        rw [decide_eq_false hl, Bool.false_and] at k
        exact iteF k
    | bool b => exact iteF k
    | none => exact iteF k
    | str _ => exact iteF k
    | list _ => exact iteF k
    | tuple _ => exact iteF k
    | dict _ => exact iteF k
theorem sc_int_list : FnScope ["thing", "length", "entry"] ["thing", "length"] (defScope s_is_integer_list) := ⟨rfl, rfl, rfl, by decide +kernel, rfl, by decide +kernel, by decide +kernel⟩
theorem decLen (i j : Nat) : decide (V.int (i : Int) = V.int (j : Int)) = decide (i = j) := by
  by_cases h : i = j
  · subst h
    rw [decide_eq_true rfl, decide_eq_true rfl]
  · rw [decide_eq_false h, decide_eq_false (fun z => h (by injection z with z; exact Int.ofNat.inj z))]
theorem ok_int_list {f : Addr} {fd : FuncData} (F : Fun K "is_integer_list" "is_integer_list" s_is_integer_list f fd) (M : Nms mg) (G : At P w K mg base CX0 1 "is_integer" ["thing"] (spIsInteger K)) :
    FnOk P w K mg base CX0 2 f fd ["thing", "length"] (spIntList K) := by
  obtain ⟨g, gd, G, mG, kG, bG⟩ := G
  refine F.ok sc_int_list (fun vs H Q E h => ?_) (fun cdv A outer s H vs Q E hr h => ?_)
  · obtain ⟨v, d, n, rfl, _⟩ := h
    rfl
  · obtain ⟨v, d, n, rfl, hd, hl, k⟩ := h
    refine ⟨_, pss_one (ps_ret (pe_and (pe_callB call_isi (by rfl) M.isi boot_isi (pa_cons (pv 0) (pa_cons (pe_bltn (v := V.ty "list") rfl M.list (by decide +kernel) rfl) pa_nil)))
      (pe_and (pe_cmpR op_eq (pe_callB call_len_seq (by rfl) M.len boot_len1 (pa_cons (pv 0) pa_nil)) (pv 1) (nomark _))
      (pe_one (pe_callB (cr_all rfl) (by rfl) M.all boot_all (pa_cons (pe_lc (own := [("entry", 2)]) (g := gName 2) (tt := tYes) rfl sc_int_list.nd (pi_list (pv 0))
        (blkOk_by (own := [("entry", 2)]) (N := ["thing", "length", "entry"]) (sc := defScope s_is_integer_list) (by decide +kernel))
        (fun _ _ _ _ _ => pg_name (i := 2) sc_int_list.nd rfl (Or.inl rfl)) (fun _ _ _ _ _ => pts_nil)
        (fun _ _ _ _ _ => pe_call G hr (by rfl) mG kG bG .nil pass0 (pa_cons (pv 2) pa_nil))) pa_nil)))))), ?_⟩
    refine ⟨_, rfl, v, _, _, _, _, rfl, .ty _, rdTy hd, kitL K d, _, rfl, ?_⟩
    have no : isLst d = false → Q (.bl false) H := fun z => by
      have e : isIL n d = false := by cases d <;> first | rfl | cases z
      have q := k H (Same.refl H)
      rw [e] at q
      exact q
    cases d with
    | bool b => exact iteF (no rfl)
    | none => exact iteF (no rfl)
    | str _ => exact iteF (no rfl)
    | int _ => exact iteF (no rfl)
    | tuple _ => exact iteF (no rfl)
    | dict _ => exact iteF (no rfl)
    | list ds =>
      obtain ⟨a, xs, rfl, hx, hds⟩ := rdList hd
      have hlen := dpAllLen hds
      refine iteT ⟨_, rfl, a, xs, rfl, .inl hx, _, rfl, rfl, _, rfl, ?_⟩
      rw [decLen, hlen]
      by_cases hn : ds.length = n
      · rw [decide_eq_true hn]
        refine iteT ⟨_, rfl, a, rfl, ⟨_, hx⟩, fun D hD => lc_map (K := K) (a := a) (xs := xs) (fun i => V.bl (isI (ds.getD i .none))) hD hx (fun x => rfl) (fun i x H' hi sm hd' => ?_) (fun H' sm hd' => ?_)⟩
        · have hi' : i < xs.length := (List.getElem?_eq_some_iff.mp hi).1
          have hl' : ds.length ≤ 100000 := hl
          exact ⟨_, rfl, x, _, rfl, .dat (dpSame sm _ _ (dpAllAt hds hi)), lcT hD (by omega) sm hd' (Same.refl _) rfl⟩
        · refine ⟨D, (List.range xs.length).map fun i => isI (ds.getD i .none), rfl, SqL.of (by rw [List.map_map]; exact hd'), ?_⟩
          have q := k H' sm
          have e : isIL n (.list ds) = ds.all isI := by
            show (decide (ds.length = n) && ds.all isI) = _
            rw [decide_eq_true hn, Bool.true_and]
          rw [e] at q
          rw [hlen, allRange]
          exact q
      · rw [decide_eq_false hn]
        have q := k H (Same.refl H)
        have e : isIL n (.list ds) = false := by
          show (decide (ds.length = n) && ds.all isI) = _
          rw [decide_eq_false hn, Bool.false_and]
        rw [e] at q
        exact iteF q
theorem sc_is_node : FnScope ["size", "thing"] ["size", "thing"] (defScope s_is_node) := ⟨rfl, rfl, rfl, by decide +kernel, rfl, by decide +kernel, by decide +kernel⟩
theorem ok_is_node {f : Addr} {fd : FuncData} (F : Fun K "is_node" "is_node" s_is_node f fd) (G : At P w K mg base CX0 2 "is_integer_within" ["thing", "low", "high"] (spWithin K)) :
    FnOk P w K mg base CX0 3 f fd ["size", "thing"] (spIsNode K) := by
  obtain ⟨g, gd, G, mG, kG, bG⟩ := G
  refine F.ok sc_is_node (fun vs H Q E h => ?_) (fun cdv A outer s H vs Q E hr h => ?_)
  · obtain ⟨v, d, n, rfl, _⟩ := h
    rfl
  · obtain ⟨v, d, n, rfl, hd, k⟩ := h
    exact ⟨_, pss_one (ps_ret (pe_call G hr (by rfl) mG kG bG .nil pass0 (pa_cons (pv 1) (pa_cons pe_int (pa_cons (pe_op op_sub (pv 0) pe_int) pa_nil))))),
      _, rfl, _, rfl, _, _, rfl, rfl, v, d, _, _, rfl, hd, k⟩
theorem sc_node_list : FnScope ["size", "thing", "entry"] ["size", "thing"] (defScope s_is_node_list) := ⟨rfl, rfl, rfl, by decide +kernel, rfl, by decide +kernel, by decide +kernel⟩
theorem ok_node_list {f : Addr} {fd : FuncData} (F : Fun K "is_node_list" "is_node_list" s_is_node_list f fd) (M : Nms mg) (G : At P w K mg base CX0 3 "is_node" ["size", "thing"] (spIsNode K)) :
    FnOk P w K mg base CX0 4 f fd ["size", "thing"] (spNodeList K) := by
  obtain ⟨g, gd, G, mG, kG, bG⟩ := G
  refine F.ok sc_node_list (fun vs H Q E h => ?_) (fun cdv A outer s H vs Q E hr h => ?_)
  · obtain ⟨v, d, n, rfl, _⟩ := h
    rfl
  · obtain ⟨v, d, n, rfl, hd, hl, k⟩ := h
    refine ⟨_, pss_one (ps_ret (pe_and (pe_callB call_isi (by rfl) M.isi boot_isi (pa_cons (pv 1) (pa_cons (pe_bltn (v := V.ty "list") rfl M.list (by decide +kernel) rfl) pa_nil)))
      (pe_one (pe_callB (cr_all rfl) (by rfl) M.all boot_all (pa_cons (pe_lc (own := [("entry", 2)]) (g := gName 2) (tt := tYes) rfl sc_node_list.nd (pi_list (pv 1))
        (blkOk_by (own := [("entry", 2)]) (N := ["size", "thing", "entry"]) (sc := defScope s_is_node_list) (by decide +kernel))
        (fun _ _ _ _ _ => pg_name (i := 2) sc_node_list.nd rfl (Or.inl rfl)) (fun _ _ _ _ _ => pts_nil)
        (fun _ _ _ _ _ => pe_call G hr (by rfl) mG kG bG .nil pass0 (pa_cons (pv 0) (pa_cons (pv 2) pa_nil)))) pa_nil))))), ?_⟩
    refine ⟨_, rfl, v, _, _, _, _, rfl, .ty _, rdTy hd, kitL K d, _, rfl, ?_⟩
    have no : isLst d = false → Q (.bl false) H := fun z => by
      have e : isNL n d = false := by cases d <;> first | rfl | cases z
      have q := k H (Same.refl H)
      rw [e] at q
      exact q
    cases d with
    | bool b => exact iteF (no rfl)
    | none => exact iteF (no rfl)
    | str _ => exact iteF (no rfl)
    | int _ => exact iteF (no rfl)
    | tuple _ => exact iteF (no rfl)
    | dict _ => exact iteF (no rfl)
    | list ds =>
      obtain ⟨a, xs, rfl, hx, hds⟩ := rdList hd
      have hlen := dpAllLen hds
      refine iteT ⟨_, rfl, a, rfl, ⟨_, hx⟩, fun D hD => lc_map (K := K) (a := a) (xs := xs) (fun i => V.bl (isNode n (ds.getD i .none))) hD hx (fun x => rfl) (fun i x H' hi sm hd' => ?_) (fun H' sm hd' => ?_)⟩
      · have hi' : i < xs.length := (List.getElem?_eq_some_iff.mp hi).1
        have hl' : ds.length ≤ 100000 := hl
        exact ⟨_, rfl, _, rfl, x, _, n, rfl, .dat (dpSame sm _ _ (dpAllAt hds hi)), lcT hD (by omega) sm hd' (Same.refl _) rfl⟩
      · refine ⟨D, (List.range xs.length).map fun i => isNode n (ds.getD i .none), rfl, SqL.of (by rw [List.map_map]; exact hd'), ?_⟩
        have q := k H' sm
        have e : isNL n (.list ds) = ds.all (isNode n) := rfl
        rw [e] at q
        rw [hlen, allRange]
        exact q
end

/-! ## Plays over plain lists -/
def flipL (row x : List Int) (v : Nat) : List Int := (row.foldl (fun y o => y.set o.toNat (y.getD o.toNat 0 + x.getD v 0)) x).set v (-(x.getD v 0))
def followL (N : List (List Int)) : List Nat → List Int → List Int → Option (List Int × List Int)
  | [], x, t => some (x, t)
  | v :: vs, x, t => if x.getD v 0 ≥ 0 then none else followL N vs (flipL (N.getD v []) x v) (t.set v (t.getD v 0 - x.getD v 0))
/-- the neighbours' lists name nodes -/
def WF (N : List (List Int)) : Prop := ∀ i, i < N.length → ∀ o ∈ N.getD i [], 0 ≤ o ∧ o < N.length
theorem foldSetLen (c : Int) : ∀ (row : List Int) (x : List Int), (row.foldl (fun y o => y.set o.toNat (y.getD o.toNat 0 + c)) x).length = x.length
  | [], x => rfl
  | o :: row, x => by
    rw [List.foldl_cons, foldSetLen c row, List.length_set]
theorem flipLen (row x : List Int) (v : Nat) : (flipL row x v).length = x.length := by
  unfold flipL
  rw [List.length_set, foldSetLen]
theorem mapSet {x : List Int} {i : Nat} {z : Int} : (x.map V.int).set i (.int z) = (x.set i z).map V.int := by
  rw [List.map_set]
theorem mapAt {x : List Int} {i : Nat} (h : i < x.length) : (x.map V.int)[i]? = some (V.int (x.getD i 0)) := by
  rw [List.getElem?_map, List.getElem?_eq_getElem h, List.getD_eq_getElem?_getD, List.getElem?_eq_getElem h]
  rfl
theorem atInt {x : List Int} {i : Int} (h0 : 0 ≤ i) (h : i < x.length) : atI (x.map V.int) i = some (V.int (x.getD i.toNat 0)) := by
  have z := atI_nat (mapAt (x := x) (i := i.toNat) (by omega))
  rwa [show ((i.toNat : Nat) : Int) = i by omega] at z
theorem ixInt {x : List Int} {i : Int} (h0 : 0 ≤ i) (h : i < x.length) : ixN (x.map V.int).length i = some i.toNat := by
  unfold ixN
  rw [if_pos h0, List.length_map, if_pos h]
/-- lists of ints at addresses -/
def RowsAt (H : Hp) (rows : List Addr) (N : List (List Int)) : Prop := rows.length = N.length ∧ ∀ (k : Nat) (r : Addr), rows[k]? = some r → H r = some (.lst ((N.getD k []).map V.int))
def NAt (H : Hp) (p : Addr) (N : List (List Int)) : Prop := ∃ rows, H p = some (.lst (rows.map V.ref)) ∧ RowsAt H rows N
theorem RowsAt.same {H H' : Hp} {rows : List Addr} {N : List (List Int)} (h : RowsAt H rows N) (s : Same H H') : RowsAt H' rows N := ⟨h.1, fun k r e => s _ _ (h.2 k r e)⟩
theorem NAt.same {H H' : Hp} {p : Addr} {N : List (List Int)} (h : NAt H p N) (s : Same H H') : NAt H' p N := by
  obtain ⟨rows, h1, h2⟩ := h
  exact ⟨rows, s _ _ h1, h2.same s⟩
theorem NAt.row {H : Hp} {p : Addr} {N : List (List Int)} (h : NAt H p N) {i : Int} (h0 : 0 ≤ i) (hi : i < N.length) :
    ∃ xs r, H p = some (.lst xs) ∧ atI xs i = some (.ref r) ∧ H r = some (.lst ((N.getD i.toNat []).map V.int)) := by
  obtain ⟨rows, h1, h2, h3⟩ := h
  have hl : i.toNat < rows.length := by omega
  refine ⟨_, rows[i.toNat], h1, ?_, h3 i.toNat _ (List.getElem?_eq_getElem hl)⟩
  have z : (rows.map V.ref)[i.toNat]? = some (V.ref rows[i.toNat]) := by
    rw [List.getElem?_map, List.getElem?_eq_getElem hl]
    rfl
  have q := atI_nat z
  rwa [show ((i.toNat : Nat) : Int) = i by omega] at q
/-- nodes out of data -/
def nodeOf : PyData → Nat
  | .int i => i.toNat
  | _ => 0
theorem nodesOf {K : PySem.W.Frag} {H : Hp} {n : Nat} : ∀ {xs : List V} {ds : List PyData}, DpAll K H xs ds → ds.all (isNode n) = true → xs = (ds.map nodeOf).map (fun v : Nat => V.int (v : Int)) ∧ ∀ v ∈ ds.map nodeOf, v < n
  | [], _, h, _ => by
    cases h
    exact ⟨rfl, fun v hv => by simp at hv⟩
  | x :: xs, _, h, ha => by
    cases h with
    | cons h1 h2 =>
      rename_i d ds
      rw [List.all_cons, Bool.and_eq_true] at ha
      obtain ⟨e, b⟩ := nodesOf h2 ha.2
      have hd := ha.1
      cases d with
      | int i =>
        cases h1
        have hd : (decide ((0 : Int) ≤ i) && decide (i ≤ (n : Int) - 1)) = true := hd
        rw [Bool.and_eq_true, decide_eq_true_eq, decide_eq_true_eq] at hd
        refine ⟨?_, fun v hv => ?_⟩
        · rw [List.map_cons, List.map_cons, ← e]
          show V.int i :: xs = V.int ((i.toNat : Nat) : Int) :: xs
          rw [show ((i.toNat : Nat) : Int) = i by omega]
        · rcases List.mem_cons.mp (show v ∈ nodeOf (.int i) :: ds.map nodeOf from hv) with rfl | hv
          · show i.toNat < n
            omega
          · exact b v hv
      | none => cases hd
      | bool _ => cases hd
      | str _ => cases hd
      | list _ => cases hd
      | tuple _ => cases hd
      | dict _ => cases hd

end K66

set_option Elab.async false
set_option linter.all false
set_option maxRecDepth 100000
set_option maxHeartbeats 8000000
namespace K66
open PySem PySem.Spec PyProof.Rows L2 FNX
/-! ## Graphs, read; firing -/
def gflds (n : Int) (j nr : Addr) : List (Str × V) := [("node_count", .int n), ("joined", .ref j), ("near", .ref nr)]
theorem gl_n (n : Int) (j nr : Addr) : (gflds n j nr).lookup ("node_count" : Str) = some (.int n) := by
  unfold gflds
  simp [List.lookup]
theorem gl_j (n : Int) (j nr : Addr) : (gflds n j nr).lookup ("joined" : Str) = some (.ref j) := rfl
theorem gl_r (n : Int) (j nr : Addr) : (gflds n j nr).lookup ("near" : Str) = some (.ref nr) := rfl
def GAt (CG : Addr) (H : Hp) (g : Addr) (N : List (List Int)) : Prop := ∃ dx j nr, H g = some (.ins CG dx (gflds (N.length : Int) j nr)) ∧ NAt H nr N
theorem GAt.same {CG : Addr} {H H' : Hp} {g : Addr} {N : List (List Int)} (h : GAt CG H g N) (s : Same H H') : GAt CG H' g N := by
  obtain ⟨dx, j, nr, h1, h2⟩ := h
  exact ⟨dx, j, nr, s _ _ h1, h2.same s⟩
/-- what the walk asks of the class Graph -/
structure GTxt (K : PySem.W.Frag) (mg : Str → Option Value) (CG : Addr) : Prop where
  cl : Cls K CG
  n1 : NoAttr K CG "node_count"
  n2 : NoAttr K CG "joined"
  n3 : NoAttr K CG "near"
  mgC : mg "Graph" = some (.ref CG)
/-- a method x of Graph keeps sp -/
def MAt (P : Program) (w : World) (K : PySem.W.Frag) (mg : Str → Option Value) (base : Heap) (CG : Addr) (CX : CXT) (k : Nat) (x : Str) (ps : List Str) (sp : Sp) : Prop :=
  ∃ f fd, FnOk P w K mg base CX k f fd ps sp ∧ Meth K CG x f ∧ Binds K fd ps []
def spSize (CG : Addr) : Sp := fun vs H Q _ => ∃ g N, vs = [.ref g] ∧ GAt CG H g N ∧ Q (.int (N.length : Int)) H
def spCheckNode : Sp := fun vs H Q _ => ∃ n i : Int, vs = [.int n, .int i] ∧ 0 ≤ i ∧ i < n ∧ Q .non H
def spNeighbours (CG : Addr) : Sp := fun vs H Q _ => ∃ g N, ∃ i : Int, vs = [.ref g, .int i] ∧ GAt CG H g N ∧ 0 ≤ i ∧ i < N.length ∧
  ∀ p, H p = none → Q (.ref p) (upd H p (.lst ((N.getD i.toNat []).map V.int)))
def spAll (CG : Addr) : Sp := fun vs H Q _ => ∃ g N, vs = [.ref g] ∧ GAt CG H g N ∧ N.length ≤ 1000 ∧ ∀ p H', H p = none → Same H H' → NAt H' p N → Q (.ref p) H'
def spFlip : Sp := fun vs H Q _ => ∃ p r, ∃ x row : List Int, ∃ v : Int, vs = [.ref p, .int v, .ref r] ∧ H p = some (.lst (x.map V.int)) ∧ H r = some (.lst (row.map V.int)) ∧ p ≠ r ∧
  0 ≤ v ∧ v < x.length ∧ (∀ o ∈ row, 0 ≤ o ∧ o < x.length) ∧ ∀ H', H' p = some (.lst ((flipL row x v.toNat).map V.int)) → (∀ b, b ≠ p → H' b = H b) → Q .non H'
section
variable {P : Program} {w : World} {K : PySem.W.Frag} {mg : Str → Option Value} {base : Heap} {CG : Addr}
theorem sc_gsize : FnScope ["self"] ["self"] (defScope s_Graph_size) := ⟨rfl, rfl, rfl, by decide +kernel, rfl, by decide +kernel, by decide +kernel⟩
theorem ok_gsize {f : Addr} {fd : FuncData} (F : Fun K "size" "Graph.size" s_Graph_size f fd) (T : GTxt K mg CG) : FnOk P w K mg base CX0 1 f fd ["self"] (spSize CG) := by
  refine F.ok sc_gsize (fun vs H Q E h => ?_) (fun cdv A outer s H vs Q E hr h => ?_)
  · obtain ⟨g, N, rfl, _⟩ := h
    rfl
  · obtain ⟨g, N, rfl, ⟨dx, j, nr, h1, h2⟩, k⟩ := h
    exact ⟨_, pss_one (ps_ret (pe_fld (pv 0) rfl)), _, rfl, g, CG, dx, _, _, rfl, h1, T.cl, T.n1, gl_n _ _ _, k⟩
theorem sc_check_node : FnScope ["size", "node"] ["size", "node"] (defScope s_check_node) := ⟨rfl, rfl, rfl, by decide +kernel, rfl, by decide +kernel, by decide +kernel⟩
theorem ok_check_node {f : Addr} {fd : FuncData} (F : Fun K "check_node" "check_node" s_check_node f fd) (G : At P w K mg base CX0 3 "is_node" ["size", "thing"] (spIsNode K)) :
    FnOk P w K mg base CX0 4 f fd ["size", "node"] spCheckNode := by
  obtain ⟨g, gd, G, mG, kG, bG⟩ := G
  refine F.ok sc_check_node (fun vs H Q E h => ?_) (fun cdv A outer s H vs Q E hr h => ?_)
  · obtain ⟨n, i, rfl, _⟩ := h
    rfl
  · obtain ⟨n, i, rfl, h0, h1, k⟩ := h
    refine ⟨_, pss_one (ps_if (pt_not (pt_val (pe_call G hr (by rfl) mG kG bG .nil pass0 (pa_cons (pv 0) (pa_cons (pv 1) pa_nil))))) (pss_one ps_never) pss_nil), ?_⟩
    obtain ⟨m, rfl⟩ : ∃ m : Nat, n = (m : Int) := ⟨n.toNat, by omega⟩
    refine ⟨_, rfl, _, rfl, .int i, .int i, m, rfl, .dat (.int i), _, rfl, ?_⟩
    have e : isNode m (.int i) = true := by
      show (decide ((0 : Int) ≤ i) && decide (i ≤ (m : Int) - 1)) = true
      rw [decide_eq_true h0, decide_eq_true (by omega)]
      rfl
    rw [e]
    exact iteF k
theorem sc_neighbours : FnScope ["self", "node"] ["self", "node"] (defScope s_Graph_neighbours) := ⟨rfl, rfl, rfl, by decide +kernel, rfl, by decide +kernel, by decide +kernel⟩
theorem ok_neighbours {f : Addr} {fd : FuncData} (F : Fun K "neighbours" "Graph.neighbours" s_Graph_neighbours f fd) (T : GTxt K mg CG) (M : Nms mg) (G : At P w K mg base CX0 4 "check_node" ["size", "node"] spCheckNode) :
    FnOk P w K mg base CX0 5 f fd ["self", "node"] (spNeighbours CG) := by
  obtain ⟨c, cd, G, mG, kG, bG⟩ := G
  refine F.ok sc_neighbours (fun vs H Q E h => ?_) (fun cdv A outer s H vs Q E hr h => ?_)
  · obtain ⟨g, N, i, rfl, _⟩ := h
    rfl
  · obtain ⟨g, N, i, rfl, ⟨dx, j, nr, h1, h2⟩, h0, hi, k⟩ := h
    refine ⟨_, pss_cons (ps_expr (pe_call G hr (by rfl) mG kG bG .nil pass0 (pa_cons (pe_fld (pv 0) rfl) (pa_cons (pv 1) pa_nil))))
      (pss_one (ps_ret (pe_callTy call_list_of (by rfl) M.list (by decide +kernel) (pa_cons (pe_ix ix_list (pe_fld (pv 0) rfl) (pv 1) (fun _ _ => rfl)) pa_nil)))), ?_⟩
    refine ⟨_, rfl, g, CG, dx, _, _, rfl, h1, T.cl, T.n1, gl_n _ _ _, _, rfl, _, i, rfl, h0, hi, ?_⟩
    obtain ⟨xs, r, e1, e2, e3⟩ := h2.row h0 hi
    exact ⟨_, rfl, g, CG, dx, _, _, rfl, h1, T.cl, T.n3, gl_r _ _ _, _, rfl, nr, xs, i, _, rfl, rfl, SqL.of e1, e2, r, _, rfl, .inl (SqL.of e3), fun l hl => k l hl⟩
theorem sc_all : FnScope ["graph", "node"] ["graph"] (defScope s_all_neighbours) := ⟨rfl, rfl, rfl, by decide +kernel, rfl, by decide +kernel, by decide +kernel⟩
theorem ok_all {f : Addr} {fd : FuncData} (F : Fun K "all_neighbours" "all_neighbours" s_all_neighbours f fd) (T : GTxt K mg CG) (M : Nms mg)
    (GS : MAt P w K mg base CG CX0 1 "size" ["self"] (spSize CG)) (GN : MAt P w K mg base CG CX0 5 "neighbours" ["self", "node"] (spNeighbours CG)) :
    FnOk P w K mg base CX0 6 f fd ["graph"] (spAll CG) := by
  obtain ⟨fs, fsd, GS, mS, bS⟩ := GS
  obtain ⟨fn, fnd, GN, mN, bN⟩ := GN
  refine F.ok sc_all (fun vs H Q E h => ?_) (fun cdv A outer s H vs Q E hr h => ?_)
  · obtain ⟨g, N, rfl, _⟩ := h
    rfl
  · obtain ⟨g, N, rfl, hg, hl, k⟩ := h
    have hr1 : Room 1 _ := hr.mono (by decide)
    refine ⟨_, pss_one (ps_ret (pe_lc (own := [("node", 1)]) (g := gName 1) (tt := tYes) rfl sc_all.nd
      (pi_range1 rfl M.range (pa_cons (pe_meth0 (pv 0) T.cl mS GS hr1 bS .nil pass0) pa_nil))
      (blkOk_by (own := [("node", 1)]) (N := ["graph", "node"]) (sc := defScope s_all_neighbours) (by decide +kernel))
      (fun _ _ _ _ _ => pg_name (i := 1) sc_all.nd rfl (Or.inl rfl)) (fun _ _ _ _ _ => pts_nil)
      (fun _ _ _ _ _ => pe_meth (pv 0) T.cl mN GN hr bN .nil pass0 (pa_cons (pv 1) pa_nil)))), ?_⟩
    obtain ⟨dx, j, nr, h1, h2⟩ := id hg
    refine ⟨_, rfl, g, dx, _, rfl, h1, rfl, g, N, rfl, hg, _, rfl, by omega, by omega, fun D hD => ?_⟩
    refine lc_range (lo := 0) (fun i H' => Same H H' ∧ ∃ rows : List Addr, H' D = some (.lst (rows.map V.ref)) ∧ rows.length = i ∧
      ∀ (k : Nat) (r : Addr), rows[k]? = some r → r ≠ D ∧ H' r = some (.lst ((N.getD k []).map V.int))) ⟨same_upd hD, [], upd_same, rfl, fun k r e => by simp at e⟩ (fun i H' hi h => ?_) (fun H' h => ?_)
    · obtain ⟨sm, rows, e1, e2, e3⟩ := h
      rw [Int.zero_add]
      have hi' : i < N.length := by omega
      refine ⟨rfl, ?_⟩
      refine ⟨_, rfl, g, dx, _, rfl, sm _ _ h1, rfl, _, rfl, g, N, (i : Int), rfl, hg.same sm, by omega, by omega, fun p np => ?_⟩
      have hpD : D ≠ p := ne_of_none e1 np
      refine ⟨_, by rw [upd_ne hpD]; exact e1, by rw [List.length_map, e2, sizeLine_eq]; omega, fun b o z => ?_, rows ++ [p], ?_, by rw [List.length_append, e2]; rfl, fun k r e => ?_⟩
      · rw [upd_ne (ne_of_none z hD), upd_ne (ne_of_none (sm _ _ z) np)]
        exact sm _ _ z
      · rw [upd_same, List.map_append]
        rfl
      · by_cases hk : k < rows.length
        · rw [List.getElem?_append_left hk] at e
          obtain ⟨hr', z⟩ := e3 k r e
          rw [upd_ne hr', upd_ne (ne_of_none z np)]
          exact ⟨hr', z⟩
        · rw [List.getElem?_append_right (by omega)] at e
          have hk' : k = rows.length := by
            have := (List.getElem?_eq_some_iff.mp e).1
            simp at this
            omega
          subst hk'
          rw [Nat.sub_self] at e
          have e' : p = r := Option.some.inj e
          subst e'
          rw [upd_ne hpD.symm, upd_same, e2]
          exact ⟨hpD.symm, rfl⟩
    · obtain ⟨sm, rows, e1, e2, e3⟩ := h
      exact k D H' hD sm ⟨rows, e1, by omega, fun k r e => (e3 k r e).2⟩
end

/-! ## flip_in_place, follow -/
theorem takeMore {α : Type} : ∀ {l : List α} {i : Nat} {x : α}, l[i]? = some x → l.take (i + 1) = l.take i ++ [x]
  | [], _, _, h => by simp at h
  | a :: l, 0, x, h => by
    have e : a = x := Option.some.inj h
    subst e
    rfl
  | a :: l, i + 1, x, h => by
    rw [List.take_succ_cons, List.take_succ_cons, takeMore (l := l) (i := i) h]
    rfl
theorem intsAt {x : List Int} {i : Nat} {y : V} (h : (x.map V.int)[i]? = some y) : ∃ o, x[i]? = some o ∧ y = .int o := by
  rw [List.getElem?_map] at h
  cases e : x[i]? with
  | none =>
    rw [e] at h
    cases h
  | some o =>
    rw [e] at h
    exact ⟨o, rfl, (Option.some.inj h).symm⟩
theorem repZero (n : Nat) : (List.replicate n [V.int 0]).flatten = (List.replicate n (0 : Int)).map V.int := by
  induction n with
  | zero => rfl
  | succ n ih =>
    rw [List.replicate_succ, List.flatten_cons, ih, List.replicate_succ, List.map_cons]
    rfl
def playD (N : List (List Int)) (d : PyData) (x : List Int) : Option (List Int × List Int) := match d with
  | .list ds => if ds.all (isNode N.length) = true then followL N (ds.map nodeOf) x (List.replicate N.length 0) else none
  | _ => none
def spFollow (K : PySem.W.Frag) (CG : Addr) : Sp := fun vs H Q _ => ∃ g N pv x tv d, vs = [.ref g, .ref pv, tv] ∧ GAt CG H g N ∧ WF N ∧ N.length ≤ 1000 ∧ SqL K H pv (x.map V.int) ∧ x.length = N.length ∧
  Rd K H tv d ∧ lenD d ≤ 100000 ∧ (∀ H', Same H H' → playD N d x = none → Q .non H') ∧
  ∀ x' t' T a b H', playD N d x = some (x', t') → Same H H' → H a = none → H b = none → H' T = some (.tup [.ref a, .ref b]) → H' a = some (.lst (x'.map V.int)) → H' b = some (.lst (t'.map V.int)) → Q (.ref T) H'
section
variable {P : Program} {w : World} {K : PySem.W.Frag} {mg : Str → Option Value} {base : Heap} {CG : Addr}
theorem sc_flip : FnScope ["numbers", "node", "near", "number", "other"] ["numbers", "node", "near"] (defScope s_flip_in_place) := ⟨rfl, rfl, rfl, by decide +kernel, rfl, by decide +kernel, by decide +kernel⟩
theorem ok_flip {f : Addr} {fd : FuncData} (F : Fun K "flip_in_place" "flip_in_place" s_flip_in_place f fd) : FnOk P w K mg base CX0 1 f fd ["numbers", "node", "near"] spFlip := by
  refine F.ok sc_flip (fun vs H Q E h => ?_) (fun cdv A outer s H vs Q E hr h => ?_)
  · obtain ⟨p, r, x, row, v, rfl, _⟩ := h
    rfl
  · obtain ⟨p, r, x, row, v, rfl, hp, hrow, hne, h0, h1, hin, k⟩ := h
    refine ⟨_, pss_cons (ps_set (i := 3) sc_flip.nd rfl (Or.inl rfl) (pe_ix ix_list (pv 0) (pv 1) (fun _ _ => rfl)))
      (pss_cons (ps_for PassesOwn.never rfl (pi_list (pv 2)) (pg_name (i := 4) sc_flip.nd rfl (Or.inl rfl)) (pss_one (ps_augS (pv 0) (pv 4) pget_list (pv 3) ip_add set_list)))
      (pss_one (ps_asg (pe_un un_neg (pv 3)) (pg_sub (pv 0) (pv 1) set_list)))), ?_⟩
    refine ⟨_, rfl, _, rfl, p, _, _, _, rfl, rfl, SqL.of hp, atInt h0 h1, ?_⟩
    refine ⟨_, rfl, r, rfl, ⟨_, SqL.of hrow⟩, for_list (K := K) (a := r) (xs := row.map V.int) (fun i σ H' => ∃ o4 : Option V, σ = [some (.ref p), some (.int v), some (.ref r), some (.int (x.getD v.toNat 0)), o4] ∧
      H' p = some (.lst (((row.take i).foldl (fun y o => y.set o.toNat (y.getD o.toNat 0 + x.getD v.toNat 0)) x).map V.int)) ∧ ∀ b, b ≠ p → H' b = H b)
      ⟨none, rfl, hp, fun b _ => rfl⟩ (fun i σ H' _ h => ?_) (fun i y σ H' hi h => ?_) (fun σ H' h => ?_)⟩
    · obtain ⟨o4, _, _, h3⟩ := h
      exact SqL.of ((h3 r hne.symm).trans hrow)
    · obtain ⟨o4, rfl, e1, e2⟩ := h
      obtain ⟨o, ho, rfl⟩ := intsAt hi
      have hb := hin o (List.mem_of_getElem? ho)
      have hl := foldSetLen (x.getD v.toNat 0) (row.take i) x
      have hb' : o < ((row.take i).foldl (fun y o => y.set o.toNat (y.getD o.toNat 0 + x.getD v.toNat 0)) x).length := by
        rw [hl]
        exact hb.2
      refine ⟨_, rfl, _, rfl, p, _, o, _, rfl, rfl, SqL.of e1, atInt hb.1 hb', _, rfl, _, _, rfl, rfl, p, _, o, _, rfl, rfl, e1, ixInt hb.1 hb', ?_⟩
      refine ⟨_, rfl, ?_, fun b hb2 => by rw [upd_ne hb2]; exact e2 b hb2⟩
      rw [upd_same, takeMore ho, List.foldl_append, mapSet]
      rfl
    · obtain ⟨o4, rfl, e1, e2⟩ := h
      rw [List.length_map, List.take_length] at e1
      have hl := foldSetLen (x.getD v.toNat 0) row x
      refine ⟨_, rfl, _, rfl, _, rfl, _, rfl, p, _, v, _, rfl, rfl, e1, ixInt h0 (by rw [hl]; exact h1), ?_⟩
      refine k _ ?_ fun b hb => by rw [upd_ne hb]; exact e2 b hb
      rw [upd_same, mapSet]
      rfl
end

/-! ## check_position, negatives, has_ended, and the plays -/
def negL (x : List Int) : List Nat := (List.range x.length).filter fun i => decide (x.getD i 0 < 0)
def endedL (x : List Int) : Bool := (negL x).isEmpty
def posD (x : List Int) : PyData := .list (x.map .int)
theorem dpInts {K : PySem.W.Frag} {H : Hp} : ∀ x : List Int, DpAll K H (x.map V.int) (x.map PyData.int)
  | [] => .nil
  | _ :: x => .cons (.int _) (dpInts x)
theorem ilPos {n : Nat} {x : List Int} (h : x.length = n) : isIL n (posD x) = true := by
  show (decide ((x.map PyData.int).length = n) && (x.map PyData.int).all isI) = true
  rw [List.length_map, decide_eq_true h, List.all_map]
  simp [isI]
def spCheckPos (K : PySem.W.Frag) (CP : Addr) : Sp := fun vs H Q E => ∃ v d, ∃ n : Nat, vs = [.int n, v] ∧ Rd K H v d ∧ lenD d ≤ 100000 ∧ (∀ H', Same H H' → isIL n d = true → Q .non H') ∧
  ∀ H' dd, Same H H' → H dd = none → H' dd = some (.xd [(("value" : Str), v)]) → isIL n d = false → E (.ref CP) (some dd) H'
def spNeg (K : PySem.W.Frag) (CG : Addr) : Sp := fun vs H Q _ => ∃ g N p x, vs = [.ref g, .ref p] ∧ GAt CG H g N ∧ SqL K H p (x.map V.int) ∧ x.length = N.length ∧ N.length ≤ 1000 ∧
  ∀ D H', H D = none → Same H H' → H' D = some (.lst ((negL x).map fun i : Nat => V.int (i : Int))) → Q (.ref D) H'
def spEnded (K : PySem.W.Frag) (CG : Addr) : Sp := fun vs H Q _ => ∃ g N p x, vs = [.ref g, .ref p] ∧ GAt CG H g N ∧ SqL K H p (x.map V.int) ∧ x.length = N.length ∧ N.length ≤ 1000 ∧
  ∀ H', Same H H' → Q (.bl (endedL x)) H'
section
variable {P : Program} {w : World} {K : PySem.W.Frag} {mg : Str → Option Value} {base : Heap} {CG CP CL : Addr}
theorem sc_check_position : FnScope ["size", "position"] ["size", "position"] (defScope s_check_position) := ⟨rfl, rfl, rfl, by decide +kernel, rfl, by decide +kernel, by decide +kernel⟩
theorem ok_check_position {f : Addr} {fd : FuncData} (F : Fun K "check_position" "check_position" s_check_position f fd) (T : Ex P w K mg base "InvalidPosition" CP)
    (tyC : PySem.W.typeIn K (.ref CP) = some (.type "type")) (G : At P w K mg base CX0 2 "is_integer_list" ["thing", "length"] (spIntList K)) : FnOk P w K mg base (L2.CX P w) 3 f fd ["size", "position"] (spCheckPos K CP) := by
  obtain ⟨g, gd, G, mG, kG, bG⟩ := G
  refine F.okX sc_check_position (fun vs H Q E h => ?_) (fun cdv A outer s H vs Q E hr h => ?_)
  · obtain ⟨v, d, n, rfl, _⟩ := h
    rfl
  · obtain ⟨v, d, n, rfl, hd, hl, k1, k2⟩ := h
    refine ⟨_, pss_one (ps_if (pt_not (pt_val (pe_call G hr (by rfl) mG kG bG .nil pass0 (pa_cons (pv 1) (pa_cons (pv 0) pa_nil)))))
      (pss_one (ps_raiseX rfl T tyC hr (takes_of rfl rfl rfl rfl) rfl (pa_cons (pv 1) pa_nil))) pss_nil), ?_⟩
    refine ⟨_, rfl, _, rfl, v, d, n, rfl, hd, hl, fun H1 s1 => ⟨_, rfl, ?_⟩⟩
    by_cases e : isIL n d = true
    · rw [e]
      exact iteF (k1 H1 s1 e)
    · have e : isIL n d = false := by simpa using e
      rw [e]
      exact iteT ⟨_, rfl, v, rfl, fun dd H' nd s2 hx => k2 H' dd (s1.trans s2) (s1.free nd) hx e⟩
theorem filtMore (p : Nat → Bool) (i : Nat) : (List.range (i + 1)).filter p = (List.range i).filter p ++ (if p i = true then [i] else []) := by
  rw [List.range_succ, List.filter_append]
  congr 1
  by_cases h : p i = true
  · rw [if_pos h]
    simp [h]
  · rw [if_neg h]
    simp [h]
/-! ### the plays; E: InvalidPosition with the position, then InvalidPlay with the nodes -/
def spChecked (K : PySem.W.Frag) (CG CP CL : Addr) (out : List Int × List Int → Hp → Addr → Hp → Prop) : Sp := fun vs H Q E => ∃ g N qv dp nv d, vs = [.ref g, qv, nv] ∧ GAt CG H g N ∧ WF N ∧ N.length ≤ 1000 ∧
  Rd K H qv dp ∧ lenD dp ≤ 100000 ∧ Rd K H nv d ∧ lenD d ≤ 100000 ∧
  (isIL N.length dp = false → ∀ H' dd, Same H H' → H dd = none → H' dd = some (.xd [(("value" : Str), qv)]) → E (.ref CP) (some dd) H') ∧
  ∀ x, dp = posD x → x.length = N.length →
    (∀ H' dd, playD N d x = none → Same H H' → H dd = none → H' dd = some (.xd [(("value" : Str), nv)]) → E (.ref CL) (some dd) H') ∧
    ∀ r, playD N d x = some r → ∀ a H', Same H H' → out r H a H' → Q (.ref a) H'
theorem intsOfAll : ∀ ds : List PyData, (∀ d ∈ ds, isI d = true) → ds = (ds.map (fun d => match d with | .int i => i | _ => 0)).map PyData.int
  | [], _ => rfl
  | d :: ds, z => by
    have q := z d List.mem_cons_self
    rw [List.map_cons, List.map_cons, ← intsOfAll ds (fun e he => z e (List.mem_cons_of_mem _ he))]
    cases d <;> first | rfl | cases q
theorem ilD {n : Nat} {d : PyData} (h : isIL n d = true) : ∃ x, d = posD x ∧ x.length = n := by
  cases d with
  | list ds =>
    have h : (decide (ds.length = n) && ds.all isI) = true := h
    rw [Bool.and_eq_true, decide_eq_true_eq] at h
    refine ⟨ds.map (fun d => match d with | .int i => i | _ => 0), ?_, by rw [List.length_map]; exact h.1⟩
    exact congrArg PyData.list (intsOfAll ds (List.all_eq_true.mp h.2))
  | none => cases h
  | bool _ => cases h
  | int _ => cases h
  | str _ => cases h
  | tuple _ => cases h
  | dict _ => cases h
theorem rdPos {H : Hp} {v : V} {x : List Int} (h : Rd K H v (posD x)) : ∃ p, v = .ref p ∧ SqL K H p (x.map V.int) := by
  obtain ⟨a, xs, rfl, h1, h2⟩ := rdList h
  refine ⟨a, rfl, ?_⟩
  have e : xs = x.map V.int := by
    clear h h1
    induction x generalizing xs with
    | nil => cases h2; rfl
    | cons i x ih =>
      cases h2 with
      | cons h3 h4 =>
        cases h3
        rw [ih _ h4]
        rfl
  rw [← e]
  exact h1
theorem followLen {N : List (List Int)} : ∀ (vs : List Nat) (x t x' t' : List Int), followL N vs x t = some (x', t') → x'.length = x.length ∧ t'.length = t.length
  | [], x, t, x', t', h => by
    have h : some (x, t) = some (x', t') := h
    cases h
    exact ⟨rfl, rfl⟩
  | v :: vs, x, t, x', t', h => by
    have h : (if x.getD v 0 ≥ 0 then none else followL N vs (flipL (N.getD v []) x v) (t.set v (t.getD v 0 - x.getD v 0))) = some (x', t') := h
    by_cases c : x.getD v 0 ≥ 0
    · rw [if_pos c] at h
      cases h
    · rw [if_neg c] at h
      obtain ⟨h1, h2⟩ := followLen vs _ _ _ _ h
      rw [flipLen] at h1
      rw [List.length_set] at h2
      exact ⟨h1, h2⟩
theorem playLen {N : List (List Int)} {d : PyData} {x x' t' : List Int} (h : playD N d x = some (x', t')) : x'.length = x.length ∧ t'.length = N.length := by
  cases d with
  | list ds =>
    have h : (if ds.all (isNode N.length) = true then followL N (ds.map nodeOf) x (List.replicate N.length 0) else none) = some (x', t') := h
    by_cases c : ds.all (isNode N.length) = true
    · rw [if_pos c] at h
      obtain ⟨h1, h2⟩ := followLen _ _ _ _ _ h
      exact ⟨h1, by rw [h2, List.length_replicate]⟩
    · rw [if_neg c] at h
      cases h
  | none => cases h
  | bool _ => cases h
  | int _ => cases h
  | str _ => cases h
  | tuple _ => cases h
  | dict _ => cases h
def outTup (r : List Int × List Int) (H : Hp) (a : Addr) (H' : Hp) : Prop := ∃ b c, H b = none ∧ H c = none ∧ H' a = some (.tup [.ref b, .ref c]) ∧ H' b = some (.lst (r.1.map V.int)) ∧ H' c = some (.lst (r.2.map V.int))
def outFst (r : List Int × List Int) (H : Hp) (a : Addr) (H' : Hp) : Prop := H a = none ∧ H' a = some (.lst (r.1.map V.int))
def outSnd (r : List Int × List Int) (H : Hp) (a : Addr) (H' : Hp) : Prop := H a = none ∧ H' a = some (.lst (r.2.map V.int))
section
variable {P : Program} {w : World} {K : PySem.W.Frag} {mg : Str → Option Value} {base : Heap} {CG CP CL : Addr}
/-- is_play, is_complete: a truth value of the play; E: InvalidPosition -/
def spTold (K : PySem.W.Frag) (CG CP : Addr) (b : Option (List Int × List Int) → Bool) : Sp := fun vs H Q E => ∃ g N qv dp nv d, vs = [.ref g, qv, nv] ∧ GAt CG H g N ∧ WF N ∧ N.length ≤ 1000 ∧
  Rd K H qv dp ∧ lenD dp ≤ 100000 ∧ Rd K H nv d ∧ lenD d ≤ 100000 ∧
  (isIL N.length dp = false → ∀ H' dd, Same H H' → H dd = none → H' dd = some (.xd [(("value" : Str), qv)]) → E (.ref CP) (some dd) H') ∧
  ∀ x, dp = posD x → x.length = N.length → ∀ H', Same H H' → Q (.bl (b (playD N d x))) H'
def complB : Option (List Int × List Int) → Bool
  | none => false
  | some r => endedL r.1
end
end

end K66

set_option Elab.async false
set_option linter.all false
set_option maxRecDepth 100000
set_option maxHeartbeats 8000000
namespace K66
open PySem PySem.Spec PyProof.Rows L2 FNX
/-! ## Edges -/
def pairD (e : Int × Int) : PyData := .tuple [.int e.1, .int e.2]
theorem eqvPair (e f : Int × Int) : PyData.eqv (pairD e) (pairD f) = decide (e = f) := by
  have h : PyData.eqv (pairD e) (pairD f) = ((e.1 == f.1) && ((e.2 == f.2) && true)) := by
    unfold pairD
    first
      | rfl
      | simp [PyData.eqv, PyData.eqvAll]
  rw [h, Bool.and_true]
  by_cases c : e = f
  · subst c
    simp
  · rw [decide_eq_false c]
    by_cases c1 : e.1 = f.1
    · by_cases c2 : e.2 = f.2
      · exact absurd (Prod.ext c1 c2) c
      · have z : (e.2 == f.2) = false := by simpa using c2
        rw [z, Bool.and_false]
    · have z : (e.1 == f.1) = false := by simpa using c1
      rw [z, Bool.false_and]
/-- edges at addresses -/
def TupsAt (H : Hp) (ts : List Addr) (es : List (Int × Int)) : Prop := ts.length = es.length ∧ ∀ (k : Nat) (t : Addr), ts[k]? = some t → ∃ e, es[k]? = some e ∧ H t = some (.tup [.int e.1, .int e.2])
def EdgesAt (H : Hp) (p : Addr) (es : List (Int × Int)) : Prop := ∃ ts, H p = some (.lst (ts.map V.ref)) ∧ TupsAt H ts es
theorem TupsAt.same {H H' : Hp} {ts : List Addr} {es : List (Int × Int)} (h : TupsAt H ts es) (s : Same H H') : TupsAt H' ts es := ⟨h.1, fun k t e => by
  obtain ⟨x, h1, h2⟩ := h.2 k t e
  exact ⟨x, h1, s _ _ h2⟩⟩
theorem EdgesAt.same {H H' : Hp} {p : Addr} {es : List (Int × Int)} (h : EdgesAt H p es) (s : Same H H') : EdgesAt H' p es := by
  obtain ⟨ts, h1, h2⟩ := h
  exact ⟨ts, s _ _ h1, h2.same s⟩
structure GoodE (n : Nat) (es : List (Int × Int)) : Prop where
  node : ∀ e ∈ es, 0 ≤ e.1 ∧ e.1 < e.2 ∧ e.2 < n
  once : es.Nodup
  few : es.length ≤ 40
theorem dpTups {K : PySem.W.Frag} {H : Hp} : ∀ {ts : List Addr} {es : List (Int × Int)}, TupsAt H ts es → DpAll K H (ts.map V.ref) (es.map pairD)
  | [], [], _ => .nil
  | [], _ :: _, h => by
    have z := h.1
    simp at z
  | _ :: _, [], h => by
    have z := h.1
    simp at z
  | t :: ts, e :: es, h => by
    obtain ⟨x, h1, h2⟩ := h.2 0 t rfl
    obtain rfl : e = x := Option.some.inj h1
    refine .cons (.tup (SqT.of h2) (.cons (.int _) (.cons (.int _) .nil))) (dpTups ⟨by simpa using h.1, fun k t' e' => ?_⟩)
    obtain ⟨x, q1, q2⟩ := h.2 (k + 1) t' e'
    exact ⟨x, q1, q2⟩
theorem layPairs : ∀ es : List (Int × Int), PyData.canLayAll0 (es.map pairD) = true
  | [] => rfl
  | _ :: es => by
    show (true && PyData.canLayAll0 (es.map pairD)) = true
    rw [layPairs es]
    rfl
theorem depPairs : ∀ es : List (Int × Int), PyData.depthAll (es.map pairD) ≤ 1
  | [] => by decide
  | _ :: es => by
    show max 1 (PyData.depthAll (es.map pairD)) ≤ 1
    have z := depPairs es
    omega
theorem shapedPairs (es : List (Int × Int)) : SeqAt.shaped (.list (es.map pairD)) = true := by
  unfold SeqAt.shaped
  have e1 : PyData.canLay0 (.list (es.map pairD)) = true := layPairs es
  have e2 : PyData.depth (.list (es.map pairD)) ≤ 64 := by
    show PyData.depthAll (es.map pairD) + 1 ≤ 64
    have z := depPairs es
    omega
  rw [e1, decide_eq_true e2]
  rfl
theorem anyPair {f : Int × Int} : ∀ {es : List (Int × Int)}, f ∉ es → ((es.map pairD).any fun z => PyData.eqv z (pairD f)) = false
  | [], _ => rfl
  | e :: es, h => by
    rw [List.map_cons, List.any_cons, eqvPair, decide_eq_false (fun z => h (by rw [z]; exact List.mem_cons_self)), anyPair (fun z => h (List.mem_cons_of_mem _ z))]
    rfl
theorem anyPairT {f : Int × Int} : ∀ {es : List (Int × Int)}, f ∈ es → ((es.map pairD).any fun z => PyData.eqv z (pairD f)) = true
  | [], h => by simp at h
  | e :: es, h => by
    rw [List.map_cons, List.any_cons, eqvPair]
    by_cases c : e = f
    · rw [decide_eq_true c, Bool.true_or]
    · have h' : f ∈ es := by
        rcases List.mem_cons.mp h with z | z
        · exact absurd z.symm c
        · exact z
      rw [anyPairT h', Bool.or_true]

/-! ## graphs.py -/
def spIsEdge : Sp := fun vs H Q _ => ∃ (n : Nat) (t : Addr) (e : Int × Int), vs = [.int n, .ref t] ∧ H t = some (.tup [.int e.1, .int e.2]) ∧ 0 ≤ e.1 ∧ e.1 < e.2 ∧ e.2 < n ∧ Q (.bl true) H
def spEdges (K : PySem.W.Frag) : Sp := fun vs H Q _ => ∃ (n : Nat) (p : Addr) (es : List (Int × Int)), vs = [.int n, .ref p] ∧ EdgesAt H p es ∧ GoodE n es ∧
  ∀ q H' es', H q = none → Same H H' → EdgesAt H' q es' → es'.Perm es → Q (.ref q) H'
theorem kitT (K : PySem.W.Frag) : PySem.W.kitOne K (.type "tuple") (.type "tuple") = some true := kit_ty (by decide +kernel)
theorem kitLT (K : PySem.W.Frag) : PySem.W.kitAny K (.type "list") [.type "list", .type "tuple"] = some true :=
  kitAny_cons (b := true) (kit_ty (by decide +kernel)) (fun h => by cases h) (fun _ => rfl)
theorem boot_min1 : bootBuiltins "min" = some (.builtin "min") := by decide +kernel
theorem boot_max1 : bootBuiltins "max" = some (.builtin "max") := by decide +kernel
theorem boot_sorted1 : bootBuiltins "sorted" = some (.builtin "sorted") := by decide +kernel
theorem nodeIn {n : Nat} {i : Int} (h0 : 0 ≤ i) (h1 : i < n) : isNode n (.int i) = true := by
  show (decide ((0 : Int) ≤ i) && decide (i ≤ (n : Int) - 1)) = true
  rw [decide_eq_true h0, decide_eq_true (by omega)]
  rfl
section
variable {P : Program} {w : World} {K : PySem.W.Frag} {mg : Str → Option Value} {base : Heap} {CG : Addr}
theorem sc_is_edge : FnScope ["size", "thing", "one", "two"] ["size", "thing"] (defScope s_is_edge) := ⟨rfl, rfl, rfl, by decide +kernel, rfl, by decide +kernel, by decide +kernel⟩
theorem ok_is_edge {f : Addr} {fd : FuncData} (F : Fun K "is_edge" "is_edge" s_is_edge f fd) (M : Nms mg) (G : At P w K mg base CX0 3 "is_node" ["size", "thing"] (spIsNode K)) :
    FnOk P w K mg base CX0 4 f fd ["size", "thing"] spIsEdge := by
  obtain ⟨c, cd, G, mG, kG, bG⟩ := G
  refine F.ok sc_is_edge (fun vs H Q E h => ?_) (fun cdv A outer s H vs Q E hr h => ?_)
  · obtain ⟨n, t, e, rfl, _⟩ := h
    rfl
  · obtain ⟨n, t, e, rfl, ht, h0, h1, h2, k⟩ := h
    refine ⟨_, pss_cons (ps_if (PW.pt (pw_or (pt_not (pt_val (pe_callB call_isi (by rfl) M.isi boot_isi (pa_cons (pv 1) (pa_cons (pe_bltn (v := V.ty "tuple") rfl M.tuple (by decide +kernel) rfl) pa_nil)))))
        (pw_or1 (pt_cmpR op_ne (pe_callB call_len_seq (by rfl) M.len boot_len1 (pa_cons (pv 1) pa_nil)) pe_int (nomark _))))) (pss_one (ps_ret pe_bl)) pss_nil)
      (pss_cons (ps_asg (pv 1) (pg_tup rfl (pgs_cons (pg_name (i := 2) sc_is_edge.nd rfl (Or.inl rfl)) (pgs_cons (pg_name (i := 3) sc_is_edge.nd rfl (Or.inl rfl)) pgs_nil))))
      (pss_one (ps_ret (pe_and (pe_call G hr (by rfl) mG kG bG .nil pass0 (pa_cons (pv 0) (pa_cons (pv 2) pa_nil))) (pe_and (pe_call G hr (by rfl) mG kG bG .nil pass0 (pa_cons (pv 0) (pa_cons (pv 3) pa_nil)))
        (pe_one (pe_cmpR op_ne (pv 2) (pv 3) (nomark _)))))))), ?_⟩
    refine ⟨_, rfl, .ref t, _, _, _, _, rfl, .ty _, .base (.tup ht), kitT K, _, rfl, iteF ?_⟩
    refine ⟨_, rfl, t, _, rfl, .inr (SqT.of ht), rfl, _, rfl, iteF ?_⟩
    refine ⟨_, rfl, t, _, rfl, SqT.of ht, rfl, _, _, rfl, _, _, rfl, rfl, ?_⟩
    refine ⟨_, rfl, _, rfl, .int e.1, .int e.1, n, rfl, .dat (.int _), _, rfl, ?_⟩
    rw [nodeIn h0 (by omega)]
    refine iteT ⟨_, rfl, _, rfl, .int e.2, .int e.2, n, rfl, .dat (.int _), _, rfl, ?_⟩
    rw [nodeIn (by omega) h2]
    refine iteT ⟨_, rfl, _, rfl, rfl, ?_⟩
    have ne : decide (V.int e.1 = V.int e.2) = false := decide_eq_false (fun z => by
      injection z with z
      omega)
    rw [ne]
    exact k
theorem sc_checked_edges : FnScope ["size", "edges", "found", "entry", "edge"] ["size", "edges"] (defScope s_checked_edges) := ⟨rfl, rfl, rfl, by decide +kernel, rfl, by decide +kernel, by decide +kernel⟩
theorem refAt {α : Type} {f : α → V} {xs : List α} {i : Nat} {y : V} (h : (xs.map f)[i]? = some y) : ∃ t, xs[i]? = some t ∧ y = f t := by
  rw [List.getElem?_map] at h
  cases e : xs[i]? with
  | none =>
    rw [e] at h
    cases h
  | some t =>
    rw [e] at h
    exact ⟨t, rfl, (Option.some.inj h).symm⟩
theorem notTaken {α : Type} {es : List α} (h : es.Nodup) {i : Nat} {e : α} (hi : es[i]? = some e) : e ∉ es.take i := by
  intro hm
  obtain ⟨j, hj, he⟩ := List.mem_iff_getElem.mp hm
  rw [List.length_take] at hj
  rw [List.getElem_take] at he
  obtain ⟨h1, h2⟩ := List.getElem?_eq_some_iff.mp hi
  have z := (List.pairwise_iff_getElem.mp h) j i (by omega) h1 (by omega)
  exact z (by rw [he, h2])
def keyE (H : Hp) : V → Int × Int
  | .ref t => match H t with
    | some (.tup [.int a, .int b]) => (a, b)
    | _ => (0, 0)
  | _ => (0, 0)
def refOf : V → Addr
  | .ref t => t
  | _ => 0
theorem keyE_at {H : Hp} {t : Addr} {e : Int × Int} (h : H t = some (.tup [.int e.1, .int e.2])) : keyE H (.ref t) = e := by
  unfold keyE
  simp only [h]
theorem permTups {H : Hp} {ts : List Addr} {es : List (Int × Int)} (h : TupsAt H ts es) {ys : List V} (hp : ys.Perm (ts.map V.ref)) : ∃ ts' es', ys = ts'.map V.ref ∧ TupsAt H ts' es' ∧ es'.Perm es := by
  have hm : ∀ y ∈ ys, ∃ t, y = V.ref t ∧ ∃ e : Int × Int, H t = some (.tup [.int e.1, .int e.2]) := fun y hy => by
    obtain ⟨t, ht, rfl⟩ := List.mem_map.mp (hp.mem_iff.mp hy)
    obtain ⟨k, hk, he⟩ := List.mem_iff_getElem.mp ht
    obtain ⟨e, h1, h2⟩ := h.2 k t (by rw [List.getElem?_eq_getElem hk, he])
    exact ⟨t, rfl, e, h2⟩
  have e1 : (ts.map V.ref).map (keyE H) = es := by
    apply List.ext_getElem
    · rw [List.length_map, List.length_map, h.1]
    · intro k h1 h2
      rw [List.length_map, List.length_map] at h1
      obtain ⟨e, q1, q2⟩ := h.2 k ts[k] (List.getElem?_eq_getElem h1)
      rw [List.getElem_map, List.getElem_map, keyE_at q2]
      rw [List.getElem?_eq_getElem h2] at q1
      exact (Option.some.inj q1).symm
  refine ⟨ys.map refOf, ys.map (keyE H), ?_, ⟨by rw [List.length_map, List.length_map], fun k t hk => ?_⟩, ?_⟩
  · rw [List.map_map]
    have z : ∀ y ∈ ys, (V.ref ∘ refOf) y = y := fun y hy => by
      obtain ⟨t, rfl, _⟩ := hm y hy
      rfl
    exact (List.map_congr_left z).symm ▸ (List.map_id ys).symm
  · rw [List.getElem?_map] at hk
    cases hy : ys[k]? with
    | none =>
      rw [hy] at hk
      cases hk
    | some y =>
      rw [hy] at hk
      obtain ⟨t', rfl, e, he⟩ := hm y (List.mem_of_getElem? hy)
      obtain rfl : t' = t := Option.some.inj hk
      refine ⟨e, ?_, he⟩
      rw [List.getElem?_map, hy]
      exact congrArg some (keyE_at he)
  · have z := hp.map (keyE H)
    rwa [e1] at z
theorem ok_checked_edges {f : Addr} {fd : FuncData} (F : Fun K "checked_edges" "checked_edges" s_checked_edges f fd) (M : Nms mg) (G : At P w K mg base CX0 4 "is_edge" ["size", "thing"] spIsEdge) :
    FnOk P w K mg base CX0 5 f fd ["size", "edges"] (spEdges K) := by
  obtain ⟨c, cd, G, mG, kG, bG⟩ := G
  refine F.ok sc_checked_edges (fun vs H Q E h => ?_) (fun cdv A outer s H vs Q E hr h => ?_)
  · obtain ⟨n, p, es, rfl, _⟩ := h
    rfl
  · obtain ⟨n, p, es, rfl, hp, ge, k⟩ := h
    have hu65 : A.units + 3 + 65 < cLine := by
      have := hr.un
      show A.units + 3 + 65 < _
      have z : A.units + 3 + 16 * 4 + 200 < cLine := this
      omega
    refine ⟨_, pss_cons (ps_if (pt_not (pt_val (pe_callB call_isiT (by rfl) M.isi boot_isi (pa_cons (pv 1) (pa_cons (pe_tup (pa_cons (pe_bltn (v := V.ty "list") rfl M.list (by decide +kernel) rfl)
          (pa_cons (pe_bltn (v := V.ty "tuple") rfl M.tuple (by decide +kernel) rfl) pa_nil))) pa_nil))))) (pss_one ps_never) pss_nil)
      (pss_cons (ps_set (i := 2) sc_checked_edges.nd rfl (Or.inl rfl) (pe_lst pa_nil))
      (pss_cons (ps_for PassesOwn.never rfl (pi_list (pv 1)) (pg_name (i := 3) sc_checked_edges.nd rfl (Or.inl rfl))
        (pss_cons (ps_if (pt_not (pt_val (pe_call G hr (by rfl) mG kG bG .nil pass0 (pa_cons (pv 0) (pa_cons (pv 3) pa_nil))))) (pss_one ps_never) pss_nil)
        (pss_cons (ps_set (i := 4) sc_checked_edges.nd rfl (Or.inl rfl) (pe_tup (pa_cons (pe_callB (cr_minT rfl hr.units) (by rfl) M.min boot_min1 (pa_cons (pv 3) pa_nil))
          (pa_cons (pe_callB (cr_maxT rfl hr.units) (by rfl) M.max boot_max1 (pa_cons (pv 3) pa_nil)) pa_nil))))
        (pss_cons (ps_if (pt_cmpR (op_inD hu65) (pv 4) (pv 2) (by rfl)) (pss_one ps_never) pss_nil)
        (pss_one (ps_expr (pe_bm PySem.F.plainAttrs_list PySem.F.slot_list_append PySem.F.type_list_append mt_append (pv 2) (pa_cons (pv 4) pa_nil))))))))
      (pss_one (ps_ret (pe_callB cr_sortedP (by rfl) M.sorted boot_sorted1 (pa_cons (pv 2) pa_nil)))))), ?_⟩
    obtain ⟨ts, h1, h2⟩ := id hp
    refine ⟨_, rfl, by show 2 ≤ sizeLine; decide, fun tp ntp => ⟨.ref p, tp, _, _, _, _, rfl, upd_same, .cons (.ty _) (.cons (.ty _) .nil), .base (.lst (same_upd ntp _ _ h1)), kitLT K, _, rfl, iteF ?_⟩⟩
    refine ⟨by show 0 ≤ sizeLine; decide, fun fo nfo => ?_⟩
    have s0 := (same_upd ntp (o := .tup [V.ty "list", V.ty "tuple"])).trans (same_upd nfo (o := .lst []))
    have f0 : H fo = none := Same.free (same_upd ntp) nfo
    refine ⟨_, rfl, p, rfl, ⟨_, SqL.of (s0 _ _ h1)⟩, for_list (K := K) (a := p) (xs := ts.map V.ref) (fun i σ H' => ∃ (o3 o4 : Option V) (fs : List Addr), σ = [some (.int n), some (.ref p), some (.ref fo), o3, o4] ∧
      Same H H' ∧ H' fo = some (.lst (fs.map V.ref)) ∧ TupsAt H' fs (es.take i)) ⟨none, none, [], rfl, s0, upd_same, ⟨rfl, fun k t e => by simp at e⟩⟩ (fun i σ H' _ h => ?_) (fun i y σ H' hi h => ?_) (fun σ H' h => ?_)⟩
    · obtain ⟨_, _, _, _, sm, _, _⟩ := h
      exact SqL.of (sm _ _ h1)
    · obtain ⟨o3, o4, fs, rfl, sm, e1, e2⟩ := h
      obtain ⟨t, ht, rfl⟩ := refAt hi
      obtain ⟨e, he, hte⟩ := h2.2 i t ht
      have good := ge.node e (List.mem_of_getElem? he)
      have hte' := sm _ _ hte
      refine ⟨_, rfl, _, rfl, n, t, e, rfl, hte', good.1, good.2.1, good.2.2, _, rfl, iteF ?_⟩
      refine ⟨_, rfl, t, e.1, e.2, rfl, hte', _, rfl, t, e.1, e.2, rfl, hte', by show 2 ≤ sizeLine; decide, fun ed ned => ?_⟩
      have em : min e.1 e.2 = e.1 := by omega
      have eM : max e.1 e.2 = e.2 := by omega
      rw [em, eM]
      have e1' : (upd H' ed (.tup [V.int e.1, V.int e.2])) fo = some (.lst (fs.map V.ref)) := same_upd ned _ _ e1
      have e2' := e2.same (same_upd ned (o := .tup [V.int e.1, V.int e.2]))
      refine ⟨_, rfl, _, rfl, pairD e, (es.take i).map pairD, .tup (SqT.of upd_same) (.cons (.int _) (.cons (.int _) .nil)), .lst (SqL.of e1') (dpTups e2'), rfl, shapedPairs _, _, rfl, ?_⟩
      rw [anyPair (notTaken ge.once he)]
      refine iteF ⟨_, rfl, .inl ⟨rfl, _, SqL.of e1'⟩, _, rfl, fo, _, _, rfl, rfl, e1', ?_, ?_⟩
      · rw [List.length_map, e2.1, List.length_take, sizeLine_eq]
        have := ge.few
        omega
      refine ⟨_, _, fs ++ [ed], rfl, fun b o z => ?_, by rw [upd_same, List.map_append]; rfl, ?_, fun k t' hk => ?_⟩
      · rw [upd_ne (ne_of_none z f0)]
        exact same_upd ned _ _ (sm _ _ z)
      · rw [takeMore he, List.length_append, List.length_append, e2.1]
        rfl
      · have efo : ed ≠ fo := (ne_of_none e1 ned).symm
        by_cases hlt : k < fs.length
        · rw [List.getElem?_append_left hlt] at hk
          obtain ⟨x, q1, q2⟩ := e2.2 k t' hk
          refine ⟨x, ?_, ?_⟩
          · rw [takeMore he, List.getElem?_append_left (by rw [← e2.1]; exact hlt)]
            exact q1
          · rw [upd_ne (ne_of q2 e1 (by intro z; cases z)), upd_ne (ne_of_none q2 ned)]
            exact q2
        · rw [List.getElem?_append_right (by omega)] at hk
          have hk' : k = fs.length := by
            have z := (List.getElem?_eq_some_iff.mp hk).1
            simp at z
            omega
          subst hk'
          rw [Nat.sub_self] at hk
          obtain rfl : ed = t' := Option.some.inj hk
          refine ⟨e, ?_, ?_⟩
          · rw [takeMore he, e2.1, List.getElem?_append_right (Nat.le_refl _), Nat.sub_self]
            rfl
          · rw [upd_ne efo, upd_same]
    · obtain ⟨o3, o4, fs, rfl, sm, e1, e2⟩ := h
      rw [List.length_map, h2.1, List.take_length] at e2
      refine ⟨_, rfl, fo, _, rfl, SqL.of e1, fun y hy => ?_, fun ys q hperm nq => ?_⟩
      · obtain ⟨t, ht, rfl⟩ := List.mem_map.mp hy
        obtain ⟨k', hk', he'⟩ := List.mem_iff_getElem.mp ht
        obtain ⟨x, q1, q2⟩ := e2.2 k' t (by rw [List.getElem?_eq_getElem hk', he'])
        exact ⟨t, x.1, x.2, rfl, q2⟩
      · obtain ⟨ts', es', rfl, r1, r2⟩ := permTups e2 hperm
        exact k q _ es' (sm.free nq) (sm.trans (same_upd nq)) ⟨ts', upd_same, r1.same (same_upd nq)⟩ r2
end

/-! ## neighbour_lists -/
def rowOf (es : List (Int × Int)) (i : Int) : List Int := es.flatMap fun e => (if e.1 = i then [e.2] else []) ++ (if e.2 = i then [e.1] else [])
structure IsNear (n : Nat) (es : List (Int × Int)) (N : List (List Int)) : Prop where
  len : N.length = n
  row : ∀ i, i < n → (N.getD i []).Perm (rowOf es i)
  asc : ∀ i, i < n → (N.getD i []).Pairwise (· ≤ ·)
theorem rowOf_perm {es fs : List (Int × Int)} (h : es.Perm fs) (i : Int) : (rowOf es i).Perm (rowOf fs i) := List.Perm.flatMap_right _ h
theorem IsNear.perm {n : Nat} {es fs : List (Int × Int)} {N : List (List Int)} (h : IsNear n es N) (p : es.Perm fs) : IsNear n fs N := ⟨h.len, fun i hi => (h.row i hi).trans (rowOf_perm p i), h.asc⟩
theorem IsNear.uniq {n : Nat} {es : List (Int × Int)} {N M : List (List Int)} (h : IsNear n es N) (g : IsNear n es M) : N = M := by
  apply List.ext_getElem
  · rw [h.len, g.len]
  · intro i h1 h2
    have hi : i < n := by
      rw [← h.len]
      exact h1
    have a1 := h.row i hi
    have a2 := g.row i hi
    have b1 := h.asc i hi
    have b2 := g.asc i hi
    rw [List.getD_eq_getElem?_getD, List.getElem?_eq_getElem h1] at a1 b1
    rw [List.getD_eq_getElem?_getD, List.getElem?_eq_getElem h2] at a2 b2
    exact List.Perm.eq_of_pairwise (fun a b _ _ => Int.le_antisymm) b1 b2 (a1.trans a2.symm)
theorem rowOf_mem {n : Nat} {es : List (Int × Int)} (g : ∀ e ∈ es, 0 ≤ e.1 ∧ e.1 < e.2 ∧ e.2 < n) {i o : Int} (h : o ∈ rowOf es i) : 0 ≤ o ∧ o < n := by
  obtain ⟨e, he, h⟩ := List.mem_flatMap.mp h
  have z := g e he
  rcases List.mem_append.mp h with h | h
  · by_cases c : e.1 = i
    · rw [if_pos c, List.mem_singleton] at h
      omega
    · rw [if_neg c] at h
      simp at h
  · by_cases c : e.2 = i
    · rw [if_pos c, List.mem_singleton] at h
      omega
    · rw [if_neg c] at h
      simp at h
theorem IsNear.wf {n : Nat} {es : List (Int × Int)} {N : List (List Int)} (h : IsNear n es N) (g : ∀ e ∈ es, 0 ≤ e.1 ∧ e.1 < e.2 ∧ e.2 < n) : WF N := by
  intro i hi o ho
  rw [h.len] at hi ⊢
  exact rowOf_mem g ((h.row i hi).mem_iff.mp ho)
theorem rowOf_len : ∀ (es : List (Int × Int)) (i : Int), (rowOf es i).length ≤ 2 * es.length
  | [], _ => by simp [rowOf]
  | e :: es, i => by
    have z := rowOf_len es i
    have q : rowOf (e :: es) i = ((if e.1 = i then [e.2] else []) ++ (if e.2 = i then [e.1] else [])) ++ rowOf es i := rfl
    have q1 : (if e.1 = i then [e.2] else []).length ≤ 1 := by split <;> simp
    have q2 : (if e.2 = i then [e.1] else []).length ≤ 1 := by split <;> simp
    rw [q, List.length_append, List.length_append, List.length_cons]
    omega
theorem rowOf_more {es : List (Int × Int)} {k : Nat} {e : Int × Int} (h : es[k]? = some e) (i : Int) :
    rowOf (es.take (k + 1)) i = rowOf (es.take k) i ++ ((if e.1 = i then [e.2] else []) ++ (if e.2 = i then [e.1] else [])) := by
  rw [takeMore h]
  unfold rowOf
  rw [List.flatMap_append, List.flatMap_cons, List.flatMap_nil, List.append_nil]
/-- rows that grow -/
def Grow (H : Hp) (rs : List Addr) (n : Nat) (es : List (Int × Int)) : Prop := rs.length = n ∧ rs.Nodup ∧ ∀ (k : Nat) (r : Addr), rs[k]? = some r → H r = some (.lst ((rowOf es (k : Int)).map V.int))
theorem nodupAt {rs : List Addr} (h : rs.Nodup) {i j : Nat} {r s : Addr} (hi : rs[i]? = some r) (hj : rs[j]? = some s) (ne : i ≠ j) : r ≠ s := by
  intro e
  subst e
  obtain ⟨a1, a2⟩ := List.getElem?_eq_some_iff.mp hi
  obtain ⟨b1, b2⟩ := List.getElem?_eq_some_iff.mp hj
  exact ne ((List.getElem_inj h).mp (a2.trans b2.symm))
/-- lists that are new behind H: they stay whatever becomes of H's own objects -/
def NewN (H H' : Hp) (q : Addr) (N : List (List Int)) : Prop := ∀ H'', (∀ b o, H b = none → H' b = some o → H'' b = some o) → NAt H'' q N
theorem NewN.at {H H' : Hp} {q : Addr} {N : List (List Int)} (h : NewN H H' q N) : NAt H' q N := h H' fun _ _ _ e => e
def spNear (K : PySem.W.Frag) : Sp := fun vs H Q _ => ∃ (n : Nat) (p : Addr) (es : List (Int × Int)), vs = [.int n, .ref p] ∧ EdgesAt H p es ∧ GoodE n es ∧ n ≤ 1000 ∧
  ∀ q H' N, H q = none → Same H H' → NewN H H' q N → IsNear n es N → Q (.ref q) H'
theorem Grow.at {H : Hp} {rs : List Addr} {n : Nat} {es : List (Int × Int)} (h : Grow H rs n es) {i : Int} (h0 : 0 ≤ i) (hi : i < n) : ∃ r, rs[i.toNat]? = some r ∧ atI (rs.map V.ref) i = some (.ref r) ∧ H r = some (.lst ((rowOf es i).map V.int)) := by
  have hl : i.toNat < rs.length := by
    rw [h.1]
    omega
  refine ⟨rs[i.toNat], List.getElem?_eq_getElem hl, ?_, ?_⟩
  · have z : (rs.map V.ref)[i.toNat]? = some (V.ref rs[i.toNat]) := by
      rw [List.getElem?_map, List.getElem?_eq_getElem hl]
      rfl
    have q := atI_nat z
    rwa [show ((i.toNat : Nat) : Int) = i by omega] at q
  · have z := h.2.2 i.toNat _ (List.getElem?_eq_getElem hl)
    rwa [show ((i.toNat : Nat) : Int) = i by omega] at z
/-- one edge more -/
theorem Grow.more {H : Hp} {rs : List Addr} {n : Nat} {es : List (Int × Int)} {k : Nat} {e : Int × Int} {r1 r2 : Addr} (h : Grow H rs n (es.take k)) (he : es[k]? = some e) (g : 0 ≤ e.1 ∧ e.1 < e.2 ∧ e.2 < n)
    (h1 : rs[e.1.toNat]? = some r1) (h2 : rs[e.2.toNat]? = some r2) :
    Grow (upd (upd H r1 (.lst ((rowOf (es.take k) e.1).map V.int ++ [V.int e.2]))) r2 (.lst ((rowOf (es.take k) e.2).map V.int ++ [V.int e.1]))) rs n (es.take (k + 1)) := by
  refine ⟨h.1, h.2.1, fun j r hj => ?_⟩
  have hne : e.2.toNat ≠ e.1.toNat := by omega
  rw [rowOf_more he]
  by_cases c2 : j = e.2.toNat
  · subst c2
    obtain rfl : r2 = r := Option.some.inj (h2.symm.trans hj)
    have z1 : ((e.2.toNat : Nat) : Int) = e.2 := by omega
    rw [upd_same, z1, if_neg (by omega), if_pos rfl, List.nil_append, List.map_append]
    rfl
  · rw [upd_ne (nodupAt h.2.1 hj h2 c2)]
    by_cases c1 : j = e.1.toNat
    · subst c1
      obtain rfl : r1 = r := Option.some.inj (h1.symm.trans hj)
      have z1 : ((e.1.toNat : Nat) : Int) = e.1 := by omega
      rw [upd_same, z1, if_pos rfl, if_neg (by omega), List.append_nil, List.map_append]
      rfl
    · rw [upd_ne (nodupAt h.2.1 hj h1 c1), h.2.2 j r hj, if_neg (by omega), if_neg (by omega), List.append_nil, List.append_nil]
theorem getDl {α : Type} {L : List α} {x d : α} {k : Nat} (h : k < L.length) : (L ++ [x]).getD k d = L.getD k d := by
  rw [List.getD_eq_getElem?_getD, List.getD_eq_getElem?_getD, List.getElem?_append_left h]
theorem getDe {α : Type} {L : List α} {x d : α} {k : Nat} (h : k = L.length) : (L ++ [x]).getD k d = x := by
  subst h
  rw [List.getD_eq_getElem?_getD, List.getElem?_append_right (Nat.le_refl _), Nat.sub_self]
  rfl
section
variable {P : Program} {w : World} {K : PySem.W.Frag} {mg : Str → Option Value} {base : Heap} {CG : Addr}
theorem sc_near : FnScope ["size", "edges", "near", "one", "two", "node", "nodes"] ["size", "edges"] (defScope s_neighbour_lists) := ⟨rfl, rfl, rfl, by decide +kernel, rfl, by decide +kernel, by decide +kernel⟩
theorem ok_near {f : Addr} {fd : FuncData} (F : Fun K "neighbour_lists" "neighbour_lists" s_neighbour_lists f fd) (M : Nms mg) : FnOk P w K mg base CX0 1 f fd ["size", "edges"] (spNear K) := by
  refine F.ok sc_near (fun vs H Q E h => ?_) (fun cdv A outer s H vs Q E hr h => ?_)
  · obtain ⟨n, p, es, rfl, _⟩ := h
    rfl
  · obtain ⟨n, p, es, rfl, hp, ge, hn, k⟩ := h
    refine ⟨_, pss_cons (ps_setLc (i := 2) (own := [("node", 5)]) (g := gName 5) (tt := tYes) (by rfl) sc_near.nd rfl rfl (sw_true rfl rfl rfl (by decide +kernel))
      (pi_range1 rfl M.range (pa_cons (pv 0) pa_nil))
      (blkOk_by (own := [("node", 5)]) (N := ["size", "edges", "near", "one", "two", "node", "nodes"]) (sc := defScope s_neighbour_lists) (by decide +kernel))
      (fun _ _ _ _ _ => pg_name (i := 5) sc_near.nd rfl (Or.inl rfl)) (fun _ _ _ _ _ => pts_nil)
      (fun _ _ _ _ _ => pe_lst pa_nil))
      (pss_cons (ps_for PassesOwn.never rfl (pi_list (pv 1)) (pg_tup rfl (pgs_cons (pg_name (i := 3) sc_near.nd rfl (Or.inl rfl)) (pgs_cons (pg_name (i := 4) sc_near.nd rfl (Or.inl rfl)) pgs_nil)))
        (pss_cons (ps_expr (pe_bm PySem.F.plainAttrs_list PySem.F.slot_list_append PySem.F.type_list_append mt_append (pe_ix ix_list (pv 2) (pv 3) (fun _ _ => rfl)) (pa_cons (pv 4) pa_nil)))
        (pss_one (ps_expr (pe_bm PySem.F.plainAttrs_list PySem.F.slot_list_append PySem.F.type_list_append mt_append (pe_ix ix_list (pv 2) (pv 4) (fun _ _ => rfl)) (pa_cons (pv 3) pa_nil))))))
      (pss_one (ps_ret (pe_lc (own := [("nodes", 6)]) (g := gName 6) (tt := tYes) rfl sc_near.nd (pi_list (pv 2))
      (blkOk_by (own := [("nodes", 6)]) (N := ["size", "edges", "near", "one", "two", "node", "nodes"]) (sc := defScope s_neighbour_lists) (by decide +kernel))
      (fun _ _ _ _ _ => pg_name (i := 6) sc_near.nd rfl (Or.inl rfl)) (fun _ _ _ _ _ => pts_nil)
      (fun _ _ _ _ _ => pe_callB (show CallR _ (.builtin "sorted") (rSortedI K) from cr_sortedI) (by rfl) M.sorted boot_sorted1 (pa_cons (pv 6) pa_nil)))))), ?_⟩
    obtain ⟨ts, h1, h2⟩ := id hp
    refine ⟨_, rfl, n, rfl, by omega, by omega, fun D hD => ?_⟩
    refine lc_range (lo := 0) (fun i H' => Same H H' ∧ ∃ rs : List Addr, H' D = some (.lst (rs.map V.ref)) ∧ D ∉ rs ∧ (∀ r ∈ rs, H r = none) ∧ Grow H' rs i []) ⟨same_upd hD, [], upd_same, by simp, by simp, rfl, by simp, fun k r e => by simp at e⟩ (fun i H' hi h => ?_) (fun H' h => ?_)
    · obtain ⟨sm, rs, e1, e2, e3, e4⟩ := h
      refine ⟨rfl, ?_⟩
      refine ⟨by show 0 ≤ sizeLine; decide, fun p np => ?_⟩
      have hpD : D ≠ p := ne_of_none e1 np
      refine ⟨_, by rw [upd_ne hpD]; exact e1, by rw [List.length_map, e4.1, sizeLine_eq]; omega, fun b o z => ?_, rs ++ [p], by rw [upd_same, List.map_append]; rfl, ?_, fun r hr' => ?_, ?_⟩
      · rw [upd_ne (ne_of_none z hD), upd_ne (ne_of_none (sm _ _ z) np)]
        exact sm _ _ z
      · intro z
        rcases List.mem_append.mp z with z | z
        · exact e2 z
        · exact hpD (List.mem_singleton.mp z)
      · rcases List.mem_append.mp hr' with z | z
        · exact e3 r z
        · rw [List.mem_singleton.mp z]
          exact sm.free np
      · refine ⟨by rw [List.length_append, e4.1]; rfl, ?_, fun k r hk => ?_⟩
        · refine List.nodup_append.mpr ⟨e4.2.1, by simp, fun a ha b hb => ?_⟩
          rw [List.mem_singleton] at hb
          subst hb
          obtain ⟨k, hk, he⟩ := List.mem_iff_getElem.mp ha
          intro q
          subst q
          have z := e4.2.2 k _ (by rw [List.getElem?_eq_getElem hk, he])
          rw [np] at z
          cases z
        · by_cases hlt : k < rs.length
          · rw [List.getElem?_append_left hlt] at hk
            have z := e4.2.2 k r hk
            have nD : r ≠ D := fun q => e2 (q ▸ List.mem_of_getElem? hk)
            rw [upd_ne nD, upd_ne (ne_of_none z np)]
            exact z
          · rw [List.getElem?_append_right (by omega)] at hk
            have hk' : k = rs.length := by
              have := (List.getElem?_eq_some_iff.mp hk).1
              simp at this
              omega
            subst hk'
            rw [Nat.sub_self] at hk
            obtain rfl : p = r := Option.some.inj hk
            rw [upd_ne hpD.symm, upd_same]
            rfl
    · obtain ⟨sm, rs, e1, e2, e3, e4⟩ := h
      refine ⟨_, rfl, p, rfl, ⟨_, SqL.of (sm _ _ h1)⟩, for_list (K := K) (a := p) (xs := ts.map V.ref) (fun i σ H' => ∃ (o3 o4 : Option V), σ = [some (.int n), some (.ref p), some (.ref D), o3, o4, none, none] ∧
        Same H H' ∧ H' D = some (.lst (rs.map V.ref)) ∧ Grow H' rs n (es.take i)) ⟨none, none, rfl, sm, e1, e4⟩ (fun i σ H' _ h => ?_) (fun i y σ H' hi h => ?_) (fun σ H' h => ?_)⟩
      · obtain ⟨_, _, _, sm, _, _⟩ := h
        exact SqL.of (sm _ _ h1)
      · obtain ⟨o3, o4, rfl, sm, e1, e4⟩ := h
        obtain ⟨t, ht, rfl⟩ := refAt hi
        obtain ⟨e, he, hte⟩ := h2.2 i t ht
        have good := ge.node e (List.mem_of_getElem? he)
        have few := ge.few
        have hte' := sm _ _ hte
        have lt := (List.getElem?_eq_some_iff.mp he).1
        obtain ⟨r1, q1, a1, b1⟩ := e4.at (i := e.1) good.1 (by omega)
        obtain ⟨r2, q2, a2, b2⟩ := e4.at (i := e.2) (by omega) good.2.2
        have n12 : r2 ≠ r1 := nodupAt e4.2.1 q2 q1 (by omega)
        have l1 := rowOf_len (es.take i) e.1
        have l2 := rowOf_len (es.take i) e.2
        rw [List.length_take] at l1 l2
        have fr1 := e3 r1 (List.mem_of_getElem? q1)
        have fr2 := e3 r2 (List.mem_of_getElem? q2)
        have nD1 : D ≠ r1 := fun q => e2 (q ▸ List.mem_of_getElem? q1)
        have nD2 : D ≠ r2 := fun q => e2 (q ▸ List.mem_of_getElem? q2)
        refine ⟨t, _, rfl, SqT.of hte', rfl, _, _, rfl, _, _, rfl, rfl, ?_⟩
        refine ⟨_, rfl, _, rfl, D, _, e.1, _, rfl, rfl, SqL.of e1, a1, .inl ⟨rfl, _, SqL.of b1⟩, _, rfl, r1, _, _, rfl, rfl, b1, by rw [List.length_map, sizeLine_eq]; omega, ?_⟩
        have e1' : (upd H' r1 (.lst ((rowOf (es.take i) e.1).map V.int ++ [V.int e.2]))) D = some (.lst (rs.map V.ref)) := by
          rw [upd_ne nD1]
          exact e1
        have b2' : (upd H' r1 (.lst ((rowOf (es.take i) e.1).map V.int ++ [V.int e.2]))) r2 = some (.lst ((rowOf (es.take i) e.2).map V.int)) := by
          rw [upd_ne n12]
          exact b2
        refine ⟨_, rfl, _, rfl, D, _, e.2, _, rfl, rfl, SqL.of e1', a2, .inl ⟨rfl, _, SqL.of b2'⟩, _, rfl, r2, _, _, rfl, rfl, b2', by rw [List.length_map, sizeLine_eq]; omega, ?_⟩
        refine ⟨_, _, rfl, fun b o z => ?_, ?_, e4.more he good q1 q2⟩
        · rw [upd_ne (ne_of_none z fr2), upd_ne (ne_of_none z fr1)]
          exact sm _ _ z
        · rw [upd_ne nD2]
          exact e1'
      · obtain ⟨o3, o4, rfl, sm, e1, e4⟩ := h
        rw [List.length_map, h2.1, List.take_length] at e4
        refine ⟨_, rfl, D, rfl, ⟨_, SqL.of e1⟩, fun q nq => ?_⟩
        have qD : D ≠ q := ne_of_none e1 nq
        have fqH : H q = none := sm.free nq
        refine lc_list (K := K) (a := D) (xs := rs.map V.ref) (fun i H'' => Same H' H'' ∧ ∃ (ps : List Addr) (L : List (List Int)), H'' q = some (.lst (ps.map V.ref)) ∧ ps.length = i ∧ L.length = i ∧
          (∀ (k : Nat) (r : Addr), ps[k]? = some r → r ≠ q ∧ H r = none ∧ H'' r = some (.lst ((L.getD k []).map V.int))) ∧ (∀ k : Nat, k < i → (L.getD k []).Perm (rowOf es k)) ∧ ∀ k : Nat, k < i → (L.getD k []).Pairwise (· ≤ ·))
          ⟨same_upd nq, [], [], upd_same, rfl, rfl, fun k r e => by simp at e, fun k e => by omega, fun k e => by omega⟩ (fun i H'' _ h => SqL.of (h.1 _ _ e1)) (fun i x H'' hi h => ?_) (fun H'' h => ?_)
        · obtain ⟨sm2, ps, L, f1, f2, f3, f4, f5, f6⟩ := h
          obtain ⟨r, hr', rfl⟩ := refAt hi
          have hb := e4.2.2 i r hr'
          have hlt : i < n := by
            rw [← e4.1]
            exact (List.getElem?_eq_some_iff.mp hr').1
          refine ⟨rfl, ?_⟩
          refine ⟨_, rfl, r, _, rfl, SqL.of (sm2 _ _ hb), fun ns' t hperm hasc nt => ?_⟩
          have tq : q ≠ t := ne_of_none f1 nt
          refine ⟨_, by rw [upd_ne tq]; exact f1, by rw [List.length_map, f2, sizeLine_eq]; omega, fun b o z => ?_, ps ++ [t], L ++ [ns'], by rw [upd_same, List.map_append]; rfl, by rw [List.length_append, f2]; rfl, by rw [List.length_append, f3]; rfl, fun k r' hk => ?_, fun k hk => ?_, fun k hk => ?_⟩
          · rw [upd_ne (ne_of_none z nq), upd_ne (ne_of_none (sm2 _ _ z) nt)]
            exact sm2 _ _ z
          · by_cases hl : k < ps.length
            · rw [List.getElem?_append_left hl] at hk
              obtain ⟨z1, z0, z2⟩ := f4 k r' hk
              rw [upd_ne z1, upd_ne (ne_of_none z2 nt), getDl (by omega)]
              exact ⟨z1, z0, z2⟩
            · rw [List.getElem?_append_right (by omega)] at hk
              have hk' : k = ps.length := by
                have := (List.getElem?_eq_some_iff.mp hk).1
                simp at this
                omega
              subst hk'
              rw [Nat.sub_self] at hk
              obtain rfl : t = r' := Option.some.inj hk
              rw [upd_ne tq.symm, upd_same, getDe (by omega)]
              exact ⟨tq.symm, sm.free (sm2.free nt), rfl⟩
          · by_cases c : k < i
            · rw [getDl (by omega)]
              exact f5 k c
            · rw [getDe (by omega), show k = i by omega]
              exact hperm
          · by_cases c : k < i
            · rw [getDl (by omega)]
              exact f6 k c
            · rw [getDe (by omega)]
              exact hasc
        · obtain ⟨sm2, ps, L, f1, f2, f3, f4, f5, f6⟩ := h
          rw [List.length_map, e4.1] at f2 f3 f5 f6
          exact k q H'' L fqH (sm.trans sm2) (fun H3 h3 => ⟨ps, h3 q _ fqH f1, by omega, fun k r e => h3 r _ (f4 k r e).2.1 (f4 k r e).2.2⟩) ⟨f3, f5, f6⟩
end

/-! ## Graph.__init__ -/
theorem eqPair (e f : Int × Int) : PyData.eqv (pairD e) (pairD f) = decide (e = f) := eqvPair e f
theorem GoodE.perm {n : Nat} {es fs : List (Int × Int)} (h : GoodE n es) (p : fs.Perm es) : GoodE n fs := ⟨fun e he => h.node e (p.mem_iff.mp he), (p.nodup_iff).mpr h.once, by rw [p.length_eq]; exact h.few⟩
def spGInit (CG : Addr) : Sp := fun vs H Q _ => ∃ (x dx p : Addr) (n : Nat) (es : List (Int × Int)), vs = [.ref x, .int n, .ref p] ∧ H x = some (.ins CG dx []) ∧ EdgesAt H p es ∧ GoodE n es ∧ 1 ≤ n ∧ n ≤ 16 ∧
  ∀ H' N j nr, (∀ b o, b ≠ x → H b = some o → H' b = some o) → H' x = some (.ins CG dx (gflds (N.length : Int) j nr)) → NewN H H' nr N → IsNear n es N → (∃ es', EdgesAt H' j es' ∧ es'.Perm es) → Q .non H'
section
variable {P : Program} {w : World} {K : PySem.W.Frag} {mg : Str → Option Value} {base : Heap} {CG : Addr}
theorem sc_ginit : FnScope ["self", "size", "edges", "joined"] ["self", "size", "edges"] (defScope s_Graph_init) := ⟨rfl, rfl, rfl, by decide +kernel, rfl, by decide +kernel, by decide +kernel⟩
theorem ok_ginit {f : Addr} {fd : FuncData} {dvs : List V} {kws : List (Str × V)} (F : FunD K "__init__" "Graph.__init__" (defArgs s_Graph_init) (defBody s_Graph_init) (defScope s_Graph_init) dvs kws f fd) (T : GTxt K mg CG) (M : Nms mg)
    {t16 t40 : Tok} (m16 : mg "MOST_NODES" = some (.int 16 t16)) (m40 : mg "MOST_EDGES" = some (.int 40 t40))
    (GW : At P w K mg base CX0 2 "is_integer_within" ["thing", "low", "high"] (spWithin K)) (GE : At P w K mg base CX0 5 "checked_edges" ["size", "edges"] (spEdges K)) (GN : At P w K mg base CX0 1 "neighbour_lists" ["size", "edges"] (spNear K)) :
    FnOk P w K mg base CX0 6 f fd ["self", "size", "edges"] (spGInit CG) := by
  obtain ⟨gw, gwd, GW, mW, kW, bW⟩ := GW
  obtain ⟨ge, ged, GE, mE, kE, bE⟩ := GE
  obtain ⟨gn, gnd, GN, mN, kN, bN⟩ := GN
  refine F.ok sc_ginit (fun vs H Q E h => ?_) (fun cdv A outer s H vs Q E hr h => ?_)
  · obtain ⟨x, dx, p, n, es, rfl, _⟩ := h
    rfl
  · obtain ⟨x, dx, p, n, es, rfl, hx, hp, good, n1, n16, k⟩ := h
    have hr2 : Room 2 _ := hr.mono (by decide)
    have hr1 : Room 1 _ := hr.mono (by decide)
    refine ⟨_, pss_cons (ps_if (pt_not (pt_val (pe_call GW hr2 (by rfl) mW kW bW .nil pass0 (pa_cons (pv 1) (pa_cons pe_int (pa_cons (pe_glob (v := .int 16) (by rfl) m16 ⟨_, rfl⟩) pa_nil)))))) (pss_one ps_never) pss_nil)
      (pss_cons (ps_set (i := 3) sc_ginit.nd rfl (Or.inl rfl) (pe_call GE hr (by rfl) mE kE bE .nil pass0 (pa_cons (pv 1) (pa_cons (pv 2) pa_nil))))
      (pss_cons (ps_if (pt_cmpR op_gt (pe_callB call_len_seq (by rfl) M.len boot_len1 (pa_cons (pv 3) pa_nil)) (pe_glob (v := .int 40) (by rfl) m40 ⟨_, rfl⟩) (nomark _)) (pss_one ps_never) pss_nil)
      (pss_cons (ps_fld (pv 0) (pv 1) rfl)
      (pss_cons (ps_fld (pv 0) (pv 3) rfl)
      (pss_one (ps_fld (pv 0) (pe_call GN hr1 (by rfl) mN kN bN .nil pass0 (pa_cons (pv 1) (pa_cons (pv 3) pa_nil))) rfl)))))), ?_⟩
    refine ⟨_, rfl, .int n, .int n, 1, 16, rfl, .dat (.int n), _, rfl, ?_⟩
    have hw : within 1 16 (.int (n : Int)) = true := by
      show (decide ((1 : Int) ≤ n) && decide ((n : Int) ≤ 16)) = true
      rw [decide_eq_true (by omega), decide_eq_true (by omega)]
      rfl
    rw [hw]
    refine iteF ?_
    refine ⟨_, rfl, _, rfl, n, p, es, rfl, hp, good, fun q H1 es1 nq s1 hq pe => ?_⟩
    have good1 := good.perm pe
    obtain ⟨ts, h1, h2⟩ := id hq
    refine ⟨_, rfl, q, _, rfl, .inl (SqL.of h1), _, _, rfl, rfl, _, rfl, ?_⟩
    have few := good1.few
    rw [decide_eq_false (by rw [List.length_map, h2.1]; omega)]
    refine iteF ?_
    have nxq : q ≠ x := (ne_of_none hx nq).symm
    refine ⟨_, rfl, _, rfl, x, CG, dx, _, rfl, s1 _ _ hx, T.cl, T.n1, by decide, ?_⟩
    refine ⟨_, rfl, _, rfl, x, CG, dx, _, rfl, upd_same, T.cl, T.n2, (by show 1 < 1000; decide), ?_⟩
    have hx1 := s1 _ _ hx
    have tx : ∀ (k : Nat) (t : Addr), ts[k]? = some t → t ≠ x := fun k t e => by
      obtain ⟨z, _, q2⟩ := h2.2 k t e
      exact ne_of q2 hx1 (by intro y; cases y)
    refine ⟨_, rfl, _, rfl, n, q, es1, rfl, ?_, good1, by omega, fun r H2 N nr s2 hN near => ?_⟩
    · exact ⟨ts, by rw [upd_ne nxq, upd_ne nxq]; exact h1, h2.1, fun k t e => by
        obtain ⟨z, q1, q2⟩ := h2.2 k t e
        exact ⟨z, q1, by rw [upd_ne (tx k t e), upd_ne (tx k t e)]; exact q2⟩⟩
    have hx2 := s2 _ _ (upd_same (H := upd H1 x (.ins CG dx (putF "node_count" (.int n) []))) (a := x) (o := .ins CG dx (putF "joined" (.ref q) (putF "node_count" (.int n) []))))
    refine ⟨_, rfl, x, CG, dx, _, rfl, hx2, T.cl, T.n3, (by show 2 < 1000; decide), ?_⟩
    have up : ∀ b o, b ≠ x → H1 b = some o → H2 b = some o := fun b o hb e => s2 _ _ (by rw [upd_ne hb, upd_ne hb]; exact e)
    refine k _ N q r (fun b o hb e => ?_) ?_ ?_ (near.perm pe) ⟨es1, ⟨ts, ?_, h2.1, fun k t e => ?_⟩, pe⟩
    · rw [upd_ne hb]
      exact up b o hb (s1 _ _ e)
    · rw [upd_same, near.len]
      rfl
    · intro H3 h3
      refine hN H3 fun b o hb e => ?_
      have bx : b ≠ x := fun z => by
        rw [z, upd_same] at hb
        cases hb
      rw [upd_ne bx, upd_ne bx] at hb
      exact h3 b o (s1.free hb) (by rw [upd_ne bx]; exact e)
    · rw [upd_ne nxq]
      exact up q _ nxq h1
    · obtain ⟨z, q1, q2⟩ := h2.2 k t e
      exact ⟨z, q1, by rw [upd_ne (tx k t e)]; exact up t _ (tx k t e) q2⟩
end

end K66

set_option Elab.async false
set_option linter.all false
set_option maxRecDepth 100000
set_option maxHeartbeats 8000000
namespace K66
open PySem PySem.Spec PyProof.Rows L2 FNX
/-! ## A new object -/
theorem newAt {H : Hp} {a : Addr} (o : HO) (h : H a = none) : ∃ H1, upd H a o = H1 ∧ Same H H1 ∧ H1 a = some o := ⟨_, rfl, same_upd h, upd_same⟩
theorem eqvSame {d : PyData} (h : SeqAt.shaped d = true) : PyData.eqv d d = true := SeqAt.eqv_refl d (SeqAt.canLay_of_shaped h)
theorem boot_repr1 : bootBuiltins "repr" = some (.builtin "repr") := by decide +kernel
theorem layInts : ∀ es : List Int, PyData.canLayAll0 (es.map PyData.int) = true
  | [] => rfl
  | _ :: es => by
    show (true && PyData.canLayAll0 (es.map PyData.int)) = true
    rw [layInts es]
    rfl
theorem depInts : ∀ es : List Int, PyData.depthAll (es.map PyData.int) ≤ 0
  | [] => by decide
  | _ :: es => by
    show max 0 (PyData.depthAll (es.map PyData.int)) ≤ 0
    have z := depInts es
    omega
theorem shapedInts (es : List Int) : SeqAt.shaped (.list (es.map PyData.int)) = true := by
  unfold SeqAt.shaped
  have e1 : PyData.canLay0 (.list (es.map PyData.int)) = true := layInts es
  have e2 : PyData.depth (.list (es.map PyData.int)) ≤ 64 := by
    show PyData.depthAll (es.map PyData.int) + 1 ≤ 64
    have z := depInts es
    omega
  rw [e1, decide_eq_true e2]
  rfl

/-! ## The law's own edges -/
/-- all but the object at p stays -/
def SameX (p : Addr) (H H' : Hp) : Prop := ∀ b o, b ≠ p → H b = some o → H' b = some o
theorem SameX.trans {p : Addr} {H H1 H2 : Hp} (a : SameX p H H1) (b : SameX p H1 H2) : SameX p H H2 := fun c o n e => b c o n (a c o n e)
theorem Same.x {p : Addr} {H H1 : Hp} (a : Same H H1) : SameX p H H1 := fun c o _ e => a c o e
theorem sameX_take {p : Addr} {H H' : Hp} (h : ∀ b, b ≠ p → H' b = H b) : SameX p H H' := fun b o n e => (h b n).trans e
theorem SameX.free {p q : Addr} {H H' : Hp} (a : SameX p H H') (h : PoolAt H p) (n : H' q = none) (hp : PoolAt H' p) : H q = none := by
  cases e : H q with
  | none => rfl
  | some o =>
    have z : q ≠ p := fun c => by
      obtain ⟨_, _, z, _⟩ := hp
      rw [← c, n] at z
      cases z
    rw [a q o z e] at n
    cases n
theorem PoolAt.same {p : Addr} {H H' : Hp} (h : PoolAt H p) (s : Same H H') : PoolAt H' p := by
  obtain ⟨c, d, z, r⟩ := h
  exact ⟨c, d, s _ _ z, r⟩
theorem PoolAt.ne {p q : Addr} {H : Hp} (h : PoolAt H p) (n : H q = none) : p ≠ q := by
  obtain ⟨_, _, z, _⟩ := h
  exact ne_of_none z n
theorem TupsAt.sameX {p : Addr} {H H' : Hp} {ts : List Addr} {es : List (Int × Int)} (h : TupsAt H ts es) (hp : PoolAt H p) (s : SameX p H H') : TupsAt H' ts es := ⟨h.1, fun k t e => by
  obtain ⟨x, h1, h2⟩ := h.2 k t e
  obtain ⟨_, _, z, _⟩ := hp
  exact ⟨x, h1, s _ _ (ne_of h2 z (by intro y; cases y)) h2⟩⟩
theorem TupsAt.push {H : Hp} {ts : List Addr} {es : List (Int × Int)} {t : Addr} {e : Int × Int} (h : TupsAt H ts es) (ht : H t = some (.tup [.int e.1, .int e.2])) : TupsAt H (ts ++ [t]) (es ++ [e]) := by
  refine ⟨by rw [List.length_append, List.length_append, h.1]; rfl, fun k t' hk => ?_⟩
  by_cases hl : k < ts.length
  · rw [List.getElem?_append_left hl] at hk
    obtain ⟨x, q1, q2⟩ := h.2 k t' hk
    exact ⟨x, by rw [List.getElem?_append_left (by rw [← h.1]; exact hl)]; exact q1, q2⟩
  · rw [List.getElem?_append_right (by omega)] at hk
    have hk' : k = ts.length := by
      have z := (List.getElem?_eq_some_iff.mp hk).1
      simp at z
      omega
    subst hk'
    rw [Nat.sub_self] at hk
    obtain rfl : t = t' := Option.some.inj hk
    refine ⟨e, ?_, ht⟩
    rw [h.1, List.getElem?_append_right (Nat.le_refl _), Nat.sub_self]
    rfl
def spJoins : Sp := fun vs H Q _ => ∃ (p : Addr) (n m : Nat), vs = [.ref p, .int n, .int m] ∧ PoolAt H p ∧ 1 ≤ n ∧ n ≤ 1000 ∧ m ≤ 40 ∧
  ∀ q H' es, H q = none → SameX p H H' → PoolAt H' p → EdgesAt H' q es → GoodE n es → Q (.ref q) H'
section
variable {P : Program} {w : World} {K : PySem.W.Frag} {mg : Str → Option Value} {base : Heap} {CG : Addr}
end

/-! ## The law's own plays -/
/-- lists that stand still whatever becomes of the object at p -/
def NX (p : Addr) (H : Hp) (q : Addr) (N : List (List Int)) : Prop := ∀ H', SameX p H H' → NAt H' q N
theorem SameX.refl {p : Addr} {H : Hp} : SameX p H H := fun _ _ _ e => e
theorem NX.at {p q : Addr} {H : Hp} {N : List (List Int)} (h : NX p H q N) : NAt H q N := h H SameX.refl
theorem NX.same {p q : Addr} {H H' : Hp} {N : List (List Int)} (h : NX p H q N) (s : SameX p H H') : NX p H' q N := fun H2 s2 => h H2 (s.trans s2)
def spTurned (K : PySem.W.Frag) : Sp := fun vs H Q _ => ∃ (nr h : Addr) (N : List (List Int)) (x : List Int) (v : Int), vs = [.ref nr, .ref h, .int v] ∧ NAt H nr N ∧ WF N ∧ H h = some (.lst (x.map V.int)) ∧ x.length = N.length ∧ 0 ≤ v ∧ v < N.length ∧
  ∀ q H', H q = none → Same H H' → H' q = some (.lst ((flipL (N.getD v.toNat []) x v.toNat).map V.int)) → Q (.ref q) H'
def spSmall : Sp := fun vs H Q _ => ∃ (p : Addr) (n wd : Nat), vs = [.ref p, .int n, .int wd] ∧ PoolAt H p ∧ n ≤ 1000 ∧ wd ≤ 1000 ∧
  ∀ q H' (x : List Int), H q = none → SameX p H H' → PoolAt H' p → H' q = some (.lst (x.map V.int)) → x.length = n → (∀ o ∈ x, -(wd : Int) ≤ o ∧ o ≤ wd) → Q (.ref q) H'
def spLed (K : PySem.W.Frag) : Sp := fun vs H Q _ => ∃ (p nr h : Addr) (N : List (List Int)) (x : List Int), vs = [.ref p, .ref nr, .ref h] ∧ PoolAt H p ∧ NX p H nr N ∧ WF N ∧ H h = some (.lst (x.map V.int)) ∧ h ≠ p ∧ x.length = N.length ∧ N.length ≤ 1000 ∧
  ∀ q H' (vs : List Int), H q = none → SameX p H H' → PoolAt H' p → H' q = some (.lst (vs.map V.int)) → vs.length ≤ 12 → (∀ v ∈ vs, 0 ≤ v ∧ v < N.length) → Q (.ref q) H'
section
variable {P : Program} {w : World} {K : PySem.W.Frag} {mg : Str → Option Value} {base : Heap} {CG : Addr}
end

/-! ## Data whose text is short -/
structure Shw (k L : Nat) (d : PyData) : Prop where
  ok : d.showable = true
  deep : d.depth ≤ k
  len : d.shown.length ≤ L
theorem Shw.mono {k L k' L' : Nat} {d : PyData} (h : Shw k L d) (hk : k ≤ k') (hl : L ≤ L') : Shw k' L' d := ⟨h.ok, Nat.le_trans h.deep hk, Nat.le_trans h.len hl⟩
theorem textFrom_le : ∀ (ts : List Str) (k : Nat) (acc : Str), (textFrom k acc ts).length ≤ acc.length + piled ts
  | [], _, acc => by show acc.length ≤ acc.length + _; omega
  | t :: r, k, acc => by
    have h1 := textFrom_le r (k + 1) (acc ++ (if k > 0 then ", " else "" : String) ++ t)
    have e : (acc ++ (if k > 0 then ", " else "" : String) ++ t).length = acc.length + (if k > 0 then 2 else 0) + t.length := by
      rw [strLen_append, strLen_append]
      split <;> rfl
    have e2 : (if k > 0 then 2 else 0 : Nat) ≤ 2 := by split <;> decide
    rw [e] at h1
    rw [piled_cons]
    show (textFrom (k + 1) (acc ++ (if k > 0 then ", " else "" : String) ++ t) r).length ≤ _
    omega
theorem listText_le (ts : List Str) : (listText ts).length ≤ piled ts + 2 := by
  have h := textFrom_le ts 0 "["
  have e : (listText ts).length = (textFrom 0 "[" ts).length + 1 := by
    unfold listText
    rw [strLen_append]
    rfl
  have e1 : ((("[" : String) : Str)).length = 1 := rfl
  omega
theorem tupleText_le (ts : List Str) : (tupleText ts).length ≤ piled ts + 3 := by
  have e : (tupleText ts).length = 1 + (Str.join ", " ts).length + (((if ts.length == 1 then ",)" else ")" : String) : Str)).length := by
    unfold tupleText
    rw [strLen_append, strLen_append]
    rfl
  have e3 : (((if ts.length == 1 then ",)" else ")" : String) : Str)).length ≤ 2 := by split <;> decide
  cases ts with
  | nil =>
    have z : (Str.join ", " ([] : List Str)).length = 0 := rfl
    omega
  | cons t r =>
    have z := join_length_add (t :: r) (by simp)
    omega
theorem shownAll_map : ∀ es : List PyData, PyData.shownAll es = es.map PyData.shown
  | [] => by simp only [PyData.shownAll, List.map_nil]
  | e :: es => by simp only [PyData.shownAll, List.map_cons, shownAll_map es]
theorem piled_le {L : Nat} : ∀ {es : List PyData}, (∀ e ∈ es, e.shown.length ≤ L) → piled (es.map PyData.shown) ≤ (L + 2) * es.length
  | [], _ => Nat.zero_le _
  | e :: es, h => by
    have h1 := h e List.mem_cons_self
    have h2 := piled_le (es := es) fun x hx => h x (List.mem_cons_of_mem _ hx)
    rw [List.map_cons, piled_cons, List.length_cons, Nat.mul_succ]
    omega
theorem showAll_of : ∀ {es : List PyData}, (∀ e ∈ es, e.showable = true) → PyData.showableAll es = true
  | [], _ => by simp only [PyData.showableAll]
  | e :: es, h => by simp only [PyData.showableAll, h e List.mem_cons_self, showAll_of (es := es) fun x hx => h x (List.mem_cons_of_mem _ hx), Bool.and_self]
theorem deepAll_of {k : Nat} : ∀ {es : List PyData}, (∀ e ∈ es, e.depth ≤ k) → PyData.depthAll es ≤ k
  | [], _ => by simp only [PyData.depthAll]; omega
  | e :: es, h => by
    have h1 := h e List.mem_cons_self
    have h2 := deepAll_of (es := es) fun x hx => h x (List.mem_cons_of_mem _ hx)
    simp only [PyData.depthAll]
    omega
theorem shwList {k L m : Nat} {es : List PyData} (h : ∀ e ∈ es, Shw k L e) (hm : es.length ≤ m) : Shw (k + 1) ((L + 2) * m + 2) (.list es) := by
  refine ⟨?_, ?_, ?_⟩
  · simp only [PyData.showable]
    exact showAll_of fun e he => (h e he).ok
  · have z := deepAll_of (k := k) fun e he => (h e he).deep
    simp only [PyData.depth]
    omega
  · simp only [PyData.shown]
    rw [shownAll_map]
    have z := listText_le (es.map PyData.shown)
    have y := piled_le (L := L) (es := es) fun e he => (h e he).len
    have x := Nat.mul_le_mul_left (L + 2) hm
    omega
theorem shwTup {k L m : Nat} {es : List PyData} (h : ∀ e ∈ es, Shw k L e) (hm : es.length ≤ m) : Shw (k + 1) ((L + 2) * m + 3) (.tuple es) := by
  refine ⟨?_, ?_, ?_⟩
  · simp only [PyData.showable]
    exact showAll_of fun e he => (h e he).ok
  · have z := deepAll_of (k := k) fun e he => (h e he).deep
    simp only [PyData.depth]
    omega
  · simp only [PyData.shown]
    rw [shownAll_map]
    have z := tupleText_le (es.map PyData.shown)
    have y := piled_le (L := L) (es := es) fun e he => (h e he).len
    have x := Nat.mul_le_mul_left (L + 2) hm
    omega
theorem intLen {i : Int} {k : Nat} (hk : 0 < k) (h : i.natAbs < 10 ^ k) : (Str.ofString (toString i)).length ≤ k + 1 := by
  by_cases c : 0 ≤ i
  · have z := toString_length_le (v := i) c hk (by
      have e : i = (i.natAbs : Int) := by omega
      rw [e]
      exact_mod_cast h)
    omega
  · obtain ⟨m, rfl⟩ : ∃ m, i = Int.negSucc m := ⟨(-i - 1).toNat, by omega⟩
    have z := toString_length_le (v := ((m + 1 : Nat) : Int)) (by omega) hk (by exact_mod_cast h)
    have e : toString (Int.negSucc m) = "-" ++ toString (((m + 1 : Nat) : Int)) := rfl
    rw [e]
    have q : ∀ a b : String, (Str.ofString (a ++ b)).length = (Str.ofString a).length + (Str.ofString b).length := fun a b => by
      rw [Str.ofString_eq_toList, Str.ofString_eq_toList, Str.ofString_eq_toList]
      simp [Str.length]
    rw [q]
    have o : (Str.ofString "-").length = 1 := rfl
    omega
theorem shwInt {i : Int} (h : i.natAbs < 10 ^ 12) : Shw 0 13 (.int i) := by
  refine ⟨?_, ?_, ?_⟩
  · simp only [PyData.showable]
    refine decide_eq_true ?_
    have z : i.natAbs.log2 ≤ 40 := by
      by_cases c : i.natAbs = 0
      · rw [c]
        decide
      · exact Nat.le_of_lt_succ ((Nat.log2_lt c).mpr (Nat.lt_of_lt_of_le h (by decide)))
    omega
  · simp only [PyData.depth]
    omega
  · simp only [PyData.shown]
    exact intLen (by decide) h

/-! ## How great the numbers of a play grow -/
def Bd (C : Nat) (x : List Int) : Prop := ∀ z ∈ x, z.natAbs ≤ C
theorem Bd.getD {C : Nat} {x : List Int} (h : Bd C x) (i : Nat) : (x.getD i 0).natAbs ≤ C := by
  rw [List.getD_eq_getElem?_getD]
  cases e : x[i]? with
  | none => exact Nat.zero_le _
  | some z => exact h z (List.mem_of_getElem? e)
theorem Bd.mono {C D : Nat} {x : List Int} (h : Bd C x) (d : C ≤ D) : Bd D x := fun z hz => Nat.le_trans (h z hz) d
theorem Bd.set {C : Nat} {x : List Int} (h : Bd C x) {i : Nat} {v : Int} (hv : v.natAbs ≤ C) : Bd C (x.set i v) := fun z hz => by
  rcases List.mem_or_eq_of_mem_set hz with hz | rfl
  · exact h z hz
  · exact hv
theorem Bd.fold {B : Nat} {c : Int} (hc : c.natAbs ≤ B) : ∀ (row y : List Int) (C : Nat), Bd C y → Bd (C + row.length * B) (row.foldl (fun y o => y.set o.toNat (y.getD o.toNat 0 + c)) y)
  | [], y, C, h => by
    rw [List.foldl_nil]
    exact h.mono (by omega)
  | o :: row, y, C, h => by
    rw [List.foldl_cons]
    have z := Bd.fold hc row (y.set o.toNat (y.getD o.toNat 0 + c)) (C + B) ((h.mono (by omega)).set (by
      have q := h.getD o.toNat
      omega))
    refine z.mono ?_
    rw [List.length_cons, Nat.add_mul]
    omega
theorem Bd.flip {C : Nat} {row x : List Int} {v : Nat} (h : Bd C x) (hr : row.length ≤ 80) : Bd (81 * C) (flipL row x v) := by
  have hv := h.getD v
  have z := Bd.fold (c := x.getD v 0) hv row x C h
  have y := Nat.mul_le_mul_right C hr
  refine (z.mono ?_).set ?_
  · omega
  · omega
theorem Bd.follow {N : List (List Int)} (hN : ∀ i, (N.getD i []).length ≤ 80) : ∀ (vs : List Nat) (C : Nat) (x t x' t' : List Int), Bd C x → Bd C t → followL N vs x t = some (x', t') → Bd (81 ^ vs.length * C) x' ∧ Bd (81 ^ vs.length * C) t'
  | [], C, x, t, x', t', hx, ht, e => by
    unfold followL at e
    injection e with e
    injection e with e1 e2
    subst e1 e2
    rw [List.length_nil, Nat.pow_zero, Nat.one_mul]
    exact ⟨hx, ht⟩
  | v :: vs, C, x, t, x', t', hx, ht, e => by
    unfold followL at e
    by_cases c : x.getD v 0 ≥ 0
    · rw [if_pos c] at e
      cases e
    rw [if_neg c] at e
    have hv := hx.getD v
    have z := Bd.follow hN vs (81 * C) _ _ x' t' (hx.flip (hN v)) ((ht.mono (by omega)).set (by
      have q := ht.getD v
      omega)) e
    rw [List.length_cons, Nat.pow_succ, Nat.mul_assoc]
    exact z
theorem Bd.play {N : List (List Int)} {d : PyData} {x x' t' : List Int} (hN : ∀ i, (N.getD i []).length ≤ 80) (hx : Bd 4 x) (hd : lenD d ≤ 25) (e : playD N d x = some (x', t')) : Bd (81 ^ 25 * 4) x' ∧ Bd (81 ^ 25 * 4) t' := by
  cases d with
  | list ds =>
    have hp : playD N (.list ds) x = if ds.all (isNode N.length) = true then followL N (ds.map nodeOf) x (List.replicate N.length 0) else none := rfl
    rw [hp] at e
    by_cases c : ds.all (isNode N.length) = true
    · rw [if_pos c] at e
      have z := Bd.follow hN _ 4 _ _ _ _ hx (fun z hz => by
        rw [(List.mem_replicate.mp hz).2]
        decide) e
      have l : (ds.map nodeOf).length ≤ 25 := by
        rw [List.length_map]
        exact hd
      have p := Nat.mul_le_mul_right 4 (Nat.pow_le_pow_right (show 0 < 81 by decide) l)
      exact ⟨z.1.mono p, z.2.mono p⟩
    · rw [if_neg c] at e
      cases e
  | _ => cases e
theorem shwBig {i : Int} (h : i.natAbs ≤ 81 ^ 25 * 4) : Shw 0 61 (.int i) := by
  have h' : i.natAbs < 10 ^ 60 := Nat.lt_of_le_of_lt h (by decide +kernel)
  refine ⟨?_, ?_, ?_⟩
  · simp only [PyData.showable]
    refine decide_eq_true ?_
    by_cases c : i.natAbs = 0
    · rw [c]
      decide
    · exact Nat.lt_trans ((Nat.log2_lt c).mpr (Nat.lt_trans h' (show 10 ^ 60 < 2 ^ 250 by decide +kernel))) (by decide)
  · simp only [PyData.depth]
    omega
  · simp only [PyData.shown]
    exact intLen (by decide) h'
theorem shwBigs {x : List Int} (h : Bd (81 ^ 25 * 4) x) (hl : x.length ≤ 1000) : Shw 1 63002 (.list (x.map PyData.int)) :=
  (shwList (k := 0) (L := 61) (m := 1000) (fun e he => by
    obtain ⟨v, hv, rfl⟩ := List.mem_map.mp he
    exact shwBig (h v hv)) (by rw [List.length_map]; exact hl))

/-! ## Two negative nodes: both orders meet -/
def cnt (N : List (List Int)) (i j : Nat) : Int := (((N.getD i []).count (j : Int) : Nat) : Int)
structure Sym (N : List (List Int)) : Prop where
  wf : WF N
  sym : ∀ i j, i < N.length → j < N.length → cnt N i j = cnt N j i
  self : ∀ i, i < N.length → cnt N i i = 0
  one : ∀ i j, i < N.length → cnt N i j = 0 ∨ cnt N i j = 1
theorem getSet {x : List Int} {i j : Nat} {z : Int} (h : j < x.length) : (x.set j z).getD i 0 = if i = j then z else x.getD i 0 := by
  rw [List.getD_eq_getElem?_getD, List.getElem?_set, List.getD_eq_getElem?_getD]
  by_cases c : j = i
  · subst c
    rw [if_pos rfl, if_pos h, if_pos rfl]
    rfl
  · rw [if_neg c, if_neg (fun z => c z.symm)]
theorem foldAt (c : Int) : ∀ (row y : List Int) (i : Nat), (∀ o ∈ row, 0 ≤ o ∧ o < y.length) → (row.foldl (fun y o => y.set o.toNat (y.getD o.toNat 0 + c)) y).getD i 0 = y.getD i 0 + ((row.count (i : Int) : Nat) : Int) * c
  | [], y, i, _ => by
    rw [List.foldl_nil, List.count_nil]
    omega
  | o :: row, y, i, h => by
    have ho := h o List.mem_cons_self
    have hl : o.toNat < y.length := by omega
    rw [List.foldl_cons, foldAt c row _ i (fun u hu => by rw [List.length_set]; exact h u (List.mem_cons_of_mem _ hu)), getSet hl, List.count_cons]
    by_cases e : i = o.toNat
    · subst e
      rw [if_pos rfl, show ((o == ((o.toNat : Nat) : Int)) = true) from by rw [beq_iff_eq]; omega, if_pos rfl, Int.natCast_add, Int.add_mul]
      show _ + c + _ = _ + (_ + 1 * c)
      omega
    · rw [if_neg e, if_neg (by rw [beq_iff_eq]; omega), Nat.add_zero]
theorem flipAt {N : List (List Int)} {x : List Int} {v i : Nat} (wf : WF N) (hl : x.length = N.length) (hv : v < N.length) :
    (flipL (N.getD v []) x v).getD i 0 = if i = v then -(x.getD v 0) else x.getD i 0 + cnt N v i * x.getD v 0 := by
  unfold flipL
  rw [getSet (by rw [foldSetLen]; omega)]
  by_cases e : i = v
  · rw [if_pos e, if_pos e]
  · rw [if_neg e, if_neg e, foldAt _ _ _ _ (fun o ho => by rw [hl]; exact wf v hv o ho)]
    rfl
theorem extD {x y : List Int} (hl : x.length = y.length) (h : ∀ i, i < x.length → x.getD i 0 = y.getD i 0) : x = y := by
  apply List.ext_getElem hl
  intro i h1 h2
  have z := h i h1
  rw [List.getD_eq_getElem?_getD, List.getElem?_eq_getElem h1, List.getD_eq_getElem?_getD, List.getElem?_eq_getElem h2] at z
  exact z
section
variable {N : List (List Int)} {x : List Int} {a b : Nat}
/-- the two nodes are not neighbours -/
theorem swap2 (S : Sym N) (hl : x.length = N.length) (ha : a < N.length) (hb : b < N.length) (hab : a ≠ b) (h0 : cnt N a b = 0) :
    flipL (N.getD b []) (flipL (N.getD a []) x a) b = flipL (N.getD a []) (flipL (N.getD b []) x b) a := by
  have h0' : cnt N b a = 0 := by rw [S.sym b a hb ha]; exact h0
  refine extD (by rw [flipLen, flipLen, flipLen, flipLen]) (fun i hi => ?_)
  have l1 : (flipL (N.getD a []) x a).length = N.length := by rw [flipLen]; exact hl
  have l2 : (flipL (N.getD b []) x b).length = N.length := by rw [flipLen]; exact hl
  rw [flipAt S.wf l1 hb, flipAt S.wf l2 ha, flipAt S.wf hl ha, flipAt S.wf hl hb, flipAt S.wf hl ha, flipAt S.wf hl hb, h0, h0', if_neg hab, if_neg hab.symm]
  by_cases c1 : i = b
  · have c2 : ¬ i = a := fun z => hab (z ▸ c1)
    rw [if_pos c1, if_neg c2, if_pos c1]
    subst c1
    rw [h0]
    omega
  · rw [if_neg c1]
    by_cases c2 : i = a
    · rw [if_pos c2, if_pos c2]
      subst c2
      rw [h0']
      omega
    · rw [if_neg c2, if_neg c2, if_neg c1]
      rcases S.one a i ha with e | e <;> rcases S.one b i hb with f | f <;> rw [e, f] <;> omega
theorem swap3 (S : Sym N) (hl : x.length = N.length) (ha : a < N.length) (hb : b < N.length) (hab : a ≠ b) (h1 : cnt N a b = 1) :
    flipL (N.getD a []) (flipL (N.getD b []) (flipL (N.getD a []) x a) b) a = flipL (N.getD b []) (flipL (N.getD a []) (flipL (N.getD b []) x b) a) b := by
  have h1' : cnt N b a = 1 := by rw [S.sym b a hb ha]; exact h1
  refine extD (by rw [flipLen, flipLen, flipLen, flipLen, flipLen, flipLen]) (fun i hi => ?_)
  have l1 : (flipL (N.getD a []) x a).length = N.length := by rw [flipLen]; exact hl
  have l2 : (flipL (N.getD b []) x b).length = N.length := by rw [flipLen]; exact hl
  have l3 : (flipL (N.getD b []) (flipL (N.getD a []) x a) b).length = N.length := by rw [flipLen]; exact l1
  have l4 : (flipL (N.getD a []) (flipL (N.getD b []) x b) a).length = N.length := by rw [flipLen]; exact l2
  rw [flipAt S.wf l3 ha, flipAt S.wf l4 hb, flipAt S.wf l1 hb, flipAt S.wf l2 ha, flipAt S.wf l1 hb, flipAt S.wf l2 ha]
  rw [flipAt S.wf hl ha, flipAt S.wf hl hb, flipAt S.wf hl ha, flipAt S.wf hl hb, flipAt S.wf hl ha, flipAt S.wf hl hb, h1, h1']
  simp only [if_neg hab, if_neg hab.symm, if_true]
  by_cases c1 : i = b
  · have c2 : ¬ i = a := fun z => hab (z ▸ c1)
    rw [if_pos c1, if_neg c2]
    simp only [if_pos c1]
    subst c1
    rw [h1]
    omega
  · by_cases c2 : i = a
    · simp only [if_pos c2, if_neg c1]
      subst c2
      rw [h1']
      omega
    · simp only [if_neg c1, if_neg c2]
      rcases S.one a i ha with e | e <;> rcases S.one b i hb with f | f <;> rw [e, f] <;> omega
end
theorem oneCount (u v k l : Int) : List.count l (if u = k then [v] else []) = (if u = k ∧ v = l then 1 else 0) := by
  by_cases c : u = k
  · by_cases d : v = l
    · rw [if_pos c, if_pos (And.intro c d), d, List.count_singleton_self]
    · rw [if_pos c, if_neg (fun z => d z.2)]
      exact List.count_eq_zero.mpr (fun z => d (List.mem_singleton.mp z).symm)
  · rw [if_neg c, if_neg (fun z => c z.1)]
    rfl
theorem rowCount : ∀ (es : List (Int × Int)) (i j : Int), ((rowOf es i).count j) = (rowOf es j).count i
  | [], _, _ => rfl
  | e :: es, i, j => by
    have q : ∀ k : Int, rowOf (e :: es) k = ((if e.1 = k then [e.2] else []) ++ (if e.2 = k then [e.1] else [])) ++ rowOf es k := fun _ => rfl
    rw [q i, q j, List.count_append, List.count_append, List.count_append, List.count_append, rowCount es i j]
    rw [oneCount, oneCount, oneCount, oneCount]
    congr 1
    split <;> split <;> split <;> split <;> omega
theorem rowLe : ∀ (es : List (Int × Int)) (i j : Int), es.Nodup → (∀ e ∈ es, e.1 < e.2) → (rowOf es i).count j ≤ 1 ∧ (i = j → (rowOf es i).count j = 0) ∧ ((rowOf es i).count j = 1 ↔ ((min i j, max i j) ∈ es))
  | [], _, _, _, _ => ⟨Nat.zero_le _, fun _ => rfl, ⟨fun z => (by cases z), fun z => (by cases z)⟩⟩
  | e :: es, i, j, hn, ha => by
    have q : rowOf (e :: es) i = ((if e.1 = i then [e.2] else []) ++ (if e.2 = i then [e.1] else [])) ++ rowOf es i := rfl
    obtain ⟨h1, h2⟩ := List.nodup_cons.mp hn
    obtain ⟨r1, r2, r3⟩ := rowLe es i j h2 fun u hu => ha u (List.mem_cons_of_mem _ hu)
    have lt := ha e List.mem_cons_self
    rw [q, List.count_append, List.count_append, oneCount, oneCount]
    by_cases c : e = (min i j, max i j)
    · have hno : (rowOf es i).count j = 0 := by
        rcases Nat.eq_zero_or_pos ((rowOf es i).count j) with z | z
        · exact z
        · exact absurd (r3.mp (by omega)) (c ▸ h1)
      have e1 : e.1 = min i j := by rw [c]
      have e2 : e.2 = max i j := by rw [c]
      have tot : (if e.1 = i ∧ e.2 = j then 1 else 0 : Nat) + (if e.2 = i ∧ e.1 = j then 1 else 0) = 1 := by
        by_cases d : i < j
        · rw [if_pos (by omega), if_neg (by omega)]
        · rw [if_neg (by omega), if_pos (by omega)]
      rw [tot, hno]
      exact ⟨by omega, fun z => by omega, ⟨fun _ => c ▸ List.mem_cons_self, fun _ => rfl⟩⟩
    · have n1 : ¬ (e.1 = i ∧ e.2 = j) := fun z => c (by
        rw [show e = (e.1, e.2) from rfl, z.1, z.2]
        have : min i j = i := by omega
        have : max i j = j := by omega
        rw [‹min i j = i›, ‹max i j = j›])
      have n2 : ¬ (e.2 = i ∧ e.1 = j) := fun z => c (by
        rw [show e = (e.1, e.2) from rfl, z.1, z.2]
        have : min i j = j := by omega
        have : max i j = i := by omega
        rw [‹min i j = j›, ‹max i j = i›])
      rw [if_neg n1, if_neg n2, Nat.zero_add]
      refine ⟨r1, r2, r3.trans ⟨fun z => List.mem_cons_of_mem _ z, fun z => ?_⟩⟩
      rcases List.mem_cons.mp z with z | z
      · exact absurd z.symm c
      · exact z
theorem IsNear.symm {n : Nat} {es : List (Int × Int)} {N : List (List Int)} (h : IsNear n es N) (g : GoodE n es) : Sym N := by
  have c : ∀ i j, i < N.length → cnt N i j = (((rowOf es (i : Int)).count (j : Int) : Nat) : Int) := fun i j hi => by
    unfold cnt
    rw [(h.row i (by rw [← h.len]; exact hi)).count_eq]
  have lt : ∀ e ∈ es, e.1 < e.2 := fun e he => (g.node e he).2.1
  refine ⟨h.wf g.node, fun i j hi hj => ?_, fun i hi => ?_, fun i j hi => ?_⟩
  · rw [c i j hi, c j i hj, rowCount]
  · rw [c i i hi, (rowLe es i i g.once lt).2.1 rfl]
    rfl
  · rw [c i j hi]
    have z := (rowLe es (i : Int) (j : Int) g.once lt).1
    omega
theorem IsNear.edge {n : Nat} {es : List (Int × Int)} {N : List (List Int)} (h : IsNear n es N) (g : GoodE n es) {i j : Nat} (hi : i < N.length) : cnt N i j = 1 ↔ (min (i : Int) j, max (i : Int) j) ∈ es := by
  unfold cnt
  rw [(h.row i (by rw [← h.len]; exact hi)).count_eq, ← (rowLe es (i : Int) (j : Int) g.once fun e he => (g.node e he).2.1).2.2]
  omega

end K66

set_option Elab.async false
set_option linter.all false
set_option maxRecDepth 100000
set_option maxHeartbeats 8000000
namespace K66
open PySem PySem.Spec PyProof.Rows L2 FNX
/-! ## Around a law -/
def GX (CG p : Addr) (H : Hp) (g : Addr) (N : List (List Int)) : Prop := ∀ H', SameX p H H' → GAt CG H' g N
theorem GX.at {CG p g : Addr} {H : Hp} {N : List (List Int)} (h : GX CG p H g N) : GAt CG H g N := h H SameX.refl
theorem GX.same {CG p g : Addr} {H H' : Hp} {N : List (List Int)} (h : GX CG p H g N) (s : SameX p H H') : GX CG p H' g N := fun H2 s2 => h H2 (s.trans s2)
theorem SameX.same {p : Addr} {H H' : Hp} (s : SameX p H H') (n : H p = none) : Same H H' := fun b o e => s b o (ne_of_none e n) e
theorem NewN.x {H H1 : Hp} {p q : Addr} {N : List (List Int)} (h : NewN H H1 q N) (hp : PoolAt H p) : NX p H1 q N := fun H2 s => h H2 fun b o n e => s b o (hp.ne n).symm e
theorem gx_of {CG p g dx j nr : Addr} {H H1 : Hp} {N : List (List Int)} (hp : PoolAt H p) (gp : g ≠ p) (hg : H1 g = some (.ins CG dx (gflds (N.length : Int) j nr))) (h : NewN H H1 nr N) : GX CG p H1 g N :=
  fun H2 s => ⟨dx, j, nr, s g _ gp hg, (h.x hp) H2 s⟩
theorem sqLSame {K : PySem.W.Frag} {H H' : Hp} {a : Addr} {xs : List V} (h : SqL K H a xs) (s : Same H H') : SqL K H' a xs := by
  rcases h with (h | ⟨o, h⟩) | h
  · exact .inl (.inl (s _ _ h))
  · exact .inl (.inr ⟨o, s _ _ h⟩)
  · exact .inr h
theorem near_rows {n : Nat} {es : List (Int × Int)} {N : List (List Int)} (h : IsNear n es N) (g : GoodE n es) : ∀ i, (N.getD i []).length ≤ 80 := fun i => by
  by_cases hi : i < n
  · rw [(h.row i hi).length_eq]
    have := rowOf_len es (i : Int)
    have := g.few
    omega
  · rw [List.getD_eq_getElem?_getD, List.getElem?_eq_none (by rw [h.len]; omega)]
    exact Nat.zero_le _
theorem shwLine {k L : Nat} {d : PyData} (h : Shw k L d) (hk : k ≤ 60) (hL : L ≤ 1000000) : d.showable = true ∧ d.depth ≤ 60 ∧ d.shown.length ≤ sizeLine := ⟨h.ok, Nat.le_trans h.deep hk, Nat.le_trans h.len (Nat.le_trans hL (by rw [sizeLine_eq]; decide))⟩

/-! ## Around a law with doors -/
abbrev lamT (Pt : Addr) : List (Addr × Str) := [(Pt, (("law" : Str) ++ ".<locals>.") ++ "<lambda>")]
def spLawT (K : PySem.W.Frag) (cs : List (Addr × Addr)) : Sp := fun vs H Q _ => ∃ (a : Addr) (ns : List Int), vs = [.ref a] ∧ SqL K H a (ns.map V.int) ∧ ns.length ≤ 63 ∧ (∀ p ∈ cs, H p.2 = some (.tbl #[])) ∧ ∀ H', Q (.bl true) H'
theorem tabs0 {H : Hp} {c Pt : Addr} (h : ∀ p ∈ [(c, Pt)], H p.2 = some (.tbl #[])) : LamX.Tabs (lamT Pt) H := fun p hp => by
  rw [List.mem_singleton.mp hp]
  exact .nil (h (c, Pt) (List.mem_singleton.mpr rfl))
theorem posInj {x y : List Int} (h : posD x = posD y) : x = y := by
  have z : x.map PyData.int = y.map PyData.int := by
    injection h
  exact List.map_inj_right (fun _ _ e => by injection e) |>.mp z
theorem sqLExt {K : PySem.W.Frag} {H H' : Hp} {a : Addr} {xs : List V} (h : SqL K H a xs) (s : LamX.ExtN H H') : SqL K H' a xs := by
  rcases h with (h | ⟨o, h⟩) | h
  · exact .inl (.inl (s _ _ h fun _ z => by cases z))
  · exact .inl (.inr ⟨o, s _ _ h fun _ z => by cases z⟩)
  · exact .inr h
theorem naExt {H H' : Hp} {p : Addr} {N : List (List Int)} (h : NAt H p N) (s : LamX.ExtN H H') : NAt H' p N := by
  obtain ⟨rows, h1, h2⟩ := h
  exact ⟨rows, s _ _ h1 (fun _ z => by cases z), h2.1, fun k r e => s _ _ (h2.2 k r e) fun _ z => by cases z⟩
theorem gaExt {CG : Addr} {H H' : Hp} {g : Addr} {N : List (List Int)} (h : GAt CG H g N) (s : LamX.ExtN H H') : GAt CG H' g N := by
  obtain ⟨dx, j, nr, h1, h2⟩ := h
  exact ⟨dx, j, nr, s _ _ h1 (fun _ z => by cases z), naExt h2 s⟩
theorem Same.ext {H H' : Hp} (s : Same H H') : LamX.ExtN H H' := fun b o e _ => s b o e
theorem same_updN {H H' : Hp} {a : Addr} {o : HO} (s : Same H H') (n : H a = none) : Same H (upd H' a o) := fun b u e => by
  rw [upd_ne (ne_of_none e n)]
  exact s b u e
theorem dpNats {K : PySem.W.Frag} {H : Hp} : ∀ x : List Nat, DpAll K H (x.map fun v : Nat => V.int (v : Int)) (x.map fun v : Nat => PyData.int (v : Int))
  | [] => .nil
  | _ :: x => .cons (.int _) (dpNats x)
theorem shapedTup {xs ys : List Int} : SeqAt.shaped (.tuple [posD xs, posD ys]) = true := by
  unfold SeqAt.shaped
  have a1 := layInts xs
  have a2 := layInts ys
  have b1 := depInts xs
  have b2 := depInts ys
  have e1 : PyData.canLay0 (.tuple [posD xs, posD ys]) = true := by
    show (PyData.canLayAll0 (xs.map PyData.int) && (PyData.canLayAll0 (ys.map PyData.int) && true)) = true
    rw [a1, a2]
    rfl
  have e2 : PyData.depth (.tuple [posD xs, posD ys]) ≤ 64 := by
    show max (PyData.depthAll (xs.map PyData.int) + 1) (max (PyData.depthAll (ys.map PyData.int) + 1) 0) + 1 ≤ 64
    omega
  rw [e1, decide_eq_true e2]
  rfl
theorem shwPow {i : Int} {k : Nat} (hk : 0 < k) (k2 : k ≤ 400) (h : i.natAbs < 10 ^ k) : Shw 0 (k + 1) (.int i) := by
  refine ⟨?_, ?_, ?_⟩
  · simp only [PyData.showable]
    refine decide_eq_true ?_
    by_cases c : i.natAbs = 0
    · rw [c]
      decide
    · have z : i.natAbs < 2 ^ (4 * k) := Nat.lt_of_lt_of_le h (by
        rw [Nat.pow_mul]
        exact Nat.pow_le_pow_left (by decide) k)
      have y := (Nat.log2_lt c).mpr z
      exact Nat.lt_trans y (Nat.lt_of_le_of_lt (Nat.mul_le_mul_left 4 k2) (by decide))
  · simp only [PyData.depth]
    omega
  · simp only [PyData.shown]
    exact intLen hk h
theorem shwInts {x : List Int} {k m : Nat} (hk : 0 < k) (k2 : k ≤ 400) (h : ∀ v ∈ x, v.natAbs < 10 ^ k) (hl : x.length ≤ m) : Shw 1 ((k + 3) * m + 2) (posD x) :=
  shwList (k := 0) (L := k + 1) (m := m) (fun e he => by
    obtain ⟨v, hv, rfl⟩ := List.mem_map.mp he
    exact shwPow hk k2 (h v hv)) (by rw [List.length_map]; exact hl)
theorem repOne {α : Type} (n : Nat) (v : α) : (List.replicate n [v]).flatten = List.replicate n v := by
  induction n with
  | zero => rfl
  | succ n ih =>
    rw [List.replicate_succ, List.flatten_cons, ih, List.replicate_succ]
    rfl
theorem dpBls {K : PySem.W.Frag} {H : Hp} : ∀ n : Nat, DpAll K H (List.replicate n (V.bl true)) (List.replicate n (PyData.bool true))
  | 0 => .nil
  | n + 1 => .cons (.bl _) (dpBls n)

/-! ## Told by a door -/
/-- what an exception of the class C with the value v leaves -/
def told (C : Addr) (v : V) (H : Hp) (E : XK) : Prop := ∀ H' dd, Same H H' → H dd = none → H' dd = some (.xd [(("value" : Str), v)]) → E (.ref C) (some dd) H'
theorem toldHead {K : PySem.W.Frag} {C : Addr} {w : Str} {r : List (Addr × Str)} {v : V} {d : PyData} {H : Hp} {Q : VK} (x : PySem.W.exmOne K (.ref C) (.ref C) = some true) (hd : ∀ H', Same H H' → Rd K H' v d)
    (sh : d.showable = true ∧ d.depth ≤ 60 ∧ d.shown.length ≤ sizeLine) (k : ∀ H' p, Same H H' → H' p = none → Q (.ref p) (upd H' p (.lst [.str w, .str d.shown]))) : told C v H (wErr K mkPair Q ((C, w) :: r)) :=
  fun H' dd s _ hx => ⟨true, x, fun _ => ⟨rfl, dd, v, d, rfl, hx, hd H' s, sh.1, sh.2.1, sh.2.2, fun p np => k H' p s np⟩, (fun z => nomatch z)⟩
theorem toldTail {K : PySem.W.Frag} {mk : Str → Str → Hp → (V → Hp → Prop) → Prop} {C C0 : Addr} {w : Str} {r : List (Addr × Str)} {v : V} {H : Hp} {Q : VK} (x : PySem.W.exmOne K (.ref C) (.ref C0) = some false) (t : told C v H (wErr K mk Q r)) : told C v H (wErr K mk Q ((C0, w) :: r)) :=
  fun H' dd s nd hx => ⟨false, x, (fun z => nomatch z), fun _ => t H' dd s nd hx⟩
theorem edExt {H H' : Hp} {q : Addr} {es : List (Int × Int)} (h : EdgesAt H q es) (s : LamX.ExtN H H') : EdgesAt H' q es := by
  obtain ⟨ts, h1, h2, h3⟩ := h
  refine ⟨ts, s _ _ h1 (fun _ z => by cases z), h2, fun k t e => ?_⟩
  obtain ⟨x, a, b⟩ := h3 k t e
  exact ⟨x, a, s _ _ b (fun _ z => by cases z)⟩
theorem edX {H H' : Hp} {p q : Addr} {es : List (Int × Int)} (h : EdgesAt H q es) (hp : PoolAt H p) (n : p ≠ q) (s : SameX p H H') : EdgesAt H' q es := by
  obtain ⟨ts, h1, h2⟩ := h
  exact ⟨ts, s _ _ n.symm h1, h2.sameX hp s⟩
theorem shwI {i : Int} (h : i.natAbs < 10 ^ 30) : (PyData.int i).showable = true ∧ (PyData.int i).depth ≤ 60 ∧ (PyData.int i).shown.length ≤ sizeLine := shwLine (shwPow (k := 30) (by decide) (by decide) h) (by decide) (by decide)

/-! ## check_node, with any value; meet -/
def spCheckNodeX (K : PySem.W.Frag) (CN : Addr) : Sp := fun vs H Q E => ∃ v d, ∃ n : Nat, vs = [.int n, v] ∧ Rd K H v d ∧ (isNode n d = true → Q .non H) ∧
  ∀ H' dd, Same H H' → H dd = none → H' dd = some (.xd [(("value" : Str), v)]) → isNode n d = false → E (.ref CN) (some dd) H'
def meetL (N : List (List Int)) (a b : Nat) : List Nat := if cnt N a b = 1 then [a, b, a] else [a, b]
def natV (vs : List Nat) : List V := vs.map fun v : Nat => V.int (v : Int)
def natD (vs : List Nat) : List PyData := vs.map fun v : Nat => PyData.int (v : Int)
theorem dpNatsV {K : PySem.W.Frag} {H : Hp} : ∀ x : List Nat, DpAll K H (natV x) (natD x)
  | [] => .nil
  | _ :: x => .cons (.int _) (dpNatsV x)
theorem isNodeNat {n : Nat} (v : Nat) : isNode n (.int (v : Int)) = decide (v < n) := by
  show (decide ((0 : Int) ≤ v) && decide ((v : Int) ≤ (n : Int) - 1)) = _
  rw [decide_eq_true (by omega), Bool.true_and]
  by_cases c : v < n
  · rw [decide_eq_true c, decide_eq_true (by omega)]
  · rw [decide_eq_false c, decide_eq_false (by omega)]
theorem nodeD {n : Nat} {d : PyData} (h : isNode n d = true) : ∃ v : Nat, d = .int (v : Int) ∧ v < n := by
  cases d with
  | int i =>
    have h : (decide ((0 : Int) ≤ i) && decide (i ≤ (n : Int) - 1)) = true := h
    rw [Bool.and_eq_true, decide_eq_true_eq, decide_eq_true_eq] at h
    exact ⟨i.toNat, by rw [show ((i.toNat : Nat) : Int) = i by omega], by omega⟩
  | _ => cases h
theorem playNats {N : List (List Int)} {vs : List Nat} {x : List Int} (h : ∀ v ∈ vs, v < N.length) : playD N (.list (natD vs)) x = followL N vs x (List.replicate N.length 0) := by
  have e1 : (natD vs).all (isNode N.length) = true := List.all_eq_true.mpr fun d hd => by
    obtain ⟨v, hv, rfl⟩ := List.mem_map.mp hd
    rw [isNodeNat, decide_eq_true (h v hv)]
  have e2 : (natD vs).map nodeOf = vs := by
    have e : ∀ l : List Nat, (natD l).map nodeOf = l := fun l => by
      induction l with
      | nil => rfl
      | cons v l ih => exact congrArg (v :: ·) ih
    exact e vs
  show (if (natD vs).all (isNode N.length) = true then followL N ((natD vs).map nodeOf) x (List.replicate N.length 0) else none) = _
  rw [if_pos e1, e2]
theorem followCons {N : List (List Int)} {v : Nat} {vs : List Nat} {x t : List Int} (h : x.getD v 0 < 0) : followL N (v :: vs) x t = followL N vs (flipL (N.getD v []) x v) (t.set v (t.getD v 0 - x.getD v 0)) := by
  show (if x.getD v 0 ≥ 0 then none else _) = _
  rw [if_neg (by omega)]
theorem meet_ok {N : List (List Int)} {x : List Int} {a b : Nat} (S : Sym N) (hl : x.length = N.length) (ha : a < N.length) (hb : b < N.length) (hab : a ≠ b) (na : x.getD a 0 < 0) (nb : x.getD b 0 < 0) (t : List Int) :
    ∃ x' t1 t2, followL N (meetL N a b) x t = some (x', t1) ∧ followL N (meetL N b a) x t = some (x', t2) := by
  have la : (flipL (N.getD a []) x a).length = N.length := by rw [flipLen]; exact hl
  have lb : (flipL (N.getD b []) x b).length = N.length := by rw [flipLen]; exact hl
  have ab : (flipL (N.getD a []) x a).getD b 0 = x.getD b 0 + cnt N a b * x.getD a 0 := by rw [flipAt S.wf hl ha, if_neg hab.symm]
  have ba : (flipL (N.getD b []) x b).getD a 0 = x.getD a 0 + cnt N b a * x.getD b 0 := by rw [flipAt S.wf hl hb, if_neg hab]
  have aa : (flipL (N.getD a []) x a).getD a 0 = - x.getD a 0 := by rw [flipAt S.wf hl ha, if_pos rfl]
  have bb : (flipL (N.getD b []) x b).getD b 0 = - x.getD b 0 := by rw [flipAt S.wf hl hb, if_pos rfl]
  have sy := S.sym a b ha hb
  rcases S.one a b ha with c | c
  · rw [← sy, c] at ba
    rw [c] at ab
    have m1 : meetL N a b = [a, b] := if_neg (by rw [c]; decide)
    have m2 : meetL N b a = [b, a] := if_neg (by rw [← sy, c]; decide)
    rw [m1, m2, followCons na, followCons nb, followCons (by omega), followCons (by omega)]
    exact ⟨_, _, _, rfl, by rw [← swap2 S hl ha hb hab c]; rfl⟩
  · rw [← sy, c] at ba
    rw [c] at ab
    have m1 : meetL N a b = [a, b, a] := if_pos c
    have m2 : meetL N b a = [b, a, b] := if_pos (by rw [← sy]; exact c)
    have aba : (flipL (N.getD b []) (flipL (N.getD a []) x a) b).getD a 0 = x.getD b 0 := by
      rw [flipAt S.wf la hb, if_neg hab, aa, ab, ← sy, c]
      omega
    have bab : (flipL (N.getD a []) (flipL (N.getD b []) x b) a).getD b 0 = x.getD a 0 := by
      rw [flipAt S.wf lb ha, if_neg hab.symm, bb, ba, c]
      omega
    rw [m1, m2, followCons na, followCons nb, followCons (by omega), followCons (by omega), followCons (by omega), followCons (by omega)]
    exact ⟨_, _, _, rfl, by rw [← swap3 S hl ha hb hab c]; rfl⟩
theorem meetMem {N : List (List Int)} {a b : Nat} : ∀ v ∈ meetL N a b, v = a ∨ v = b := by
  intro v hv
  unfold meetL at hv
  split at hv <;> simp at hv <;> omega
def spMeet (K : PySem.W.Frag) (CG CP CN CV : Addr) : Sp := fun vs H Q E => ∃ g N qv dp v1 d1 v2 d2, vs = [.ref g, qv, v1, v2] ∧ GAt CG H g N ∧ Sym N ∧ N.length ≤ 1000 ∧ Rd K H qv dp ∧ lenD dp ≤ 100000 ∧ Rd K H v1 d1 ∧ Rd K H v2 d2 ∧
  (isIL N.length dp = false → told CP qv H E) ∧ ∀ x, dp = posD x → x.length = N.length → (isNode N.length d1 = false → told CN v1 H E) ∧
    ∀ a : Nat, d1 = .int (a : Int) → a < N.length → (isNode N.length d2 = false → told CN v2 H E) ∧
      ∀ b : Nat, d2 = .int (b : Int) → b < N.length → (a = b → told CN v2 H E) ∧ (a ≠ b → (0 ≤ x.getD a 0 → told CV v1 H E) ∧ (x.getD a 0 < 0 → (0 ≤ x.getD b 0 → told CV v2 H E) ∧ (x.getD b 0 < 0 →
        ∀ T p q r x' t' H', Same H H' → H p = none → H q = none → H r = none → H' T = some (.tup [.ref p, .ref q, .ref r]) → H' p = some (.lst (natV (meetL N a b))) → H' q = some (.lst (natV (meetL N b a))) →
          followL N (meetL N a b) x (List.replicate N.length 0) = some (x', t') → H' r = some (.lst (x'.map V.int)) → Q (.ref T) H')))
theorem anyInt {b : Nat} {row : List Int} : ((row.map PyData.int).any fun z => PyData.eqv z (.int (b : Int))) = decide (row.count (b : Int) ≠ 0) := by
  induction row with
  | nil => rfl
  | cons o row ih =>
    rw [List.map_cons, List.any_cons, ih, List.count_cons]
    have e : PyData.eqv (.int o) (.int (b : Int)) = (o == (b : Int)) := rfl
    rw [e]
    by_cases c : o = (b : Int)
    · rw [if_pos (by rw [beq_iff_eq]; exact c), show (o == (b : Int)) = true from by rw [beq_iff_eq]; exact c, Bool.true_or, decide_eq_true (by omega)]
    · rw [if_neg (by rw [beq_iff_eq]; exact c), show (o == (b : Int)) = false from by rw [beq_eq_false_iff_ne]; exact c, Bool.false_or, Nat.add_zero]
section
variable {P : Program} {w : World} {K : PySem.W.Frag} {mg : Str → Option Value} {base : Heap} {CG CP CL CN CV : Addr}
theorem ok_check_nodeX {f : Addr} {fd : FuncData} (F : Fun K "check_node" "check_node" s_check_node f fd) (T : Ex P w K mg base "InvalidNode" CN)
    (tyC : PySem.W.typeIn K (.ref CN) = some (.type "type")) (G : At P w K mg base CX0 3 "is_node" ["size", "thing"] (spIsNode K)) : FnOk P w K mg base (L2.CX P w) 4 f fd ["size", "node"] (spCheckNodeX K CN) := by
  obtain ⟨g, gd, G, mG, kG, bG⟩ := G
  refine F.okX sc_check_node (fun vs H Q E h => ?_) (fun cdv A outer s H vs Q E hr h => ?_)
  · obtain ⟨v, d, n, rfl, _⟩ := h
    rfl
  · obtain ⟨v, d, n, rfl, hd, k1, k2⟩ := h
    have hr2 : Room 2 _ := hr.mono (by decide)
    refine ⟨_, pss_one (ps_if (pt_not (pt_val (pe_call G hr (by rfl) mG kG bG .nil pass0 (pa_cons (pv 0) (pa_cons (pv 1) pa_nil)))))
      (pss_one (ps_raiseX rfl T tyC hr2 (takes_of rfl rfl rfl rfl) rfl (pa_cons (pv 1) pa_nil))) pss_nil), ?_⟩
    refine ⟨_, rfl, _, rfl, v, d, n, rfl, hd, _, rfl, ?_⟩
    by_cases e : isNode n d = true
    · rw [e]
      exact iteF (k1 e)
    · have e : isNode n d = false := by simpa using e
      rw [e]
      exact iteT ⟨_, rfl, v, rfl, fun dd H' nd s2 hx => k2 H' dd s2 nd hx e⟩
end

/-! ## Flips, one after the other -/
def fireL (N : List (List Int)) (l : List Nat) (x : List Int) : List Int := l.foldl (fun y v => flipL (N.getD v []) y v) x
theorem fireLen (N : List (List Int)) : ∀ (l : List Nat) (x : List Int), (fireL N l x).length = x.length
  | [], _ => rfl
  | v :: l, x => by
    show (fireL N l (flipL (N.getD v []) x v)).length = _
    rw [fireLen N l, flipLen]
theorem fireMore {N : List (List Int)} {l : List Nat} {i v : Nat} {x : List Int} (h : l[i]? = some v) : fireL N (l.take (i + 1)) x = flipL (N.getD v []) (fireL N (l.take i) x) v := by
  rw [takeMore h]
  unfold fireL
  rw [List.foldl_append]
  rfl
theorem flipPerm {r1 r2 x : List Int} {v : Nat} (h : r1.Perm r2) (hb : ∀ o ∈ r1, 0 ≤ o ∧ o < x.length) (hv : v < x.length) : flipL r1 x v = flipL r2 x v := by
  refine extD (by rw [flipLen, flipLen]) fun i hi => ?_
  unfold flipL
  rw [getSet (by rw [foldSetLen]; omega), getSet (by rw [foldSetLen]; omega), foldAt _ _ _ _ hb, foldAt _ _ _ _ (fun o ho => hb o (h.mem_iff.mpr ho)), h.count_eq]
theorem eqvAllInts : ∀ x y : List Int, PyData.eqvAll (x.map PyData.int) (y.map PyData.int) = decide (x = y)
  | [], [] => rfl
  | [], _ :: _ => rfl
  | _ :: _, [] => rfl
  | a :: x, b :: y => by
    have e : PyData.eqvAll ((a :: x).map PyData.int) ((b :: y).map PyData.int) = ((a == b) && PyData.eqvAll (x.map PyData.int) (y.map PyData.int)) := by
      first
        | rfl
        | simp [PyData.eqvAll, PyData.eqv]
    rw [e, eqvAllInts x y]
    by_cases c : a = b
    · subst c
      by_cases d : x = y
      · subst d
        simp
      · rw [beq_self_eq_true, Bool.true_and, decide_eq_false d, decide_eq_false (fun z => d (List.cons.inj z).2)]
    · rw [show (a == b) = false from by simpa using c, Bool.false_and, decide_eq_false (fun z => c (List.cons.inj z).1)]
theorem eqvInts (x y : List Int) : PyData.eqv (posD x) (posD y) = decide (x = y) := by
  rw [← eqvAllInts]
  first
    | rfl
    | simp [PyData.eqv, posD]
theorem natsOf {N : List (List Int)} {ds : List PyData} (h : ds.all (isNode N.length) = true) : ds = natD (ds.map nodeOf) ∧ ∀ v ∈ ds.map nodeOf, v < N.length := by
  induction ds with
  | nil => exact ⟨rfl, fun v hv => by simp at hv⟩
  | cons d ds ih =>
    rw [List.all_cons, Bool.and_eq_true] at h
    obtain ⟨e, b⟩ := ih h.2
    obtain ⟨v, rfl, hv⟩ := nodeD h.1
    refine ⟨?_, fun u hu => ?_⟩
    · show PyData.int (v : Int) :: ds = PyData.int (((v : Int).toNat : Nat) : Int) :: natD (ds.map nodeOf)
      rw [← e, show (v : Int).toNat = v by omega]
    · rcases List.mem_cons.mp (show u ∈ nodeOf (.int (v : Int)) :: ds.map nodeOf from hu) with z | hu
      · rw [z]
        show (v : Int).toNat < _
        omega
      · exact b u hu
theorem nodeOfNatD (l : List Nat) : (natD l).map nodeOf = l := by
  induction l with
  | nil => rfl
  | cons v l ih => exact congrArg (v :: ·) ih
theorem rdNats {K : PySem.W.Frag} {H : Hp} {v : V} {l : List Nat} (h : Rd K H v (.list (natD l))) : ∃ p, v = .ref p ∧ SqL K H p (natV l) := by
  obtain ⟨a, xs, rfl, h1, h2⟩ := rdList h
  refine ⟨a, rfl, ?_⟩
  have e : xs = natV l := by
    clear h h1
    induction l generalizing xs with
    | nil => cases h2; rfl
    | cons i l ih =>
      cases h2 with
      | cons h3 h4 =>
        cases h3
        rw [ih _ h4]
        rfl
  rw [← e]
  exact h1
theorem natAt {l : List Nat} {i : Nat} {y : V} (h : (natV l)[i]? = some y) : ∃ v, l[i]? = some v ∧ y = .int (v : Int) := by
  unfold natV at h
  rw [List.getElem?_map] at h
  cases e : l[i]? with
  | none =>
    rw [e] at h
    cases h
  | some v =>
    rw [e] at h
    exact ⟨v, rfl, (Option.some.inj h).symm⟩
theorem natLen (l : List Nat) : (natV l).length = l.length := by
  unfold natV
  rw [List.length_map]
theorem natCut (l : List Nat) (lo hi : Option Int) : ∃ l', cutV (natV l) lo hi = natV l' ∧ (∀ v ∈ l', v ∈ l) ∧ l'.length ≤ l.length := by
  refine ⟨(l.drop (HT.sIx l.length 0 lo)).take (HT.sIx l.length l.length hi - HT.sIx l.length 0 lo), ?_, fun v hv => List.mem_of_mem_drop (List.mem_of_mem_take hv), ?_⟩
  · unfold cutV natV
    rw [List.length_map, List.map_take, List.map_drop]
  · rw [List.length_take, List.length_drop]
    omega
theorem natD_len (l : List Nat) : (natD l).length = l.length := by
  unfold natD
  rw [List.length_map]
theorem natV_app (a b : List Nat) : natV a ++ natV b = natV (a ++ b) := by
  unfold natV
  rw [List.map_append]
theorem dpAllCat {K : PySem.W.Frag} {H : Hp} : ∀ {xs ys : List V} {ds es : List PyData}, DpAll K H xs ds → DpAll K H ys es → DpAll K H (xs ++ ys) (ds ++ es)
  | [], _, _, _, h, g => by
    cases h
    exact g
  | _ :: _, _, _, _, h, g => by
    cases h with
    | cons a b => exact .cons a (dpAllCat b g)
theorem shwNats {l : List Nat} (hb : ∀ v ∈ l, v < 16) (hl : l.length ≤ 30) : Shw 1 152 (.list (natD l)) := (shwList (k := 0) (L := 3) (m := 30) (fun e he => by
    obtain ⟨v, hv, rfl⟩ := List.mem_map.mp he
    exact (shwPow (k := 2) (by decide) (by decide) (by have := hb v hv; show v < 10 ^ 2; omega)).mono (by decide) (by decide)) (by unfold natD; rw [List.length_map]; exact hl)).mono (by decide) (by decide)
theorem bdFire {N : List (List Int)} (hN : ∀ i, (N.getD i []).length ≤ 80) : ∀ (l : List Nat) (C : Nat) (x : List Int), Bd C x → Bd (81 ^ l.length * C) (fireL N l x)
  | [], C, x, h => by
    rw [List.length_nil, Nat.pow_zero, Nat.one_mul]
    exact h
  | v :: l, C, x, h => by
    have z := bdFire hN l (81 * C) (flipL (N.getD v []) x v) (h.flip (v := v) (hN v))
    rw [List.length_cons, Nat.pow_succ, Nat.mul_assoc]
    exact z

end K66

set_option Elab.async false
set_option linter.all false
set_option maxRecDepth 100000
set_option maxHeartbeats 8000000
namespace K66
open PySem PySem.Spec PyProof.Rows L2 FNX
/-! ## The law's own links: neighbours in drawn order -/
def linksL (n : Nat) (es : List (Int × Int)) : List (List Int) := (List.range n).map fun i : Nat => rowOf es (i : Int)
theorem linksLen (n : Nat) (es : List (Int × Int)) : (linksL n es).length = n := by
  unfold linksL
  rw [List.length_map, List.length_range]
theorem linksAt {n i : Nat} {es : List (Int × Int)} (h : i < n) : (linksL n es).getD i [] = rowOf es (i : Int) := by
  unfold linksL
  rw [List.getD_eq_getElem?_getD, List.getElem?_map, List.getElem?_range h]
  rfl
theorem linksWF {n : Nat} {es : List (Int × Int)} (g : GoodE n es) : WF (linksL n es) := fun i hi o ho => by
  rw [linksLen] at hi ⊢
  rw [linksAt hi] at ho
  exact rowOf_mem g.node ho
theorem fireLinks {n : Nat} {es : List (Int × Int)} {N : List (List Int)} (h : IsNear n es N) (g : GoodE n es) : ∀ (l : List Nat) (x : List Int), x.length = n → (∀ v ∈ l, v < n) → fireL (linksL n es) l x = fireL N l x
  | [], _, _, _ => rfl
  | v :: l, x, hx, hl => by
    have hv := hl v List.mem_cons_self
    show fireL (linksL n es) l (flipL ((linksL n es).getD v []) x v) = fireL N l (flipL (N.getD v []) x v)
    have e : flipL ((linksL n es).getD v []) x v = flipL (N.getD v []) x v := by
      rw [linksAt hv]
      exact flipPerm (h.row v hv).symm (fun o ho => by
        rw [hx]
        exact rowOf_mem g.node ho) (by omega)
    rw [e]
    exact fireLinks h g l _ (by rw [flipLen]; exact hx) fun u hu => hl u (List.mem_cons_of_mem _ hu)
def spLinks (K : PySem.W.Frag) : Sp := fun vs H Q _ => ∃ (n : Nat) (p : Addr) (es : List (Int × Int)), vs = [.int n, .ref p] ∧ EdgesAt H p es ∧ GoodE n es ∧ n ≤ 1000 ∧
  ∀ q H', H q = none → Same H H' → NewN H H' q (linksL n es) → Q (.ref q) H'
def spFlipped (K : PySem.W.Frag) : Sp := fun vs H Q _ => ∃ (nr h : Addr) (N : List (List Int)) (x : List Int) (v : Int), vs = [.ref nr, .ref h, .int v] ∧ NAt H nr N ∧ WF N ∧ H h = some (.lst (x.map V.int)) ∧ x.length = N.length ∧ 0 ≤ v ∧ v < N.length ∧
  ∀ q H', H q = none → Same H H' → H' q = some (.lst ((flipL (N.getD v.toNat []) x v.toNat).map V.int)) → Q (.ref q) H'
section
variable {P : Program} {w : World} {K : PySem.W.Frag} {mg : Str → Option Value} {base : Heap} {CG : Addr}
theorem sc_links : FnScope ["_law_many", "_law_edges", "_law_found", "_law_one", "_law_two", "_law_node"] ["_law_many", "_law_edges"] (defScope s__law_links) := ⟨rfl, rfl, rfl, by decide +kernel, rfl, by decide +kernel, by decide +kernel⟩
theorem ok_links {f : Addr} {fd : FuncData} (F : Fun K "_law_links" "_law_links" s__law_links f fd) (M : Nms mg) : FnOk P w K mg base CX0 1 f fd ["_law_many", "_law_edges"] (spLinks K) := by
  refine F.ok sc_links (fun vs H Q E h => ?_) (fun cdv A outer s H vs Q E hr h => ?_)
  · obtain ⟨n, p, es, rfl, _⟩ := h
    rfl
  · obtain ⟨n, p, es, rfl, hp, ge, hn, k⟩ := h
    have nd := sc_links.nd
    refine ⟨_, (pss_cons (ps_setLc (i := 2) (own := [("_law_node", 5)]) (g := gName 5) (tt := tYes) (by rfl) nd rfl rfl (sw_true rfl rfl rfl (by decide +kernel)) (pi_range1 rfl M.range (pa_cons (pv 0) pa_nil)) (blkOk_by (own := [("_law_node", 5)]) (N := ["_law_many", "_law_edges", "_law_found", "_law_one", "_law_two", "_law_node"]) (sc := defScope s__law_links) (by decide +kernel)) (fun _ _ _ _ _ => pg_name (i := 5) nd rfl (Or.inl rfl)) (fun _ _ _ _ _ => pts_nil) (fun _ _ _ _ _ => (pe_lst pa_nil)))
      (pss_cons (ps_for PassesOwn.never rfl (pi_list (pv 1)) (pg_tup rfl (pgs_cons (pg_name (i := 3) nd rfl (Or.inl rfl)) (pgs_cons (pg_name (i := 4) nd rfl (Or.inl rfl)) pgs_nil))) (pss_cons (ps_expr (pe_bm PySem.F.plainAttrs_list PySem.F.slot_list_append PySem.F.type_list_append mt_append (pe_ix (r := rIxL K) ix_list (pv 2) (pv 3) (fun _ _ => rfl)) (pa_cons (pv 4) pa_nil)))
      (pss_one (ps_expr (pe_bm PySem.F.plainAttrs_list PySem.F.slot_list_append PySem.F.type_list_append mt_append (pe_ix (r := rIxL K) ix_list (pv 2) (pv 4) (fun _ _ => rfl)) (pa_cons (pv 3) pa_nil))))))
      (pss_one (ps_ret (pv 2))))), ?_⟩
    obtain ⟨ts, h1, h2⟩ := id hp
    refine ⟨_, rfl, n, rfl, by omega, by omega, fun D hD => ?_⟩
    refine lc_range (lo := 0) (fun i H' => Same H H' ∧ ∃ rs : List Addr, H' D = some (.lst (rs.map V.ref)) ∧ D ∉ rs ∧ (∀ r ∈ rs, H r = none) ∧ Grow H' rs i []) ⟨same_upd hD, [], upd_same, by simp, by simp, rfl, by simp, fun k r e => by simp at e⟩ (fun i H' hi h => ?_) (fun H' h => ?_)
    · obtain ⟨sm, rs, e1, e2, e3, e4⟩ := h
      refine ⟨rfl, ?_⟩
      refine ⟨by show 0 ≤ sizeLine; decide, fun p np => ?_⟩
      have hpD : D ≠ p := ne_of_none e1 np
      refine ⟨_, by rw [upd_ne hpD]; exact e1, by rw [List.length_map, e4.1, sizeLine_eq]; omega, fun b o z => ?_, rs ++ [p], by rw [upd_same, List.map_append]; rfl, ?_, fun r hr' => ?_, ?_⟩
      · rw [upd_ne (ne_of_none z hD), upd_ne (ne_of_none (sm _ _ z) np)]
        exact sm _ _ z
      · intro z
        rcases List.mem_append.mp z with z | z
        · exact e2 z
        · exact hpD (List.mem_singleton.mp z)
      · rcases List.mem_append.mp hr' with z | z
        · exact e3 r z
        · rw [List.mem_singleton.mp z]
          exact sm.free np
      · refine ⟨by rw [List.length_append, e4.1]; rfl, ?_, fun k r hk => ?_⟩
        · refine List.nodup_append.mpr ⟨e4.2.1, by simp, fun a ha b hb => ?_⟩
          rw [List.mem_singleton] at hb
          subst hb
          obtain ⟨k, hk, he⟩ := List.mem_iff_getElem.mp ha
          intro q
          subst q
          have z := e4.2.2 k _ (by rw [List.getElem?_eq_getElem hk, he])
          rw [np] at z
          cases z
        · by_cases hlt : k < rs.length
          · rw [List.getElem?_append_left hlt] at hk
            have z := e4.2.2 k r hk
            have nD : r ≠ D := fun q => e2 (q ▸ List.mem_of_getElem? hk)
            rw [upd_ne nD, upd_ne (ne_of_none z np)]
            exact z
          · rw [List.getElem?_append_right (by omega)] at hk
            have hk' : k = rs.length := by
              have := (List.getElem?_eq_some_iff.mp hk).1
              simp at this
              omega
            subst hk'
            rw [Nat.sub_self] at hk
            obtain rfl : p = r := Option.some.inj hk
            rw [upd_ne hpD.symm, upd_same]
            rfl
    · obtain ⟨sm, rs, e1, e2, e3, e4⟩ := h
      refine ⟨_, rfl, p, rfl, ⟨_, SqL.of (sm _ _ h1)⟩, for_list (K := K) (a := p) (xs := ts.map V.ref) (fun i σ H' => ∃ (o3 o4 : Option V), σ = [some (.int n), some (.ref p), some (.ref D), o3, o4, none] ∧
        Same H H' ∧ H' D = some (.lst (rs.map V.ref)) ∧ Grow H' rs n (es.take i)) ⟨none, none, rfl, sm, e1, e4⟩ (fun i σ H' _ h => ?_) (fun i y σ H' hi h => ?_) (fun σ H' h => ?_)⟩
      · obtain ⟨_, _, _, sm, _, _⟩ := h
        exact SqL.of (sm _ _ h1)
      · obtain ⟨o3, o4, rfl, sm, e1, e4⟩ := h
        obtain ⟨t, ht, rfl⟩ := refAt hi
        obtain ⟨e, he, hte⟩ := h2.2 i t ht
        have good := ge.node e (List.mem_of_getElem? he)
        have few := ge.few
        have hte' := sm _ _ hte
        have lt := (List.getElem?_eq_some_iff.mp he).1
        obtain ⟨r1, q1, a1, b1⟩ := e4.at (i := e.1) good.1 (by omega)
        obtain ⟨r2, q2, a2, b2⟩ := e4.at (i := e.2) (by omega) good.2.2
        have n12 : r2 ≠ r1 := nodupAt e4.2.1 q2 q1 (by omega)
        have l1 := rowOf_len (es.take i) e.1
        have l2 := rowOf_len (es.take i) e.2
        rw [List.length_take] at l1 l2
        have fr1 := e3 r1 (List.mem_of_getElem? q1)
        have fr2 := e3 r2 (List.mem_of_getElem? q2)
        have nD1 : D ≠ r1 := fun q => e2 (q ▸ List.mem_of_getElem? q1)
        have nD2 : D ≠ r2 := fun q => e2 (q ▸ List.mem_of_getElem? q2)
        refine ⟨t, _, rfl, SqT.of hte', rfl, _, _, rfl, _, _, rfl, rfl, ?_⟩
        refine ⟨_, rfl, _, rfl, D, _, e.1, _, rfl, rfl, SqL.of e1, a1, .inl ⟨rfl, _, SqL.of b1⟩, _, rfl, r1, _, _, rfl, rfl, b1, by rw [List.length_map, sizeLine_eq]; omega, ?_⟩
        have e1' : (upd H' r1 (.lst ((rowOf (es.take i) e.1).map V.int ++ [V.int e.2]))) D = some (.lst (rs.map V.ref)) := by
          rw [upd_ne nD1]
          exact e1
        have b2' : (upd H' r1 (.lst ((rowOf (es.take i) e.1).map V.int ++ [V.int e.2]))) r2 = some (.lst ((rowOf (es.take i) e.2).map V.int)) := by
          rw [upd_ne n12]
          exact b2
        refine ⟨_, rfl, _, rfl, D, _, e.2, _, rfl, rfl, SqL.of e1', a2, .inl ⟨rfl, _, SqL.of b2'⟩, _, rfl, r2, _, _, rfl, rfl, b2', by rw [List.length_map, sizeLine_eq]; omega, ?_⟩
        refine ⟨_, _, rfl, fun b o z => ?_, ?_, e4.more he good q1 q2⟩
        · rw [upd_ne (ne_of_none z fr2), upd_ne (ne_of_none z fr1)]
          exact sm _ _ z
        · rw [upd_ne nD2]
          exact e1'
      · obtain ⟨o3, o4, rfl, sm, e1, e4⟩ := h
        rw [List.length_map, h2.1, List.take_length] at e4
        refine ⟨_, rfl, k D H' hD sm fun H3 h3 => ⟨rs, h3 D _ hD e1, ?_, fun k0 r0 e0 => ?_⟩⟩
        · rw [linksLen]
          exact e4.1
        · have hk : k0 < n := by
            rw [← e4.1]
            exact (List.getElem?_eq_some_iff.mp e0).1
          rw [linksAt hk]
          exact h3 r0 _ (e3 r0 (List.mem_of_getElem? e0)) (e4.2.2 k0 r0 e0)
theorem sc_flipped : FnScope ["_law_links_here", "_law_here", "_law_node", "_law_later", "_law_other"] ["_law_links_here", "_law_here", "_law_node"] (defScope s__law_flipped) := ⟨rfl, rfl, rfl, by decide +kernel, rfl, by decide +kernel, by decide +kernel⟩
theorem ok_flipped {f : Addr} {fd : FuncData} (F : Fun K "_law_flipped" "_law_flipped" s__law_flipped f fd) (M : Nms mg) : FnOk P w K mg base CX0 1 f fd ["_law_links_here", "_law_here", "_law_node"] (spFlipped K) := by
  refine F.ok sc_flipped (fun vs H Q E h => ?_) (fun cdv A outer s H vs Q E hr h => ?_)
  · obtain ⟨nr, h, N, x, v, rfl, _⟩ := h
    rfl
  · obtain ⟨nr, h, N, x, v, rfl, hN, wf, hx, hl, h0, h1, k⟩ := h
    have nd := sc_flipped.nd
    refine ⟨_, (pss_cons (ps_set (i := 3) nd rfl (Or.inl rfl) (pe_callTy call_list_of (by rfl) M.list (by decide +kernel) (pa_cons (pv 1) pa_nil)))
      (pss_cons (ps_for PassesOwn.never rfl (pi_list (pe_ix (r := rIxL K) ix_list (pv 0) (pv 2) (fun _ _ => rfl))) (pg_name (i := 4) nd rfl (Or.inl rfl)) (pss_one (ps_augS (pv 3) (pv 4) pget_list (pe_ix (r := rIxL K) ix_list (pv 1) (pv 2) (fun _ _ => rfl)) ip_add set_list)))
      (pss_cons (ps_asg (pe_op op_sub pe_int (pe_ix (r := rIxL K) ix_list (pv 1) (pv 2) (fun _ _ => rfl))) (pg_sub (pv 3) (pv 2) set_list))
      (pss_one (ps_ret (pv 3)))))), ?_⟩
    refine ⟨_, rfl, h, _, rfl, .inl (SqL.of hx), fun p np => ?_⟩
    have sp := same_upd np (o := .lst (x.map V.int))
    have hNp := hN.same sp
    obtain ⟨xs, r, g1, g2, g3⟩ := hNp.row h0 h1
    have hxp := sp _ _ hx
    have wfv := wf v.toNat (by omega)
    have r0 : r ≠ p := by
      obtain ⟨xs', r', q1, q2, q3⟩ := hN.row h0 h1
      obtain rfl : xs = xs' := by
        have z := sp _ _ q1
        rw [g1] at z
        injection z with z
        injection z
      obtain rfl : r = r' := by
        rw [g2] at q2
        injection q2 with q2
        injection q2
      exact ne_of_none q3 np
    have h0p : h ≠ p := ne_of_none hx np
    have pv1 : ∀ H', (∀ b, b ≠ p → H' b = (upd H p (.lst (x.map V.int))) b) → SqL K H' h (x.map V.int) := fun H' e => SqL.of ((e h h0p).trans hxp)
    refine ⟨_, rfl, _, rfl, nr, xs, v, _, rfl, rfl, SqL.of g1, g2, r, rfl, ⟨_, SqL.of g3⟩, for_list (K := K) (a := r) (xs := (N.getD v.toNat []).map V.int) (fun i σ H' => ∃ o4 : Option V, σ = [some (.ref nr), some (.ref h), some (.int v), some (.ref p), o4] ∧
      H' p = some (.lst ((((N.getD v.toNat []).take i).foldl (fun y o => y.set o.toNat (y.getD o.toNat 0 + x.getD v.toNat 0)) x).map V.int)) ∧ ∀ b, b ≠ p → H' b = (upd H p (.lst (x.map V.int))) b)
      ⟨none, rfl, upd_same, fun b _ => rfl⟩ (fun i σ H' _ h => ?_) (fun i y σ H' hi h => ?_) (fun σ H' h => ?_)⟩
    · obtain ⟨o4, _, _, h3⟩ := h
      exact SqL.of ((h3 r r0).trans g3)
    · obtain ⟨o4, rfl, e1, e2⟩ := h
      obtain ⟨o, ho, rfl⟩ := intsAt hi
      have hb := wfv o (List.mem_of_getElem? ho)
      have hl2 := foldSetLen (x.getD v.toNat 0) ((N.getD v.toNat []).take i) x
      have hb' : o < (((N.getD v.toNat []).take i).foldl (fun y o => y.set o.toNat (y.getD o.toNat 0 + x.getD v.toNat 0)) x).length := by
        rw [hl2, hl]
        exact hb.2
      refine ⟨_, rfl, _, rfl, p, _, o, _, rfl, rfl, SqL.of e1, atInt hb.1 hb', _, rfl, _, rfl, h, _, v, _, rfl, rfl, pv1 H' e2, atInt h0 (by rw [hl]; exact h1), _, _, rfl, rfl, ?_⟩
      refine ⟨p, _, o, _, rfl, rfl, e1, ixInt hb.1 hb', ?_⟩
      refine ⟨_, rfl, ?_, fun b hb2 => by rw [upd_ne hb2]; exact e2 b hb2⟩
      rw [upd_same, takeMore ho, List.foldl_append, mapSet]
      rfl
    · obtain ⟨o4, rfl, e1, e2⟩ := h
      rw [List.length_map, List.take_length] at e1
      have hl2 := foldSetLen (x.getD v.toNat 0) (N.getD v.toNat []) x
      refine ⟨_, rfl, _, rfl, h, _, v, _, rfl, rfl, pv1 H' e2, atInt h0 (by rw [hl]; exact h1), _, _, rfl, rfl, ?_⟩
      refine ⟨_, rfl, _, rfl, p, _, v, _, rfl, rfl, e1, ixInt h0 (by rw [hl2, hl]; exact h1), ?_⟩
      refine ⟨_, rfl, k p _ np (fun b o e => ?_) ?_⟩
      · have z := ne_of_none e np
        rw [upd_ne z, e2 b z, upd_ne z]
        exact e
      · rw [upd_same, mapSet]
        unfold flipL
        rw [Int.zero_sub]
end

end K66

set_option Elab.async false
set_option linter.all false
set_option maxRecDepth 100000
set_option maxHeartbeats 8000000
namespace K66
open PySem PySem.Spec PyProof.Rows L2 FNX
/-! ## is_link -/
def linkD (N : List (List Int)) (d : PyData) (x y : List Int) : Bool := match d with
  | .list ds => ds.all (isNode N.length) && decide (fireL N (ds.map nodeOf) x = y)
  | _ => false
theorem linkNo {N : List (List Int)} {ds : List PyData} {x y : List Int} {i : Nat} {d : PyData} (hi : ds[i]? = some d) (h : isNode N.length d = false) : linkD N (.list ds) x y = false := by
  have e : ds.all (isNode N.length) = false := List.all_eq_false.mpr ⟨d, List.mem_of_getElem? hi, by rw [h]; decide⟩
  show (ds.all (isNode N.length) && _) = false
  rw [e, Bool.false_and]
theorem linkYes {N : List (List Int)} {l : List Nat} {x y : List Int} (hl : ∀ v ∈ l, v < N.length) : linkD N (.list (natD l)) x y = decide (fireL N l x = y) := by
  show ((natD l).all (isNode N.length) && decide (fireL N ((natD l).map nodeOf) x = y)) = _
  rw [nodeOfNatD, List.all_eq_true.mpr (fun d hd => by
    obtain ⟨v, hv, rfl⟩ := List.mem_map.mp hd
    rw [isNodeNat, decide_eq_true (hl v hv)]), Bool.true_and]
def spIsLink (K : PySem.W.Frag) (CG CP : Addr) : Sp := fun vs H Q E => ∃ g N qv dp ov dv tv d, vs = [.ref g, qv, ov, tv] ∧ GAt CG H g N ∧ WF N ∧ N.length ≤ 1000 ∧ Rd K H qv dp ∧ lenD dp ≤ 100000 ∧ Rd K H ov dv ∧ lenD dv ≤ 100000 ∧ Rd K H tv d ∧ lenD d ≤ 1000 ∧ (isIL N.length dp = false → told CP qv H E) ∧
  ∀ x, dp = posD x → x.length = N.length → (isIL N.length dv = false → told CP ov H E) ∧ ∀ y, dv = posD y → y.length = N.length → ∀ H', Same H H' → Q (.bl (linkD N d x y)) H'
def spNumW : Sp := fun vs H Q _ => ∃ (p : Addr) (b : Bool), vs = [.ref p, .bl b] ∧ PoolAt H p ∧ ∀ r H', r.natAbs ≤ 1000000000000000000000000000000 → SameX p H H' → PoolAt H' p → Q (.int r) H'
def spNumsW : Sp := fun vs H Q _ => ∃ (p : Addr) (n : Nat) (b : Bool), vs = [.ref p, .int n, .bl b] ∧ PoolAt H p ∧ n ≤ 1000 ∧ ∀ q H' (x : List Int), H q = none → SameX p H H' → PoolAt H' p → H' q = some (.lst (x.map V.int)) → x.length = n → (∀ o ∈ x, o.natAbs ≤ 1000000000000000000000000000000) → Q (.ref q) H'
def spDue66 (K : PySem.W.Frag) : Sp := fun vs H Q _ => ∃ (nr h t : Addr) (n : Nat) (es : List (Int × Int)) (N : List (List Int)) (x y : List Int) (tv : V) (d : PyData), vs = [.ref nr, .ref h, .ref t, tv] ∧ NAt H nr (linksL n es) ∧ IsNear n es N ∧ GoodE n es ∧ n ≤ 1000 ∧
  H h = some (.lst (x.map V.int)) ∧ x.length = n ∧ H t = some (.lst (y.map V.int)) ∧ Rd K H tv d ∧ lenD d ≤ 1000 ∧ ∀ H', Same H H' → Q (.bl (linkD N d x y)) H'
def spBent66 (K : PySem.W.Frag) : Sp := fun vs H Q _ => ∃ (p r : Addr) (n : Nat) (l : List Nat), vs = [.ref p, .ref r, .int n] ∧ PoolAt H p ∧ H r = some (.lst (natV l)) ∧ r ≠ p ∧ l.length ≤ 13 ∧ 1 ≤ n ∧ n ≤ 16 ∧ (∀ v ∈ l, v < n) ∧
  ∀ tv d H', SameX p H H' → PoolAt H' p → (∀ H2, SameX p H' H2 → Rd K H2 tv d) → lenD d ≤ 41 → Shw 3 1000 d → Q tv H'
def spAsked (K : PySem.W.Frag) (CG : Addr) : Sp := fun vs H Q _ => ∃ g N v1 d1 v2 d2 w, vs = [.ref g, v1, v2] ∧ GAt CG H g N ∧ WF N ∧ N.length ≤ 1000 ∧ Rd K H v1 d1 ∧ lenD d1 ≤ 100000 ∧ Rd K H v2 d2 ∧ lenD d2 ≤ 100000 ∧
  ((isIL N.length d1 = false ∧ w = v1) ∨ (∃ x, d1 = posD x ∧ x.length = N.length ∧ isIL N.length d2 = false ∧ w = v2)) ∧ ∀ p H', H p = none → Same H H' → H' p = some (.lst [w]) → Q (.ref p) H'
section
variable {P : Program} {w : World} {K : PySem.W.Frag} {mg : Str → Option Value} {base : Heap} {CG CP : Addr}
theorem sc_islink : FnScope ["graph", "position", "other", "thing", "near", "numbers", "node"] ["graph", "position", "other", "thing"] (defScope s_is_link) := ⟨rfl, rfl, rfl, by decide +kernel, rfl, by decide +kernel, by decide +kernel⟩
theorem ok_islink {f : Addr} {fd : FuncData} (F : Fun K "is_link" "is_link" s_is_link f fd) (T : GTxt K mg CG) (M : Nms mg)
    (GS : MAt P w K mg base CG CX0 1 "size" ["self"] (spSize CG)) (GP : At P w K mg base (L2.CX P w) 3 "check_position" ["size", "position"] (spCheckPos K CP))
    (GA : At P w K mg base CX0 6 "all_neighbours" ["graph"] (spAll CG)) (GL : At P w K mg base CX0 4 "is_node_list" ["size", "thing"] (spNodeList K))
    (GF : At P w K mg base CX0 1 "flip_in_place" ["numbers", "node", "near"] spFlip) : FnOk P w K mg base (L2.CX P w) 7 f fd ["graph", "position", "other", "thing"] (spIsLink K CG CP) := by
  obtain ⟨fS, fdS, GS, mS, bS⟩ := GS
  obtain ⟨fP, fdP, GP, mP, kP, bP⟩ := GP
  obtain ⟨fA, fdA, GA, mA, kA, bA⟩ := GA
  obtain ⟨fL, fdL, GL, mL, kL, bL⟩ := GL
  obtain ⟨fF, fdF, GF, mF, kF, bF⟩ := GF
  refine F.okX sc_islink (fun vs H Q E h => ?_) (fun cdv A outer s H vs Q E hr h => ?_)
  · obtain ⟨g, N, qv, dp, ov, dv, tv, d, rfl, _⟩ := h
    rfl
  · obtain ⟨g, N, qv, dp, ov, dv, tv, d, rfl, hg, wf, hN, hp, hpl, hv, hvl, hd, hdl, kE, kk⟩ := h
    have nd := sc_islink.nd
    have hr1 : Room 1 _ := hr.mono (by decide)
    have hr3 : Room 3 _ := hr.mono (by decide)
    have hr4 : Room 4 _ := hr.mono (by decide)
    have hr6 := hr
    have hu64 : A.units + 3 + 64 < cLine := hr.units
    refine ⟨_, (pss_cons (ps_expr (pe_call GP hr3 (by rfl) mP kP bP .nil (passes_call (E := E) (takes_of rfl rfl rfl rfl) (fun _ _ _ _ h => h)) (pa_cons (pe_meth0 (pv 0) T.cl mS GS hr1 bS .nil pass0) (pa_cons (pv 1) pa_nil))))
      (pss_cons (ps_expr (pe_call GP hr3 (by rfl) mP kP bP .nil (passes_call (E := E) (takes_of rfl rfl rfl rfl) (fun _ _ _ _ h => h)) (pa_cons (pe_meth0 (pv 0) T.cl mS GS hr1 bS .nil pass0) (pa_cons (pv 2) pa_nil))))
      (pss_cons (ps_if (pt_not (pt_val (pe_call GL hr4 (by rfl) mL kL bL .nil pass0 (pa_cons (pe_meth0 (pv 0) T.cl mS GS hr1 bS .nil pass0) (pa_cons (pv 3) pa_nil))))) (pss_one (ps_ret pe_bl)) pss_nil)
      (pss_cons (ps_set (i := 4) nd rfl (Or.inl rfl) (pe_call GA hr6 (by rfl) mA kA bA .nil pass0 (pa_cons (pv 0) pa_nil)))
      (pss_cons (ps_set (i := 5) nd rfl (Or.inl rfl) (pe_callTy call_list_of (by rfl) M.list (by decide +kernel) (pa_cons (pv 1) pa_nil)))
      (pss_cons (ps_for PassesOwn.leaving rfl (pi_list (pv 3)) (pg_name (i := 6) nd rfl (Or.inl rfl)) (pss_one (ps_expr (pe_call GF hr1 (by rfl) mF kF bF .nil pass0 (pa_cons (pv 5) (pa_cons (pv 6) (pa_cons (pe_ix (r := rIxL K) ix_list (pv 4) (pv 6) (fun _ _ => rfl)) pa_nil)))))))
      (pss_one (ps_ret (pe_cmpR (op_eqD hu64) (pv 5) (pv 2) (nomark _)))))))))), ?_⟩
    obtain ⟨dx, j, nr, g1, g2⟩ := id hg
    refine ⟨_, rfl, g, dx, _, rfl, g1, rfl, g, N, rfl, hg, _, rfl, qv, dp, N.length, rfl, hp, hpl, fun H1 s1 hil => ?_, fun H' dd sm nd hx hil => kE hil H' dd sm nd hx⟩
    obtain ⟨x, rfl, hxl⟩ := ilD hil
    obtain ⟨k1, k2⟩ := kk x rfl hxl
    obtain ⟨p, rfl, hx⟩ := rdPos hp
    refine ⟨_, rfl, g, dx, _, rfl, s1 _ _ g1, rfl, g, N, rfl, hg.same s1, _, rfl, ov, dv, N.length, rfl, rdSame s1 hv, hvl, fun H2 s2 hil2 => ?_, fun H' dd sm nd hx hil => k1 hil H' dd (s1.trans sm) (s1.free nd) hx⟩
    obtain ⟨y, rfl, hyl⟩ := ilD hil2
    have k3 := k2 y rfl hyl
    obtain ⟨q, rfl, hy⟩ := rdPos hv
    have s12 := s1.trans s2
    refine ⟨_, rfl, g, dx, _, rfl, s12 _ _ g1, rfl, g, N, rfl, hg.same s12, _, rfl, tv, d, N.length, rfl, rdSame s12 hd, by omega, fun H3 s3 => ⟨_, rfl, ?_⟩⟩
    have s13 := s12.trans s3
    by_cases hnl : isNL N.length d = true
    case neg =>
      have e : isNL N.length d = false := by simpa using hnl
      rw [e]
      have ef : linkD N d x y = false := by
        cases d with
        | list ds =>
          have e : ds.all (isNode N.length) = false := e
          show (ds.all (isNode N.length) && _) = false
          rw [e, Bool.false_and]
        | _ => rfl
      have z := k3 H3 s13
      rw [ef] at z
      exact iteT z
    rw [hnl]
    refine iteF ?_
    cases d with
    | list ds =>
      have hall : ds.all (isNode N.length) = true := hnl
      obtain ⟨ed, bnd⟩ := natsOf hall
      have hdl : ds.length ≤ 1000 := hdl
      generalize hl : ds.map nodeOf = l at ed bnd
      subst ed
      rw [linkYes bnd] at k3
      obtain ⟨t, rfl, ht⟩ := rdNats hd
      refine ⟨_, rfl, g, N, rfl, hg.same s13, hN, fun nb H4 nn s4 hnb => ?_⟩
      have s14 := s13.trans s4
      refine ⟨_, rfl, p, _, rfl, .inl (s14.seq hx), fun a na => ?_⟩
      obtain ⟨H5, q5, s5, h5⟩ := newAt (.lst (x.map V.int)) na
      rw [q5]
      have s15 := s14.trans s5
      have faH : H a = none := s14.free na
      have nat : ∀ H', (∀ b o, b ≠ a → H5 b = some o → H' b = some o) → SqL K H' t (natV l) := fun H' e => by
        rcases ht with (ht | ⟨o, ht⟩) | ht
        · exact .inl (.inl (e _ _ (ne_of_none ht faH) (s15 _ _ ht)))
        · exact .inl (.inr ⟨o, e _ _ (ne_of_none ht faH) (s15 _ _ ht)⟩)
        · exact .inr ht
      refine ⟨_, rfl, t, rfl, ⟨_, sqLSame ht s15⟩, for_list (K := K) (a := t) (xs := natV l) (fun i σ H' => ∃ o6 : Option V, σ = [some (.ref g), some (.ref p), some (.ref q), some (.ref t), some (.ref nb), some (.ref a), o6] ∧ SameX a H5 H' ∧ H' a = some (.lst ((fireL N (l.take i) x).map V.int)))
        ⟨none, rfl, SameX.refl, h5⟩ (fun i σ H' _ h => ?_) (fun i z σ H' hi h => ?_) (fun σ H' h => ?_)⟩
      · obtain ⟨_, _, sm, _⟩ := h
        exact nat _ sm
      · obtain ⟨o6, rfl, sm, e⟩ := h
        obtain ⟨v, hv2, rfl⟩ := natAt hi
        have lv := bnd v (List.mem_of_getElem? hv2)
        obtain ⟨xs, r2, e1, e2, e3⟩ := hnb.row (i := (v : Int)) (by omega) (by omega)
        have ev : ((v : Int)).toNat = v := by omega
        rw [ev] at e3
        have n1 := ne_of_none e1 na
        have n2 := ne_of_none e3 na
        have ll := fireLen N (l.take i) x
        refine ⟨_, rfl, _, rfl, _, rfl, _, rfl, nb, xs, _, _, rfl, rfl, SqL.of (sm _ _ n1 (s5 _ _ e1)), e2, a, r2, _, N.getD v [], (v : Int), rfl, e, sm _ _ n2 (s5 _ _ e3), n2.symm, by omega, by omega, fun o ho => ?_, fun H6 e6 s6 => ?_⟩
        · have z := wf v lv o ho
          rw [ll, hxl]
          exact z
        · refine ⟨_, rfl, sm.trans (sameX_take s6), ?_⟩
          rw [e6, ev, fireMore hv2]
      · obtain ⟨o6, rfl, sm, e⟩ := h
        rw [natLen, List.take_length] at e
        have s2e : Same H H' := fun b o z => sm b o (ne_of_none z faH) (s15 _ _ z)
        rcases rdPos (rdSame s2e hv) with ⟨q', eq', hy'⟩
        obtain rfl : q = q' := by injection eq'
        refine ⟨_, rfl, _, rfl, posD (fireL N l x), posD y, .lst (SqL.of e) (dpInts _), .lst hy' (dpInts _), shapedInts _, shapedInts _, ?_⟩
        rw [eqvInts]
        exact k3 H' s2e
    | _ => cases hnl
theorem sc_numw : FnScope ["_law_pool_here", "_law_wide", "_law_far"] ["_law_pool_here", "_law_wide"] (defScope s__law_number) := ⟨rfl, rfl, rfl, by decide +kernel, rfl, by decide +kernel, by decide +kernel⟩
theorem ok_numw {f : Addr} {fd : FuncData} (F : Fun K "_law_number" "_law_number" s__law_number f fd) (G : At P w K mg base CX0 1 "_law_take" ["_law_pool_here", "_law_many"] spTake) : FnOk P w K mg base CX0 2 f fd ["_law_pool_here", "_law_wide"] spNumW := by
  obtain ⟨fT, fdT, GT, mT, kT, bT⟩ := G
  refine F.ok sc_numw (fun vs H Q E h => ?_) (fun cdv A outer s H vs Q E hr h => ?_)
  · obtain ⟨p, b, rfl, _⟩ := h
    rfl
  · obtain ⟨p, b, rfl, hp, k⟩ := h
    have nd := sc_numw.nd
    have hr1 := hr
    refine ⟨_, (pss_cons (ps_if (pt_not (pt_val (pv 1))) (pss_one (ps_ret (pe_op op_sub (pe_call GT hr1 (by rfl) mT kT bT .nil pass0 (pa_cons (pv 0) (pa_cons pe_int pa_nil))) pe_int))) pss_nil)
      (pss_cons (ps_set (i := 2) nd rfl (Or.inl rfl) (pe_op op_sub (pe_op op_add (pe_op op_mul (pe_call GT hr1 (by rfl) mT kT bT .nil pass0 (pa_cons (pv 0) (pa_cons (pe_op op_pow pe_int pe_int) pa_nil))) (pe_op op_pow pe_int pe_int)) (pe_call GT hr1 (by rfl) mT kT bT .nil pass0 (pa_cons (pv 0) (pa_cons (pe_op op_pow pe_int pe_int) pa_nil)))) (pe_op op_mul pe_int (pe_op op_pow pe_int pe_int))))
      (pss_one (ps_ret (pe_ix (r := rIxL K) ix_list (pe_lst (pa_cons (pe_op op_sub (pe_call GT hr1 (by rfl) mT kT bT .nil pass0 (pa_cons (pv 0) (pa_cons pe_int pa_nil))) pe_int) (pa_cons pe_int (pa_cons (pv 2) (pa_cons (pe_op op_fdivW (pv 2) (pe_op op_pow pe_int pe_int)) pa_nil))))) (pe_call GT hr1 (by rfl) mT kT bT .nil pass0 (pa_cons (pv 0) (pa_cons pe_int pa_nil))) (fun _ _ => rfl)))))), ?_⟩
    refine ⟨_, rfl, _, rfl, ?_⟩
    cases b with
    | false =>
      refine iteT ⟨_, rfl, p, 9, rfl, hp, by decide, by decide, fun r H1 r0 r1 hp1 t1 => ⟨_, _, rfl, rfl, k _ H1 (by omega) (sameX_take t1) hp1⟩⟩
    | true =>
      refine iteF ?_
      refine ⟨_, rfl, _, _, rfl, rfl, ⟨by decide, by decide, by decide⟩, p, 1000000000, rfl, hp, by decide, by decide, fun r H1 r0 r1 hp1 t1 => ?_⟩
      refine ⟨_, _, rfl, rfl, ⟨by decide, by decide, by decide⟩, _, _, rfl, rfl, .inl ⟨by omega, by omega⟩, ?_⟩
      refine ⟨_, rfl, _, _, rfl, rfl, ⟨by decide, by decide, by decide⟩, p, 1000000000, rfl, hp1, by decide, by decide, fun r2 H2 r20 r21 hp2 t2 => ?_⟩
      refine ⟨_, _, rfl, rfl, _, _, rfl, rfl, ⟨by decide, by decide, by decide⟩, _, _, rfl, rfl, .inl ⟨by decide, by decide⟩, _, _, rfl, rfl, ?_⟩
      obtain ⟨far, hfar⟩ : ∃ far : Int, r * 10 ^ (20 : Int).toNat + r2 - 5 * 10 ^ (28 : Int).toNat = far := ⟨_, rfl⟩
      have e20 : (10 : Int) ^ (20 : Int).toNat = 100000000000000000000 := by decide +kernel
      have e28 : (5 : Int) * 10 ^ (28 : Int).toNat = 50000000000000000000000000000 := by decide +kernel
      have hb : far.natAbs ≤ 1000000000000000000000000000000 := by
        rw [e20, e28] at hfar
        omega
      rw [show ((fun i j : Int => V.int (i - j)) (r * 10 ^ (20 : Int).toNat + r2) (5 * 10 ^ (28 : Int).toNat)) = V.int far from congrArg V.int hfar]
      refine ⟨_, rfl, p, 9, rfl, hp2, by decide, by decide, fun a H3 a0 a1 hp3 t3 => ⟨_, _, rfl, rfl, ?_⟩⟩
      refine ⟨_, rfl, _, rfl, _, _, rfl, rfl, ⟨by decide, by decide, by decide⟩, _, _, rfl, rfl, wide_div (b := 64) (by decide) (by decide) (by decide) (by decide), by show 4 ≤ sizeLine; decide, fun D nD => ?_⟩
      obtain ⟨H4, q4, s4, h4⟩ := newAt (.lst [V.int (a - 4), V.int 0, V.int far, V.int (far / 10 ^ (12 : Int).toNat)]) nD
      have q4' : upd H3 D (.lst [(fun i j : Int => V.int (i - j)) a 4, V.int 0, V.int far, (fun i j : Int => V.int (i / j)) far (10 ^ (12 : Int).toNat)]) = H4 := q4
      rw [q4']
      refine ⟨_, rfl, p, 4, rfl, hp3.same s4, by decide, by decide, fun e H5 e0 e1 hp5 t5 => ?_⟩
      have pD : D ≠ p := (hp3.ne nD).symm
      have h5 := (t5 D pD).trans h4
      have sx : SameX p H H5 := ((((sameX_take t1).trans (sameX_take t2)).trans (sameX_take t3)).trans (Same.x s4)).trans (sameX_take t5)
      have e12 : (10 : Int) ^ (12 : Int).toNat = 1000000000000 := by decide +kernel
      obtain rfl | rfl | rfl | rfl : e = 0 ∨ e = 1 ∨ e = 2 ∨ e = 3 := by omega
      · exact ⟨D, _, _, _, rfl, rfl, SqL.of h5, rfl, k _ H5 (by omega) sx hp5⟩
      · exact ⟨D, _, _, _, rfl, rfl, SqL.of h5, rfl, k _ H5 (by decide) sx hp5⟩
      · exact ⟨D, _, _, _, rfl, rfl, SqL.of h5, rfl, k _ H5 hb sx hp5⟩
      · refine ⟨D, _, _, _, rfl, rfl, SqL.of h5, rfl, k _ H5 ?_ sx hp5⟩
        rw [e12]
        omega
theorem sc_numsw : FnScope ["_law_pool_here", "_law_many", "_law_wide", "_law_node"] ["_law_pool_here", "_law_many", "_law_wide"] (defScope s__law_numbers) := ⟨rfl, rfl, rfl, by decide +kernel, rfl, by decide +kernel, by decide +kernel⟩
theorem ok_numsw {f : Addr} {fd : FuncData} (F : Fun K "_law_numbers" "_law_numbers" s__law_numbers f fd) (M : Nms mg) (G : At P w K mg base CX0 2 "_law_number" ["_law_pool_here", "_law_wide"] spNumW) : FnOk P w K mg base CX0 3 f fd ["_law_pool_here", "_law_many", "_law_wide"] spNumsW := by
  obtain ⟨fN, fdN, GN, mN, kN, bN⟩ := G
  refine F.ok sc_numsw (fun vs H Q E h => ?_) (fun cdv A outer s H vs Q E hr h => ?_)
  · obtain ⟨p, n, b, rfl, _⟩ := h
    rfl
  · obtain ⟨p, n, b, rfl, hp, n1, k⟩ := h
    have nd := sc_numsw.nd
    have hr2 := hr
    refine ⟨_, (pss_one (ps_ret (pe_lc (own := [("_law_node", 3)]) (g := gName 3) (tt := tYes) rfl nd (pi_range1 rfl M.range (pa_cons (pv 1) pa_nil)) (blkOk_by (own := [("_law_node", 3)]) (N := ["_law_pool_here", "_law_many", "_law_wide", "_law_node"]) (sc := defScope s__law_numbers) (by decide +kernel)) (fun _ _ _ _ _ => pg_name (i := 3) nd rfl (Or.inl rfl)) (fun _ _ _ _ _ => pts_nil) (fun _ _ _ _ _ => (pe_call GN hr2 (by rfl) mN kN bN .nil pass0 (pa_cons (pv 0) (pa_cons (pv 2) pa_nil))))))), ?_⟩
    refine ⟨_, rfl, n, rfl, by omega, by omega, fun D hD => ?_⟩
    have pD := hp.ne hD
    refine lc_range (lo := 0) (fun i H' => SameX p H H' ∧ PoolAt H' p ∧ ∃ x : List Int, H' D = some (.lst (x.map V.int)) ∧ x.length = i ∧ ∀ o ∈ x, o.natAbs ≤ 1000000000000000000000000000000)
      ⟨Same.x (same_upd hD), hp.same (same_upd hD), [], upd_same, rfl, by simp⟩ (fun i H' hi h => ?_) (fun H' h => ?_)
    · obtain ⟨sx, hpp, x, e1, e2, e3⟩ := h
      refine ⟨rfl, ?_⟩
      refine ⟨_, rfl, _, rfl, p, b, rfl, hpp, fun r H2 hr2 s2 hp2 => ?_⟩
      have hD2 : H2 D = some (.lst (x.map V.int)) := s2 _ _ pD.symm e1
      refine ⟨_, hD2, by rw [List.length_map, e2, sizeLine_eq]; omega, fun b o hb e => ?_, ?_, x ++ [r], by rw [upd_same, List.map_append]; rfl, by rw [List.length_append, e2]; rfl, fun o ho => ?_⟩
      · rw [upd_ne (ne_of_none e hD)]
        exact s2 _ _ hb (sx b o hb e)
      · obtain ⟨c1, c2, z, y⟩ := hp2
        exact ⟨c1, c2, by rw [upd_ne pD]; exact z, y⟩
      · rcases List.mem_append.mp ho with ho | ho
        · exact e3 o ho
        · rw [List.mem_singleton.mp ho]
          exact hr2
    · obtain ⟨sx, hpp, x, e1, e2, e3⟩ := h
      exact k D H' x hD sx hpp e1 (by omega) e3
theorem sc_due66 : FnScope ["_law_links_here", "_law_here", "_law_there", "_law_thing", "_law_node"] ["_law_links_here", "_law_here", "_law_there", "_law_thing"] (defScope s__law_due) := ⟨rfl, rfl, rfl, by decide +kernel, rfl, by decide +kernel, by decide +kernel⟩
theorem ok_due66 {f : Addr} {fd : FuncData} (F : Fun K "_law_due" "_law_due" s__law_due f fd) (M : Nms mg) (GF : At P w K mg base CX0 1 "_law_flipped" ["_law_links_here", "_law_here", "_law_node"] (spFlipped K)) : FnOk P w K mg base CX0 2 f fd ["_law_links_here", "_law_here", "_law_there", "_law_thing"] (spDue66 K) := by
  obtain ⟨fF, fdF, GF, mF, kF, bF⟩ := GF
  refine F.ok sc_due66 (fun vs H Q E h => ?_) (fun cdv A outer s H vs Q E hr h => ?_)
  · obtain ⟨nr, h, t, n, es, N, x, y, tv, d, rfl, _⟩ := h
    rfl
  · obtain ⟨nr, h, t, n, es, N, x, y, tv, d, rfl, hL, near, good, hn, hx, hl, hy, hd, hdl, k⟩ := h
    have nd := sc_due66.nd
    have hr1 := hr
    have hu64 : A.units + 3 + 64 < cLine := hr.units
    refine ⟨_, (pss_cons (ps_if (pt_not (pt_val (pe_callB call_isi (by rfl) M.isi boot_isi (pa_cons (pv 3) (pa_cons (pe_bltn (v := V.ty "list") rfl M.list (by decide +kernel) rfl) pa_nil))))) (pss_one (ps_ret pe_bl)) pss_nil)
      (pss_cons (ps_for PassesOwn.never rfl (pi_list (pv 3)) (pg_name (i := 4) nd rfl (Or.inl rfl)) (pss_cons (ps_if (PW.pt (pw_or (pt_not (pt_val (pe_callB call_isi (by rfl) M.isi boot_isi (pa_cons (pv 4) (pa_cons (pe_bltn (v := V.ty "int") rfl M.int (by decide +kernel) rfl) pa_nil))))) (pw_or (pt_val (pe_callB call_isi (by rfl) M.isi boot_isi (pa_cons (pv 4) (pa_cons (pe_bltn (v := V.ty "bool") rfl M.bool (by decide +kernel) rfl) pa_nil)))) (pw_or1 (pt_not (pt_chain op_le op_lt pe_int (pv 4) (pe_callB call_len_seq (by rfl) M.len boot_len1 (pa_cons (pv 0) pa_nil)))))))) (pss_one (ps_ret pe_bl)) pss_nil)
      (pss_one (ps_set (i := 1) nd rfl (Or.inl rfl) (pe_call GF hr1 (by rfl) mF kF bF .nil pass0 (pa_cons (pv 0) (pa_cons (pv 1) (pa_cons (pv 4) pa_nil))))))))
      (pss_one (ps_ret (pe_cmpR (op_eqD hu64) (pv 1) (pv 2) (nomark _)))))), ?_⟩
    have hNn : N.length = n := near.len
    refine ⟨_, rfl, tv, _, _, _, _, rfl, .ty _, rdTy hd, kitL K d, _, rfl, ?_⟩
    by_cases hli : isLst d = true
    case neg =>
      have e : isLst d = false := by simpa using hli
      rw [e]
      have z := k H (Same.refl H)
      rw [show linkD N d x y = false by cases d <;> first | rfl | cases e] at z
      exact iteT z
    rw [hli]
    refine iteF ?_
    cases d with
    | list ds =>
      obtain ⟨a, xs, rfl, hxs, hds⟩ := rdList hd
      have hlen := dpAllLen hds
      have hdl : ds.length ≤ 1000 := hdl
      refine ⟨_, rfl, a, rfl, ⟨_, hxs⟩, for_list (K := K) (a := a) (xs := xs) (fun i σ H' => ∃ (hh : Addr) (o4 : Option V) (l : List Nat), σ = [some (.ref nr), some (.ref hh), some (.ref t), some (.ref a), o4] ∧ Same H H' ∧
          l.length = i ∧ xs.take i = natV l ∧ ds.take i = natD l ∧ (∀ v ∈ l, v < n) ∧ H' hh = some (.lst ((fireL N l x).map V.int)))
        ⟨h, none, [], rfl, Same.refl H, rfl, rfl, rfl, by simp, hx⟩ (fun i σ H' _ h => ?_) (fun i z σ H' hi h => ?_) (fun σ H' h => ?_)⟩
      · obtain ⟨_, _, _, _, sm, _⟩ := h
        exact sqLSame hxs sm
      · obtain ⟨hh, o4, l, rfl, sm, ll, lx, ld, lb, eh⟩ := h
        have hii : i < xs.length := (List.getElem?_eq_some_iff.mp hi).1
        have hdy := dpAllAt hds hi
        obtain ⟨dy, hdi⟩ : ∃ dy, ds[i]? = some dy := ⟨ds[i]'(by omega), List.getElem?_eq_getElem (by omega)⟩
        have edy : ds.getD i .none = dy := by
          rw [List.getD_eq_getElem?_getD, hdi]
          rfl
        rw [edy] at hdy
        have rdy : Rd K H' z dy := .dat (dpSame sm _ _ hdy)
        have fail : isNode N.length dy = false → Q (.bl false) H' := fun e => by
          have z := k H' sm
          rw [linkNo hdi e] at z
          exact z
        refine ⟨_, rfl, z, _, _, _, _, rfl, .ty _, rdTy rdy, kitI K dy, _, rfl, ?_⟩
        by_cases hib : isIB dy = true
        case neg =>
          have e : isIB dy = false := by simpa using hib
          rw [e]
          exact iteT (fail (by cases dy <;> first | rfl | cases e))
        rw [hib]
        refine iteF ⟨_, rfl, z, _, _, _, _, rfl, .ty _, rdTy rdy, kitBo K dy, _, rfl, ?_⟩
        by_cases hbo : isB dy = true
        case pos =>
          rw [hbo]
          exact iteT (fail (by cases dy <;> first | rfl | cases hbo))
        have hbo : isB dy = false := by simpa using hbo
        rw [hbo]
        obtain ⟨iv, rfl⟩ : ∃ iv, dy = .int iv := by cases dy <;> first | exact ⟨_, rfl⟩ | (cases hib; done) | (cases hbo; done)
        obtain rfl := rdInt rdy
        obtain ⟨rows, hr1', hr2', hr3'⟩ := hL.same sm
        refine iteF ⟨_, rfl, _, _, rfl, rfl, _, rfl, ?_⟩
        have hnd : isNode N.length (.int iv) = (decide (0 ≤ iv) && decide (iv ≤ (N.length : Int) - 1)) := rfl
        by_cases c0 : 0 ≤ iv
        case neg =>
          rw [decide_eq_false c0]
          rw [decide_eq_false c0, Bool.false_and] at hnd
          exact iteF ⟨_, rfl, iteT (fail hnd)⟩
        rw [decide_eq_true c0]
        refine iteT ⟨_, rfl, nr, _, rfl, .inl (SqL.of hr1'), _, _, rfl, rfl, _, rfl, ?_⟩
        rw [List.length_map, hr2', linksLen]
        by_cases c1 : iv < (n : Int)
        case neg =>
          rw [decide_eq_false c1]
          rw [decide_eq_false (show ¬ iv ≤ (N.length : Int) - 1 by omega), Bool.and_false] at hnd
          exact iteT (fail hnd)
        rw [decide_eq_true c1]
        obtain ⟨v, rfl⟩ : ∃ v : Nat, iv = (v : Int) := ⟨iv.toNat, by omega⟩
        have hv : v < n := by omega
        have lf : (fireL N l x).length = n := by rw [fireLen]; exact hl
        refine iteF ⟨_, rfl, _, rfl, _, rfl, nr, hh, linksL n es, fireL N l x, (v : Int), rfl, hL.same sm, linksWF good, eh, by rw [linksLen]; exact lf, by omega, by rw [linksLen]; omega, fun q H2 nq s2 e2 => ?_⟩
        rw [show ((v : Int)).toNat = v by omega, linksAt hv, flipPerm (near.row v hv).symm (fun o ho => by rw [lf]; exact rowOf_mem good.node ho) (by omega)] at e2
        refine ⟨q, _, l ++ [v], rfl, sm.trans s2, by rw [List.length_append, ll]; rfl, ?_, ?_, fun u hu => ?_, ?_⟩
        · rw [takeMore hi, lx]
          unfold natV
          rw [List.map_append]
          rfl
        · rw [takeMore hdi, ld]
          unfold natD
          rw [List.map_append]
          rfl
        · rcases List.mem_append.mp hu with hu | hu
          · exact lb u hu
          · rw [List.mem_singleton.mp hu]
            exact hv
        · unfold fireL at e2 ⊢
          rw [List.foldl_append]
          exact e2
      · obtain ⟨hh, o4, l, rfl, sm, ll, lx, ld, lb, eh⟩ := h
        have ed : ds = natD l := (List.take_of_length_le (by omega)).symm.trans ld
        subst ed
        rw [linkYes (fun v hv => by rw [hNn]; exact lb v hv)] at k
        refine ⟨_, rfl, _, rfl, posD (fireL N l x), posD y, .lst (SqL.of eh) (dpInts _), .lst (SqL.of (sm _ _ hy)) (dpInts _), shapedInts _, shapedInts _, ?_⟩
        rw [eqvInts]
        exact k H' sm
    | _ => cases hli
end

end K66

set_option Elab.async false
set_option linter.all false
set_option maxRecDepth 100000
set_option maxHeartbeats 8000000
namespace K66
open PySem PySem.Spec PyProof.Rows L2 FNX
section
variable {P : Program} {w : World} {K : PySem.W.Frag} {mg : Str → Option Value} {base : Heap} {CG CP : Addr}
theorem sc_bent66 : FnScope ["_law_pool_here", "_law_nodes", "_law_many", "_law_at", "_law_one", "_law_new", "_law_menu"] ["_law_pool_here", "_law_nodes", "_law_many"] (defScope s__law_bent) := ⟨rfl, rfl, rfl, by decide +kernel, rfl, by decide +kernel, by decide +kernel⟩
theorem ok_bent66 {f : Addr} {fd : FuncData} (F : Fun K "_law_bent" "_law_bent" s__law_bent f fd) (M : Nms mg) (G : At P w K mg base CX0 1 "_law_take" ["_law_pool_here", "_law_many"] spTake) : FnOk P w K mg base CX0 2 f fd ["_law_pool_here", "_law_nodes", "_law_many"] (spBent66 K) := by
  obtain ⟨fT, fdT, GT, mT, kT, bT⟩ := G
  refine F.ok sc_bent66 (fun vs H Q E h => ?_) (fun cdv A outer s H vs Q E hr h => ?_)
  · obtain ⟨p, r, n, l, rfl, _⟩ := h
    rfl
  · obtain ⟨p, r, n, l, rfl, hp, hrr, hrp, hl, n1, n16, hb, k⟩ := h
    have nd := sc_bent66.nd
    have hr1 := hr
    refine ⟨_, (pss_cons (ps_set (i := 3) nd rfl (Or.inl rfl) (pe_call GT hr1 (by rfl) mT kT bT .nil pass0 (pa_cons (pv 0) (pa_cons (pe_op op_add (pe_callB call_len_seq (by rfl) M.len boot_len1 (pa_cons (pv 1) pa_nil)) pe_int) pa_nil))))
      (pss_cons (ps_set (i := 4) nd rfl (Or.inl rfl) (pe_call GT hr1 (by rfl) mT kT bT .nil pass0 (pa_cons (pv 0) (pa_cons (pv 2) pa_nil))))
      (pss_cons (ps_set (i := 5) nd rfl (Or.inl rfl) (pe_ix (r := rIxL K) ix_list (pe_lst (pa_cons (pv 4) (pa_cons (pv 2) (pa_cons (pe_un un_neg pe_int) (pa_cons pe_bl (pa_cons pe_non (pa_cons pe_str (pa_cons pe_int (pa_cons (pe_lst (pa_cons pe_int pa_nil)) pa_nil))))))))) (pe_call GT hr1 (by rfl) mT kT bT .nil pass0 (pa_cons (pv 0) (pa_cons pe_int pa_nil))) (fun _ _ => rfl)))
      (pss_cons (ps_set (i := 6) nd rfl (Or.inl rfl) (pe_lst (pa_cons (pv 1) (pa_cons (pe_op op_cat (pe_op op_cat (pe_slice sl_list (pv 1) po_none (po_some (pv 3))) (pe_lst (pa_cons (pv 4) (pa_cons (pv 4) pa_nil)))) (pe_slice sl_list (pv 1) (po_some (pv 3)) po_none)) (pa_cons (pe_op op_cat (pe_op op_cat (pe_slice sl_list (pv 1) po_none (po_some (pv 3))) (pe_lst (pa_cons (pv 5) pa_nil))) (pe_slice sl_list (pv 1) (po_some (pv 3)) po_none)) (pa_cons (pe_op op_cat (pe_slice sl_list (pv 1) po_none (po_some (pv 3))) (pe_slice sl_list (pv 1) (po_some (pe_op op_add (pv 3) pe_int)) po_none)) pa_nil))))))
      (pss_cons (ps_set (i := 6) nd rfl (Or.inl rfl) (pe_op op_cat (pv 6) (pe_lst (pa_cons (pe_revL (pv 1)) (pa_cons (pe_callTy call_tuple_of (by rfl) M.tuple (by decide +kernel) (pa_cons (pv 1) pa_nil)) (pa_cons pe_non (pa_cons pe_dnewK (pa_cons pe_str (pa_cons (pe_op op_cat (pe_slice sl_list (pv 1) (po_some (pv 3)) po_none) (pe_slice sl_list (pv 1) po_none (po_some (pv 3)))) (pa_cons (pe_op op_cat (pe_slice sl_list (pv 1) po_none (po_some (pv 3))) (pe_lst (pa_cons (pv 5) pa_nil))) pa_nil))))))))))
      (pss_one (ps_ret (pe_ix (r := rIxL K) ix_list (pv 6) (pe_call GT hr1 (by rfl) mT kT bT .nil pass0 (pa_cons (pv 0) (pa_cons pe_int pa_nil))) (fun _ _ => rfl))))))))), ?_⟩
    have l16 : ∀ v ∈ l, v < 16 := fun v hv => Nat.lt_of_lt_of_le (hb v hv) n16
    refine ⟨_, rfl, _, rfl, r, _, rfl, .inl (SqL.of hrr), _, _, rfl, rfl, p, _, rfl, hp, ?_, ?_, fun at0 H1 a0 a1 hp1 t1 => ?_⟩
    · omega
    · rw [natLen]
      omega
    have hr1' : H1 r = some (.lst (natV l)) := (t1 r hrp).trans hrr
    refine ⟨_, rfl, _, rfl, p, n, rfl, hp1, by omega, by omega, fun one H2 o0 o1 hp2 t2 => ?_⟩
    have hr2' : H2 r = some (.lst (natV l)) := (t2 r hrp).trans hr1'
    refine ⟨_, rfl, _, rfl, _, rfl, by show 1 ≤ sizeLine; decide, fun Z0 nZ0 => ?_⟩
    obtain ⟨J1, j1, x1, y1⟩ := newAt (.lst [V.int 0]) nZ0
    rw [j1]
    refine ⟨by show 8 ≤ sizeLine; decide, fun Z1 nZ1 => ?_⟩
    obtain ⟨J2, j2, x2, y2⟩ := newAt (.lst [V.int one, V.int (n : Int), V.int (-1), V.bl true, V.non, V.str "0", V.int 0, V.ref Z0]) nZ1
    rw [j2]
    have hZ0 : Z0 ≠ p := (hp2.ne nZ0).symm
    have hZ1 : Z1 ≠ p := ((hp2.same x1).ne nZ1).symm
    refine ⟨_, rfl, p, 8, rfl, (hp2.same x1).same x2, by omega, by omega, fun d3 H3 d30 d31 hp3 t3 => ?_⟩
    have q1 : H3 Z1 = some (.lst [V.int one, V.int (n : Int), V.int (-1), V.bl true, V.non, V.str "0", V.int 0, V.ref Z0]) := (t3 Z1 hZ1).trans y2
    have q0 : H3 Z0 = some (.lst [V.int 0]) := (t3 Z0 hZ0).trans (x2 _ _ y1)
    have hr3 : H3 r = some (.lst (natV l)) := (t3 r hrp).trans (x2 _ _ (x1 _ _ hr2'))
    have sx03 : SameX p H H3 := ((((sameX_take t1).trans (sameX_take t2)).trans (Same.x x1)).trans (Same.x x2)).trans (sameX_take t3)
    obtain ⟨od, dd, ho, hdd, hsh⟩ : ∃ od dd, atI [V.int one, V.int (n : Int), V.int (-1), V.bl true, V.non, V.str "0", V.int 0, V.ref Z0] d3 = some od ∧ (∀ H2, SameX p H3 H2 → Dp K H2 od dd) ∧ Shw 1 20 dd := by
      have i0 : ∀ i : Int, i.natAbs < 10 ^ 12 → Shw 1 20 (.int i) := fun i h => (shwPow (k := 12) (by decide) (by decide) h).mono (by decide) (by decide)
      obtain rfl | rfl | rfl | rfl | rfl | rfl | rfl | rfl : d3 = 0 ∨ d3 = 1 ∨ d3 = 2 ∨ d3 = 3 ∨ d3 = 4 ∨ d3 = 5 ∨ d3 = 6 ∨ d3 = 7 := by omega
      · exact ⟨_, .int one, rfl, fun _ _ => .int _, i0 _ (by omega)⟩
      · exact ⟨_, .int (n : Int), rfl, fun _ _ => .int _, i0 _ (by omega)⟩
      · exact ⟨_, .int (-1), rfl, fun _ _ => .int _, i0 _ (by decide)⟩
      · exact ⟨_, .bool true, rfl, fun _ _ => .bl _, ⟨by decide +kernel, by decide +kernel, by decide +kernel⟩⟩
      · exact ⟨_, .none, rfl, fun _ _ => .non, ⟨by decide +kernel, by decide +kernel, by decide +kernel⟩⟩
      · exact ⟨_, .str "0", rfl, fun _ _ => .str _, ⟨by decide +kernel, by decide +kernel, by decide +kernel⟩⟩
      · exact ⟨_, .int 0, rfl, fun _ _ => .int _, i0 _ (by decide)⟩
      · exact ⟨_, .list [.int 0], rfl, fun H2 s => .lst (SqL.of (s Z0 _ hZ0 q0)) (.cons (.int _) .nil), ⟨by decide +kernel, by decide +kernel, by decide +kernel⟩⟩
    refine ⟨Z1, _, d3, _, rfl, rfl, SqL.of q1, ho, ?_⟩
    clear q1 q0 ho y1 y2 x1 x2 j1 j2 hr2' hr1' hrr t1 t2 t3
    have y0 : Same H3 H3 := Same.refl H3
    refine ⟨_, rfl, ?_⟩
    refine ⟨_, rfl, _, rfl, at0, rfl, r, _, rfl, SqL.of (y0 _ _ hr3), fun A0 nA0 => ?_⟩
    obtain ⟨k1, ek1, bk1, lk1⟩ := natCut l none (some at0)
    rw [ek1]
    obtain ⟨G1, g0, z0, w0⟩ := newAt (.lst (natV k1)) nA0
    rw [g0]
    have y1 := y0.trans z0
    have f0 : A0 ≠ p := ((hp3.same y0).ne nA0).symm
    refine ⟨_, rfl, _, rfl, by show 2 ≤ sizeLine; decide, fun A1 nA1 => ?_⟩
    obtain ⟨G2, g1, z1, w1⟩ := newAt (.lst [V.int one, V.int one]) nA1
    rw [g1]
    have y2 := y1.trans z1
    have f1 : A1 ≠ p := ((hp3.same y1).ne nA1).symm
    refine ⟨A0, A1, _, _, rfl, rfl, z1 _ _ (w0), w1, ?_, fun A2 nA2 => ?_⟩
    · simp only [List.length_append, natLen, List.length_cons, List.length_nil, sizeLine_eq]; omega
    obtain ⟨G3, g2, z2, w2⟩ := newAt (.lst (natV k1 ++ [V.int one, V.int one])) nA2
    rw [g2]
    have y3 := y2.trans z2
    have f2 : A2 ≠ p := ((hp3.same y2).ne nA2).symm
    refine ⟨_, rfl, _, rfl, at0, rfl, r, _, rfl, SqL.of (y3 _ _ hr3), fun A3 nA3 => ?_⟩
    obtain ⟨k2, ek2, bk2, lk2⟩ := natCut l (some at0) none
    rw [ek2]
    obtain ⟨G4, g3, z3, w3⟩ := newAt (.lst (natV k2)) nA3
    rw [g3]
    have y4 := y3.trans z3
    have f3 : A3 ≠ p := ((hp3.same y3).ne nA3).symm
    refine ⟨A2, A3, _, _, rfl, rfl, z3 _ _ (w2), w3, ?_, fun A4 nA4 => ?_⟩
    · simp only [List.length_append, natLen, List.length_cons, List.length_nil, sizeLine_eq]; omega
    obtain ⟨G5, g4, z4, w4⟩ := newAt (.lst (natV k1 ++ [V.int one, V.int one] ++ natV k2)) nA4
    rw [g4]
    have y5 := y4.trans z4
    have f4 : A4 ≠ p := ((hp3.same y4).ne nA4).symm
    refine ⟨_, rfl, _, rfl, at0, rfl, r, _, rfl, SqL.of (y5 _ _ hr3), fun A5 nA5 => ?_⟩
    obtain ⟨k3, ek3, bk3, lk3⟩ := natCut l none (some at0)
    rw [ek3]
    obtain ⟨G6, g5, z5, w5⟩ := newAt (.lst (natV k3)) nA5
    rw [g5]
    have y6 := y5.trans z5
    have f5 : A5 ≠ p := ((hp3.same y5).ne nA5).symm
    refine ⟨_, rfl, by show 1 ≤ sizeLine; decide, fun A6 nA6 => ?_⟩
    obtain ⟨G7, g6, z6, w6⟩ := newAt (.lst [od]) nA6
    rw [g6]
    have y7 := y6.trans z6
    have f6 : A6 ≠ p := ((hp3.same y6).ne nA6).symm
    refine ⟨A5, A6, _, _, rfl, rfl, z6 _ _ (w5), w6, ?_, fun A7 nA7 => ?_⟩
    · simp only [List.length_append, natLen, List.length_cons, List.length_nil, sizeLine_eq]; omega
    obtain ⟨G8, g7, z7, w7⟩ := newAt (.lst (natV k3 ++ [od])) nA7
    rw [g7]
    have y8 := y7.trans z7
    have f7 : A7 ≠ p := ((hp3.same y7).ne nA7).symm
    refine ⟨_, rfl, _, rfl, at0, rfl, r, _, rfl, SqL.of (y8 _ _ hr3), fun A8 nA8 => ?_⟩
    obtain ⟨k4, ek4, bk4, lk4⟩ := natCut l (some at0) none
    rw [ek4]
    obtain ⟨G9, g8, z8, w8⟩ := newAt (.lst (natV k4)) nA8
    rw [g8]
    have y9 := y8.trans z8
    have f8 : A8 ≠ p := ((hp3.same y8).ne nA8).symm
    refine ⟨A7, A8, _, _, rfl, rfl, z8 _ _ (w7), w8, ?_, fun A9 nA9 => ?_⟩
    · simp only [List.length_append, natLen, List.length_cons, List.length_nil, sizeLine_eq]; omega
    obtain ⟨G10, g9, z9, w9⟩ := newAt (.lst (natV k3 ++ [od] ++ natV k4)) nA9
    rw [g9]
    have y10 := y9.trans z9
    have f9 : A9 ≠ p := ((hp3.same y9).ne nA9).symm
    refine ⟨_, rfl, _, rfl, at0, rfl, r, _, rfl, SqL.of (y10 _ _ hr3), fun A10 nA10 => ?_⟩
    obtain ⟨k5, ek5, bk5, lk5⟩ := natCut l none (some at0)
    rw [ek5]
    obtain ⟨G11, g10, z10, w10⟩ := newAt (.lst (natV k5)) nA10
    rw [g10]
    have y11 := y10.trans z10
    have f10 : A10 ≠ p := ((hp3.same y10).ne nA10).symm
    refine ⟨_, rfl, _, rfl, _, _, rfl, rfl, at0 + 1, rfl, r, _, rfl, SqL.of (y11 _ _ hr3), fun A11 nA11 => ?_⟩
    obtain ⟨k6, ek6, bk6, lk6⟩ := natCut l (some (at0 + 1)) none
    rw [ek6]
    obtain ⟨G12, g11, z11, w11⟩ := newAt (.lst (natV k6)) nA11
    rw [g11]
    have y12 := y11.trans z11
    have f11 : A11 ≠ p := ((hp3.same y11).ne nA11).symm
    refine ⟨A10, A11, _, _, rfl, rfl, z11 _ _ (w10), w11, ?_, fun A12 nA12 => ?_⟩
    · simp only [List.length_append, natLen, List.length_cons, List.length_nil, sizeLine_eq]; omega
    obtain ⟨G13, g12, z12, w12⟩ := newAt (.lst (natV k5 ++ natV k6)) nA12
    rw [g12]
    have y13 := y12.trans z12
    have f12 : A12 ≠ p := ((hp3.same y12).ne nA12).symm
    refine ⟨by show 4 ≤ sizeLine; decide, fun A13 nA13 => ?_⟩
    obtain ⟨G14, g13, z13, w13⟩ := newAt (.lst [V.ref r, V.ref A4, V.ref A9, V.ref A12]) nA13
    rw [g13]
    have y14 := y13.trans z13
    have f13 : A13 ≠ p := ((hp3.same y13).ne nA13).symm
    refine ⟨_, rfl, ?_⟩
    refine ⟨_, rfl, r, _, rfl, SqL.of (y14 _ _ hr3), fun A14 nA14 => ?_⟩
    obtain ⟨G15, g14, z14, w14⟩ := newAt (.lst (natV l).reverse) nA14
    rw [g14]
    have y15 := y14.trans z14
    have f14 : A14 ≠ p := ((hp3.same y14).ne nA14).symm
    refine ⟨_, rfl, r, _, rfl, .inl ⟨SqL.of (y15 _ _ hr3), fun A15 nA15 => ?_⟩⟩
    obtain ⟨G16, g15, z15, w15⟩ := newAt (.tup (natV l)) nA15
    rw [g15]
    have y16 := y15.trans z15
    have f15 : A15 ≠ p := ((hp3.same y15).ne nA15).symm
    refine fun A16 nA16 => ?_
    obtain ⟨G17, g16, z16, w16⟩ := newAt (.dK []) nA16
    rw [g16]
    have y17 := y16.trans z16
    have f16 : A16 ≠ p := ((hp3.same y16).ne nA16).symm
    refine ⟨_, rfl, _, rfl, at0, rfl, r, _, rfl, SqL.of (y17 _ _ hr3), fun A17 nA17 => ?_⟩
    obtain ⟨k7, ek7, bk7, lk7⟩ := natCut l (some at0) none
    rw [ek7]
    obtain ⟨G18, g17, z17, w17⟩ := newAt (.lst (natV k7)) nA17
    rw [g17]
    have y18 := y17.trans z17
    have f17 : A17 ≠ p := ((hp3.same y17).ne nA17).symm
    refine ⟨_, rfl, _, rfl, at0, rfl, r, _, rfl, SqL.of (y18 _ _ hr3), fun A18 nA18 => ?_⟩
    obtain ⟨k8, ek8, bk8, lk8⟩ := natCut l none (some at0)
    rw [ek8]
    obtain ⟨G19, g18, z18, w18⟩ := newAt (.lst (natV k8)) nA18
    rw [g18]
    have y19 := y18.trans z18
    have f18 : A18 ≠ p := ((hp3.same y18).ne nA18).symm
    refine ⟨A17, A18, _, _, rfl, rfl, z18 _ _ (w17), w18, ?_, fun A19 nA19 => ?_⟩
    · simp only [List.length_append, natLen, List.length_cons, List.length_nil, sizeLine_eq]; omega
    obtain ⟨G20, g19, z19, w19⟩ := newAt (.lst (natV k7 ++ natV k8)) nA19
    rw [g19]
    have y20 := y19.trans z19
    have f19 : A19 ≠ p := ((hp3.same y19).ne nA19).symm
    refine ⟨_, rfl, _, rfl, at0, rfl, r, _, rfl, SqL.of (y20 _ _ hr3), fun A20 nA20 => ?_⟩
    obtain ⟨k9, ek9, bk9, lk9⟩ := natCut l none (some at0)
    rw [ek9]
    obtain ⟨G21, g20, z20, w20⟩ := newAt (.lst (natV k9)) nA20
    rw [g20]
    have y21 := y20.trans z20
    have f20 : A20 ≠ p := ((hp3.same y20).ne nA20).symm
    refine ⟨_, rfl, by show 1 ≤ sizeLine; decide, fun A21 nA21 => ?_⟩
    obtain ⟨G22, g21, z21, w21⟩ := newAt (.lst [od]) nA21
    rw [g21]
    have y22 := y21.trans z21
    have f21 : A21 ≠ p := ((hp3.same y21).ne nA21).symm
    refine ⟨A20, A21, _, _, rfl, rfl, z21 _ _ (w20), w21, ?_, fun A22 nA22 => ?_⟩
    · simp only [List.length_append, natLen, List.length_cons, List.length_nil, sizeLine_eq]; omega
    obtain ⟨G23, g22, z22, w22⟩ := newAt (.lst (natV k9 ++ [od])) nA22
    rw [g22]
    have y23 := y22.trans z22
    have f22 : A22 ≠ p := ((hp3.same y22).ne nA22).symm
    refine ⟨by show 7 ≤ sizeLine; decide, fun A23 nA23 => ?_⟩
    obtain ⟨G24, g23, z23, w23⟩ := newAt (.lst [V.ref A14, V.ref A15, V.non, V.ref A16, V.str "0", V.ref A19, V.ref A22]) nA23
    rw [g23]
    have y24 := y23.trans z23
    have f23 : A23 ≠ p := ((hp3.same y23).ne nA23).symm
    refine ⟨A13, A23, _, _, rfl, rfl, z23 _ _ (z22 _ _ (z21 _ _ (z20 _ _ (z19 _ _ (z18 _ _ (z17 _ _ (z16 _ _ (z15 _ _ (z14 _ _ (w13)))))))))), w23, ?_, fun A24 nA24 => ?_⟩
    · show 11 ≤ sizeLine; decide
    obtain ⟨G25, g24, z24, w24⟩ := newAt (.lst ([V.ref r, V.ref A4, V.ref A9, V.ref A12] ++ [V.ref A14, V.ref A15, V.non, V.ref A16, V.str "0", V.ref A19, V.ref A22])) nA24
    rw [g24]
    have y25 := y24.trans z24
    have f24 : A24 ≠ p := ((hp3.same y24).ne nA24).symm
    refine ⟨_, rfl, _, rfl, p, 11, rfl, hp3.same y25, by omega, by omega, fun ee H4 ee0 ee1 hp4 t4 => ?_⟩
    have at4 : ∀ {b : Addr} {u : HO}, b ≠ p → G25 b = some u → H4 b = some u := fun {b u} n e => (t4 b n).trans e
    have sx4 : SameX p H3 H4 := (Same.x y25).trans (sameX_take t4)
    have v4 := at4 f4 (z24 _ _ (z23 _ _ (z22 _ _ (z21 _ _ (z20 _ _ (z19 _ _ (z18 _ _ (z17 _ _ (z16 _ _ (z15 _ _ (z14 _ _ (z13 _ _ (z12 _ _ (z11 _ _ (z10 _ _ (z9 _ _ (z8 _ _ (z7 _ _ (z6 _ _ (z5 _ _ (w4)))))))))))))))))))))
    have v9 := at4 f9 (z24 _ _ (z23 _ _ (z22 _ _ (z21 _ _ (z20 _ _ (z19 _ _ (z18 _ _ (z17 _ _ (z16 _ _ (z15 _ _ (z14 _ _ (z13 _ _ (z12 _ _ (z11 _ _ (z10 _ _ (w9))))))))))))))))
    have v12 := at4 f12 (z24 _ _ (z23 _ _ (z22 _ _ (z21 _ _ (z20 _ _ (z19 _ _ (z18 _ _ (z17 _ _ (z16 _ _ (z15 _ _ (z14 _ _ (z13 _ _ (w12)))))))))))))
    have v14 := at4 f14 (z24 _ _ (z23 _ _ (z22 _ _ (z21 _ _ (z20 _ _ (z19 _ _ (z18 _ _ (z17 _ _ (z16 _ _ (z15 _ _ (w14)))))))))))
    have v15 := at4 f15 (z24 _ _ (z23 _ _ (z22 _ _ (z21 _ _ (z20 _ _ (z19 _ _ (z18 _ _ (z17 _ _ (z16 _ _ (w15))))))))))
    have v16 := at4 f16 (z24 _ _ (z23 _ _ (z22 _ _ (z21 _ _ (z20 _ _ (z19 _ _ (z18 _ _ (z17 _ _ (w16)))))))))
    have v19 := at4 f19 (z24 _ _ (z23 _ _ (z22 _ _ (z21 _ _ (z20 _ _ (w19))))))
    have v22 := at4 f22 (z24 _ _ (z23 _ _ (w22)))
    have vr := at4 hrp (y25 _ _ hr3)
    have vm : H4 A24 = some (.lst [V.ref r, V.ref A4, V.ref A9, V.ref A12, V.ref A14, V.ref A15, V.non, V.ref A16, V.str "0", V.ref A19, V.ref A22]) := at4 f24 (w24)
    obtain ⟨tv, d, htv, hd, hdl, hsd⟩ : ∃ tv d, atI [V.ref r, V.ref A4, V.ref A9, V.ref A12, V.ref A14, V.ref A15, V.non, V.ref A16, V.str "0", V.ref A19, V.ref A22] ee = some tv ∧ (∀ H2, SameX p H4 H2 → Rd K H2 tv d) ∧ lenD d ≤ 41 ∧ Shw 3 1000 d := by
      have i0 : ∀ v : Nat, v < 16 → Shw 0 3 (.int (v : Int)) := fun v h => shwPow (k := 2) (by decide) (by decide) (by show v < 10 ^ 2; omega)
      have plain : ∀ (q : Addr) (k : List Nat), H4 q = some (.lst (natV k)) → q ≠ p → (∀ v ∈ k, v < 16) → k.length ≤ 30 → (∀ H2, SameX p H4 H2 → Rd K H2 (.ref q) (.list (natD k))) ∧ lenD (.list (natD k)) ≤ 41 ∧ Shw 3 1000 (.list (natD k)) := fun q k e n b ln =>
        ⟨fun H2 s => .dat (.lst (SqL.of (s _ _ n e)) (dpNatsV k)), by show (natD k).length ≤ 41; rw [natD_len]; omega, (shwNats b ln).mono (by decide) (by decide)⟩
      have mixed : ∀ (q : Addr) (a : List Nat) (us : List V) (b : List Nat) (es : List PyData), H4 q = some (.lst (natV a ++ us ++ natV b)) → q ≠ p → (∀ H2, SameX p H4 H2 → DpAll K H2 us es) → (∀ e ∈ es, Shw 1 20 e) → us.length = es.length → es.length ≤ 2 → (∀ v ∈ a, v < 16) → (∀ v ∈ b, v < 16) → a.length ≤ 13 → b.length ≤ 13 →
          (∀ H2, SameX p H4 H2 → Rd K H2 (.ref q) (.list (natD a ++ es ++ natD b))) ∧ lenD (.list (natD a ++ es ++ natD b)) ≤ 41 ∧ Shw 3 1000 (.list (natD a ++ es ++ natD b)) := fun q a us b es e n he hs _ hl ba bb la lb => by
        have ln : (natD a ++ es ++ natD b).length ≤ 28 := by
          simp only [List.length_append, natD_len]
          omega
        refine ⟨fun H2 s => .dat (.lst (SqL.of (s _ _ n e)) (dpAllCat (dpAllCat (dpNatsV a) (he H2 s)) (dpNatsV b))), by show (natD a ++ es ++ natD b).length ≤ 41; omega, (shwList (k := 1) (L := 20) (m := 28) (fun e he => ?_) ln).mono (by decide) (by decide)⟩
        rcases List.mem_append.mp he with he | he
        · rcases List.mem_append.mp he with he | he
          · obtain ⟨v, hv, rfl⟩ := List.mem_map.mp he
            exact (i0 v (ba v hv)).mono (by decide) (by decide)
          · exact hs e he
        · obtain ⟨v, hv, rfl⟩ := List.mem_map.mp he
          exact (i0 v (bb v hv)).mono (by decide) (by decide)
      have i1 : Shw 1 20 (.int one) := (shwPow (k := 12) (by decide) (by decide) (by omega)).mono (by decide) (by decide)
      obtain rfl | rfl | rfl | rfl | rfl | rfl | rfl | rfl | rfl | rfl | rfl : ee = 0 ∨ ee = 1 ∨ ee = 2 ∨ ee = 3 ∨ ee = 4 ∨ ee = 5 ∨ ee = 6 ∨ ee = 7 ∨ ee = 8 ∨ ee = 9 ∨ ee = 10 := by omega
      · exact ⟨_, _, rfl, plain r l vr hrp l16 (by omega)⟩
      · exact ⟨_, _, rfl, mixed A4 k1 [V.int one, V.int one] k2 [.int one, .int one] v4 f4 (fun _ _ => .cons (.int _) (.cons (.int _) .nil)) (fun e he => by
          rcases List.mem_cons.mp he with rfl | he
          · exact i1
          · rw [List.mem_singleton.mp he]; exact i1) rfl (by show 2 ≤ 2; decide) (fun v hv => l16 v (bk1 v hv)) (fun v hv => l16 v (bk2 v hv)) (by omega) (by omega)⟩
      · exact ⟨_, _, rfl, mixed A9 k3 [od] k4 [dd] v9 f9 (fun H2 s => .cons (hdd H2 (sx4.trans s)) .nil) (fun e he => by rw [List.mem_singleton.mp he]; exact hsh) rfl (by show 1 ≤ 2; decide) (fun v hv => l16 v (bk3 v hv)) (fun v hv => l16 v (bk4 v hv)) (by omega) (by omega)⟩
      · rw [natV_app] at v12
        exact ⟨_, _, rfl, plain A12 _ v12 f12 (fun v hv => by
          rcases List.mem_append.mp hv with hv | hv
          · exact l16 v (bk5 v hv)
          · exact l16 v (bk6 v hv)) (by rw [List.length_append]; omega)⟩
      · rw [show (natV l).reverse = natV l.reverse from by unfold natV; rw [List.map_reverse]] at v14
        exact ⟨_, _, rfl, plain A14 _ v14 f14 (fun v hv => l16 v (List.mem_reverse.mp hv)) (by rw [List.length_reverse]; omega)⟩
      · refine ⟨_, .tuple (natD l), rfl, fun H2 s => .dat (.tup (SqT.of (s _ _ f15 v15)) (dpNatsV l)), Nat.zero_le _, (shwTup (k := 0) (L := 3) (m := 13) (fun e he => ?_) (by rw [natD_len]; omega)).mono (by decide) (by decide)⟩
        obtain ⟨v, hv, rfl⟩ := List.mem_map.mp he
        exact i0 v (l16 v hv)
      · exact ⟨_, .none, rfl, fun _ _ => .dat .non, Nat.zero_le _, ⟨by decide +kernel, by decide +kernel, by decide +kernel⟩⟩
      · exact ⟨_, .dict [], rfl, fun H2 s => .dct [] (s _ _ f16 v16), Nat.zero_le _, ⟨by simp only [PyData.showable, PyData.showableKv], by decide +kernel, by decide +kernel⟩⟩
      · exact ⟨_, .str "0", rfl, fun _ _ => .dat (.str _), Nat.zero_le _, ⟨by decide +kernel, by decide +kernel, by decide +kernel⟩⟩
      · rw [natV_app] at v19
        exact ⟨_, _, rfl, plain A19 _ v19 f19 (fun v hv => by
          rcases List.mem_append.mp hv with hv | hv
          · exact l16 v (bk7 v hv)
          · exact l16 v (bk8 v hv)) (by rw [List.length_append]; omega)⟩
      · have v0 : H4 A22 = some (.lst (natV k9 ++ [od] ++ natV [])) := by
          rw [v22]
          unfold natV
          rw [List.map_nil, List.append_nil]
        exact ⟨_, _, rfl, mixed A22 k9 [od] [] [dd] v0 f22 (fun H2 s => .cons (hdd H2 (sx4.trans s)) .nil) (fun e he => by rw [List.mem_singleton.mp he]; exact hsh) rfl (by show 1 ≤ 2; decide) (fun v hv => l16 v (bk9 v hv)) (fun v hv => by cases hv) (by omega) (by decide)⟩
    exact ⟨A24, _, ee, _, rfl, rfl, SqL.of vm, htv, k tv d H4 (sx03.trans sx4) hp4 hd hdl hsd⟩
theorem sc_asked : FnScope ["_law_graph", "_law_one", "_law_other", "e"] ["_law_graph", "_law_one", "_law_other"] (defScope s__law_asked) := ⟨rfl, rfl, rfl, by decide +kernel, rfl, by decide +kernel, by decide +kernel⟩
theorem ok_asked {f : Addr} {fd : FuncData} (F : Fun K "_law_asked" "_law_asked" s__law_asked f fd) (EP : Ex P w K mg base "InvalidPosition" CP) (x00 : PySem.W.exmOne K (.ref CP) (.ref CP) = some true)
    (GI : At P w K mg base (L2.CX P w) 7 "is_link" ["graph", "position", "other", "thing"] (spIsLink K CG CP)) : GOk P w K mg base 8 f fd ["_law_graph", "_law_one", "_law_other"] (spAsked K CG) := by
  obtain ⟨fI, fdI, GI, mI, kI, bI⟩ := GI
  refine okG F sc_asked (fun vs H Q E h => ?_) (fun cdv A outer s H vs Q E hgd hr h => ?_)
  · obtain ⟨g, N, v1, d1, v2, d2, w, rfl, _⟩ := h
    rfl
  · obtain ⟨g, N, v1, d1, v2, d2, w, rfl, hg, wf, hN, h1, l1, h2, l2, hw, k⟩ := h
    have nd := sc_asked.nd
    refine ⟨_, pss_cons (ps_try_as (i := 3) rfl rfl nd rfl rfl ⟨by rfl, by decide, .inl EP.mgC⟩ takes0
        (fun W pn xe tk _ => pss_one (ps_expr (pe_callS GI hr (by rfl) mI kI bI (fun σ => passAt tk σ) (pa_cons (pv 0) (pa_cons (pv 1) (pa_cons (pv 2) (pa_cons pe_non pa_nil)))))))
        (fun a oe cls d pn hz hf => pss_one (ps_ret (pe_lst (pa_cons (pe_byX EP.xc hz hf (pv 3)) pa_nil))))) (pss_one (ps_ret pe_str)), ?_⟩
    have caught : ∀ (v : V), w = v → ∀ H' dd, Same H H' → H' dd = some (.xd [(("value" : Str), v)]) → ∀ p, H' p = none → Q (.ref p) (upd H' p (.lst [v])) := fun v e H' dd s _ p np => by
      subst e
      exact k p _ (s.free np) (s.trans (same_upd np)) upd_same
    refine ⟨_, rfl, _, rfl, _, rfl, g, N, v1, d1, v2, d2, .non, .none, rfl, hg, wf, hN, h1, l1, h2, l2, .dat .non, Nat.zero_le _, fun z H' dd s nd' hx => ?_, fun x ex lx => ⟨fun z H' dd s nd' hx => ?_, fun y ey ly => ?_⟩⟩
    · rcases hw with ⟨_, ew⟩ | ⟨x, ex, lx, _⟩
      · exact ⟨true, x00, fun _ z hz => ⟨_, rfl, rfl, rfl, dd, _, rfl, hx, by show 1 ≤ sizeLine; decide, caught v1 ew H' dd s hx⟩, fun q => nomatch q⟩
      · rw [ex, ilPos lx] at z
        cases z
    · rcases hw with ⟨z1, ew⟩ | ⟨x', ex', lx', z2, ew⟩
      · rw [ex, ilPos lx] at z1
        cases z1
      · exact ⟨true, x00, fun _ z hz => ⟨_, rfl, rfl, rfl, dd, _, rfl, hx, by show 1 ≤ sizeLine; decide, caught v2 ew H' dd s hx⟩, fun q => nomatch q⟩
    · rcases hw with ⟨z1, ew⟩ | ⟨x', ex', lx', z2, ew⟩
      · rw [ex, ilPos lx] at z1
        cases z1
      · rw [ey, ilPos ly] at z2
        cases z2
end

end K66

set_option Elab.async false
set_option linter.all false
set_option maxRecDepth 100000
set_option maxHeartbeats 8000000
namespace K66
open PySem PySem.Spec PyProof.Rows L2 FNX
/-! ## law -/
theorem atI_last {α : Type} (l : List α) (x : α) : atI (l ++ [x]) (-1) = some x := by
  unfold atI ixN
  rw [if_neg (by omega), List.length_append, List.length_singleton, if_pos (by omega)]
  show (l ++ [x])[(((l.length + 1 : Nat) : Int) + -1).toNat]? = some x
  rw [show (((l.length + 1 : Nat) : Int) + -1).toNat = l.length by omega, List.getElem?_append_right (Nat.le_refl _), Nat.sub_self]
  rfl
theorem shwB (b : Bool) : (PyData.bool b).showable = true ∧ (PyData.bool b).depth ≤ 60 ∧ (PyData.bool b).shown.length ≤ sizeLine := by
  cases b
  · exact shwLine (k := 1) (L := 10) ⟨by decide +kernel, by decide +kernel, by decide +kernel⟩ (by decide) (by decide)
  · exact shwLine (k := 1) (L := 10) ⟨by decide +kernel, by decide +kernel, by decide +kernel⟩ (by decide) (by decide)
def spLaw (K : PySem.W.Frag) : Sp := fun vs H Q _ => ∃ (a : Addr) (ns : List Int), vs = [.ref a] ∧ SqL K H a (ns.map V.int) ∧ ns.length ≤ 63 ∧ ∀ H', Q (.bl true) H'
section
variable {P : Program} {w : World} {K : PySem.W.Frag} {mg : Str → Option Value} {base : Heap} {CG CP : Addr}
theorem sc_law : FnScope ["_law_script", "_law_k", "_law_pool_here", "_law_many", "_law_edges", "_law_turn", "_law_pair", "_law_graph", "_law_links_here", "_law_here", "_law_nodes", "_law_there", "_law_thing", "_law_kept", "_law_bad"] ["_law_script"] (defScope s_law) := ⟨rfl, rfl, rfl, by decide +kernel, rfl, by decide +kernel, by decide +kernel⟩
theorem ok_law {f fI : Addr} {fd fdI : FuncData} (F : Fun K "law" "law" s_law f fd) (M : Nms mg)
    (GP : At P w K mg base CX0 1 "_law_pool" ["_law_script", "_law_k"] (spPool K))
    (GT : At P w K mg base CX0 1 "_law_take" ["_law_pool_here", "_law_many"] spTake)
    (GK : At P w K mg base CX0 1 "_law_links" ["_law_many", "_law_edges"] (spLinks K))
    (GS : At P w K mg base CX0 3 "_law_numbers" ["_law_pool_here", "_law_many", "_law_wide"] spNumsW)
    (GF : At P w K mg base CX0 1 "_law_flipped" ["_law_links_here", "_law_here", "_law_node"] (spFlipped K))
    (GB : At P w K mg base CX0 2 "_law_bent" ["_law_pool_here", "_law_nodes", "_law_many"] (spBent66 K))
    (GY : At P w K mg base (L2.CX P w) 7 "is_link" ["graph", "position", "other", "thing"] (spIsLink K CG CP))
    (GD : At P w K mg base CX0 2 "_law_due" ["_law_links_here", "_law_here", "_law_there", "_law_thing"] (spDue66 K))
    (GA : AtG P w K mg base 8 "_law_asked" ["_law_graph", "_law_one", "_law_other"] (spAsked K CG))
    (MK : Mk K CG fI) (GI : FnOk P w K mg base CX0 6 fI fdI ["self", "size", "edges"] (spGInit CG)) (bI : L2.Binds K fdI ["self", "size", "edges"] []) (mI : mg "Graph" = some (.ref CG)) :
    GOk P w K mg base 10 f fd ["_law_script"] (spLaw K) := by
  obtain ⟨fP, fdP, GP, mP, kP, bP⟩ := GP
  obtain ⟨fT, fdT, GT, mT, kT, bT⟩ := GT
  obtain ⟨fK, fdK, GK, mK, kK, bK⟩ := GK
  obtain ⟨fS, fdS, GS, mS, kS, bS⟩ := GS
  obtain ⟨fF, fdF, GF, mF, kF, bF⟩ := GF
  obtain ⟨fB, fdB, GB, mB, kB, bB⟩ := GB
  obtain ⟨fY, fdY, GY, mY, kY, bY⟩ := GY
  obtain ⟨fD, fdD, GD, mD, kD, bD⟩ := GD
  obtain ⟨fA, fdA, GA, mA, kA, bA⟩ := GA
  refine okG F sc_law (fun vs H Q E h => ?_) (fun cdv A outer s H vs Q E hgd hr h => ?_)
  · obtain ⟨a, ns, rfl, _⟩ := h
    rfl
  · obtain ⟨a, ns, rfl, hS, hlen, kont⟩ := h
    have nd := sc_law.nd
    have hr1 : Room 1 _ := hr.mono (by decide)
    have hr2 : Room 2 _ := hr.mono (by decide)
    have hr3 : Room 3 _ := hr.mono (by decide)
    have hr7 : Room 7 _ := hr.mono (by decide)
    have hr8 : Room 8 _ := hr.mono (by decide)
    have hu64 : A.units + 3 + 64 < cLine := hr.units
    have hu65 : A.units + 3 + 65 < cLine := by
      have := hr.un
      show A.units + 3 + 65 < _
      have z : A.units + 3 + 16 * 9 + 200 < cLine := this
      omega
    refine ⟨_, (pss_cons (ps_for PassesOwn.never rfl (pi_range1 rfl M.range (pa_cons (pe_callB (call_max2 rfl) (by rfl) M.max boot_max1 (pa_cons pe_int (pa_cons (pe_callB (call_min2 rfl) (by rfl) M.min boot_min1 (pa_cons pe_int (pa_cons (pe_callB call_len_seq (by rfl) M.len boot_len1 (pa_cons (pv 0) pa_nil)) pa_nil))) pa_nil))) pa_nil)) (pg_name (i := 1) nd rfl (Or.inl rfl)) (pss_cons (ps_set (i := 2) nd rfl (Or.inl rfl) (pe_call GP hr1 (by rfl) mP kP bP .nil pass0 (pa_cons (pv 0) (pa_cons (pv 1) pa_nil))))
      (pss_cons (ps_set (i := 3) nd rfl (Or.inl rfl) (pe_op op_add pe_int (pe_call GT hr1 (by rfl) mT kT bT .nil pass0 (pa_cons (pv 2) (pa_cons pe_int pa_nil)))))
      (pss_cons (ps_set (i := 4) nd rfl (Or.inl rfl) (pe_lst pa_nil))
      (pss_cons (ps_for PassesOwn.never rfl (pi_range1 rfl M.range (pa_cons (pe_call GT hr1 (by rfl) mT kT bT .nil pass0 (pa_cons (pv 2) (pa_cons pe_int pa_nil))) pa_nil)) (pg_name (i := 5) nd rfl (Or.inl rfl)) (pss_cons (ps_set (i := 6) nd rfl (Or.inl rfl) (pe_tup (pa_cons (pe_call GT hr1 (by rfl) mT kT bT .nil pass0 (pa_cons (pv 2) (pa_cons (pv 3) pa_nil))) (pa_cons (pe_call GT hr1 (by rfl) mT kT bT .nil pass0 (pa_cons (pv 2) (pa_cons (pv 3) pa_nil))) pa_nil))))
      (pss_one (ps_if (PW.pt (pw_and (pt_cmpR op_lt (pe_ix (r := rIxT K) ix_tup (pv 6) pe_int (fun _ _ => rfl)) (pe_ix (r := rIxT K) ix_tup (pv 6) pe_int (fun _ _ => rfl)) (nomark _)) (pw_and1 (pt_cmpR (op_notInD hu65) (pv 6) (pv 4) (by with_unfolding_all rfl))))) (pss_one (ps_expr (pe_bm PySem.F.plainAttrs_list PySem.F.slot_list_append PySem.F.type_list_append mt_append (pv 4) (pa_cons (pv 6) pa_nil)))) pss_nil))))
      (pss_cons (ps_par (i := 7) (j := 8) (by rfl) nd rfl rfl (by decide) rfl rfl (pa_cons (pe_make MK GI hr7 (by rfl) mI bI .nil pass0 (pa_cons (pv 3) (pa_cons (pv 4) pa_nil))) (pa_cons (pe_call GK hr1 (by rfl) mK kK bK .nil pass0 (pa_cons (pv 3) (pa_cons (pv 4) pa_nil))) pa_nil)) (by rfl))
      (pss_cons (ps_set (i := 9) nd rfl (Or.inl rfl) (pe_call GS hr3 (by rfl) mS kS bS .nil pass0 (pa_cons (pv 2) (pa_cons (pv 3) (pa_cons (pe_cmpR op_eq (pe_call GT hr1 (by rfl) mT kT bT .nil pass0 (pa_cons (pv 2) (pa_cons pe_int pa_nil))) pe_int (nomark _)) pa_nil)))))
      (pss_cons (ps_par (i := 10) (j := 11) (by rfl) nd rfl rfl (by decide) rfl rfl (pa_cons (pe_lst pa_nil) (pa_cons (pv 9) pa_nil)) (by rfl))
      (pss_cons (ps_for PassesOwn.never rfl (pi_range1 rfl M.range (pa_cons (pe_call GT hr1 (by rfl) mT kT bT .nil pass0 (pa_cons (pv 2) (pa_cons pe_int pa_nil))) pa_nil)) (pg_name (i := 5) nd rfl (Or.inl rfl)) (pss_cons (ps_expr (pe_bm PySem.F.plainAttrs_list PySem.F.slot_list_append PySem.F.type_list_append mt_append (pv 10) (pa_cons (pe_call GT hr1 (by rfl) mT kT bT .nil pass0 (pa_cons (pv 2) (pa_cons (pv 3) pa_nil))) pa_nil)))
      (pss_one (ps_set (i := 11) nd rfl (Or.inl rfl) (pe_call GF hr1 (by rfl) mF kF bF .nil pass0 (pa_cons (pv 8) (pa_cons (pv 11) (pa_cons (pe_ix (r := rIxL K) ix_list (pv 10) (pe_un un_neg pe_int) (fun _ _ => rfl)) pa_nil))))))))
      (pss_cons (ps_for PassesOwn.never rfl (pi_range1 rfl M.range (pa_cons pe_int pa_nil)) (pg_name (i := 5) nd rfl (Or.inl rfl)) (pss_cons (ps_set (i := 12) nd rfl (Or.inl rfl) (pe_call GB hr2 (by rfl) mB kB bB .nil pass0 (pa_cons (pv 2) (pa_cons (pv 10) (pa_cons (pv 3) pa_nil)))))
      (pss_cons (ps_set (i := 13) nd rfl (Or.inl rfl) (pe_callB (show CallR _ (.builtin "repr") (rReprL K) from call_reprL hgd hr.units) (by rfl) M.repr boot_repr1 (pa_cons (pe_lst (pa_cons (pv 9) (pa_cons (pv 11) (pa_cons (pv 12) pa_nil)))) pa_nil)))
      (pss_cons (ps_if (pt_cmpR op_ne (pe_callB (show CallR _ (.builtin "repr") (rRepr K) from call_repr hgd hr.units) (by rfl) M.repr boot_repr1 (pa_cons (pe_call GY hr7 (by rfl) mY kY bY .nil passL (pa_cons (pv 7) (pa_cons (pv 9) (pa_cons (pv 11) (pa_cons (pv 12) pa_nil))))) pa_nil)) (pe_callB (show CallR _ (.builtin "repr") (rRepr K) from call_repr hgd hr.units) (by rfl) M.repr boot_repr1 (pa_cons (pe_call GD hr2 (by rfl) mD kD bD .nil pass0 (pa_cons (pv 8) (pa_cons (pv 9) (pa_cons (pv 11) (pa_cons (pv 12) pa_nil))))) pa_nil)) (nomark _)) (pss_one (ps_ret pe_bl)) pss_nil)
      (pss_one (ps_if (pt_cmpR op_ne (pe_callB (show CallR _ (.builtin "repr") (rReprL K) from call_reprL hgd hr.units) (by rfl) M.repr boot_repr1 (pa_cons (pe_lst (pa_cons (pv 9) (pa_cons (pv 11) (pa_cons (pv 12) pa_nil)))) pa_nil)) (pv 13) (nomark _)) (pss_one (ps_ret pe_bl)) pss_nil))))))
      (pss_one (ps_for PassesOwn.never rfl (pi_list (pe_lst (pa_cons pe_non (pa_cons (pe_op op_cat (pv 9) (pe_lst (pa_cons pe_int pa_nil))) (pa_cons (pe_callTy call_tuple_of (by rfl) M.tuple (by decide +kernel) (pa_cons (pv 9) pa_nil)) (pa_cons (pe_op op_cat (pe_slice sl_list (pv 9) (po_some pe_int) po_none) (pe_lst (pa_cons pe_bl pa_nil))) (pa_cons pe_str (pa_cons pe_dnewK pa_nil)))))))) (pg_name (i := 14) nd rfl (Or.inl rfl)) (pss_one (ps_if (PW.pt (pw_or (pt_cmpR (op_neI hu64) (pe_callG hgd GA hr8 (by rfl) mA kA bA pass0 (pa_cons (pv 7) (pa_cons (pv 14) (pa_cons pe_non pa_nil)))) (pe_lst (pa_cons (pv 14) pa_nil)) (nomark _)) (pw_or1 (pt_cmpR op_ne (pe_callB (show CallR _ (.builtin "repr") (rReprL K) from call_reprL hgd hr.units) (by rfl) M.repr boot_repr1 (pa_cons (pe_callG hgd GA hr8 (by rfl) mA kA bA pass0 (pa_cons (pv 7) (pa_cons (pv 9) (pa_cons (pv 14) pa_nil)))) pa_nil)) (pe_callB (show CallR _ (.builtin "repr") (rReprL K) from call_reprL hgd hr.units) (by rfl) M.repr boot_repr1 (pa_cons (pe_lst (pa_cons (pv 14) pa_nil)) pa_nil)) (nomark _))))) (pss_one (ps_ret pe_bl)) pss_nil))))))))))))))
      (pss_one (ps_ret pe_bl))), ?_⟩
    have bnd : ∀ l : Nat, 1 ≤ (if (if (l : Int) < (6 : Int) then (l : Int) else (6 : Int)) > 1 then (if (l : Int) < (6 : Int) then (l : Int) else (6 : Int)) else 1) ∧
        (if (if (l : Int) < (6 : Int) then (l : Int) else (6 : Int)) > 1 then (if (l : Int) < (6 : Int) then (l : Int) else (6 : Int)) else 1) ≤ 6 := fun l => by
      split <;> split <;> omega
    have bl := bnd (ns.map V.int).length
    refine ⟨_, rfl, a, _, rfl, .inl hS, _, _, rfl, _, _, rfl, _, rfl, by omega, by omega, for_range (lo := 0) (fun i σ H' => ∃ v1 v2 v3 v4 v5 v6 v7 v8 v9 v10 v11 v12 v13 v14 : Option V,
      σ = [some (.ref a), v1, v2, v3, v4, v5, v6, v7, v8, v9, v10, v11, v12, v13, v14] ∧ Same H H') ⟨none, none, none, none, none, none, none, none, none, none, none, none, none, none, rfl, Same.refl H⟩ ?_ ?_⟩
    case refine_2 =>
      rintro σ H' ⟨v1, v2, v3, v4, v5, v6, v7, v8, v9, v10, v11, v12, v13, v14, rfl, _⟩
      exact kont H'
    rintro i σ H0 hi ⟨v1, v2, v3, v4, v5, v6, v7, v8, v9, v10, v11, v12, v13, v14, rfl, sm⟩
    have hi6 : i < 6 := by omega
    have hS0 := sqLSame hS sm
    refine ⟨_, rfl, _, rfl, a, ns, (0 : Int) + i, rfl, hS0, by omega, by omega, fun p H1 np s1 hp1 => ?_⟩
    refine ⟨_, rfl, p, 7, rfl, hp1, by omega, by omega, fun r H2 r0 r1 hp2 t2 => ⟨_, _, rfl, rfl, ?_⟩⟩
    obtain ⟨n, hn⟩ : ∃ n : Nat, (1 : Int) + r = (n : Int) := ⟨(1 + r).toNat, by omega⟩
    rw [show ((fun i j : Int => V.int (i + j)) 1 r) = V.int (n : Int) from congrArg V.int hn]
    -- edges
    refine ⟨by show 0 ≤ sizeLine; decide, fun D nD => ?_⟩
    have pD := hp2.ne nD
    obtain ⟨E1, qE, sE, hE⟩ := newAt (.lst []) nD
    rw [qE]
    refine ⟨_, rfl, p, 13, rfl, hp2.same sE, by omega, by omega, fun r2 H3 r20 r21 hp3 t3 => ?_⟩
    obtain ⟨m', rfl⟩ : ∃ m' : Nat, r2 = (m' : Int) := ⟨r2.toNat, by omega⟩
    have e3 : H3 D = some (.lst []) := (t3 D pD.symm).trans hE
    have sx3 : SameX p H2 H3 := (Same.x sE).trans (sameX_take t3)
    refine ⟨m', rfl, by omega, by omega, for_range (n := m') (lo := 0) (fun i1 σ H' => ∃ (o5 o6 : Option V) (ts : List Addr) (es : List (Int × Int)), σ = [some (.ref a), some (.int (0 + i)), some (.ref p), some (.int (n : Int)), some (.ref D), o5, o6, v7, v8, v9, v10, v11, v12, v13, v14] ∧
      SameX p H2 H' ∧ PoolAt H' p ∧ H' D = some (.lst (ts.map V.ref)) ∧ TupsAt H' ts es ∧ (∀ e ∈ es, 0 ≤ e.1 ∧ e.1 < e.2 ∧ e.2 < n) ∧ es.Nodup ∧ es.length ≤ i1)
      ⟨_, _, [], [], rfl, sx3, hp3, e3, ⟨rfl, fun k t e => by simp at e⟩, by simp, by simp, by simp⟩ (fun i1 σ H' hi1 h => ?_) (fun σ H' h => ?_)⟩
    · obtain ⟨o5, o6, ts, es, rfl, sx, hpp, hD, ht, g1, g2, g3⟩ := h
      refine ⟨_, rfl, _, rfl, p, n, rfl, hpp, by omega, by omega, fun x1 H4 x10 x11 hp4 t4 => ?_⟩
      refine ⟨_, rfl, _, rfl, p, n, rfl, hp4, by omega, by omega, fun x2 H5 x20 x21 hp5 t5 => ?_⟩
      refine ⟨by show 2 ≤ sizeLine; decide, fun U nU => ?_⟩
      have sx5 : SameX p H' H5 := (sameX_take t4).trans (sameX_take t5)
      have hD5 : H5 D = some (.lst (ts.map V.ref)) := sx5 D _ pD.symm hD
      have ht5 := ht.sameX hpp sx5
      obtain ⟨H6, q6, s6, h6⟩ := newAt (.tup [V.int x1, V.int x2]) nU
      rw [q6]
      have hD6 := s6 _ _ hD5
      have ht6 := ht5.same s6
      have hp6 := hp5.same s6
      have sx6 : SameX p H2 H6 := (sx.trans sx5).trans (Same.x s6)
      refine ⟨_, rfl, U, _, 0, _, rfl, rfl, SqT.of h6, rfl, _, rfl, U, _, 1, _, rfl, rfl, SqT.of h6, rfl, _, _, rfl, rfl, _, rfl, ?_⟩
      by_cases c : x1 < x2
      case neg =>
        rw [decide_eq_false c]
        exact iteF ⟨_, _, ts, es, rfl, sx6, hp6, hD6, ht6, g1, g2, by omega⟩
      rw [decide_eq_true c]
      refine iteT ⟨_, rfl, _, rfl, pairD (x1, x2), es.map pairD, .tup (SqT.of h6) (.cons (.int _) (.cons (.int _) .nil)), .lst (SqL.of hD6) (dpTups ht6), rfl, shapedPairs _, _, rfl, ?_⟩
      by_cases hm : (x1, x2) ∈ es
      · rw [anyPairT hm]
        exact iteF ⟨_, _, ts, es, rfl, sx6, hp6, hD6, ht6, g1, g2, by omega⟩
      rw [anyPair hm]
      refine iteT ⟨_, rfl, .inl ⟨rfl, _, SqL.of hD6⟩, _, rfl, D, _, _, rfl, rfl, hD6, by rw [List.length_map, ht6.1, sizeLine_eq]; omega, ?_⟩
      have htP := ht6.push (t := U) (e := (x1, x2)) h6
      refine ⟨_, _, ts ++ [U], es ++ [(x1, x2)], rfl, fun q o hq e => ?_, ?_, by rw [upd_same, List.map_append]; rfl, ⟨htP.1, fun k t hk => ?_⟩, fun e he => ?_, ?_, by rw [List.length_append]; show es.length + 1 ≤ _; omega⟩
      · have qD : q ≠ D := fun z => by
          rw [z, nD] at e
          cases e
        rw [upd_ne qD]
        exact sx6 q o hq e
      · obtain ⟨c1, c2, z, y⟩ := hp6
        exact ⟨c1, c2, by rw [upd_ne pD]; exact z, y⟩
      · obtain ⟨x, q1, q2⟩ := htP.2 k t hk
        exact ⟨x, q1, by rw [upd_ne (ne_of q2 hD6 (by intro y; cases y))]; exact q2⟩
      · rcases List.mem_append.mp he with he | he
        · exact g1 e he
        · rw [List.mem_singleton.mp he]
          show 0 ≤ x1 ∧ x1 < x2 ∧ x2 < n
          omega
      · refine List.nodup_append.mpr ⟨g2, by simp, fun x hx y hy => ?_⟩
        rw [List.mem_singleton.mp hy]
        exact fun z => hm (z ▸ hx)
    obtain ⟨o5, o6, ts, es, rfl, sx, hpp, hD, ht, g1, g2, g3⟩ := h
    have good : GoodE n es := ⟨g1, g2, by omega⟩
    have hED : EdgesAt H' D es := ⟨ts, hD, ht⟩
    refine ⟨_, rfl, _, rfl, fun g dx ng ndx ne => ?_⟩
    obtain ⟨A1, qa, sa, ha⟩ := newAt (.own g) ndx
    obtain ⟨A2, qb, sb, hb⟩ := newAt (H := A1) (a := g) (.ins CG dx []) (by rw [← qa, upd_ne ne.symm]; exact ng)
    rw [qa, qb]
    refine ⟨g, dx, D, n, es, rfl, hb, (hED.same sa).same sb, good, by omega, by omega, fun H4 N j nr up hx4 hN near _ => ⟨rfl, ?_⟩⟩
    have s34 : Same H' H4 := fun b o e => up b o (ne_of_none e ng) (sb _ _ (sa _ _ e))
    have hp4 := hpp.same s34
    have hgp : g ≠ p := (hpp.ne ng).symm
    have hG : GX CG p H4 g N := gx_of ((hpp.same sa).same sb) hgp hx4 hN
    have hE4 := hED.same s34
    refine ⟨_, rfl, _, rfl, n, D, es, rfl, hE4, good, by omega, fun lk H5 nlk s5 hlk => ?_⟩
    have hL5 : NX p H5 lk (linksL n es) := hlk.x hp4
    have hp5 := hp4.same s5
    have hG5 := hG.same (Same.x s5)
    refine ⟨_, _, rfl, ?_⟩
    refine ⟨_, rfl, _, rfl, _, rfl, p, 2, rfl, hp5, by omega, by omega, fun r6 H6 r60 r61 hp6 t6 => ⟨rfl, ?_⟩⟩
    refine ⟨p, n, _, rfl, hp6, by omega, fun h B x nh s7 hp7 hx lx bx => ?_⟩
    have sx56 : SameX p H5 B := (sameX_take t6).trans s7
    have hGB := hG5.same sx56
    have hLB := hL5.same sx56
    have hph : h ≠ p := (hp6.ne nh).symm
    have hNn : N.length = n := near.len
    have S := near.symm good
    have rows := near_rows near good
    have s0B : Same H0 B := ((((((Same.x s1).trans (sameX_take t2)).trans sx).trans (Same.x s34)).trans (Same.x s5)).trans sx56).same np
    have s0 := sm.trans s0B
    have npH : H p = none := sm.free np
    clear hG hL5 hE4 hp4 hp5 hG5 s34 s1 t2 sx t6 s7 sx56 hED ht hD hx4 up hN hlk s5 sE qE hE sx3 e3 t3 hp1 hp2 hp3 hp6 s0B sm hS0
    refine ⟨by show 0 ≤ sizeLine; decide, fun W nW => ?_⟩
    obtain ⟨B1, qB, sB, hW⟩ := newAt (.lst (natV [])) nW
    have qB' : upd B W (.lst []) = B1 := qB
    rw [qB']
    have hWp : W ≠ p := (hp7.ne nW).symm
    have hWh : h ≠ W := ne_of_none hx nW
    refine ⟨_, rfl, _, _, rfl, ?_⟩
    refine ⟨_, rfl, p, 13, rfl, hp7.same sB, by omega, by omega, fun r7 H7 r70 r71 hp77 t7 => ?_⟩
    obtain ⟨m2, rfl⟩ : ∃ m2 : Nat, r7 = (m2 : Int) := ⟨r7.toNat, by omega⟩
    refine ⟨m2, rfl, by omega, by omega, for_range (n := m2) (lo := 0) (fun i2 σ H8 => ∃ (o5' : Option V) (hh : Addr) (l : List Nat), σ = [some (.ref a), some (.int (0 + i)), some (.ref p), some (.int (n : Int)), some (.ref D), o5', o6, some (.ref g), some (.ref lk), some (.ref h), some (.ref W), some (.ref hh), v12, v13, v14] ∧
      SameX p B H8 ∧ PoolAt H8 p ∧ H8 W = some (.lst (natV l)) ∧ hh ≠ W ∧ hh ≠ p ∧ H8 hh = some (.lst ((fireL N l x).map V.int)) ∧ (∀ v ∈ l, v < n) ∧ l.length = i2)
      ⟨_, h, [], rfl, (Same.x sB).trans (sameX_take t7), hp77, (t7 W hWp).trans hW, hWh, hph, (t7 h hph).trans (sB _ _ hx), by simp, rfl⟩ (fun i2 σ H8 hi2 h8 => ?_) (fun σ H8 h8 => ?_)⟩
    · obtain ⟨o5', hh, l, rfl, sx8, hp8, eW, nhW, nhp, eh, lb, ll⟩ := h8
      refine ⟨_, rfl, .inl ⟨rfl, _, SqL.of eW⟩, _, rfl, _, rfl, p, n, rfl, hp8, by omega, by omega, fun v9 H9 v90 v91 hp9 t9 => ?_⟩
      obtain ⟨v, rfl⟩ : ∃ v : Nat, v9 = (v : Int) := ⟨v9.toNat, by omega⟩
      have eW9 := (t9 W hWp).trans eW
      have eh9 := (t9 hh nhp).trans eh
      refine ⟨W, _, _, rfl, rfl, eW9, by rw [natLen, sizeLine_eq]; omega, ?_⟩
      obtain ⟨HA, qA⟩ : ∃ HA, upd H9 W (.lst (natV l ++ [V.int (v : Int)])) = HA := ⟨_, rfl⟩
      rw [qA]
      have atW : HA W = some (.lst (natV l ++ [V.int (v : Int)])) := by rw [← qA, upd_same]
      have off : ∀ b, b ≠ W → HA b = H9 b := fun b n => by rw [← qA, upd_ne n]
      have sxA : SameX p B HA := fun b o nb e => by
        have bW : b ≠ W := ne_of_none e nW
        rw [off b bW, t9 b nb]
        exact sx8 b o nb e
      have hpA : PoolAt HA p := by
        obtain ⟨c1, c2, z, y⟩ := hp9
        exact ⟨c1, c2, by rw [off p hWp.symm]; exact z, y⟩
      have ehA : HA hh = some (.lst ((fireL N l x).map V.int)) := by rw [off hh nhW]; exact eh9
      have lf : (fireL N l x).length = n := by rw [fireLen]; exact lx
      refine ⟨_, rfl, _, rfl, _, rfl, _, rfl, W, _, _, _, rfl, rfl, SqL.of atW, atI_last _ _, lk, hh, linksL n es, fireL N l x, (v : Int), rfl, (hLB.same sxA).at, linksWF good, ehA, by rw [linksLen]; exact lf, by omega, by rw [linksLen]; omega, fun q HB nq sB2 eq => ?_⟩
      have hv : v < n := by omega
      rw [show ((v : Int)).toNat = v by omega, linksAt hv, flipPerm (near.row v hv).symm (fun o ho => by rw [lf]; exact rowOf_mem good.node ho) (by omega)] at eq
      refine ⟨_, q, l ++ [v], rfl, sxA.trans (Same.x sB2), hpA.same sB2, ?_, ?_, ?_, ?_, fun u hu => ?_, by rw [List.length_append, ll]; rfl⟩
      · rw [sB2 _ _ atW]
        unfold natV
        rw [List.map_append]
        rfl
      · exact (ne_of_none atW nq).symm
      · exact (hpA.ne nq).symm
      · rw [eq]
        unfold fireL
        rw [List.foldl_append]
        rfl
      · rcases List.mem_append.mp hu with hu | hu
        · exact lb u hu
        · rw [List.mem_singleton.mp hu]
          exact hv
    obtain ⟨o5', hh, l, rfl, sx8, hp8, eW, nhW, nhp, eh, lb, ll⟩ := h8
    obtain ⟨y, hy⟩ : ∃ y, fireL N l x = y := ⟨_, rfl⟩
    rw [hy] at eh
    have ly : y.length = n := by rw [← hy, fireLen]; exact lx
    have hGC := hGB.same sx8
    have hLC := hLB.same sx8
    have hxC := sx8 _ _ hph hx
    have shX : Shw 1 ((120 + 3) * 16 + 2) (posD x) := shwInts (by decide) (by decide) (fun v hv => Nat.lt_of_le_of_lt (bx v hv) (by decide +kernel)) (by omega)
    have shY : Shw 1 ((120 + 3) * 16 + 2) (posD y) := shwInts (by decide) (by decide) (fun v hv => by
      rw [← hy] at hv
      have z := bdFire rows l 1000000000000000000000000000000 x bx v hv
      have q := Nat.mul_le_mul_right 1000000000000000000000000000000 (Nat.pow_le_pow_right (show 0 < 81 by decide) (show l.length ≤ 13 by omega))
      exact Nat.lt_of_le_of_lt (Nat.le_trans z q) (by decide +kernel)) (by omega)
    have lX : lenD (posD x) ≤ 100000 := by
      show (x.map PyData.int).length ≤ 100000
      rw [List.length_map]
      omega
    have lY : lenD (posD y) ≤ 100000 := by
      show (y.map PyData.int).length ≤ 100000
      rw [List.length_map]
      omega
    have sH8 : Same H H8 := fun b o e => sx8 b o (ne_of_none e npH) (s0 _ _ e)
    refine ⟨10, rfl, by omega, by omega, for_range (n := 10) (lo := 0) (fun i3 σ H9 => ∃ (o5'' o12 o13 : Option V), σ = [some (.ref a), some (.int (0 + i)), some (.ref p), some (.int (n : Int)), some (.ref D), o5'', o6, some (.ref g), some (.ref lk), some (.ref h), some (.ref W), some (.ref hh), o12, o13, v14] ∧
      SameX p H8 H9 ∧ PoolAt H9 p) ⟨_, _, _, rfl, SameX.refl, hp8⟩ (fun i3 σ H9 hi3 h9 => ?_) (fun σ H9 h9 => ?_)⟩
    · obtain ⟨o5'', o12, o13, rfl, sx9, hp9⟩ := h9
      have eW9 := sx9 _ _ hWp eW
      refine ⟨_, rfl, _, rfl, _, rfl, p, W, n, l, rfl, hp9, eW9, hWp, by omega, by omega, by omega, lb, fun tv d HA sA hpA hd hdl hsd => ?_⟩
      have sxA := sx9.trans sA
      have ehA := sxA _ _ nhp eh
      have exA := sxA _ _ hph hxC
      have shL : Shw 4 6010 (.list [posD x, posD y, d]) := (shwList (k := 3) (L := 2000) (m := 3) (fun e he => by
        rcases List.mem_cons.mp he with rfl | he
        · exact shX.mono (by decide) (by decide)
        rcases List.mem_cons.mp he with rfl | he
        · exact shY.mono (by decide) (by decide)
        · rw [List.mem_singleton.mp he]
          exact hsd.mono (by decide) (by decide)) (by show 3 ≤ 3; decide)).mono (by decide) (by decide)
      obtain ⟨sL1, sL2, sL3⟩ := shwLine shL (by decide) (by decide)
      refine ⟨_, rfl, _, rfl, _, rfl, by show 3 ≤ sizeLine; decide, fun Z nZ => ?_⟩
      obtain ⟨HB, qB2, sB2, hZ⟩ := newAt (.lst [V.ref h, V.ref hh, tv]) nZ
      rw [qB2]
      have xB := sB2 _ _ exA
      have yB := sB2 _ _ ehA
      have dB := hd HB (Same.x sB2)
      refine ⟨Z, [V.ref h, V.ref hh, tv], [posD x, posD y, d], rfl, SqL.of hZ, .cons (.dat (.lst (SqL.of xB) (dpInts x))) (.cons (.dat (.lst (SqL.of yB) (dpInts y))) (.cons dB .nil)), (fun z => by cases z), sL1, sL2, sL3, ?_⟩
      have hgB := (hGC.same (sxA.trans (Same.x sB2))).at
      have hlB := (hLC.same (sxA.trans (Same.x sB2))).at
      have sb := shwB (linkD N d x y)
      refine ⟨_, rfl, _, rfl, _, rfl, _, rfl, g, N, .ref h, posD x, .ref hh, posD y, tv, d, rfl, hgB, S.wf, by omega, .dat (.lst (SqL.of xB) (dpInts x)), lX, .dat (.lst (SqL.of yB) (dpInts y)), lY, dB, by omega, (fun z => by rw [ilPos (by omega)] at z; cases z), fun x0 ex0 lx0 => ⟨(fun z => by rw [ilPos (by omega)] at z; cases z), fun y0 ey0 ly0 HC sC => ?_⟩⟩
      obtain rfl := posInj ex0
      obtain rfl := posInj ey0
      refine ⟨.bl _, .bool (linkD N d x y), rfl, .dat (.bl _), sb.1, sb.2.1, sb.2.2, ?_⟩
      refine ⟨_, rfl, _, rfl, _, rfl, _, rfl, lk, h, hh, n, es, N, x, y, tv, d, rfl, hlB.same sC, near, good, by omega, sC _ _ xB, lx, sC _ _ yB, rdSame sC dB, by omega, fun HD sD => ?_⟩
      refine ⟨.bl _, .bool (linkD N d x y), rfl, .dat (.bl _), sb.1, sb.2.1, sb.2.2, rfl, _, rfl, ?_⟩
      rw [decide_eq_true rfl]
      have sCD := sC.trans sD
      refine iteF ⟨_, rfl, _, rfl, _, rfl, by show 3 ≤ sizeLine; decide, fun Z2 nZ2 => ?_⟩
      obtain ⟨HE, qE2, sE2, hZ2⟩ := newAt (.lst [V.ref h, V.ref hh, tv]) nZ2
      rw [qE2]
      have sBE := sCD.trans sE2
      refine ⟨Z2, [V.ref h, V.ref hh, tv], [posD x, posD y, d], rfl, SqL.of hZ2, .cons (.dat (.lst (SqL.of (sBE _ _ xB)) (dpInts x))) (.cons (.dat (.lst (SqL.of (sBE _ _ yB)) (dpInts y))) (.cons (rdSame sBE dB) .nil)), (fun z => by cases z), sL1, sL2, sL3, _, rfl, rfl, _, rfl, ?_⟩
      rw [decide_eq_true rfl]
      exact iteF ⟨_, _, _, rfl, sxA.trans (Same.x (sB2.trans sBE)), hpA.same (sB2.trans sBE)⟩
    obtain ⟨o5'', o12, o13, rfl, sx9, hp9⟩ := h9
    have sH9 : Same H H9 := fun b o e => sx9 b o (ne_of_none e npH) (sH8 _ _ e)
    have hg9 := (hGC.same sx9).at
    have hx9 := sx9 _ _ hph hxC
    clear hGC hLC hxC sx9 hp9 sx8 hp8 eW eh hGB hLB hW sB hp77 t7 hx hp7 hpp
    refine ⟨_, rfl, by show 1 ≤ sizeLine; decide, fun z1 nz1 => ?_⟩
    obtain ⟨J1, j1, u1, w1⟩ := newAt (.lst [V.int 0]) nz1
    rw [j1]
    refine ⟨h, z1, _, _, rfl, rfl, u1 _ _ hx9, w1, by rw [List.length_map, sizeLine_eq]; show x.length + 1 ≤ _; omega, fun R2 nR2 => ?_⟩
    obtain ⟨J2, j2, u2, w2⟩ := newAt (.lst ((x ++ [0]).map V.int)) nR2
    rw [show (x.map V.int ++ [V.int 0]) = (x ++ [0]).map V.int from by rw [List.map_append]; rfl, j2]
    refine ⟨_, rfl, h, _, rfl, .inl ⟨SqL.of (u2 _ _ (u1 _ _ hx9)), fun R3 nR3 => ?_⟩⟩
    obtain ⟨J3, j3, u3, w3⟩ := newAt (.tup (x.map V.int)) nR3
    rw [j3]
    refine ⟨_, rfl, 1, rfl, h, _, rfl, SqL.of (u3 _ _ (u2 _ _ (u1 _ _ hx9))), fun R4 nR4 => ?_⟩
    obtain ⟨xc, exc, lxc⟩ : ∃ xc : List Int, cutV (x.map V.int) (some 1) none = xc.map V.int ∧ (∀ v ∈ xc, v ∈ x) ∧ xc.length ≤ x.length := by
      refine ⟨(x.drop (HT.sIx x.length 0 (some 1))).take (HT.sIx x.length x.length none - HT.sIx x.length 0 (some 1)), ?_, fun v hv => List.mem_of_mem_drop (List.mem_of_mem_take hv), ?_⟩
      · unfold cutV
        rw [List.length_map, List.map_take, List.map_drop]
      · rw [List.length_take, List.length_drop]
        omega
    rw [exc]
    obtain ⟨J4, j4, u4, w4⟩ := newAt (.lst (xc.map V.int)) nR4
    rw [j4]
    refine ⟨by show 1 ≤ sizeLine; decide, fun z5 nz5 => ?_⟩
    obtain ⟨J5, j5, u5, w5⟩ := newAt (.lst [V.bl true]) nz5
    rw [j5]
    refine ⟨R4, z5, _, _, rfl, rfl, u5 _ _ w4, w5, by rw [List.length_map, sizeLine_eq]; show xc.length + 1 ≤ _; omega, fun R6 nR6 => ?_⟩
    obtain ⟨J6, j6, u6, w6⟩ := newAt (.lst (xc.map V.int ++ [V.bl true])) nR6
    rw [j6]
    refine fun R7 nR7 => ?_
    obtain ⟨J7, j7, u7, w7⟩ := newAt (.dK []) nR7
    rw [j7]
    refine ⟨by show 6 ≤ sizeLine; decide, fun R8 nR8 => ?_⟩
    obtain ⟨J8, j8, u8, w8⟩ := newAt (.lst [V.non, V.ref R2, V.ref R3, V.ref R6, V.str "0", V.ref R7]) nR8
    rw [j8]
    have uA : Same H9 J8 := u1.trans (u2.trans (u3.trans (u4.trans (u5.trans (u6.trans (u7.trans u8))))))
    have hgJ := hg9.same uA
    have hxJ := uA _ _ hx9
    have f2 := u8 _ _ (u7 _ _ (u6 _ _ (u5 _ _ (u4 _ _ (u3 _ _ w2)))))
    have f3 := u8 _ _ (u7 _ _ (u6 _ _ (u5 _ _ (u4 _ _ w3))))
    have f6 := u8 _ _ (u7 _ _ w6)
    have f7 := u8 _ _ w7
    have sHJ := sH9.trans uA
    refine ⟨R8, rfl, ⟨_, SqL.of w8⟩, for_list (K := K) (a := R8) (xs := [V.non, V.ref R2, V.ref R3, V.ref R6, V.str "0", V.ref R7]) (fun i6 σ HA => ∃ o14 : Option V, σ = [some (.ref a), some (.int (0 + i)), some (.ref p), some (.int (n : Int)), some (.ref D), o5'', o6, some (.ref g), some (.ref lk), some (.ref h), some (.ref W), some (.ref hh), o12, o13, o14] ∧ Same J8 HA)
      ⟨v14, rfl, Same.refl J8⟩ (fun i6 σ HA _ h6 => ?_) (fun i6 z σ HA hi6' h6 => ?_) (fun σ HA h6 => ?_)⟩
    · obtain ⟨_, _, sA⟩ := h6
      exact SqL.of (sA _ _ w8)
    · obtain ⟨o14, rfl, sA⟩ := h6
      have hx' : ∀ v ∈ x, v.natAbs < 10 ^ 120 := fun v hv => Nat.lt_of_le_of_lt (bx v hv) (by decide +kernel)
      obtain ⟨d, hd, hil, hdl, hsh, hflat⟩ : ∃ d, (∀ H3, Same J8 H3 → Rd K H3 z d) ∧ isIL N.length d = false ∧ lenD d ≤ 100000 ∧ Shw 3 4000 d ∧ (flatB z = true ∨ ∃ c, z = .ref c) := by
        have hlt : i6 < 6 := (List.getElem?_eq_some_iff.mp hi6').1
        obtain rfl | rfl | rfl | rfl | rfl | rfl : i6 = 0 ∨ i6 = 1 ∨ i6 = 2 ∨ i6 = 3 ∨ i6 = 4 ∨ i6 = 5 := by omega
        · obtain rfl : V.non = z := Option.some.inj hi6'
          exact ⟨.none, fun _ _ => .dat .non, rfl, Nat.zero_le _, ⟨by decide +kernel, by decide +kernel, by decide +kernel⟩, .inl rfl⟩
        · obtain rfl : V.ref R2 = z := Option.some.inj hi6'
          refine ⟨posD (x ++ [0]), fun H3 s => .dat (.lst (SqL.of (s _ _ f2)) (dpInts _)), ?_, ?_, (shwInts (k := 120) (m := 17) (by decide) (by decide) (fun v hv => ?_) ?_).mono (by decide) (by decide), .inr ⟨_, rfl⟩⟩
          · show (decide (((x ++ [0]).map PyData.int).length = N.length) && _) = false
            rw [decide_eq_false (by rw [List.length_map, List.length_append, List.length_singleton]; omega)]
            rfl
          · show ((x ++ [0]).map PyData.int).length ≤ 100000
            rw [List.length_map, List.length_append, List.length_singleton]
            omega
          · rcases List.mem_append.mp hv with hv | hv
            · exact hx' v hv
            · rw [List.mem_singleton.mp hv]
              decide +kernel
          · rw [List.length_append, List.length_singleton]
            omega
        · obtain rfl : V.ref R3 = z := Option.some.inj hi6'
          refine ⟨.tuple (x.map PyData.int), fun H3 s => .dat (.tup (SqT.of (s _ _ f3)) (dpInts _)), rfl, Nat.zero_le _, (shwTup (k := 0) (L := 121) (m := 16) (fun e he => ?_) ?_).mono (by decide) (by decide), .inr ⟨_, rfl⟩⟩
          · obtain ⟨v, hv, rfl⟩ := List.mem_map.mp he
            exact shwPow (k := 120) (by decide) (by decide) (hx' v hv)
          · rw [List.length_map]
            omega
        · obtain rfl : V.ref R6 = z := Option.some.inj hi6'
          refine ⟨.list (xc.map PyData.int ++ [.bool true]), fun H3 s => .dat (.lst (SqL.of (s _ _ f6)) (dpAllCat (dpInts _) (.cons (.bl _) .nil))), ?_, ?_, (shwList (k := 0) (L := 121) (m := 17) (fun e he => ?_) ?_).mono (by decide) (by decide), .inr ⟨_, rfl⟩⟩
          · show (_ && (xc.map PyData.int ++ [PyData.bool true]).all isI) = false
            rw [List.all_append]
            show (_ && (_ && (false && true))) = false
            simp
          · show (xc.map PyData.int ++ [PyData.bool true]).length ≤ 100000
            rw [List.length_append, List.length_map]
            show xc.length + 1 ≤ _
            omega
          · rcases List.mem_append.mp he with he | he
            · obtain ⟨v, hv, rfl⟩ := List.mem_map.mp he
              exact shwPow (k := 120) (by decide) (by decide) (hx' v (lxc.1 v hv))
            · rw [List.mem_singleton.mp he]
              exact ⟨by decide +kernel, by decide +kernel, by decide +kernel⟩
          · rw [List.length_append, List.length_map]
            show xc.length + 1 ≤ _
            omega
        · obtain rfl : V.str "0" = z := Option.some.inj hi6'
          exact ⟨.str "0", fun _ _ => .dat (.str _), rfl, Nat.zero_le _, ⟨by decide +kernel, by decide +kernel, by decide +kernel⟩, .inl rfl⟩
        · obtain rfl : V.ref R7 = z := Option.some.inj hi6'
          exact ⟨.dict [], fun H3 s => .dct [] (s _ _ f7), rfl, Nat.zero_le _, ⟨by simp only [PyData.showable, PyData.showableKv], by decide +kernel, by decide +kernel⟩, .inr ⟨_, rfl⟩⟩
      refine ⟨_, rfl, _, rfl, g, N, z, d, .non, .none, z, rfl, hgJ.same sA, S.wf, by omega, hd _ sA, hdl, .dat .non, Nat.zero_le _, .inl ⟨hil, rfl⟩, fun u HB nu sB eu => ?_⟩
      have sAB := sA.trans sB
      refine ⟨_, rfl, by show 1 ≤ sizeLine; decide, fun Z nZ => ?_⟩
      obtain ⟨HC, qC, sC, hZ⟩ := newAt (.lst [z]) nZ
      rw [qC]
      have sAC := sAB.trans sC
      refine ⟨u, Z, [z], rfl, rfl, SqL.of (sC _ _ eu), SqL.of hZ, (fun v hv => by rw [List.mem_singleton.mp hv]; exact hflat), _, rfl, iteF ?_⟩
      have shL : Shw 4 4004 (.list [d]) := (shwList (k := 3) (L := 4000) (m := 1) (fun e he => by
        rw [List.mem_singleton.mp he]
        exact hsh) (by show 1 ≤ 1; decide)).mono (by decide) (by decide)
      obtain ⟨sL1, sL2, sL3⟩ := shwLine shL (by decide) (by decide)
      refine ⟨_, rfl, _, rfl, _, rfl, g, N, .ref h, posD x, z, d, z, rfl, hgJ.same sAC, S.wf, by omega, .dat (.lst (SqL.of (sAC _ _ hxJ)) (dpInts x)), lX, hd _ sAC, hdl, .inr ⟨x, rfl, by omega, hil, rfl⟩, fun u2 HD nu2 sD eu2 => ?_⟩
      have sAD := sAC.trans sD
      refine ⟨u2, [z], [d], rfl, SqL.of eu2, .cons (hd _ sAD) .nil, (fun z => by cases z), sL1, sL2, sL3, ?_⟩
      refine ⟨_, rfl, by show 1 ≤ sizeLine; decide, fun Z2 nZ2 => ?_⟩
      obtain ⟨HE, qE2, sE2, hZ2⟩ := newAt (.lst [z]) nZ2
      rw [qE2]
      refine ⟨Z2, [z], [d], rfl, SqL.of hZ2, .cons (hd _ (sAD.trans sE2)) .nil, (fun z => by cases z), sL1, sL2, sL3, rfl, _, rfl, ?_⟩
      rw [decide_eq_true rfl]
      exact iteF ⟨_, rfl, sAD.trans sE2⟩
    obtain ⟨o14, rfl, sA⟩ := h6
    exact ⟨_, _, _, _, _, _, _, _, _, _, _, _, _, _, rfl, sHJ.trans sA⟩
end

end K66

set_option Elab.async false
set_option linter.all false
set_option maxRecDepth 100000
set_option maxHeartbeats 8000000
namespace K66
open PySem PySem.Spec PyProof.Rows L2 FNX
section
variable {P : Program} {w : World} {K : PySem.W.Frag} {mg : Str → Option Value} {base : Heap} {CG : Addr} {CX : CXT} {k : Nat} {x qual : Str} {st : Stmt} {f : Addr} {ps : List Str} {sp : Sp}
theorem at_of (F : FnF K mg x st f) (ok : ∀ fd, Fun K x x st f fd → FnOk P w K mg base CX k f fd ps sp)
    (b : ∀ (kV doc pm : Value) (an : Option Addr) (cdv ct : Value) (us : List Value), us.length = ps.length → bindArgs (PySem.W.fnOf x x (defArgs st) (defBody st) (defScope st) .none kV doc pm an cdv ct) ⟨us, []⟩ = pure (ps.zip us)) : At P w K mg base CX k x ps sp := by
  obtain ⟨g, fd, F⟩ := F
  exact ⟨f, fd, ok fd F, g, F.kp, F.binds b⟩
theorem atG_of (F : FnF K mg x st f) (ok : ∀ fd, Fun K x x st f fd → GOk P w K mg base k f fd ps sp)
    (b : ∀ (kV doc pm : Value) (an : Option Addr) (cdv ct : Value) (us : List Value), us.length = ps.length → bindArgs (PySem.W.fnOf x x (defArgs st) (defBody st) (defScope st) .none kV doc pm an cdv ct) ⟨us, []⟩ = pure (ps.zip us)) : AtG P w K mg base k x ps sp := by
  obtain ⟨g, fd, F⟩ := F
  exact ⟨f, fd, ok fd F, g, F.kp, F.binds b⟩
theorem mat_of (F : MtF K CG x qual st f) (ok : ∀ fd, Fun K x qual st f fd → FnOk P w K mg base CX k f fd ps sp)
    (b : ∀ (kV doc pm : Value) (an : Option Addr) (cdv ct : Value) (us : List Value), us.length = ps.length → bindArgs (PySem.W.fnOf x qual (defArgs st) (defBody st) (defScope st) .none kV doc pm an cdv ct) ⟨us, []⟩ = pure (ps.zip us)) : MAt P w K mg base CG CX k x ps sp := by
  obtain ⟨m, fd, F⟩ := F
  exact ⟨f, fd, ok fd F, m, F.binds b⟩
end
theorem tInvalidPosition : InitTxt s_InvalidPosition_init := ⟨⟨rfl, rfl, rfl, by decide +kernel, rfl, by decide +kernel, by decide +kernel⟩, ⟨_, _, _, _, rfl⟩, fun _ _ _ _ _ _ _ us hl => match us, hl with | [_, _], _ => rfl, fun _ _ _ _ _ _ _ _ _ => rfl⟩
theorem all_mk {l : PySem.W.OpenLaw} {w : World} {K : PySem.W.Frag} {h : Heap} {mg : Str → Option Value} {fa fL   f0 f1 f2 f3 f4 f5 f6 f7 f8 f9 f10 f11 f12 f13 f14 f15 f16 f17 f18 f19 f20 f21 f22 f23 c0 CG fI eT : Addr} {t0 t1 : Tok} (X : K.In h) (G : h.Ns mainGlobals mg) (hfa : mg "law" = some (.ref fa))
    (C0 : Cl K mg "InvalidPosition" c0) (ty0 : PySem.W.typeIn K (.ref c0) = some (.type "type"))
    (gG : PySem.W.nsIn K mainGlobals "Graph" = some (some (.ref CG)))
    (cl : Cls K CG) (n1 : PySem.W.findIn K (.ref CG) "node_count" = some none) (n2 : PySem.W.findIn K (.ref CG) "joined" = some none) (n3 : PySem.W.findIn K (.ref CG) "near" = some none) (FI : InF K CG "Graph.__init__" s_Graph_init fI eT)
    (F0 : FnF K mg "is_integer" s_is_integer f0)
    (F1 : FnF K mg "is_integer_within" s_is_integer_within f1)
    (F2 : FnF K mg "is_integer_list" s_is_integer_list f2)
    (F3 : FnF K mg "is_node" s_is_node f3)
    (F4 : FnF K mg "is_node_list" s_is_node_list f4)
    (F5 : FnF K mg "check_position" s_check_position f5)
    (F6 : FnF K mg "check_node" s_check_node f6)
    (F7 : FnF K mg "is_edge" s_is_edge f7)
    (F8 : FnF K mg "checked_edges" s_checked_edges f8)
    (F9 : FnF K mg "neighbour_lists" s_neighbour_lists f9)
    (F10 : MtF K CG "size" "Graph.size" s_Graph_size f10)
    (F11 : MtF K CG "neighbours" "Graph.neighbours" s_Graph_neighbours f11)
    (F12 : FnF K mg "all_neighbours" s_all_neighbours f12)
    (F13 : FnF K mg "flip_in_place" s_flip_in_place f13)
    (F14 : FnF K mg "is_link" s_is_link f14)
    (F15 : FnF K mg "_law_pool" s__law_pool f15)
    (F16 : FnF K mg "_law_take" s__law_take f16)
    (F17 : FnF K mg "_law_links" s__law_links f17)
    (F18 : FnF K mg "_law_number" s__law_number f18)
    (F19 : FnF K mg "_law_numbers" s__law_numbers f19)
    (F20 : FnF K mg "_law_flipped" s__law_flipped f20)
    (F21 : FnF K mg "_law_bent" s__law_bent f21)
    (F22 : FnF K mg "_law_due" s__law_due f22)
    (F23 : FnF K mg "_law_asked" s__law_asked f23)
    (FL : FnF K mg "law" s_law fL)
    (i0 : PySem.W.nsIn K mainGlobals "MOST_NODES" = some (some (.int 16 t0)))
    (i1 : PySem.W.nsIn K mainGlobals "MOST_EDGES" = some (some (.int 40 t1)))
    (z0 : PySem.W.nsIn K mainGlobals "isinstance" = some none)
    (z1 : PySem.W.nsIn K mainGlobals "int" = some none)
    (z2 : PySem.W.nsIn K mainGlobals "bool" = some none)
    (z3 : PySem.W.nsIn K mainGlobals "list" = some none)
    (z4 : PySem.W.nsIn K mainGlobals "tuple" = some none)
    (z5 : PySem.W.nsIn K mainGlobals "len" = some none)
    (z6 : PySem.W.nsIn K mainGlobals "all" = some none)
    (z7 : PySem.W.nsIn K mainGlobals "range" = some none)
    (z8 : PySem.W.nsIn K mainGlobals "enumerate" = some none)
    (z9 : PySem.W.nsIn K mainGlobals "min" = some none)
    (z10 : PySem.W.nsIn K mainGlobals "max" = some none)
    (z11 : PySem.W.nsIn K mainGlobals "sorted" = some none)
    (z12 : PySem.W.nsIn K mainGlobals "repr" = some none)
    (z13 : PySem.W.nsIn K mainGlobals "abs" = some none)
    (x0 : PySem.W.exmOne K (.ref c0) (.ref c0) = some true)
    : ∃ fd : FuncData, (∀ (s : Shared) (v : Value), BindsTo s fd ⟨[v], []⟩ [("_law_script", v)]) ∧ ∀ base : Heap, K.In base → base.Ns mainGlobals mg → GOk l.prog w K mg base 10 fa fd ["_law_script"] (spLaw K) := by
  obtain ⟨gL, fdL, FL⟩ := FL
  have e := hfa.symm.trans gL
  cases e
  refine ⟨fdL, fun s v => ?_, fun base KB NB => ?_⟩
  · obtain ⟨oc, od, kV, doc, pm, an, cdv, ct, osl, rfl, _, _⟩ := FL.ex
    exact .of_eq rfl
  have no : ∀ {x : Str}, PySem.W.nsIn K mainGlobals x = some none → mg x = none := fun z => PySem.W.mg_none_of X G z
  have M : Nms mg := {isi := no z0, int := no z1, bool := no z2, list := no z3, tuple := no z4, len := no z5, all := no z6, range := no z7, enumerate := no z8, min := no z9, max := no z10, sorted := no z11, repr := no z12 }
  have n_abs : mg "abs" = none := no z13
  have i_MOST_NODES := PySem.W.mg_of X G i0
  have i_MOST_EDGES := PySem.W.mg_of X G i1
  have T : GTxt K mg CG := ⟨cl, n1, n2, n3, PySem.W.mg_of X G gG⟩
  have EP : Ex l.prog w K mg base "InvalidPosition" c0 := C0.ex

  have a_is_integer : At l.prog w K mg base CX0 1 "is_integer" ["thing"] (spIsInteger K) := at_of F0 (fun fd F => ok_is_integer F M) (fun _ _ _ _ _ _ us hl => match us, hl with | [_], _ => rfl)
  have a_is_integer_within : At l.prog w K mg base CX0 2 "is_integer_within" ["thing", "low", "high"] (spWithin K) := at_of F1 (fun fd F => ok_within F a_is_integer) (fun _ _ _ _ _ _ us hl => match us, hl with | [_, _, _], _ => rfl)
  have a_is_integer_list : At l.prog w K mg base CX0 2 "is_integer_list" ["thing", "length"] (spIntList K) := at_of F2 (fun fd F => ok_int_list F M a_is_integer) (fun _ _ _ _ _ _ us hl => match us, hl with | [_, _], _ => rfl)
  have a_is_node : At l.prog w K mg base CX0 3 "is_node" ["size", "thing"] (spIsNode K) := at_of F3 (fun fd F => ok_is_node F a_is_integer_within) (fun _ _ _ _ _ _ us hl => match us, hl with | [_, _], _ => rfl)
  have a_is_node_list : At l.prog w K mg base CX0 4 "is_node_list" ["size", "thing"] (spNodeList K) := at_of F4 (fun fd F => ok_node_list F M a_is_node) (fun _ _ _ _ _ _ us hl => match us, hl with | [_, _], _ => rfl)
  have a_check_position : At l.prog w K mg base (L2.CX l.prog w) 3 "check_position" ["size", "position"] (spCheckPos K c0) := at_of F5 (fun fd F => ok_check_position F EP ty0 a_is_integer_list) (fun _ _ _ _ _ _ us hl => match us, hl with | [_, _], _ => rfl)
  have a_check_node : At l.prog w K mg base CX0 4 "check_node" ["size", "node"] spCheckNode := at_of F6 (fun fd F => ok_check_node F a_is_node) (fun _ _ _ _ _ _ us hl => match us, hl with | [_, _], _ => rfl)
  have a_is_edge : At l.prog w K mg base CX0 4 "is_edge" ["size", "thing"] spIsEdge := at_of F7 (fun fd F => ok_is_edge F M a_is_node) (fun _ _ _ _ _ _ us hl => match us, hl with | [_, _], _ => rfl)
  have a_checked_edges : At l.prog w K mg base CX0 5 "checked_edges" ["size", "edges"] (spEdges K) := at_of F8 (fun fd F => ok_checked_edges F M a_is_edge) (fun _ _ _ _ _ _ us hl => match us, hl with | [_, _], _ => rfl)
  have a_neighbour_lists : At l.prog w K mg base CX0 1 "neighbour_lists" ["size", "edges"] (spNear K) := at_of F9 (fun fd F => ok_near F M) (fun _ _ _ _ _ _ us hl => match us, hl with | [_, _], _ => rfl)
  have a_size : MAt l.prog w K mg base CG CX0 1 "size" ["self"] (spSize CG) := mat_of F10 (fun fd F => ok_gsize F T) (fun _ _ _ _ _ _ us hl => match us, hl with | [_], _ => rfl)
  have a_neighbours : MAt l.prog w K mg base CG CX0 5 "neighbours" ["self", "node"] (spNeighbours CG) := mat_of F11 (fun fd F => ok_neighbours F T M a_check_node) (fun _ _ _ _ _ _ us hl => match us, hl with | [_, _], _ => rfl)
  have a_all_neighbours : At l.prog w K mg base CX0 6 "all_neighbours" ["graph"] (spAll CG) := at_of F12 (fun fd F => ok_all F T M a_size a_neighbours) (fun _ _ _ _ _ _ us hl => match us, hl with | [_], _ => rfl)
  have a_flip_in_place : At l.prog w K mg base CX0 1 "flip_in_place" ["numbers", "node", "near"] spFlip := at_of F13 (fun fd F => ok_flip F) (fun _ _ _ _ _ _ us hl => match us, hl with | [_, _, _], _ => rfl)
  have a_is_link : At l.prog w K mg base (L2.CX l.prog w) 7 "is_link" ["graph", "position", "other", "thing"] (spIsLink K CG c0) := at_of F14 (fun fd F => ok_islink F T M a_size a_check_position a_all_neighbours a_is_node_list a_flip_in_place) (fun _ _ _ _ _ _ us hl => match us, hl with | [_, _, _, _], _ => rfl)
  have a__law_pool : At l.prog w K mg base CX0 1 "_law_pool" ["_law_script", "_law_k"] (spPool K) := at_of F15 (fun fd F => ok_pool F M.len n_abs M.int) (fun _ _ _ _ _ _ us hl => match us, hl with | [_, _], _ => rfl)
  have a__law_take : At l.prog w K mg base CX0 1 "_law_take" ["_law_pool_here", "_law_many"] spTake := at_of F16 (fun fd F => ok_take F) (fun _ _ _ _ _ _ us hl => match us, hl with | [_, _], _ => rfl)
  have a__law_links : At l.prog w K mg base CX0 1 "_law_links" ["_law_many", "_law_edges"] (spLinks K) := at_of F17 (fun fd F => ok_links F M) (fun _ _ _ _ _ _ us hl => match us, hl with | [_, _], _ => rfl)
  have a__law_number : At l.prog w K mg base CX0 2 "_law_number" ["_law_pool_here", "_law_wide"] spNumW := at_of F18 (fun fd F => ok_numw F a__law_take) (fun _ _ _ _ _ _ us hl => match us, hl with | [_, _], _ => rfl)
  have a__law_numbers : At l.prog w K mg base CX0 3 "_law_numbers" ["_law_pool_here", "_law_many", "_law_wide"] spNumsW := at_of F19 (fun fd F => ok_numsw F M a__law_number) (fun _ _ _ _ _ _ us hl => match us, hl with | [_, _, _], _ => rfl)
  have a__law_flipped : At l.prog w K mg base CX0 1 "_law_flipped" ["_law_links_here", "_law_here", "_law_node"] (spFlipped K) := at_of F20 (fun fd F => ok_flipped F M) (fun _ _ _ _ _ _ us hl => match us, hl with | [_, _, _], _ => rfl)
  have a__law_bent : At l.prog w K mg base CX0 2 "_law_bent" ["_law_pool_here", "_law_nodes", "_law_many"] (spBent66 K) := at_of F21 (fun fd F => ok_bent66 F M a__law_take) (fun _ _ _ _ _ _ us hl => match us, hl with | [_, _, _], _ => rfl)
  have a__law_due : At l.prog w K mg base CX0 2 "_law_due" ["_law_links_here", "_law_here", "_law_there", "_law_thing"] (spDue66 K) := at_of F22 (fun fd F => ok_due66 F M a__law_flipped) (fun _ _ _ _ _ _ us hl => match us, hl with | [_, _, _, _], _ => rfl)
  have a__law_asked : AtG l.prog w K mg base 8 "_law_asked" ["_law_graph", "_law_one", "_law_other"] (spAsked K CG) := atG_of F23 (fun fd F => ok_asked F EP x0 a_is_link) (fun _ _ _ _ _ _ us hl => match us, hl with | [_, _, _], _ => rfl)
  obtain ⟨MK, fdI, FI⟩ := FI
  have GI := ok_ginit (P := l.prog) (w := w) (base := base) FI T M i_MOST_NODES i_MOST_EDGES a_is_integer_within a_checked_edges a_neighbour_lists
  have bI : L2.Binds K fdI ["self", "size", "edges"] [] := by
    obtain ⟨ds, hd, hb⟩ := FI.binds1 (ps := ["self", "size", "edges"]) 3 1 (by simp) rfl (fun T kV doc pm an cdv ct us its h1 h2 => match us, its, h1, h2 with | [_, _, _], [_], _, _ => ⟨_, rfl, rfl⟩)
    cases hd
    exact hb
  exact ok_law FL M a__law_pool a__law_take a__law_links a__law_numbers a__law_flipped a__law_bent a_is_link a__law_due a__law_asked MK GI bI (PySem.W.mg_of X G gG)
end K66

set_option Elab.async false
set_option linter.all false
open PySem PySem.W PyProof.Rows
set_option maxRecDepth 100000 in
set_option maxHeartbeats 0 in
theorem PySem.Challenge.cw_firenegatives_k66_links_judged_holds : PySem.Challenge.rw_firenegatives_k66_links_judged.Holds := by
  w_on; o_law; k_head; (case hw => w_witness2)
  k_fill
  refine FNX.walkG (l := PySem.Challenge.rw_firenegatives_k66_links_judged) (n := 63) (k := 10) (x := "_law_script") (sp := fun w => K66.spLaw _) rfl (by decide) rfl ⟨rfl, by decide, by decide⟩ (fun w h Y => PySem.W.kIn_of Y) ?F
    (fun w H a ns hl hS => ⟨a, ns, rfl, hS, hl, fun _ => rfl⟩)
  case F =>
    intro w mg fa h KX G hmg
    refine' K66.all_mk KX G hmg
      (FNX.mkCl KX G ?_ (FNX.mkXC F.excBase_ValueError FNX.chainVal ?_ ?_ ?_ ?_ ?_ ?_ ?_ ?_ ?_ ?_ ?_) K66.tInvalidPosition ?_ ?_ ?_ ?_ ?_) ?_
      ?_ ⟨?_, ?_, ?_, ?_⟩ ?_ ?_ ?_ (FNX.mkIn ?_ ?_ ?_ ?_ ?_ ?_ ?_ ?_)
      (FNX.mkF KX G ?_ ?_ ?_ ?_) (FNX.mkF KX G ?_ ?_ ?_ ?_) (FNX.mkF KX G ?_ ?_ ?_ ?_) (FNX.mkF KX G ?_ ?_ ?_ ?_) (FNX.mkF KX G ?_ ?_ ?_ ?_) (FNX.mkF KX G ?_ ?_ ?_ ?_) (FNX.mkF KX G ?_ ?_ ?_ ?_) (FNX.mkF KX G ?_ ?_ ?_ ?_) (FNX.mkF KX G ?_ ?_ ?_ ?_) (FNX.mkF KX G ?_ ?_ ?_ ?_) (FNX.mkMt ?_ ?_ ?_ ?_ ?_) (FNX.mkMt ?_ ?_ ?_ ?_ ?_) (FNX.mkF KX G ?_ ?_ ?_ ?_) (FNX.mkF KX G ?_ ?_ ?_ ?_) (FNX.mkF KX G ?_ ?_ ?_ ?_) (FNX.mkF KX G ?_ ?_ ?_ ?_) (FNX.mkF KX G ?_ ?_ ?_ ?_) (FNX.mkF KX G ?_ ?_ ?_ ?_) (FNX.mkF KX G ?_ ?_ ?_ ?_) (FNX.mkF KX G ?_ ?_ ?_ ?_) (FNX.mkF KX G ?_ ?_ ?_ ?_) (FNX.mkF KX G ?_ ?_ ?_ ?_) (FNX.mkF KX G ?_ ?_ ?_ ?_) (FNX.mkF KX G ?_ ?_ ?_ ?_) (FNX.mkF KX G ?_ ?_ ?_ ?_)
      ?_ ?_ ?_ ?_ ?_ ?_ ?_ ?_ ?_ ?_ ?_ ?_ ?_ ?_ ?_ ?_ ?x0
    any_goals k_is
    case x0 => kernel_rfl
#print axioms PySem.Challenge.cw_firenegatives_k66_links_judged_holds
