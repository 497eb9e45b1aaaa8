import PyProof.Rows.All
import Wide.All
import OpenK.AllK
import Wide.FinOn
import HandS.ForExc
import HandS.ExcInit
import HandS.IsInst
import KE.KExcIs
import HandS.ForMost
import KE.DataMinMax
import HandS.Defaults
import HandS.EndTab
import HandS.TryMany
import KE.KNestM
import HandS.DeepEq
import PyProof.Conv_int_bool
import HandS.OwnEq
import HandS.Nested
import HandS.Conv
import PyProof.Rows.TupDisplay
import HandS.FStr
import HandS.Wide
import HandS.Flow
import HandS.Style
import HandS.Deep
import HandS.SortRule
import HandS.SortInts
import HandS.Walk
import HandS.Codes
import PySem.Challenge.RW_firenegatives_k01_graphs_made
set_option Elab.async false
set_option linter.all false
set_option maxRecDepth 100000
set_option maxHeartbeats 4000000
/-! ## Built-in bases of the package's exceptions -/
namespace FNX
open PySem PySem.F

/-- no class of the chain refuses a store -/
def Pass (l : List Value) : Prop := ∀ self : Value, refuseLoop self "__setattr__" l = pure ()
theorem passRun : Pass [.type "RuntimeError", .type "Exception", .type "BaseException", .type "object"] := fun self => by kernel_rfl
theorem passOver : Pass [.type "OverflowError", .type "ArithmeticError", .type "Exception", .type "BaseException", .type "object"] := fun self => by kernel_rfl
theorem passLook : Pass [.type "LookupError", .type "Exception", .type "BaseException", .type "object"] := fun self => by kernel_rfl
theorem passKey : Pass [.type "KeyError", .type "LookupError", .type "Exception", .type "BaseException", .type "object"] := fun self => by kernel_rfl
theorem passIndex : Pass [.type "IndexError", .type "LookupError", .type "Exception", .type "BaseException", .type "object"] := fun self => by kernel_rfl
theorem passVal : Pass [.type "ValueError", .type "Exception", .type "BaseException", .type "object"] := fun self => by kernel_rfl
theorem Pass.ref {l : List Value} (h : Pass l) (c : Addr) : Pass (.ref c :: l) := fun self => by
  rw [refuseLoop_ref]
  exact h self
end FNX

/-! ## C(..), C an exception class of the program with an `__init__` of its own -/
namespace FNX
open PySem PySem.W PySem.Calls PyProof.Rows PySem.HandSPX
/-- what the chain of the class behind itself has, and has not -/
structure Chain (B : String) (bm : List Value) : Prop where
  base : bm.contains (.type B) = true
  obj : bm.contains (.type "object") = true
  noA : bm.contains (.type "AttributeError") = false
  noN : bm.contains (.type "NameError") = false
  some1 : bm.isEmpty = false
  pass : Pass bm
section
variable {prog : Program} {w : World} {A : Around} {E : Value → Shared → Prop} {R : Result → Shared → Prop}
variable {h : Heap} {g : Array GenState} {d : Drawn} {t : Nat} {os : OsState} {nm q : Str} {C N : Addr} {bs bm bmB : List Value}
variable {hdct : Bool} {sn : List Str} {sub : List Value} {ab : Bool} {col : Option Bool} {dd : Option Addr}
variable {k0 k1 k2 k3 k5 : Option Value} {B newId initId : String} {us : List Value} {kw : List (Str × Value)}

theorem newChecked {M : Model} {Q : Unit → Shared → Prop} (F : ExcBaseFacts B newId initId bmB) (L : Chain B bm)
    (hC : h.get? C = some (excClassObj nm q C N bs bm hdct sn sub ab col dd k0 k1 k2 k3 k5 newId)) (hq : Q () ⟨h, g, d, t, os⟩) :
    wpAny M A (checkBuiltinCall newId ⟨.ref C :: us, kw⟩) Q E ⟨h, g, d, t, os⟩ := by
  have in1 : (Value.ref C :: bm).contains (.type B) = true := by simp only [List.contains_cons, L.base, Bool.or_true]
  have star := F.noStar
  simp only [checkBuiltinCall, F.newKind, F.newSplit, F.newRow]
  repeat (first
    | refine wpAny_loadPart_at hC ?_
    | (refine wpAny_isSubtype_exc hC ?_; rw [in1])
    | refine wpAny_staticBase_exc hC ?_
    | refine wpAny_madeBy_exc hC ?_
    | simp only [bne_self_eq_false, Bool.false_eq_true, if_false]
    | wp_step)
  exact hq

theorem newMade (F : ExcBaseFacts B newId initId bmB) (L : Chain B bm)
    (hC : h.get? C = some (excClassObj nm q C N bs bm hdct sn sub ab col dd k0 k1 k2 k3 k5 newId)) (hl : us.length ≤ sizeLine)
    (hq : R (.ok (.ret (.ref (h.objs.size + 1)))) ⟨(h.push (kdv_tup us)).push (excO C h.objs.size), g, d, t, os⟩) :
    codeAny (model prog w) A (.builtin newId ⟨.ref C :: us, kw⟩) R ⟨h, g, d, t, os⟩ := by
  have ends := F.ends
  have in1 : (Value.ref C :: bm).contains (.type B) = true := by simp only [List.contains_cons, L.base, Bool.or_true]
  have no1 : (Value.ref C :: bm).contains (.type "AttributeError") = false := by simp only [List.contains_cons, L.noA]; rfl
  have no2 : (Value.ref C :: bm).contains (.type "NameError") = false := by simp only [List.contains_cons, L.noN]; rfl
  refine codeAny_builtinAt F.entry ?_
  unfold Builtin.«BaseException.__new__»
  refine PySem.wpAt_bind ?_
  show PySem.wpAt _ _ _ (stack >>= _) _ _ _
  refine PySem.wpAt_bind (PySem.wpAt_stack fun p below => PySem.wpAt_of_wpAny ?_)
  wp_walk
  refine PySem.wpAt_of_wpAny ?_
  rw [F.owner]
  repeat (first
    | with_reducible refine wpAny_madeHere_exc F.canon hC ?_
    | with_reducible refine wpAny_loadPart_at hC ?_
    | (with_reducible refine wpAny_isSubtype_exc hC ?_; first | rw [in1] | rw [no1] | rw [no2])
    | wp_step)
  show R _ _
  rw [Heap.size_push]
  exact hq

theorem typeCalled {fI : Addr} {Q : Fin → Shared → Prop} (F : ExcBaseFacts B newId initId bmB) (L : Chain B bm)
    (hC : h.get? C = some (excClassObj nm q C N bs bm hdct sn sub ab col dd k0 k1 k2 k3 k5 newId)) (hl : us.length ≤ sizeLine)
    (hi : Looks (model prog w) h (typeLookup (.ref C) "__init__") (some (.ref fI)))
    (hb : ∀ self, Looks (model prog w) h (bindSpecial (.ref fI) self) (.ref fI, [self]))
    (hq : codeAny (model prog w) A (.call (.ref fI) ⟨.ref (h.objs.size + 1) :: us, kw⟩)
      (fun r s' => match r with
        | .ok (.ret v) => v = .none ∧ Q (.done (.ret (.ref (h.objs.size + 1)))) s'
        | .ok _ => False
        | .error e => E e s')
      ⟨(h.push (kdv_tup us)).push (excO C h.objs.size), g, d, t, os⟩) :
    wpAny (model prog w) A (Builtin.«type.__call__» ⟨.ref C :: us, kw⟩) Q E ⟨h, g, d, t, os⟩ := by
  repeat (first | with_reducible refine wpAny_loadPart_at hC ?_ | with_reducible refine wpAny_madeBy_exc hC ?_ | wp_step)
  refine codeAny_call_builtin_code (Code.quiet_builtin _ F.quiet) (newChecked F L hC (newMade F L hC hl ?_))
  show wpAny _ _ _ _ _ _
  have old : ∀ b o, h.get? b = some o → ((h.push (kdv_tup us)).push (excO C h.objs.size)).get? b = some o :=
    fun b o e => Heap.get?_push_of_some _ (Heap.get?_push_of_some _ e)
  have hC2 := old _ _ hC
  have at1 : ((h.push (kdv_tup us)).push (excO C h.objs.size)).get? (h.objs.size + 1) = some (excO C h.objs.size) := by heap_get
  have self1 : (Value.ref C :: bm).contains (.ref C) = true := by simp
  have i2 := hi.keeps old
  have b2 := (hb (.ref (h.objs.size + 1))).keeps old
  unfold isInstance
  repeat (first
    | with_reducible refine wpAny_loadPart_at at1 ?_
    | (with_reducible refine wpAny_isSubtype_exc hC2 ?_; rw [self1])
    | wp_step)
  show wpAny _ _ (typeLookup (.ref C) _) _ _ _
  refine i2.at (wpAny_holding (wpAny_bind (b2.at ?_)))
  refine wpAny_bind (wpAny_call (codeAny_mono hq fun r s' z => ?_))
  rcases r with e | (v | _ | _ | _) <;> first | exact z | exact z.elim | skip
  obtain ⟨rfl, z⟩ := z
  first
    | exact wpAny_pure (wpAny_pure z)
    | (wp_walk; exact z)

theorem called {fI : Addr} (F : ExcBaseFacts B newId initId bmB) (L : Chain B bm)
    (hC : h.get? C = some (excClassObj nm q C N bs bm hdct sn sub ab col dd k0 k1 k2 k3 k5 newId)) (hl : us.length ≤ sizeLine)
    (hi : Looks (model prog w) h (typeLookup (.ref C) "__init__") (some (.ref fI)))
    (hb : ∀ self, Looks (model prog w) h (bindSpecial (.ref fI) self) (.ref fI, [self]))
    (hq : codeAny (model prog w) (A.under (.builtin "type.__call__" ⟨.ref C :: us, kw⟩)) (.call (.ref fI) ⟨.ref (h.objs.size + 1) :: us, kw⟩)
      (InitBack (h.objs.size + 1) R) ⟨(h.push (kdv_tup us)).push (excO C h.objs.size), g, d, t, os⟩) :
    codeAny (model prog w) A (.call (.ref C) ⟨us, kw⟩) R ⟨h, g, d, t, os⟩ := by
  have f1 := tc_lookup
  have f2 := tc_bind (.ref C)
  have ty : (⟨h, g, d, t, os⟩ : Shared).TypeIs (.ref C) "type" := ⟨_, hC, rfl⟩
  refine codeAny_of_tree ?_
  show wpAny _ _ (callAny (.ref C) _) _ _ _
  repeat (any_goals (first | assumption | with_reducible refine wpAny_loadPart_at hC ?_ | wp_step))
  refine ⟨rfl, codeAny_call_builtin_at (Code.quiet_builtin _ (by decide +kernel)) entry_typeCall
    (wpAny_check_type_call_sub hC (typeCalled F L hC hl hi hb (codeAny_mono hq fun r s' z => ?_)))⟩
  rcases r with e | (v | _ | _ | _) <;> exact z
end

/-! ## self.name = v on an exception without a dict -/
section
open PySem.Builtin PySem.Builtin.ObjectAttr
variable {prog : Program} {w : World} {A : Around} {R : Result → Shared → Prop} {hp : Heap} {g : Array GenState} {d : Drawn} {t : Nat} {os : OsState}
theorem stored {K : Frag} {name : Str} {tk : Tok} {v : Value} {x C : Addr} {fv : Array Value} {cd : ClassData}
    (X : K.In hp) (hx : hp.get? x = some { cls := .ref C, data := .fields fv }) (hcd : clsIn K C = some cd)
    (hp1 : Pass cd.mro) (hob : cd.mro.contains (.type "object") = true) (hne : cd.mro.isEmpty = false)
    (hh : cd.hasDict = true) (ha : findIn K (.ref C) name = some none)
    (hq : ∀ h' tk' dx, (∀ b o, b ≠ x → hp.get? b = some o → h'.get? b = some o) → hp.objs.size ≤ dx → dx ≠ x →
      h'.get? x = some { cls := .ref C, dict := some dx, data := .fields fv } → h'.Ns1 dx (fun y => if y = name then some v else none) →
      R (.ok (.ret .none)) ⟨h', g, d, tk', os⟩) :
    codeAny (model prog w) A (.call (.builtin "object.__setattr__") ⟨[.ref x, .str name tk, v], []⟩) R ⟨hp, g, d, t, os⟩ := by
  have I : InstAt hp x { cls := .ref C, data := .fields fv } C none := ⟨hx, rfl, rfl, trivial⟩
  have SF := F.store_object
  have nx : x ≠ hp.objs.size := Nat.ne_of_lt (Heap.lt_size hx)
  have mro : mroIn K C (.type "object") = some true := by
    unfold mroIn
    rw [hcd, Option.bind_some, if_neg (by rw [hne]; decide), hob]
  have isO : Looks (model prog w) hp (isInstance (.ref x) (.type "object")) true := I.type.andThen (looks_mroIn X mro)
  refine codeAny_call_builtin SF.slot.plain SF.entry (@check_slot (model prog w) _ _ ⟨hp, g, d, t, os⟩ "object.__setattr__" "object"
    "__setattr__" (.ref x) [.str name tk, v] [] _ SF.kind SF.split isO (SF.args (.ref x) (.str name tk) v) ?_)
  have m1 : Looks (model prog w) hp (mroOf (.ref C)) cd.mro := (looks_clsIn X hcd).andThen .now
  have m2 : Looks (model prog w) hp (storeTaker? none) none := .now
  have m3 : Looks (model prog w) hp (classData C) cd := looks_clsIn X hcd
  rw [osa_eq, refuse_eq]
  refine wpAny_bind (wpAny_bind (I.type.at (wpAny_bind (m1.at ?_))))
  rw [hp1 _]
  refine wpAny_pure (wpAny_bind (I.type.at (wpAny_bind ((looks_findIn X ha).at (wpAny_bind (m2.at ?_))))))
  show wpAny _ _ (storeInOwnDict (.ref x) (.ref C) (.str name tk) name v false) _ _ _
  obtain ⟨nm, bs, mro, ns, qn, hd, sn, sb, ab, col, del⟩ := cd
  dsimp only at hh
  subst hh
  unfold storeInOwnDict ownDictForStores
  repeat (first
    | with_reducible refine store_in_new ?_ ?_
    | with_reducible refine wpAny_loadPart_at hx ?_
    | with_reducible refine m3.at ?_
    | wp_step)
  · exact ⟨_, #[], _, (Heap.get?_update_ne _ _ _ _ nx.symm).trans (Heap.get?_push_at rfl rfl), rfl, fun e he => absurd he (by simp), fun _ => rfl⟩
  · intro h' tk' hn' hs
    have hx1 : (hp.push { cls := .type "dict", data := .dict #[] }).get? x = some { cls := .ref C, data := .fields fv } :=
      Heap.get?_push_of_some _ hx
    refine hq h' tk' hp.objs.size (fun b o hb ho => ?_) (Nat.le_refl _) nx.symm ?_ hn'
    · refine (hs.2 b (Nat.ne_of_lt (Heap.lt_size ho))).trans ?_
      exact (Heap.get?_update_ne _ _ _ _ hb).trans (Heap.get?_push_of_some _ ho)
    · exact (hs.2 x nx).trans (Heap.get?_update_self _ hx1 rfl)
end
end FNX

set_option Elab.async false
set_option linter.all false
set_option maxRecDepth 100000
set_option maxHeartbeats 4000000
/-! ## Exceptions that the program holds as values: `exo` at a, its own dict `exd` at d -/
namespace FNX
open PySem PySem.Spec PyProof.Rows L2

/-- what the written part says of an exception class -/
structure XC (K : PySem.W.Frag) (C : Addr) : Prop where
  cls : ∃ nm q N bs bm sn sub ab col dd k0 k1 k2 k3 k5 B newId initId bmB,
    K.lookup C = some (excClassObj nm q C N bs bm true sn sub ab col dd k0 k1 k2 k3 k5 newId) ∧ ExcBaseFacts B newId initId bmB ∧ Chain B bm
  sa : PySem.W.findIn K (.ref C) "__setattr__" = some (some (.builtin "object.__setattr__"))
  ga : PySem.W.findIn K (.ref C) "__getattribute__" = some (some (.builtin "BaseException.__getattribute__"))
  gg : PySem.W.findIn K (.ref C) "__getattr__" = some none
  noV : PySem.W.findIn K (.ref C) "value" = some none
  exC : PySem.W.subIn K (.ref C) (.type "BaseException") = some true
  kC : PySem.W.keepIn K (.ref C) = true
  hdC : PySem.W.hasDictIn K C = true
  ic : PySem.W.isClsIn K C = true
  cC : PySem.W.findIn K (.ref C) "__class__" = some (some (.builtin "object.__class__"))
  mC : PySem.W.mroIn K C (.type "object") = some true
/-- and of `__class__` -/
structure XK0 (K : PySem.W.Frag) : Prop where
  sg : PySem.W.specialIn K (.builtin "object.__class__") "__get__" = some (some (.builtin "getset_descriptor.__get__"))
  st : PySem.W.takesIn K (.builtin "object.__class__") = some true

/-- an exception of the class at C with value = v -/
def XAt (H : Hp) (a C : Addr) (v : V) : Prop := ∃ d, H a = some (exo a C (some d)) ∧ H d = some (exd d [("value", v)])
theorem XAt.same {H H' : Hp} {a C : Addr} {v : V} (x : XAt H a C v) (s : Same H H') : XAt H' a C v := by
  obtain ⟨d, h1, h2⟩ := x
  exact ⟨d, s _ _ h1, s _ _ h2⟩
/-- one without a value of its own -/
def XAt0 (H : Hp) (a C : Addr) : Prop := H a = some (exo a C none)

theorem mut_exo {a C : Addr} {d : Option Addr} {H : Hp} (e : H a = some (exo a C d)) : Mut (H a) := by
  rw [e]
  exact True.intro

section
variable {X : Cx} {pins : List (Addr × Obj)} {σ : L2.St} {H : Hp} {s : Shared} {a C : Addr} {y : V} {u : Value}

/-- self.value = y -/
theorem xst_new {Q : Unit → Shared → Prop} {E : Value → Shared → Prop} {A : Around} (T : XC X.K C) (I : Inv X pins σ H s) (e : H a = some (exo a C none)) (ry : RelV y u)
    (h : ∀ dx s', H dx = none → dx ≠ a → Inv X pins σ (upd (upd H dx (exd dx [("value", y)])) a (exo a C (some dx))) s' → Q () s') :
    wpAny (model X.prog X.w) A (setAttr (.ref a) "value" u) Q E s := by
  obtain ⟨nm, q, N, bs, bm, sn, sub, ab, col, dd, k0, k1, k2, k3, k5, B, newId, initId, bmB, hC, F, L⟩ := T.cls
  have hcl : PySem.W.clsIn X.K C = some ⟨nm, bs, .ref C :: bm, N, q, true, sn, sub, ab, col, false⟩ := by
    unfold PySem.W.clsIn
    rw [hC] <;> rfl
  obtain ⟨t1, ho⟩ := exo_at I.hok e
  obtain ⟨hp, g, d, t, os⟩ := s
  refine PySem.W.set_plain I.kIn (ox := { cls := .ref C, dict := none, data := .fields #[.ref t1, .none, .none, .none, .bool false, .none] })
    (od := none) ⟨ho, rfl, rfl, trivial⟩ T.sa ?_
  refine stored I.kIn ho hcl (L.pass.ref C) (by simp only [List.contains_cons, L.obj, Bool.or_true]) rfl rfl T.noV
    (fun h' tk' dx k dn dne hx hn => ?_)
  have fresh : H dx = none := I.hok.fresh dn
  have nd : ∀ {b : Addr} {o : Obj}, hp.get? b = some o → b ≠ dx := fun q => Nat.ne_of_lt (Nat.lt_of_lt_of_le (Heap.lt_size q) dn)
  have na : ∀ {b : Addr}, H b = none → b ≠ a := fun {b} n z => by
    rw [z, e] at n
    cases n
  have U : Un X.fs [] H (upd (upd H dx (exd dx [("value", y)])) a (exo a C (some dx))) hp h' := {
    keep := fun b o q n _ _ => k b o (na n) q
    slot := fun b o q n _ _ => ⟨o.slots, k b o (na n) q⟩
    free := fun b o q n _ => by
      rw [upd_ne (na n), upd_ne (nd q)]
      exact n
    there := fun b o q _ => by
      by_cases hb : b = a
      · exact ⟨_, by rw [hb]; exact hx⟩
      · exact ⟨o, k b o hb q⟩
    tups := fun b xs q => by
      rw [upd_ne (at_ne e q exo_tup), upd_ne (ne_of_none q fresh)]
      exact q
    frzs := fun b o v q => by
      rw [upd_ne (at_ne e q exo_frz), upd_ne (ne_of_none q fresh)]
      exact q
    tbls := fun b ps q => ⟨#[], by
      rw [upd_ne (at_ne e q exo_tbl), upd_ne (ne_of_none q fresh), q]
      simp⟩ }
  refine h dx _ fresh dne (I.un (t' := tk') U fun b o q => ?_)
  by_cases hb : b = a
  · subst hb
    rw [upd_same] at q
    cases q
    exact exo_ok hx
  rw [upd_ne hb] at q
  by_cases hd : b = dx
  · subst hd
    rw [upd_same] at q
    cases q
    exact exd_ok hn (relO_put (fs := []) ry fun g => True.intro)
  rw [upd_ne hd] at q
  refine (I.hok b o q).stay (fun c v hc z => k c v ?_ z) (fun c hc => ?_) (fun c xs hc => ?_)
  · rcases hc with hc | hc
    · rw [hc]
      exact hb
    · exact at_ne e hc exo_own
  · rw [upd_ne (at_ne e hc exo_own), upd_ne (ne_of_none hc fresh)]
    exact hc
  · rw [upd_ne (at_ne e hc exo_tup), upd_ne (ne_of_none hc fresh)]
    exact hc
end

/-- self.value = e, self a new exception -/
def tXst (K : PySem.W.Frag) (to te : TE) : TS := fun D σ H => te σ H fun y H1 => to σ H1 fun x H2 => ∃ a C : Addr, x = .ref a ∧ XC K C ∧
  H2 a = some (exo a C none) ∧ ∀ dx, H2 dx = none → dx ≠ a → D.nx σ (upd (upd H2 dx (exd dx [("value", y)])) a (exo a C (some dx)))
section
variable {X : Cx} {o e : Expr} {to te : TE} {p' pos : Pos}
theorem ps_xst (ho : PE X o to) (he : PE X e te) (hs : swapsWith e (some (.Attribute o "value" p')) pos.line X.env = pure false := by rfl) :
    PS X (.Assign [.Attribute o "value" p'] e pos) (tXst X.K to te) := by
  refine ⟨fun pins s σ H D I h => ?_⟩
  refine plainObj_wpAny_Assign_Attribute (thn (he.run pins s σ H _ I h) fun v s1 hv => ?_) hs
  obtain ⟨y, H1, I1, r1, q1⟩ := hv
  refine thn (ho.run pins s1 σ H1 _ I1 q1) fun u s2 hu => ?_
  obtain ⟨x, H2, I2, r2, a, C, rfl, T, ea, q⟩ := hu
  obtain rfl : u = Value.ref a := r2
  exact xst_new T I2 ea r1 fun dx s' n ne J => ⟨σ, _, J, q dx n ne⟩
end

/-- what `__init__` promises -/
def spX (C : Addr) : Sp := fun vs H Q _ => ∃ (a : Addr) (v : V), vs = [.ref a, v] ∧ H a = some (exo a C none) ∧
  ∀ dx, H dx = none → dx ≠ a → Q .non (upd (upd H dx (exd dx [("value", v)])) a (exo a C (some dx)))
section
variable {P : Program} {w : World} {K : PySem.W.Frag} {mg : Str → Option Value} {base : Heap}
theorem xinit_ok {st : Stmt} {qual : Str} {f C : Addr} {fd : FuncData} (F : Fun K "__init__" qual st f fd)
    (S : FnScope ["self", "value"] ["self", "value"] (defScope st))
    (hb : ∃ q1 q2 q3 q4, defBody st = [.Assign [.Attribute (.Name "self" q1) "value" q2] (.Name "value" q3) q4]) (T : XC K C) :
    FnOk P w K mg base CX0 1 f fd ["self", "value"] (spX C) := by
  obtain ⟨q1, q2, q3, q4, hb⟩ := hb
  have vis : ∀ x ∈ (["self", "value"] : List Str), Vis (defScope st) x := fun x hx => by
    rcases S.par x hx with z | z
    · exact .inl z
    · exact .inr (.inl z)
  refine F.ok S (fun vs H Q E h => ?_) (fun cdv A outer s H vs Q E hr h => ?_)
  · obtain ⟨a, v, rfl, _⟩ := h
    rfl
  · obtain ⟨a, v, rfl, ha, k⟩ := h
    rw [hb]
    refine ⟨_, pss_one (ps_xst (pv 0 rfl (vis _ (by simp))) (pv 1 rfl (vis _ (by simp)))), ?_⟩
    exact ⟨_, rfl, _, rfl, a, C, rfl, T, ha, fun dx n ne => k dx n ne⟩
end

/-- the class x of the program stands at C; its `__init__` keeps its promise -/
structure Ex (P : Program) (w : World) (K : PySem.W.Frag) (mg : Str → Option Value) (base : Heap) (x : Str) (C : Addr) : Prop where
  xc : XC K C
  mgC : mg x = some (.ref C)
  mkd : ∃ fI fd, PySem.W.findIn K (.ref C) "__init__" = some (some (.ref fI)) ∧ PySem.W.typeIn K (.ref fI) = some (.type "function") ∧
    FnOk P w K mg base CX0 1 fI fd ["self", "value"] (spX C) ∧ Binds K fd ["self", "value"] [] ∧
    ∀ (s : Shared) (u v : Value), BindsTo s fd ⟨[u], [(("value" : Str), v)]⟩ ((["self", "value"] : List Str).zip [u, v])

theorem upd_again {H : Hp} {a d : Addr} {o1 o2 o3 : HO} (h : d ≠ a) : upd (upd (upd H a o1) d o2) a o3 = upd (upd H d o2) a o3 := by
  funext b
  by_cases hb : b = a
  · rw [hb, upd_same, upd_same]
  · rw [upd_ne hb, upd_ne hb]
    by_cases hd : b = d
    · rw [hd, upd_same, upd_same]
    · rw [upd_ne hd, upd_ne hd, upd_ne hb]

/-- the reading of C(e), C(value=e) -/
def wMk (C : Addr) (v : V) (H : Hp) (Q : VK) : Prop := ∀ a H', H a = none → Same H H' → XAt H' a C v → Q (.ref a) H'
section
variable {X : Cx} {x : Str} {C : Addr} {e : Expr} {te : TE} {p pos kpos : Pos} {pins : List (Addr × Obj)} {σ : L2.St} {H : Hp} {s : Shared} {v : V} {u : Value} {Q : VK} {ta : TA}
theorem xmade (T : Ex X.prog X.w X.K X.mg X.base x C) (hr : Room 2 X.A) (I : Inv X pins σ H s) (r : RelV v u) (q : wMk C v H Q)
    {us : List Value} {kw : List (Str × Value)} (hform : (us = [u] ∧ kw = []) ∨ (us = [] ∧ kw = [(("value" : Str), u)])) :
    wpAny (model X.prog X.w) X.A (call (.ref C) us kw) (EP X pins σ Q) X.xe s := by
  obtain ⟨fI, fd, iC, tI, F1, hb, hk⟩ := T.mkd
  obtain ⟨nm, qn, N, bs, bm, sn, sub, ab, col, dd, k0, k1, k2, k3, k5, B, newId, initId, bmB, hC, F, L⟩ := T.xc.cls
  obtain ⟨hp, g, dr, tk, os⟩ := s
  have sz : hp.objs.size ≤ hp.objs.size + 1 := Nat.le_succ _
  have hn : H (hp.objs.size + 1) = none := I.hok.fresh sz
  have old : ∀ b o, hp.get? b = some o → ((hp.push (PySem.W.kdv_tup us)).push (PySem.HandSPX.excO C hp.objs.size)).get? b = some o :=
    fun b o z => Heap.get?_push_of_some _ (Heap.get?_push_of_some _ z)
  have at1 : ((hp.push (PySem.W.kdv_tup us)).push (PySem.HandSPX.excO C hp.objs.size)).get? (hp.objs.size + 1) =
      some (PySem.HandSPX.excO C hp.objs.size) := by heap_get
  have I2 : Inv X pins σ (upd H (hp.objs.size + 1) (exo (hp.objs.size + 1) C none))
      ⟨(hp.push (PySem.W.kdv_tup us)).push (PySem.HandSPX.excO C hp.objs.size), g, dr, tk, os⟩ :=
    I.laid (t' := tk) (o := exo (hp.objs.size + 1) C none) old sz (exo_ok at1)
  have r2 : Vals [V.ref (hp.objs.size + 1), v] [Value.ref (hp.objs.size + 1), u] := .cons rfl (.cons r .nil)
  have hus : us.length ≤ sizeLine := by
    rcases hform with ⟨rfl, _⟩ | ⟨rfl, _⟩
    · rw [sizeLine_eq]; exact (by decide : 1 ≤ 16777216)
    · rw [sizeLine_eq]; exact (by decide : 0 ≤ 16777216)
  have bind : ∀ s' : Shared, X.K.In s'.heap → BindsTo s' fd ⟨Value.ref (hp.objs.size + 1) :: us, kw⟩ ((["self", "value"] : List Str).zip [Value.ref (hp.objs.size + 1), u]) := fun s' ks => by
    rcases hform with ⟨rfl, rfl⟩ | ⟨rfl, rfl⟩
    · exact hb s' [Value.ref (hp.objs.size + 1), u] ks rfl
    · exact hk s' _ _
  have hsp : spX C [V.ref (hp.objs.size + 1), v] (upd H (hp.objs.size + 1) (exo (hp.objs.size + 1) C none))
      (fun z H2 => z = .non ∧ Q (.ref (hp.objs.size + 1)) H2) (fun _ _ _ => False) := by
    refine ⟨_, _, rfl, upd_same, fun dx n ne => ⟨rfl, ?_⟩⟩
    rw [upd_ne ne] at n
    rw [upd_again ne]
    refine q _ _ hn (fun b o z => ?_) ⟨dx, upd_same, ?_⟩
    · rw [upd_ne (ne_of_none z hn), upd_ne (ne_of_none z n)]
      exact z
    · rw [upd_ne ne, upd_same]
  refine wpAny_call (called F L (I.kIn _ _ hC) hus (PySem.W.looks_findIn I.kIn iC) (fun self => PySem.W.bind_fn I.kIn self tI)
    (codeAny_mono (F1.run _ X.stack _ _ ⟨Value.ref (hp.objs.size + 1) :: us, kw⟩ _ _ _ (fun _ _ _ => False) (hr.make C us kw)
      (I2.env0.make C us kw) (bind _ I2.kIn) r2 hsp) fun r s' hq' => ?_))
  cases r with
  | error er => exact False.elim hq'
  | ok fl =>
    cases fl with
    | ret u' =>
      obtain ⟨z, H2, J, rz, ez, q2⟩ := I2.after hq'
      subst ez
      exact ⟨rz, .ref (hp.objs.size + 1), H2, J, rfl, q2⟩
    | next => exact False.elim hq'
    | brk => exact False.elim hq'
    | cont => exact False.elim hq'

/-- C(e) -/
def tX (C : Addr) (t : TA) : TE := fun σ H Q => t σ H fun vs H1 => ∃ v, vs = [v] ∧ wMk C v H1 Q
theorem pe_x (T : Ex X.prog X.w X.K X.mg X.base x C) (hr : Room 2 X.A) (hg : Gl X x) (ha : PA X (e :: []) ta)
    (hdb : (x == ("__debug__" : Str)) = false := by decide) (he : starEach (e :: []) X.env = (false, eval e X.env) :: starEach [] X.env := by rfl)
    (hpl : (backTo pos (starEach [] X.env)).any (·.1) = false := by rfl) :
    PE X (.Call (.Name x p) [e] [] pos) (tX C ta) := by
  refine ⟨fun pins s σ H Q I h => ?_⟩
  refine wpAny_Call_Name_kw (ld_glob I hg T.mgC ?_ hdb)
  refine PySem.W.callWith_K (h₀ := X.base) I.ok.mod.kin T.xc.kC (thn (ha.run pos pins s σ H _ I h) fun us s1 hu => ?_) he hpl
  obtain ⟨vs, H1, I1, r1, v, rfl, q⟩ := hu
  refine ⟨I1.kIn, ?_⟩
  cases r1 with
  | cons rv rn =>
    cases rn
    exact xmade T hr I1 rv q (.inl ⟨rfl, rfl⟩)
/-- C(value=e) -/
theorem pe_xk (T : Ex X.prog X.w X.K X.mg X.base x C) (hr : Room 2 X.A) (hg : Gl X x) (ha : PK X [⟨some "value", e, kpos⟩] ta)
    (hdb : (x == ("__debug__" : Str)) = false := by decide)
    (hall : (backToKw pos (keywordEach [⟨some "value", e, kpos⟩] X.env)).all (·.1.isSome) = true := by rfl)
    (hks : (backToKw pos (keywordEach [⟨some "value", e, kpos⟩] X.env)).filterMap (·.1) = [("value" : Str)] := by rfl)
    (hpl : ((backTo pos (starEach [] X.env)).any (·.1) || (backToKw pos (keywordEach [⟨some "value", e, kpos⟩] X.env)).any (·.1.isNone)) = false := by rfl) :
    PE X (.Call (.Name x p) [] [⟨some "value", e, kpos⟩] pos) (tX C ta) := by
  refine ⟨fun pins s σ H Q I h => ?_⟩
  refine wpAny_Call_Name_kw (ld_glob I hg T.mgC ?_ hdb)
  refine PySem.W.callWith_KW0 (h₀ := X.base) I.ok.mod.kin T.xc.kC hall (thn (ha.run pos pins s σ H _ I h) fun us s1 hu => ?_) hpl
  obtain ⟨vs, H1, I1, r1, v, rfl, q⟩ := hu
  refine ⟨I1.kIn, ?_⟩
  rw [hks]
  cases r1 with
  | cons rv rn =>
    cases rn
    exact xmade T hr I1 rv q (.inr ⟨rfl, rfl⟩)
end

/-! ### e.value, isinstance(e, D) -/
section
variable {X : Cx} {e : Expr} {te : TE} {pos : Pos}
def tXv (K : PySem.W.Frag) (te : TE) : TE := fun σ H Q => te σ H fun x H1 => ∃ a C v, x = .ref a ∧ XC K C ∧ XAt H1 a C v ∧ Q v H1
theorem inst_of {pins : List (Addr × Obj)} {σ : L2.St} {H : Hp} {s : Shared} {a C : Addr} {v : V} (I : Inv X pins σ H s) (x : XAt H a C v) :
    ∃ oe od, PySem.W.InstAt s.heap a oe C (some od) ∧ ∃ u, RelV v u ∧ PySem.W.lookIn "value" od = some (some u) := by
  obtain ⟨d, h1, h2⟩ := x
  obtain ⟨t1, ho⟩ := exo_at I.hok h1
  obtain ⟨mA, hns, rel⟩ := exd_at I.hok h2
  obtain ⟨od, h3, hl⟩ := lookIn_ns hns
  have l : List.lookup ("value" : Str) [(("value" : Str), v)] = some v := by simp [List.lookup]
  obtain ⟨u, hu, ru⟩ := RelO.some_of (v := v) (o := mA "value") (by rw [← l]; exact rel "value")
  exact ⟨_, od, ⟨ho, rfl, rfl, h3⟩, u, ru, by rw [hl, hu]⟩
theorem pe_xv (he : PE X e te) (hb : attributeBase e "value" X.env (eval e X.env) = eval e X.env := by rfl) : PE X (.Attribute e "value" pos) (tXv X.K te) := by
  refine ⟨fun pins s σ H Q I h => ?_⟩
  refine attr_of hb (thn (he.run pins s σ H _ I h) fun u s1 hh => ?_)
  obtain ⟨x, H1, I1, rx, a, C, v, rfl, T, xa, q⟩ := hh
  obtain rfl : u = Value.ref a := rx
  obtain ⟨oe, od, J, z, rz, hl⟩ := inst_of I1 xa
  exact HandSPX.exc_get I1.kIn J T.ga T.gg T.exC (PySem.W.findObj_own T.hdC T.noV rfl hl) (handed_of rz) ⟨v, H1, I1.tok _, rz, q⟩
/-- isinstance(e, D) -/
def rIsX (K : PySem.W.Frag) : List V → Hp → VK → Prop := fun xs H Q => ∃ (a C : Addr) (c : V) (u : Value) (b : Bool), xs = [.ref a, c] ∧ ClsV c u ∧
  (XAt0 H a C ∨ ∃ v, XAt H a C v) ∧ XC K C ∧ XK0 K ∧ PySem.W.kitOne K (.ref C) u = some b ∧ Q (.bl b) H
theorem call_isx : CallR X (.builtin "isinstance") (rIsX X.K) := by
  intro pins s σ H xs us Q I r h
  obtain ⟨a, C, c, u, b, rfl, k, hx, T, Z, e, q⟩ := h
  obtain ⟨u1, u2, rfl, r1, r2⟩ := vals2 r
  have e2 := k.eq r2
  subst e2
  obtain rfl : u1 = Value.ref a := r1
  rcases hx with hx | ⟨v, hx⟩
  · obtain ⟨t1, ho⟩ := exo_at I.hok hx
    have J : PySem.W.InstAt s.heap a _ C none := ⟨ho, rfl, rfl, trivial⟩
    exact PySem.W.kia_one (PySem.W.kitx_exc T.ic T.ga T.gg T.exC T.cC Z.sg Z.st T.mC) I.kIn J e (fun z => nomatch z) fun tk => ⟨.bl b, H, I.tok tk, rfl, q⟩
  · obtain ⟨oe, od, J, _⟩ := inst_of I hx
    exact PySem.W.kia_one (PySem.W.kitx_exc T.ic T.ga T.gg T.exC T.cC Z.sg Z.st T.mC) I.kIn J e (fun z => nomatch z) fun tk => ⟨.bl b, H, I.tok tk, rfl, q⟩
end
end FNX

set_option Elab.async false
set_option linter.all false
set_option maxRecDepth 100000
set_option maxHeartbeats 4000000
/-! ## An exception made of nothing, under IndexError -/
namespace FNX
open PySem PySem.Spec PyProof.Rows L2

abbrev ixTail : List Value := [.type "IndexError", .type "LookupError", .type "Exception", .type "BaseException", .type "object"]
def sp0 (C : Addr) : Sp := fun vs H Q _ => ∃ (a : Addr), vs = [.ref a] ∧ H a = some (exo a C none) ∧ Q .non H
structure XC0 (K : PySem.W.Frag) (C : Addr) : Prop where
  xc : XC K C
  cls : ∃ nm q N bs sn sub ab col dd k0 k1 k2 k3 k5, K.lookup C = some (excClassObj nm q C N bs ixTail true sn sub ab col dd k0 k1 k2 k3 k5 "IndexError.__new__")
  vI : PySem.W.findCls K (.type "IndexError") (.type "type") "__init__" = some (.val (.builtin "IndexError.__init__"))
structure Ex0 (P : Program) (w : World) (K : PySem.W.Frag) (mg : Str → Option Value) (base : Heap) (x : Str) (C : Addr) : Prop where
  x0 : XC0 K C
  mgC : mg x = some (.ref C)
  mkd : ∃ fI fd, PySem.W.findIn K (.ref C) "__init__" = some (some (.ref fI)) ∧ PySem.W.typeIn K (.ref fI) = some (.type "function") ∧
    FnOk P w K mg base CX0 1 fI fd ["self"] (sp0 C) ∧ Binds K fd ["self"] []

theorem typIx : typeOf (.type "IndexError") = pure (.type "type") := by kernel_rfl
def tIxI (K : PySem.W.Frag) (ta : TA) : TE := fun σ H Q => ta σ H fun vs H1 => ∃ (a C : Addr), vs = [.ref a] ∧ XC0 K C ∧ H1 a = some (exo a C none) ∧ Q .non H1
section
variable {X : Cx} {e : Expr} {ta : TA} {p1 p2 pos : Pos}
theorem pe_ixinit {pl : Sem Bool} (hg : Gl X "IndexError") (hm : X.mg "IndexError" = none)
    (vI : PySem.W.findCls X.K (.type "IndexError") (.type "type") "__init__" = some (.val (.builtin "IndexError.__init__"))) (ha : PA X [e] ta)
    (hc : eval (.Call (.Attribute (.Name "IndexError" p1) "__init__" p2) [e] [] pos) X.env = (do
      let ov ← eval (.Name "IndexError" p1) X.env
      standAt p2.atName
      let (f, first) ← holding [ov] (getMethod ov "__init__" pl)
      callWith pos f first (backTo pos (starEach [e] X.env)) (backToKw pos (keywordEach [] X.env))) := by rfl)
    (he : starEach [e] X.env = (false, eval e X.env) :: starEach [] X.env := by rfl) (hpl : (backTo pos (starEach [] X.env)).any (·.1) = false := by rfl) :
    PE X (.Call (.Attribute (.Name "IndexError" p1) "__init__" p2) [e] [] pos) (tIxI X.K ta) := by
  refine ⟨fun pins s σ H Q I h => ?_⟩
  refine PySem.W.methodCall_KW (ld_blt I hg hm PyProof.Rows.Boot.«IndexError» ?_ (by decide) (by decide)) hc
  obtain ⟨m, fr⟩ := I.fr
  refine PySem.W.method_type fr I.ok.mod.kin typIx (by decide +kernel) vI (by decide +kernel) ?_
  show wpAny _ _ (callWith pos (Value.builtin "IndexError.__init__") [] (backTo pos (starEach [e] X.env)) []) _ _ _
  refine PyProof.Rows.callWith_method1 (thn (ha.run pos pins _ σ H _ (I.tok _) h) fun us s1 hu => ?_) he hpl
  obtain ⟨vs, H1, I1, r1, a, C, rfl, T, ea, q⟩ := hu
  obtain ⟨nm, qn, N, bs, sn, sub, ab, col, dd, k0, k1, k2, k3, k5, hC⟩ := T.cls
  obtain ⟨t1, ho⟩ := exo_at I1.hok ea
  cases r1 with
  | @cons _ u0 _ ur ra rw' =>
    cases rw'
    obtain rfl : u0 = Value.ref a := ra
    obtain ⟨hp, g, d, t, os⟩ := s1
    refine wpAny_call (PySem.HandSPX.init_base F.excBase_IndexError (fun Y => rfl) (I1.kIn _ _ hC) ho (by rw [sizeLine_eq]; exact (by decide : 0 ≤ 16777216)) fun h' t2 k hx => ?_)
    have J := I1.write (t' := t) (x := a) (e := a) (o := exo a C none) (mut_exo ea) (.inl rfl) k ⟨_, hx⟩ (exo_ok hx)
    have eu : upd H1 a (exo a C none) = H1 := by
      funext b
      by_cases hb : b = a
      · rw [hb, upd_same, ea]
      · rw [upd_ne hb]
    rw [eu] at J
    exact ⟨.non, H1, J, rfl, q⟩
end
section
variable {X : Cx} {x : Str} {C : Addr} {p pos : Pos} {pins : List (Addr × Obj)} {σ : L2.St} {H : Hp} {s : Shared} {Q : VK}
def wMk0 (C : Addr) (H : Hp) (Q : VK) : Prop := ∀ a H', H a = none → Same H H' → XAt0 H' a C → Q (.ref a) H'
theorem xmade0 (T : Ex0 X.prog X.w X.K X.mg X.base x C) (hr : Room 2 X.A) (I : Inv X pins σ H s) (q : wMk0 C H Q) :
    wpAny (model X.prog X.w) X.A (call (.ref C) []) (EP X pins σ Q) X.xe s := by
  obtain ⟨fI, fd, iC, tI, F1, hb⟩ := T.mkd
  obtain ⟨nm, qn, N, bs, bm, sn, sub, ab, col, dd, k0, k1, k2, k3, k5, B, newId, initId, bmB, hC, F, L⟩ := T.x0.xc.cls
  obtain ⟨hp, g, dr, tk, os⟩ := s
  have sz : hp.objs.size ≤ hp.objs.size + 1 := Nat.le_succ _
  have hn : H (hp.objs.size + 1) = none := I.hok.fresh sz
  have old : ∀ b o, hp.get? b = some o → ((hp.push (PySem.W.kdv_tup [])).push (PySem.HandSPX.excO C hp.objs.size)).get? b = some o :=
    fun b o z => Heap.get?_push_of_some _ (Heap.get?_push_of_some _ z)
  have at1 : ((hp.push (PySem.W.kdv_tup [])).push (PySem.HandSPX.excO C hp.objs.size)).get? (hp.objs.size + 1) =
      some (PySem.HandSPX.excO C hp.objs.size) := by heap_get
  have I2 : Inv X pins σ (upd H (hp.objs.size + 1) (exo (hp.objs.size + 1) C none))
      ⟨(hp.push (PySem.W.kdv_tup [])).push (PySem.HandSPX.excO C hp.objs.size), g, dr, tk, os⟩ :=
    I.laid (t' := tk) (o := exo (hp.objs.size + 1) C none) old sz (exo_ok at1)
  have hsp : sp0 C [V.ref (hp.objs.size + 1)] (upd H (hp.objs.size + 1) (exo (hp.objs.size + 1) C none))
      (fun z H2 => z = .non ∧ Q (.ref (hp.objs.size + 1)) H2) (fun _ _ _ => False) := by
    refine ⟨_, rfl, upd_same, rfl, q _ _ hn (fun b o z => ?_) upd_same⟩
    rw [upd_ne (ne_of_none z hn)]
    exact z
  have rv : Vals [V.ref (hp.objs.size + 1)] [Value.ref (hp.objs.size + 1)] := .cons rfl .nil
  refine wpAny_call (called F L (I.kIn _ _ hC) (by rw [sizeLine_eq]; exact (by decide : 0 ≤ 16777216)) (PySem.W.looks_findIn I.kIn iC) (fun self => PySem.W.bind_fn I.kIn self tI)
    (codeAny_mono (F1.run _ X.stack _ _ ⟨[Value.ref (hp.objs.size + 1)], []⟩ [Value.ref (hp.objs.size + 1)] _ _ (fun _ _ _ => False) (hr.make C [] [])
      (I2.env0.make C [] []) (hb _ [Value.ref (hp.objs.size + 1)] I2.kIn rfl) rv hsp) fun r s' hq' => ?_))
  cases r with
  | error er => exact False.elim hq'
  | ok fl =>
    cases fl with
    | ret u' =>
      obtain ⟨z, H2, J, rz, ez, q2⟩ := I2.after hq'
      subst ez
      exact ⟨rz, .ref (hp.objs.size + 1), H2, J, rfl, q2⟩
    | next => exact False.elim hq'
    | brk => exact False.elim hq'
    | cont => exact False.elim hq'
/-- C() -/
theorem pe_x0 (T : Ex0 X.prog X.w X.K X.mg X.base x C) (hr : Room 2 X.A) (hg : Gl X x) (hdb : (x == ("__debug__" : Str)) = false := by decide) :
    PE X (.Call (.Name x p) [] [] pos) (fun _ H Q => wMk0 C H Q) := by
  refine ⟨fun pins s σ H Q I h => ?_⟩
  refine wpAny_Call_Name_kw (ld_glob I hg T.mgC ?_ hdb)
  exact PySem.W.callWith_K0 I.kIn T.x0.xc.kC (xmade0 T hr I h)
end
end FNX

set_option Elab.async false
set_option linter.all false
set_option maxRecDepth 100000
set_option maxHeartbeats 4000000
/-! ## repr of data, where no repr runs further out; defs that are called there -/
namespace FNX
open PySem PySem.Spec PyProof.Rows L2

/-- what stands at a value, as data: HandS's, and a dict of texts and ints -/
inductive Rd (K : PySem.W.Frag) (H : Hp) : V → PyData → Prop
  | dat {v : V} {d : PyData} (h : Dp K H v d) : Rd K H v d
  | dct {a : Addr} (kvs : List (Str × Int)) (h : H a = some (.dK (kvs.map fun p => (Sum.inr p.1, V.int p.2)))) :
      Rd K H (.ref a) (.dict (kvs.map fun p => (.str p.1, .int p.2)))
mutual
theorem dpNoDict {K : PySem.W.Frag} {H : Hp} : ∀ (d : PyData) (v : V), Dp K H v d → d.hasDict = false
  | .none, _, _ => by simp only [PyData.hasDict]
  | .bool _, _, _ => by simp only [PyData.hasDict]
  | .int _, _, _ => by simp only [PyData.hasDict]
  | .str _, _, _ => by simp only [PyData.hasDict]
  | .list xs, _, h => by
    cases h with
    | lst _ hs =>
      simp only [PyData.hasDict]
      exact dpNoDictAll xs _ hs
  | .tuple xs, _, h => by
    cases h with
    | tup _ hs =>
      simp only [PyData.hasDict]
      exact dpNoDictAll xs _ hs
  | .dict _, _, h => by cases h
theorem dpNoDictAll {K : PySem.W.Frag} {H : Hp} : ∀ (ds : List PyData) (vs : List V), DpAll K H vs ds → PyData.hasDictAll ds = false
  | [], _, _ => by simp only [PyData.hasDictAll]
  | d :: ds, _, h => by
    cases h with
    | cons h1 h2 => simp only [PyData.hasDictAll, dpNoDict d _ h1, dpNoDictAll ds _ h2, Bool.or_self]
end

theorem readsKeys {P : Program} {w : World} {h : Heap} : ∀ (kvs : List (Str × Int)) (vs : List (Key × Value)) (es : List DictEntry),
    KV (kvs.map fun p => ((Sum.inr p.1 : Key), V.int p.2)) vs → Pairs (mixKind P w) es vs →
    ReadsAll h (es.map (·.key)) ((kvs.map fun p => ((PyData.str p.1, PyData.int p.2) : PyData × PyData)).map (·.1)) [] ∧
    ReadsAll h (es.map (·.val)) ((kvs.map fun p => ((PyData.str p.1, PyData.int p.2) : PyData × PyData)).map (·.2)) []
  | [], _, _, r, p => by
    cases r
    cases p
    exact ⟨.nil, .nil⟩
  | (x, i) :: kvs, _, _, r, p => by
    cases r with
    | cons r1 r2 =>
      rename_i q vs
      obtain ⟨k, u⟩ := q
      obtain ⟨rfl, t, rfl⟩ := r1
      cases p with
      | @cons e _ es _ p1 p3 p2 =>
        obtain ⟨h1, h2⟩ := readsKeys (h := h) kvs vs _ r2 p2
        have p1 : keyIs (Sum.inr x) _ = true := p1
        rcases keyIs_shape p1 with ⟨j, t', e1, e2⟩ | ⟨y, t', e1, e2⟩
        · cases e1
        · injection e1 with e1
          subst e1
          constructor
          · show ReadsAll h (e.key :: _) _ []
            rw [e2]
            exact ReadsAll.cons (as := []) (.str x t') h1
          · show ReadsAll h (e.val :: _) _ []
            rw [p3]
            exact ReadsAll.cons (as := []) (.int i t) h2

section
variable {X : Cx} {pins : List (Addr × Obj)} {σ : L2.St} {H : Hp} {s : Shared}
theorem rdReads (I : Inv X pins σ H s) {v : V} {d : PyData} {u : Value} (h : Rd X.K H v d) (r : RelV v u) :
    ∃ as, Reads s.heap u d as ∧ (d.hasDict = true → sysModules ∉ as) := by
  cases h with
  | dat h =>
    obtain ⟨as, q⟩ := Dp.reads I d v u h r
    exact ⟨as, q, PyData.noDict_hsm (dpNoDict d v h)⟩
  | @dct a kvs h =>
    obtain rfl : u = Value.ref a := r
    obtain ⟨_, hs, vs, rv, o, es, ep, ho, hx, hd, _, hp, _⟩ := (show ObjOk X.prog X.w H s.heap a (.dK _) from I.hok a _ h)
    obtain ⟨h1, h2⟩ := readsKeys (h := s.heap) kvs vs es.toList rv hp
    refine ⟨_, Reads.dict ho hx.1 hd h1 h2, fun _ z => ?_⟩
    have z : sysModules ∈ [a] := by simpa using z
    have z := List.mem_singleton.mp z
    rw [← z] at hs
    simp at hs
/-- repr(x) -/
def rRepr (K : PySem.W.Frag) : List V → Hp → VK → Prop := fun xs H Q => ∃ v d, xs = [v] ∧ Rd K H v d ∧ d.showable = true ∧ d.depth ≤ 60 ∧
  d.shown.length ≤ sizeLine ∧ Q (.str d.shown) H
theorem call_repr (hg : X.A.guards = some []) (hu : X.A.units + 64 < cLine) : CallR X (.builtin "repr") (rRepr X.K) := by
  intro pins s σ H xs us Q I r h
  obtain ⟨v, d, rfl, hd, h1, h2, h3, q⟩ := h
  cases r with
  | cons r1 r2 =>
    cases r2
    rename_i u
    obtain ⟨as, hr, hsm⟩ := rdReads I hd r1
    have done : ∀ h' u' tk, (∀ b o, s.heap.get? b = some o → h'.get? b = some o) → EP X pins σ Q (.str d.shown u') { s with heap := h', toks := tk } :=
      fun h' u' tk k => ⟨.str d.shown, H, I.un (t' := tk) (Un.kept k) (I.hok.kept k), ⟨u', rfl⟩, q⟩
    have fin : ∀ {x : Str} {u' : Tok}, x = d.shown → EP X pins σ Q (.str x u') { s with toks := s.toks + 1 } := fun {x u'} e => by
      rw [e]
      exact done s.heap u' (s.toks + 1) fun _ _ z => z
    cases hr with
    | none => exact PySem.P.repr_of_none (fin (by simp only [PyData.shown]))
    | bool b => exact PySem.P.repr_of_bool (fin (by simp only [PyData.shown]))
    | int i t => exact PySem.P.repr_of_int (by simpa [PyData.showable] using h1) (fin (by simp only [PyData.shown]))
    | str x t => exact PySem.P.repr_of_str (fin (by simp only [PyData.shown])) (by simpa only [PyData.shown] using h3)
    | list a1 a2 a3 a4 => exact repr_of_reads' (.list a1 a2 a3 a4) h1 hsm hg (by omega) (fun _ _ e => e) (fun h' u tk k => done h' u tk k) h3
    | tuple a1 a2 a3 a4 => exact repr_of_reads' (.tuple a1 a2 a3 a4) h1 hsm hg (by omega) (fun _ _ e => e) (fun h' u tk k => done h' u tk k) h3
    | dict a1 a2 a3 a4 a5 => exact repr_of_reads' (.dict a1 a2 a3 a4 a5) h1 hsm hg (by omega) (fun _ _ e => e) (fun h' u tk k => done h' u tk k) h3
end

/-! ### defs that are called where no repr runs -/
structure GOk (P : Program) (w : World) (K : PySem.W.Frag) (mg : Str → Option Value) (base : Heap) (k : Nat) (f : Addr) (fd : FuncData) (ps : List Str) (sp : Sp) : Prop where
  len : ∀ vs H Q E, sp vs H Q E → vs.length = ps.length
  run : ∀ (A : Around) (outer : List Env) (s : Shared) (H : Hp) (args : Args) (us : List Value) (vs : List V) (Q : VK) (E : XK), A.guards = some [] → Room k A →
    Env0 P w K mg base A outer s H → BindsTo s fd args (ps.zip us) → Vals vs us → sp vs H Q E → codeAny (model P w) A (.call (.ref f) args) (CR CX0 outer P w H s Q E) s
section
variable {P : Program} {w : World} {K : PySem.W.Frag} {mg : Str → Option Value} {base : Heap}
theorem okG {x qual : Str} {st : Stmt} {f : Addr} {fd : FuncData} {N ps : List Str} {k : Nat} {sp : Sp} (F : Fun K x qual st f fd) (S : FnScope N ps (defScope st))
    (len : ∀ vs H Q E, sp vs H Q E → vs.length = ps.length)
    (hbody : ∀ (cdv : Value) (A : Around) (outer : List Env) (s : Shared) (H : Hp) (vs : List V) (Q : VK) (E : XK), A.guards = some [] →
      Room k (A.deeper (envOfC qual (defScope st) s.heap.objs.size f cdv)) → sp vs H Q E →
      ∃ t, PSs (cxOf CX0 P w K mg base N qual (defScope st) f cdv A outer s H E).nox (defBody st) t ∧ t { nx := fun _ H' => Q .non H', rt := Q } (start N vs) H) :
    GOk P w K mg base (k + 1) f fd ps sp := by
  refine ⟨len, fun A outer s H args us vs Q E hg hr e0 hb r hs => ?_⟩
  -- a promise that is kept around this A alone
  obtain ⟨oc, od, kV, doc, pm, an, cdv, ct, osl, rfl, lk, hcd⟩ := F.ex
  have KX : K.In s.heap := e0.mod.kin.keeps fun b o e => (e0.bs b o e).1
  have lim : s.heap.NoLimit := e0.mod.nolimit.keeps fun b o e => (e0.bs b o e).1
  have hl := len _ _ _ _ hs
  have kinds : ∀ y ∈ ps.zip us, (defScope st).names.lookup y.1 = some .local ∨
      ((defScope st).names.lookup y.1 = some .cell ∧ ((cellsFrom (s.heap.objs.size + 1) (defScope st).names []).lookup y.1).isSome = true) := fun y hy => by
    rcases S.par y.1 (List.of_mem_zip (show (y.1, y.2) ∈ ps.zip us from hy)).1 with z | z
    · exact .inl z
    · exact .inr ⟨z, PySem.W.cellsFrom_some _ _ _ (.inl z)⟩
  refine codeAny_call_function hr.depth (KX _ _ lk) rfl S.co S.gen rfl (PySem.W.codeRec_of KX hcd) (hb _ _ _ _ ?_)
  refine wpAny_newFunctionEnv_cells S.kind kinds fun env he s1 x => ?_
  subst he
  refine ⟨lim.keeps x.toInCall.keep, codeAny_func ?_⟩
  obtain ⟨t, ht, hq⟩ := hbody cdv A outer s H vs Q E hg (hr.deeper _) hs
  have I := inv_start (CX := CX0) (E := E) S hr.hd e0 hl r x
  refine wpAny_mono (ht.nox.run [] s1 _ H _ I hq) (fun fl s' z => ?_) fun e s' z => z
  cases fl with
  | ret u =>
    obtain ⟨v, σ', H', J, rv, q⟩ := z
    exact ⟨v, H', J.os, J.bare, J.base, J.hok, rv, q⟩
  | next =>
    obtain ⟨σ', H', J, q⟩ := z
    exact ⟨V.non, H', J.os, J.bare, J.base, J.hok, rfl, q⟩
  | brk =>
    obtain ⟨_, _, _, q⟩ := z
    exact q.elim
  | cont =>
    obtain ⟨_, _, _, q⟩ := z
    exact q.elim
end
end FNX

set_option Elab.async false
set_option linter.all false
set_option maxRecDepth 100000
set_option maxHeartbeats 4000000
/-! ## The law's own call, made where no repr runs -/
namespace FNX
open PySem PySem.Spec PyProof.Rows L2

section
variable {P : Program} {w : World} {K : PySem.W.Frag} {mg mb : Str → Option Value} {k : Nat} {fa a : Addr} {fd : FuncData} {x : Str} {sp : Sp} {s : Shared} {vs : List Value} {ns : List Int}
abbrev LawEnd (s : Shared) (r : Result) (s' : Shared) : Prop := r = .ok (.ret (.bool true)) ∧ OldK s.heap s'.heap ∧ s'.os = s.os ∧ AllBare s'.gens

/-- from an abstract heap that tracks the script at most -/
theorem lawFrom {H : Hp} (KX : K.In s.heap) (hns : s.heap.Ns mainGlobals mg) (hb : s.heap.Ns builtinsNs mb) (hbb : ∀ x : Str, x ≠ "__name__" → mb x = bootBuiltins x)
    (hlim : s.heap.NoLimit) (hg : s.gens = #[]) (hr : Room k callerA)
    (F : ∀ base : Heap, K.In base → base.Ns mainGlobals mg → GOk P w K mg base k fa fd [x] sp) (hbind : ∀ (s : Shared) (u : Value), BindsTo s fd ⟨[u], []⟩ [(x, u)])
    (hsp : sp [.ref a] H (fun v _ => v = .bl true) fun _ _ _ => False) (hok : HOk P w H s.heap)
    (hlist : ∀ b u, H b = some u → (∃ o xs, u = .frz o (.lst xs)) ∧ K.lookup b = none ∧ ∀ o es ep, s.heap.get? b = some o → o.data ≠ .dict es ep) :
    codeAny (model P w) callerA (.call (.ref fa) ⟨[.ref a], []⟩) (LawEnd s) s := by
  have seen : ∀ {b : Addr} {o : Obj}, s.heap.get? b = some o → H b = none → (hidT s.heap H).get? b = some o := fun e n => hidT_get e n
  have noD : ∀ {b : Addr} {o : Obj} {es : Array DictEntry} {ep : Nat}, s.heap.get? b = some o → o.data = .dict es ep → H b = none := fun {b o es ep} e d => by
    cases q : H b with
    | none => rfl
    | some u => exact absurd d ((hlist b u q).2.2 o es ep e)
  have keep : ∀ {b : Addr} {m : Str → Option Value}, s.heap.Ns b m → (hidT s.heap H).Ns b m := fun n => by
    obtain ⟨o, es, ep, e, d, r⟩ := n
    exact ⟨o, es, ep, seen e (noD e d), d, r⟩
  have kin : K.In (hidT s.heap H) := fun b o e => seen (KX b o e) (by
    cases q : H b with
    | none => rfl
    | some u =>
      have z := (hlist b u q).2.1
      rw [z] at e
      cases e)
  have mod : Mod K mg (hidT s.heap H) := ⟨kin, keep hns, ⟨mb, keep hb, hbb⟩, by
    obtain ⟨mc, h1, h2⟩ := hlim
    exact ⟨mc, keep h1, h2⟩⟩
  have e0 : Env0 P w K mg (hidT s.heap H) callerA [] s H :=
    ⟨rfl, mod, fun b o e => of_hidT e, Nat.le_of_eq (hidT_size _ _), trivial, fun b hb => absurd (show b ∈ ([] : List Addr) from hb) (by simp), hok, .of_eq hg⟩
  have rv : Vals [V.ref a] [Value.ref a] := .cons rfl .nil
  refine codeAny_mono ((F _ kin (keep hns)).run callerA [] s H ⟨[.ref a], []⟩ [.ref a] [.ref a] _ _ rfl hr e0 (hbind s (.ref a)) rv hsp) fun r s' z => ?_
  cases r with
  | error e => exact False.elim z
  | ok fl =>
    cases fl with
    | next => exact False.elim z
    | brk => exact False.elim z
    | cont => exact False.elim z
    | ret u =>
      obtain ⟨v, H', os, bare, un, hok', rv', q⟩ := z
      obtain rfl : v = .bl true := q
      obtain rfl : u = Value.bool true := rv'
      refine ⟨rfl, OldK.of_keep fun b o e => ?_, os, bare⟩
      cases q : H b with
      | none => exact un.keep b o e q (fun z => absurd (show b ∈ ([] : List Addr) from z) (by simp)) (by simp)
      | some t =>
        obtain ⟨⟨ob, xs, rfl⟩, _, _⟩ := hlist b t q
        obtain ⟨e1, _⟩ := hok b _ q
        obtain ⟨e2, _⟩ := hok' b _ (un.frzs b ob _ q)
        rw [e] at e1
        cases e1
        exact e2

theorem lawCalled (KX : K.In s.heap) (hns : s.heap.Ns mainGlobals mg) (hb : s.heap.Ns builtinsNs mb) (hbb : ∀ x : Str, x ≠ "__name__" → mb x = bootBuiltins x)
    (hlim : s.heap.NoLimit) (hg : s.gens = #[]) (ha : s.heap.get? a = some { cls := .type "list", data := .seq vs.toArray }) (hi : IntsAre vs ns) (hl : ns.length ≤ sizeLine)
    (hr : Room k callerA) (F : ∀ base : Heap, K.In base → base.Ns mainGlobals mg → GOk P w K mg base k fa fd [x] sp)
    (hbind : ∀ (s : Shared) (u : Value), BindsTo s fd ⟨[u], []⟩ [(x, u)])
    (hsp : ∀ H : Hp, SqL K H a (ns.map V.int) → sp [.ref a] H (fun v _ => v = .bl true) fun _ _ _ => False) :
    codeAny (model P w) callerA (.call (.ref fa) ⟨[.ref a], []⟩) (LawEnd s) s := by
  have rv := vals_ints hi
  have lenV := hi.length
  cases hk : K.lookup a with
  | some o =>
    have e := KX a o hk
    rw [ha] at e
    cases e
    refine lawFrom (H := fun _ => none) KX hns hb hbb hlim hg hr F hbind (hsp _ (.inr ⟨_, vs.toArray, _, hk, rfl, rfl, rfl, ?_, ?_⟩)) (fun b u z => nomatch z) (fun b u z => nomatch z)
    · rw [List.size_toArray, lenV]
      exact hl
    · simpa using rv
  | none =>
    have at1 : ∀ {b : Addr} {u : HO}, (if b = a then some (HO.frz { cls := .type "list", data := .seq vs.toArray } (.lst (ns.map V.int))) else none) = some u →
        b = a ∧ u = .frz { cls := .type "list", data := .seq vs.toArray } (.lst (ns.map V.int)) := fun {b u} z => by
      by_cases h : b = a
      · rw [if_pos h] at z
        exact ⟨h, (Option.some.inj z).symm⟩
      · rw [if_neg h] at z
        cases z
    refine lawFrom (H := fun b => if b = a then some (.frz { cls := .type "list", data := .seq vs.toArray } (.lst (ns.map V.int))) else none) KX hns hb hbb hlim hg hr F hbind
      (hsp _ (.inl (.inr ⟨_, if_pos rfl⟩))) (fun b u z => ?_) (fun b u z => ?_)
    · obtain ⟨rfl, rfl⟩ := at1 z
      exact ⟨ha, by rw [List.length_map]; exact hl, vs, _, rv, ha⟩
    · obtain ⟨rfl, rfl⟩ := at1 z
      refine ⟨⟨_, _, rfl⟩, hk, fun o es ep e d => ?_⟩
      rw [ha] at e
      cases e
      have d' : Data.seq vs.toArray _ = Data.dict es ep := d
      cases d'
end

/-- what the head leaves, from the law's promise -/
theorem walkG {l : PySem.W.OpenLaw} {n k : Nat} {q : Program} {loose : List Str} {XP : (Str → Option Value) → Heap → Prop} {YP : World → Heap → Prop} {d : DefRec} {K : Params → PySem.W.Frag} {sp : World → Sp} {x : Str}
    (hn : l.most = some n) (hn2 : n ≤ sizeLine) (hdf : d.params.defaults = []) (hr : Room k callerA) (hY : ∀ (w : World) (h : Heap), YP w h → (K w.params).In h)
    (F : ∀ (w : World) (mg : Str → Option Value) (fa : Addr) (h : Heap), (K w.params).In h → h.Ns mainGlobals mg → mg d.name = some (.ref fa) →
      ∃ fd : FuncData, (∀ (s : Shared) (u : Value), BindsTo s fd ⟨[u], []⟩ [(x, u)]) ∧
        ∀ base : Heap, (K w.params).In base → base.Ns mainGlobals mg → GOk l.prog w (K w.params) mg base k fa fd [x] (sp w))
    (hsp : ∀ (w : World) (H : Hp) (a : Addr) (ns : List Int), ns.length ≤ n → SqL (K w.params) H a (ns.map V.int) → sp w [.ref a] H (fun v _ => v = .bl true) fun _ _ _ => False) :
    PySem.W.WalkO q loose XP YP l.row.toRowW d [] (fun f vs => PySem.call f vs) := by
  refine Att.attach_call hn hdf fun w s₀ s₁ mg mb fa o pm cd doc a vs ns G Y ho hd hcd hmg hobj hints hlen hg => ?_
  have KX := hY w _ Y
  obtain ⟨fd, hb, hF⟩ := F w mg fa _ KX G.T.g hmg
  exact lawCalled KX G.T.g G.T.b G.T.builtins G.T.nolimit hg hobj hints (Nat.le_trans hlen hn2) hr hF hb fun H hS => hsp w H a ns hlen hS
end FNX

set_option Elab.async false
set_option linter.all false
set_option maxRecDepth 100000
set_option maxHeartbeats 4000000
/-! ## List comprehensions of one name whose elements change nothing that is tracked -/
namespace FNX
open PySem PySem.Spec PyProof.Rows L2
theorem range_more {α : Type} (n : Nat) (f : Nat → α) : (List.range (n + 1)).map f = (List.range n).map f ++ [f n] := by
  rw [List.range_succ, List.map_append]
  rfl
theorem same_upd {H : Hp} {p : Addr} {o : HO} (h : H p = none) : Same H (upd H p o) := fun b u e => by
  rw [upd_ne (ne_of_none e h)]
  exact e
/-- a turn's end: the element y, the heap behind it -/
def LcT (B : Hp) (D : Addr) (f : Nat → V) (i : Nat) (y : V) (H : Hp) : Prop := ∃ acc, H D = some (.lst acc) ∧ acc.length < sizeLine ∧
  (Same B (upd H D (.lst (acc ++ [y]))) ∧ upd H D (.lst (acc ++ [y])) D = some (.lst ((List.range (i + 1)).map f)))
theorem lcT {B H H' : Hp} {D : Addr} {f : Nat → V} {i : Nat} {y : V} (hD : B D = none) (hi : i < 1000000) (sB : Same B H) (hd : H D = some (.lst ((List.range i).map f)))
    (s : Same H H') (e : y = f i) : LcT B D f i y H' := by
  refine ⟨_, s _ _ hd, ?_, fun b o z => ?_, ?_⟩
  · rw [List.length_map, List.length_range]
    exact Nat.lt_trans hi (by rw [sizeLine_eq]; decide)
  · rw [upd_ne (ne_of_none z hD)]
    exact s _ _ (sB _ _ z)
  · rw [upd_same, range_more, e]
section
variable {K : PySem.W.Frag} {te : TE} {vs : List Nat} {σ : L2.St} {B : Hp} {D : Addr} {Qd : Hp → Prop}
theorem lc_map {a : Addr} {xs : List V} {j : Nat} (f : Nat → V) (hD : B D = none) (hl : SqL K B a xs)
    (hw : ∀ x, wipe ((wipe σ vs).set j (some x)) vs = wipe σ vs)
    (hs : ∀ i x H, xs[i]? = some x → Same B H → H D = some (.lst ((List.range i).map f)) → te ((wipe σ vs).set j (some x)) H (LcT B D f i))
    (hd : ∀ H, Same B H → H D = some (.lst ((List.range xs.length).map f)) → Qd H) :
    ∃ W : Nat → Nat → Hp → Prop, (∃ m, W 0 m (upd B D (.lst []))) ∧ ∀ i m H, W i m H →
      ((Itl K a).stop i H ∧ Qd H) ∨ ((Itl K a).go i H ∧ ∃ Nx : Hp → Prop, (∀ H', Nx H' → ∃ m', m' < m ∧ W (i + 1) m' H') ∧
        ∀ x H', (Itl K a).yld i H x H' → gName j x (wipe σ vs) H' fun σ2 H2 => wipe σ2 vs = wipe σ vs ∧ tYes σ2 H2 fun b H3 =>
          if b = true then te σ2 H3 fun y H4 => ∃ acc, H4 D = some (.lst acc) ∧ acc.length < sizeLine ∧ Nx (upd H4 D (.lst (acc ++ [y]))) else Nx H3) :=
  lc_list (K := K) (a := a) (xs := xs) (fun i H => Same B H ∧ H D = some (.lst ((List.range i).map f))) ⟨same_upd hD, upd_same⟩
    (fun i H _ h => h.1.seq hl) (fun i x H hx h => ⟨hw x, hs i x H hx h.1 h.2⟩) fun H h => hd H h.1 h.2
theorem lc_mapR {lo : Int} {n j : Nat} (f : Nat → V) (hD : B D = none)
    (hw : ∀ x, wipe ((wipe σ vs).set j (some x)) vs = wipe σ vs)
    (hs : ∀ i H, i < n → Same B H → H D = some (.lst ((List.range i).map f)) → te ((wipe σ vs).set j (some (.int (lo + i)))) H (LcT B D f i))
    (hd : ∀ H, Same B H → H D = some (.lst ((List.range n).map f)) → Qd H) :
    ∃ W : Nat → Nat → Hp → Prop, (∃ m, W 0 m (upd B D (.lst []))) ∧ ∀ i m H, W i m H →
      ((Itr lo n).stop i H ∧ Qd H) ∨ ((Itr lo n).go i H ∧ ∃ Nx : Hp → Prop, (∀ H', Nx H' → ∃ m', m' < m ∧ W (i + 1) m' H') ∧
        ∀ x H', (Itr lo n).yld i H x H' → gName j x (wipe σ vs) H' fun σ2 H2 => wipe σ2 vs = wipe σ vs ∧ tYes σ2 H2 fun b H3 =>
          if b = true then te σ2 H3 fun y H4 => ∃ acc, H4 D = some (.lst acc) ∧ acc.length < sizeLine ∧ Nx (upd H4 D (.lst (acc ++ [y]))) else Nx H3) :=
  lc_range (lo := lo) (n := n) (fun i H => Same B H ∧ H D = some (.lst ((List.range i).map f))) ⟨same_upd hD, upd_same⟩
    (fun i H hi h => ⟨hw _, hs i H hi h.1 h.2⟩) fun H h => hd H h.1 h.2
end
end FNX

set_option Elab.async false
set_option linter.all false
set_option maxRecDepth 100000
set_option maxHeartbeats 4000000
/-! ## raise C(e), and e.value in an except suite -/
namespace FNX
open PySem PySem.Spec PyProof.Rows L2
section
variable {X : Cx} {x : Str} {C : Addr} {e : Expr} {ta : TA} {p pos : Pos}
/-- C(e), to be raised: its own dict d is new and holds the value -/
def tMkX (C : Addr) (ta : TA) : L2.St → Hp → XK → Prop := fun σ H Q => ta σ H fun vs H1 => ∃ v, vs = [v] ∧
  ∀ d H', H1 d = none → Same H1 H' → H' d = some (.xd [(("value" : Str), v)]) → Q (.ref C) (some d) H'
theorem pmk_x (T : Ex X.prog X.w X.K X.mg X.base x C) (tyC : PySem.W.typeIn X.K (.ref C) = some (.type "type")) (hr : Room 2 X.A) (hg : Gl X x) (ha : PA X (e :: []) ta)
    (hdb : (x == ("__debug__" : Str)) = false := by decide) (he : starEach (e :: []) X.env = (false, eval e X.env) :: starEach [] X.env := by rfl)
    (hpl : (backTo pos (starEach [] X.env)).any (·.1) = false := by rfl) : PMk X (.Call (.Name x p) [e] [] pos) (tMkX C ta) := by
  intro pins s σ H Q I h
  refine wpAny_Call_Name_kw (ld_glob I hg T.mgC ?_ hdb)
  refine PySem.W.callWith_K (h₀ := X.base) I.ok.mod.kin T.xc.kC (thn (ha.run pos pins s σ H _ I h) fun us s1 hu => ?_) he hpl
  obtain ⟨vs, H1, I1, r1, v, rfl, q⟩ := hu
  refine ⟨I1.kIn, ?_⟩
  obtain ⟨fI, fd, iC, tI, F1, hb, hk⟩ := T.mkd
  obtain ⟨nm, qn, N, bs, bm, sn, sub, ab, col, dd, k0, k1, k2, k3, k5, B, newId, initId, bmB, hC, F, L⟩ := T.xc.cls
  cases r1 with
  | cons rv rn =>
    cases rn
    rename_i u
    show wpAny _ _ (call (.ref C) [u]) _ _ _
    obtain ⟨hp, g, dr, tk, os⟩ := s1
    have sz : hp.objs.size ≤ hp.objs.size + 1 := Nat.le_succ _
    have hn : H1 (hp.objs.size + 1) = none := I1.hok.fresh sz
    have old : ∀ b o, hp.get? b = some o → ((hp.push (PySem.W.kdv_tup [u])).push (PySem.HandSPX.excO C hp.objs.size)).get? b = some o :=
      fun b o z => Heap.get?_push_of_some _ (Heap.get?_push_of_some _ z)
    have at1 : ((hp.push (PySem.W.kdv_tup [u])).push (PySem.HandSPX.excO C hp.objs.size)).get? (hp.objs.size + 1) =
        some (PySem.HandSPX.excO C hp.objs.size) := by heap_get
    have I2 : Inv X pins σ (upd H1 (hp.objs.size + 1) (exo (hp.objs.size + 1) C none))
        ⟨(hp.push (PySem.W.kdv_tup [u])).push (PySem.HandSPX.excO C hp.objs.size), g, dr, tk, os⟩ :=
      I1.laid (t' := tk) (o := exo (hp.objs.size + 1) C none) old sz (exo_ok at1)
    have r2 : Vals [V.ref (hp.objs.size + 1), v] [Value.ref (hp.objs.size + 1), u] := .cons rfl (.cons rv .nil)
    have hsp : spX C [V.ref (hp.objs.size + 1), v] (upd H1 (hp.objs.size + 1) (exo (hp.objs.size + 1) C none))
        (fun z H2 => z = .non ∧ ∃ d : Addr, H2 (hp.objs.size + 1) = some (exo (hp.objs.size + 1) C (some d)) ∧ H2 d = some (exd d [("value", v)]) ∧ H1 d = none ∧
          Q (.ref C) (some d) (upd (del H2 (hp.objs.size + 1)) d (.xd [("value", v)]))) (fun _ _ _ => False) := by
      refine ⟨_, _, rfl, upd_same, fun dx n ne => ⟨rfl, dx, upd_same, by rw [upd_ne ne, upd_same], ?_, ?_⟩⟩
      · rw [upd_ne ne] at n
        exact n
      rw [upd_ne ne] at n
      refine q dx _ n (fun b o z => ?_) upd_same
      have h1 : b ≠ dx := ne_of_none z n
      have h2 : b ≠ hp.objs.size + 1 := ne_of_none z hn
      rw [upd_ne h1, del_ne h2, upd_ne h2, upd_ne h1, upd_ne h2]
      exact z
    refine wpAny_call (called F L (I1.kIn _ _ hC) (by rw [sizeLine_eq]; exact (by decide : 1 ≤ 16777216)) (PySem.W.looks_findIn I1.kIn iC) (fun self => PySem.W.bind_fn I1.kIn self tI)
      (codeAny_mono (F1.run _ X.stack _ _ ⟨[Value.ref (hp.objs.size + 1), u], []⟩ [Value.ref (hp.objs.size + 1), u] _ _ (fun _ _ _ => False) (hr.make C [u] [])
        (I2.env0.make C [u] []) (hb _ [Value.ref (hp.objs.size + 1), u] I2.kIn rfl) r2 hsp) fun r s' hq' => ?_))
    cases r with
    | error er => exact False.elim hq'
    | ok fl =>
      cases fl with
      | ret u' =>
        obtain ⟨z, H2, os2, bare2, un2, hok2, rz, ez, d, ea, ed, hd1, q2⟩ := hq'
        subst ez
        obtain ⟨h2, g2, d2, t2, os'⟩ := s'
        exact ⟨rz, mk_end (raises_own T.xc.exC tyC) I1 sz old un2 hok2 os2 bare2 ea ed hd1 q2⟩
      | next => exact False.elim hq'
      | brk => exact False.elim hq'
      | cont => exact False.elim hq'
/-- raise C(e) -/
def tRaiseX (C : Addr) (W : WX) (ta : TA) : TS := fun _ σ H => tMkX C ta σ H fun cls d H' => W cls d σ H'
theorem ps_raiseX {W : WX} {pos2 : Pos} (hc : X.calm = true) (T : Ex X.prog X.w X.K X.mg X.base x C) (tyC : PySem.W.typeIn X.K (.ref C) = some (.type "type")) (hr : Room 2 X.A) (tk : Takes X W)
    (hg : Gl X x) (ha : PA X (e :: []) ta) (hdb : (x == ("__debug__" : Str)) = false := by decide)
    (he : starEach (e :: []) X.env = (false, eval e X.env) :: starEach [] X.env := by rfl) (hpl : (backTo pos (starEach [] X.env)).any (·.1) = false := by rfl) :
    PS X (.Raise (some (.Call (.Name x p) [e] [] pos)) none pos2) (tRaiseX C W ta) := ps_raise hc tk (pmk_x T tyC hr hg ha hdb he hpl)
/-- e.value, e the exception that the suite holds at a -/
def tByX (C : Addr) (a : Addr) (cls : Value) (d : Option Addr) (te : TE) : TE := fun σ H Q => te σ H fun y H1 => y = .ref a ∧ cls = .ref C ∧ ∃ (dd : Addr) (v : V), d = some dd ∧
  H1 dd = some (.xd [(("value" : Str), v)]) ∧ Q v H1
theorem pe_byX {a : Addr} {oe : Obj} {cls : Value} {d : Option Addr} {pn : List (Addr × Obj)} {te : TE} (T : XC X.K C) (hz : Zc cls d oe) (hf : ∃ vs, oe.data = .fields vs) (he : PE (X.suite a ((a, oe) :: pn)) e te)
    (hb : attributeBase e "value" X.env (eval e X.env) = eval e X.env := by rfl) : PE (X.suite a ((a, oe) :: pn)) (.Attribute e "value" pos) (tByX C a cls d te) := by
  refine ⟨fun pins s σ H Q I h => ?_⟩
  refine attr_of hb (thn (he.run pins s σ H _ I h) fun u s1 hh => ?_)
  obtain ⟨y, H1, I1, rx, rfl, rfl, dd, v, rfl, ea, q⟩ := hh
  obtain rfl : u = Value.ref a := rx
  obtain ⟨ha, _⟩ := I1.pin (a, oe) (List.mem_append_left _ List.mem_cons_self)
  obtain ⟨vs, hd⟩ := hf
  obtain ⟨mA, hns, hr⟩ := (show ObjOk X.prog X.w H1 s1.heap dd (.xd [(("value" : Str), v)]) from I1.hok dd _ ea)
  obtain ⟨od, ho, hl⟩ := lookIn_ns hns
  have l : List.lookup ("value" : Str) [(("value" : Str), v)] = some v := by simp [List.lookup]
  obtain ⟨u, hu, ru⟩ := RelO.some_of (v := v) (o := mA "value") (by rw [← l]; exact hr "value")
  have J : PySem.W.InstAt s1.heap a oe C (some od) := ⟨ha, hz.1, by unfold PySem.W.notCls; rw [hd] <;> rfl, by rw [hz.2]; exact ho⟩
  exact HandSPX.exc_get I1.kIn J T.ga T.gg T.exC (PySem.W.findObj_own T.hdC T.noV rfl (by rw [hl, hu])) (handed_of ru) ⟨v, H1, I1.tok _, ru, q⟩
end
end FNX

set_option Elab.async false
set_option linter.all false
set_option maxRecDepth 100000
set_option maxHeartbeats 4000000
/-! ## Further rules: xs[i] += e, min and max of a pair, the types of data -/
namespace FNX
open PySem PySem.Spec PyProof.Rows L2
open PySem.W (AlikeAll min_tuple_data max_tuple_data minD maxD minD_ints maxD_ints)
section
variable {X : Cx}
theorem pget_list : PGet X (fun o i H Q => rIxL X.K o i H Q) := by
  intro pins s σ H o i ov iv Q I ro ri h
  obtain ⟨p, xs, k, z, rfl, rfl, hq, he, q⟩ := h
  obtain rfl : ov = Value.ref p := ro
  obtain ⟨t, rfl⟩ := ri
  obtain ⟨its, r, pl, hz⟩ := I.list hq
  obtain ⟨j, h1, h2, h3, h4, h5⟩ := atI_get he
  obtain ⟨w, ew, rw'⟩ := r.get h2
  have hl := r.length
  have hn := line63
  have fin : EP X pins σ Q w s := ⟨z, H, I, rw', q⟩
  by_cases h0 : 0 ≤ k
  · have hj : k.toNat = j := by
      rw [seqIndex_of h0 h5] at h1
      exact Option.some.inj h1
    exact wpAny_getItem_list pl.isList h0 (by omega) (by rw [hj]; simpa using ew) fin
  · have hj : (k + (its.toArray.size : Int)).toNat = j := by
      rw [seqIndex_neg (by omega) h4] at h1
      rw [List.size_toArray, ← hl]
      exact Option.some.inj h1
    exact wpAny_getItem_list_neg pl.isList (by omega) (by rw [List.size_toArray] <;> omega) (by omega) (by rw [hj]; simpa using ew) fin
theorem pairReads {h : Heap} {i j : Int} {us : List Value} (r : Vals [V.int i, V.int j] us) : ReadsAll h us [.int i, .int j] [] := by
  cases r with
  | cons r1 r2 =>
    cases r2 with
    | cons r2 r3 =>
      cases r3
      obtain ⟨t1, rfl⟩ := r1
      obtain ⟨t2, rfl⟩ := r2
      exact ReadsAll.cons (as := []) (.int i t1) (ReadsAll.cons (as := []) (.int j t2) .nil)
theorem pairAlike (i j : Int) : AlikeAll [.int i, .int j] := by
  refine ⟨fun x hx y hy => ?_, fun x hx => ?_⟩
  · simp only [List.mem_cons, List.not_mem_nil, or_false] at hx hy
    rcases hx with rfl | rfl <;> rcases hy with rfl | rfl <;> rfl
  · simp only [List.mem_cons, List.not_mem_nil, or_false] at hx
    rcases hx with rfl | rfl <;> exact PyData.noConfusion
theorem intOfReads {h : Heap} {v : Value} {k : Int} {bs : List Addr} (r : Reads h v (.int k) bs) : RelV (.int k) v := by
  cases r
  exact ⟨_, rfl⟩
/-- min(t), max(t) of a pair of ints -/
def rMinT (f : Int → Int → Int) : List V → Hp → VK → Prop := fun vs H Q => ∃ (a : Addr) (i j : Int), vs = [V.ref a] ∧ H a = some (.tup [.int i, .int j]) ∧ Q (.int (f i j)) H
theorem cr_minT (hc : X.calm = true) (hu : X.A.units + 64 < cLine) : CallR X (.builtin "min") (rMinT min) := by
  intro pins s σ H vs us Q I r h
  obtain ⟨a, i, j, rfl, hs, q⟩ := h
  obtain ⟨its, rv, ht, _⟩ := I.tuple (SqT.of hs)
  rw [Vals.ref1 r]
  obtain ⟨o, h1, h2, n, h3⟩ := ht
  refine min_tuple_data (x := .int i) (xs := [.int j]) (I.ok.hd hc) ⟨o, h1, h2, n, h3⟩ (pairReads rv) (pairAlike i j) (by show X.A.units + 1 + 0 < cLine; omega) (fun k v h' tk bs e r2 kp => ?_)
  have e2 : minD (.int i) [.int j] = .int (min i j) := minD_ints i [j]
  rw [e2] at r2
  exact ⟨.int (min i j), H, I.kept kp, intOfReads r2, q⟩
theorem cr_maxT (hc : X.calm = true) (hu : X.A.units + 64 < cLine) : CallR X (.builtin "max") (rMinT max) := by
  intro pins s σ H vs us Q I r h
  obtain ⟨a, i, j, rfl, hs, q⟩ := h
  obtain ⟨its, rv, ht, _⟩ := I.tuple (SqT.of hs)
  rw [Vals.ref1 r]
  obtain ⟨o, h1, h2, n, h3⟩ := ht
  refine max_tuple_data (x := .int i) (xs := [.int j]) (I.ok.hd hc) ⟨o, h1, h2, n, h3⟩ (pairReads rv) (pairAlike i j) (by show X.A.units + 1 + 0 < cLine; omega) (fun k v h' tk bs e r2 kp => ?_)
  have e2 : maxD (.int i) [.int j] = .int (max i j) := maxD_ints i [j]
  rw [e2] at r2
  exact ⟨.int (max i j), H, I.kept kp, intOfReads r2, q⟩
end
/-! ### what an argument is, as data -/
def tyD : PyData → String
  | .none => "NoneType"
  | .bool _ => "bool"
  | .int _ => "int"
  | .str _ => "str"
  | .list _ => "list"
  | .tuple _ => "tuple"
  | .dict _ => "dict"
theorem rdTy {K : PySem.W.Frag} {H : Hp} {v : V} {d : PyData} (h : Rd K H v d) : TyX K H v (.type (tyD d)) := by
  cases h with
  | dat h =>
    cases h with
    | non => exact .base .non
    | bl b => exact .base (.bl b)
    | int i => exact .base (.int i)
    | str x => exact .base (.str x)
    | lst s _ =>
      rcases s with (s | ⟨o, s⟩) | ⟨o, its, n, e, c, _⟩
      · exact .base (.lst s)
      · exact .base (.frz s)
      · exact .kList e c
    | tup s _ =>
      rcases s with (s | ⟨o, s⟩) | s
      · exact .base (.tup s)
      · exact .fTuple s
      · obtain ⟨o, its, n, e, c, _⟩ := s
        exact .kTuple e c
  | dct kvs h => exact .base (.dK h)
def isI : PyData → Bool
  | .int _ => true
  | _ => false
def isLst : PyData → Bool
  | .list _ => true
  | _ => false
def within (lo hi : Int) : PyData → Bool
  | .int i => decide (lo ≤ i) && decide (i ≤ hi)
  | _ => false
def isB : PyData → Bool
  | .bool _ => true
  | _ => false
def isIB : PyData → Bool
  | .int _ => true
  | .bool _ => true
  | _ => false
theorem kitI (K : PySem.W.Frag) : ∀ d : PyData, PySem.W.kitOne K (.type (tyD d)) (.type "int") = some (isIB d)
  | .none => (kit_ty (by decide +kernel) : PySem.W.kitOne K (.type "NoneType") (.type "int") = some false)
  | .bool _ => (kit_ty (by decide +kernel) : PySem.W.kitOne K (.type "bool") (.type "int") = some true)
  | .int _ => (kit_ty (by decide +kernel) : PySem.W.kitOne K (.type "int") (.type "int") = some true)
  | .str _ => (kit_ty (by decide +kernel) : PySem.W.kitOne K (.type "str") (.type "int") = some false)
  | .list _ => (kit_ty (by decide +kernel) : PySem.W.kitOne K (.type "list") (.type "int") = some false)
  | .tuple _ => (kit_ty (by decide +kernel) : PySem.W.kitOne K (.type "tuple") (.type "int") = some false)
  | .dict _ => (kit_ty (by decide +kernel) : PySem.W.kitOne K (.type "dict") (.type "int") = some false)
theorem kitBo (K : PySem.W.Frag) : ∀ d : PyData, PySem.W.kitOne K (.type (tyD d)) (.type "bool") = some (isB d)
  | .none => (kit_ty (by decide +kernel) : PySem.W.kitOne K (.type "NoneType") (.type "bool") = some false)
  | .bool _ => (kit_ty (by decide +kernel) : PySem.W.kitOne K (.type "bool") (.type "bool") = some true)
  | .int _ => (kit_ty (by decide +kernel) : PySem.W.kitOne K (.type "int") (.type "bool") = some false)
  | .str _ => (kit_ty (by decide +kernel) : PySem.W.kitOne K (.type "str") (.type "bool") = some false)
  | .list _ => (kit_ty (by decide +kernel) : PySem.W.kitOne K (.type "list") (.type "bool") = some false)
  | .tuple _ => (kit_ty (by decide +kernel) : PySem.W.kitOne K (.type "tuple") (.type "bool") = some false)
  | .dict _ => (kit_ty (by decide +kernel) : PySem.W.kitOne K (.type "dict") (.type "bool") = some false)
theorem kitL (K : PySem.W.Frag) : ∀ d : PyData, PySem.W.kitOne K (.type (tyD d)) (.type "list") = some (isLst d)
  | .none => (kit_ty (by decide +kernel) : PySem.W.kitOne K (.type "NoneType") (.type "list") = some false)
  | .bool _ => (kit_ty (by decide +kernel) : PySem.W.kitOne K (.type "bool") (.type "list") = some false)
  | .int _ => (kit_ty (by decide +kernel) : PySem.W.kitOne K (.type "int") (.type "list") = some false)
  | .str _ => (kit_ty (by decide +kernel) : PySem.W.kitOne K (.type "str") (.type "list") = some false)
  | .list _ => (kit_ty (by decide +kernel) : PySem.W.kitOne K (.type "list") (.type "list") = some true)
  | .tuple _ => (kit_ty (by decide +kernel) : PySem.W.kitOne K (.type "tuple") (.type "list") = some false)
  | .dict _ => (kit_ty (by decide +kernel) : PySem.W.kitOne K (.type "dict") (.type "list") = some false)
mutual
theorem dpSame {K : PySem.W.Frag} {H H' : Hp} (s : Same H H') : ∀ (d : PyData) (v : V), Dp K H v d → Dp K H' v d
  | .none, _, h => by cases h; exact .non
  | .bool _, _, h => by cases h; exact .bl _
  | .int _, _, h => by cases h; exact .int _
  | .str _, _, h => by cases h; exact .str _
  | .list ds, _, h => by
    cases h with
    | lst h1 h2 => exact .lst (s.seq h1) (dpSameAll s ds _ h2)
  | .tuple ds, _, h => by
    cases h with
    | tup h1 h2 =>
      refine .tup ?_ (dpSameAll s ds _ h2)
      rcases h1 with (h1 | ⟨o, h1⟩) | h1
      · exact .inl (.inl (s _ _ h1))
      · exact .inl (.inr ⟨o, s _ _ h1⟩)
      · exact .inr h1
  | .dict _, _, h => by cases h
theorem dpSameAll {K : PySem.W.Frag} {H H' : Hp} (s : Same H H') : ∀ (ds : List PyData) (vs : List V), DpAll K H vs ds → DpAll K H' vs ds
  | [], _, h => by cases h; exact .nil
  | d :: ds, _, h => by
    cases h with
    | cons h1 h2 => exact .cons (dpSame s d _ h1) (dpSameAll s ds _ h2)
end
theorem rdSame {K : PySem.W.Frag} {H H' : Hp} (s : Same H H') {v : V} {d : PyData} (h : Rd K H v d) : Rd K H' v d := by
  cases h with
  | dat h => exact .dat (dpSame s d v h)
  | dct kvs h => exact .dct kvs (s _ _ h)
end FNX

set_option Elab.async false
set_option linter.all false
set_option maxRecDepth 100000
set_option maxHeartbeats 4000000
/-! ## Calls of a def that is walked where no repr runs further out -/
namespace FNX
open PySem PySem.Spec PyProof.Rows L2
section
variable {X : Cx} {k : Nat} {f : Addr} {fd : FuncData} {ps : List Str} {sp : Sp} {E : XK} {x : Str} {p pos : Pos} {e : Expr} {es : List Expr} {t : TA}
theorem pe_callG (hgd : X.A.guards = some []) (F : GOk X.prog X.w X.K X.mg X.base k f fd ps sp) (hr : Room k X.A) (hg : Gl X x) (hm : X.mg x = some (.ref f)) (hk : PySem.W.keepIn X.K (.ref f) = true) (hb : L2.Binds X.K fd ps []) (hx : Passes CX0 X E)
    (ha : PA X (e :: es) t) (hdb : (x == ("__debug__" : Str)) = false := by decide) (he : starEach (e :: es) X.env = (false, eval e X.env) :: starEach es X.env := by rfl) (hpl : (backTo pos (starEach es X.env)).any (·.1) = false := by rfl) :
    PE X (.Call (.Name x p) (e :: es) [] pos) (tCall sp [] E t) := by
  refine ⟨fun pins s σ H Q I h => ?_⟩
  refine wpAny_Call_Name_kw (ld_glob I hg hm ?_ hdb)
  refine PySem.W.callWith_K (h₀ := X.base) I.ok.mod.kin hk (thn (ha.run pos pins s σ H _ I h) fun us s1 ⟨vs, H1, I1, r, q⟩ => ⟨I1.kIn, ?_⟩) he hpl
  have r2 : Vals (vs ++ []) (us ++ []) := r.append .nil
  have hl : (us ++ ([] : List Value)).length = ps.length := by rw [← r2.length]; exact F.len _ _ _ _ q
  refine wpAny_call (codeAny_mono (F.run X.A X.stack s1 H1 ⟨us, []⟩ (us ++ []) (vs ++ []) Q E hgd hr I1.env0 (hb s1 us I1.kIn hl) r2 q) fun r s' hq => ?_)
  cases r with
  | error e => exact hx pins σ H1 s1 e s' I1 hq
  | ok fl =>
    cases fl with
    | ret u => exact I1.after hq
    | next => exact False.elim hq
    | brk => exact False.elim hq
    | cont => exact False.elim hq
/-- where a def stands that is walked so -/
def AtG (P : Program) (w : World) (K : PySem.W.Frag) (mg : Str → Option Value) (base : Heap) (k : Nat) (x : Str) (ps : List Str) (sp : Sp) : Prop :=
  ∃ f fd, GOk P w K mg base k f fd ps sp ∧ mg x = some (.ref f) ∧ PySem.W.keepIn K (.ref f) = true ∧ L2.Binds K fd ps []
end
end FNX

set_option Elab.async false
set_option linter.all false
set_option maxRecDepth 100000
set_option maxHeartbeats 4000000
/-! ## repr of a list whose items are data, a dict among them -/
namespace FNX
open PySem PySem.Spec PyProof.Rows L2
inductive RdAll (K : PySem.W.Frag) (H : Hp) : List V → List PyData → Prop
  | nil : RdAll K H [] []
  | cons {v : V} {vs : List V} {d : PyData} {ds : List PyData} (h : Rd K H v d) (hs : RdAll K H vs ds) : RdAll K H (v :: vs) (d :: ds)
/-- repr(xs), a list that is not empty -/
def rReprL (K : PySem.W.Frag) : List V → Hp → VK → Prop := fun xs H Q => ∃ a ys ds, xs = [.ref a] ∧ SqL K H a ys ∧ RdAll K H ys ds ∧ ys ≠ [] ∧ (PyData.list ds).showable = true ∧ (PyData.list ds).depth ≤ 60 ∧
  (PyData.list ds).shown.length ≤ sizeLine ∧ Q (.str (PyData.list ds).shown) H
section
variable {X : Cx} {pins : List (Addr × Obj)} {σ : L2.St} {H : Hp} {s : Shared}
theorem reprItems (I : Inv X pins σ H s) : ∀ {vs : List V} {ds : List PyData} {us : List Value}, RdAll X.K H vs ds → Vals vs us → PyData.showableAll ds = true → (∀ t ∈ PyData.shownAll ds, t.length ≤ sizeLine) →
    ∃ as bs, ReadsAll s.heap us ds as ∧ ReadAtMost s.heap (PyData.depthAll ds) bs ∧ ReprAllK X.prog X.w bs s.heap (PyData.depthAll ds) us (PyData.shownAll ds)
  | _, _, _, .nil, r, _, _ => by
    cases r
    refine ⟨[], [], .nil, (fun _ h => nomatch h), ?_⟩
    simp only [PyData.shownAll]
    exact .nil
  | _, _, _, .cons (d := d) (ds := ds) h hs', r, hs, hz => by
    cases r with
    | cons r1 r2 =>
      have sh : d.showable = true ∧ PyData.showableAll ds = true := by simpa [PyData.showableAll] using hs
      obtain ⟨as1, q1, m1⟩ := rdReads I h r1
      obtain ⟨b1, hb1, k1⟩ := ReprK.of_reads (prog := X.prog) (w := X.w) q1 sh.1 m1 (hz _ (by simp only [PyData.shownAll]; exact List.mem_cons_self ..))
      obtain ⟨as2, b2, q2, hb2, k2⟩ := reprItems I hs' r2 sh.2 (fun t ht => hz t (by simp only [PyData.shownAll]; exact List.mem_cons_of_mem _ ht))
      refine ⟨as1 ++ as2, b1 ++ b2, .cons q1 q2, ?_, ?_⟩
      · intro b hm
        simp only [PyData.depthAll]
        rcases List.mem_append.mp hm with hm | hm
        · obtain ⟨d', as', r', hd'⟩ := hb1 b hm
          exact ⟨d', as', r', Nat.le_trans hd' (Nat.le_max_left _ _)⟩
        · obtain ⟨d', as', r', hd'⟩ := hb2 b hm
          exact ⟨d', as', r', Nat.le_trans hd' (Nat.le_max_right _ _)⟩
      · simp only [PyData.depthAll, PyData.shownAll]
        exact .cons ((k1.more fun b hb => List.mem_append_left _ hb).level_le (Nat.le_max_left _ _)) (k2.more_le (fun b hb => List.mem_append_right _ hb) (Nat.le_max_right _ _))
theorem call_reprL (hg : X.A.guards = some []) (hu : X.A.units + 64 < cLine) : CallR X (.builtin "repr") (rReprL X.K) := by
  intro pins s σ H xs us Q I r h
  obtain ⟨a, ys, ds, rfl, hy, hd, hne, h1, h2, h3, q⟩ := h
  cases r with
  | cons r1 r2 =>
    cases r2
    cases r1
    obtain ⟨its, rv, ⟨o, n, ho, hc, _, hdt⟩, _⟩ := I.list hy
    have sh : PyData.showableAll ds = true := by simpa [PyData.showable] using h1
    have hz' : (listText (PyData.shownAll ds)).length ≤ sizeLine := by simpa only [PyData.shown] using h3
    obtain ⟨as, bs, hr, hb, hk⟩ := reprItems I hd rv sh fun t ht => Nat.le_trans (listText_mem_le ht) hz'
    have hdep : (PyData.list ds).depth = PyData.depthAll ds + 1 := by simp only [PyData.depth]
    have hna : a ∉ bs := not_mem_of_deeper (.list ho hc hdt hr) (by rw [hdep]; omega) hb
    have ek : ∀ b o, s.heap.get? b = some o → s.heap.get? b = some o := fun _ _ e => e
    refine call_repr_slot (T := "list") (idr := "list.__repr__") (by omega) ⟨o, ho, hc⟩ F.slot_list_repr.toG ?_
    cases its with
    | nil =>
      cases rv
      exact absurd rfl hne
    | cons u l =>
      refine call_list_reprK ho hc hdt hna (by simpa using hk.length_eq) (fun i y e => hk.item i y (by simpa using e)) (A := X.A.in1) hg (fun b _ => Clear.nil b) ?_ ek (fun h' u' tk k => ?_) hz'
      · have z : X.A.in1.units = X.A.units + 1 := rfl
        omega
      · refine ⟨_, _, rfl, ?_⟩
        have e : (PyData.list ds).shown = listText (PyData.shownAll ds) := by simp only [PyData.shown]
        rw [← e]
        exact ⟨.str (PyData.list ds).shown, H, I.un (t' := tk) (Un.kept k) (I.hok.kept k), ⟨u', rfl⟩, q⟩
end
end FNX

set_option Elab.async false
set_option linter.all false
set_option maxRecDepth 100000
set_option maxHeartbeats 8000000
/-! ## What a head leaves: classes of exceptions, defs, methods, a method with a default -/
namespace FNX
open PySem PySem.Spec PyProof.Rows L2
/-- the text of an `__init__` that stores its value -/
structure InitTxt (st : Stmt) : Prop where
  sc : FnScope ["self", "value"] ["self", "value"] (defScope st)
  body : ∃ q1 q2 q3 q4, defBody st = [.Assign [.Attribute (.Name "self" q1) "value" q2] (.Name "value" q3) q4]
  bind : ∀ (qual : Str) (kV doc pm : Value) (an : Option Addr) (cdv ct : Value) (us : List Value), us.length = (["self", "value"] : List Str).length →
    bindArgs (PySem.W.fnOf "__init__" qual (defArgs st) (defBody st) (defScope st) .none kV doc pm an cdv ct) ⟨us, []⟩ = pure ((["self", "value"] : List Str).zip us)
  bindK : ∀ (qual : Str) (kV doc pm : Value) (an : Option Addr) (cdv ct : Value) (u v : Value),
    bindArgs (PySem.W.fnOf "__init__" qual (defArgs st) (defBody st) (defScope st) .none kV doc pm an cdv ct) ⟨[u], [(("value" : Str), v)]⟩ = pure ((["self", "value"] : List Str).zip [u, v])
/-- a class of the program, as the top has left it -/
structure Cl (K : PySem.W.Frag) (mg : Str → Option Value) (x : Str) (C : Addr) : Prop where
  xc : XC K C
  mgC : mg x = some (.ref C)
  mkd : ∃ st qual f fd, InitTxt st ∧ PySem.W.findIn K (.ref C) "__init__" = some (some (.ref f)) ∧ PySem.W.typeIn K (.ref f) = some (.type "function") ∧ Fun K "__init__" qual st f fd
theorem Cl.ex {P : Program} {w : World} {K : PySem.W.Frag} {mg : Str → Option Value} {base : Heap} {x : Str} {C : Addr} (c : Cl K mg x C) : Ex P w K mg base x C := by
  obtain ⟨st, qual, f, fd, t, h1, h2, F⟩ := c.mkd
  refine ⟨c.xc, c.mgC, f, fd, h1, h2, xinit_ok F t.sc t.body c.xc, F.binds (t.bind qual), fun s u v => ?_⟩
  obtain ⟨oc, od, kV, doc, pm, an, cdv, ct, osl, rfl, _, _⟩ := F.ex
  exact .of_eq (t.bindK qual kV doc pm an cdv ct u v)
theorem chainVal {g : Addr} : Chain "ValueError" [.ref g, .type "ValueError", .type "Exception", .type "BaseException", .type "object"] := ⟨rfl, rfl, rfl, rfl, rfl, passVal.ref g⟩
theorem chainLook : Chain "LookupError" [.type "LookupError", .type "Exception", .type "BaseException", .type "object"] := ⟨by decide +kernel, by decide +kernel, by decide +kernel, by decide +kernel, rfl, passLook⟩
theorem chainRun : Chain "RuntimeError" [.type "RuntimeError", .type "Exception", .type "BaseException", .type "object"] := ⟨by decide +kernel, by decide +kernel, by decide +kernel, by decide +kernel, rfl, passRun⟩
theorem chainOver : Chain "OverflowError" [.type "OverflowError", .type "ArithmeticError", .type "Exception", .type "BaseException", .type "object"] := ⟨by decide +kernel, by decide +kernel, by decide +kernel, by decide +kernel, rfl, passOver⟩
section
variable {K : PySem.W.Frag} {h : Heap} {mg : Str → Option Value} {x qual : Str} {C f N T e : Addr} {st : Stmt} {B newId initId : String} {bm bmB bs sub : List Value} {nm q : Str} {sn : List Str} {ab : Bool} {col : Option Bool}
  {dd od an odT : Option Addr} {k0 k1 k2 k3 k5 : Option Value} {oc kV doc pm cd ct ocT : Value} {sl slT : Array (Option Value)} {nT : Nat}
theorem mkXC (F : ExcBaseFacts B newId initId bmB) (L : Chain B bm)
    (xC : K.lookup C = some (excClassObj nm q C N bs bm true sn sub ab col dd k0 k1 k2 k3 k5 newId))
    (sa : PySem.W.findIn K (.ref C) "__setattr__" = some (some (.builtin "object.__setattr__")))
    (ga : PySem.W.findIn K (.ref C) "__getattribute__" = some (some (.builtin "BaseException.__getattribute__"))) (gg : PySem.W.findIn K (.ref C) "__getattr__" = some none)
    (nv : PySem.W.findIn K (.ref C) "value" = some none) (eC : PySem.W.subIn K (.ref C) (.type "BaseException") = some true) (kC : PySem.W.keepIn K (.ref C) = true)
    (hd : PySem.W.hasDictIn K C = true) (ic : PySem.W.isClsIn K C = true) (cC : PySem.W.findIn K (.ref C) "__class__" = some (some (.builtin "object.__class__")))
    (mC : PySem.W.mroIn K C (.type "object") = some true) : XC K C :=
  ⟨⟨nm, q, N, bs, bm, sn, sub, ab, col, dd, k0, k1, k2, k3, k5, B, newId, initId, bmB, xC, F, L⟩, sa, ga, gg, nv, eC, kC, hd, ic, cC, mC⟩
theorem mkCl (X : K.In h) (G : h.Ns mainGlobals mg) (aC : PySem.W.nsIn K mainGlobals x = some (some (.ref C))) (xc : XC K C) (t : InitTxt st)
    (a1 : PySem.W.findIn K (.ref C) "__init__" = some (some (.ref f))) (t1 : PySem.W.typeIn K (.ref f) = some (.type "function"))
    (l1 : K.lookup f = some ⟨oc, od, .func (PySem.W.fnOf "__init__" qual (defArgs st) (defBody st) (defScope st) .none kV doc pm an cd ct), sl⟩)
    (c1 : PySem.W.codeIn K cd qual = true) (kf : PySem.W.keepIn K (.ref f) = true) : Cl K mg x C :=
  ⟨xc, PySem.W.mg_of X G aC, st, qual, f, _, t, a1, t1, fun_mk l1 c1 kf⟩
/-- a def -/
def FnF (K : PySem.W.Frag) (mg : Str → Option Value) (x : Str) (st : Stmt) (f : Addr) : Prop := mg x = some (.ref f) ∧ ∃ fd, Fun K x x st f fd
theorem mkF (X : K.In h) (G : h.Ns mainGlobals mg) (a1 : PySem.W.nsIn K mainGlobals x = some (some (.ref f)))
    (l1 : K.lookup f = some ⟨oc, od, .func (PySem.W.fnOf x x (defArgs st) (defBody st) (defScope st) .none kV doc pm an cd ct), sl⟩)
    (c1 : PySem.W.codeIn K cd x = true) (kf : PySem.W.keepIn K (.ref f) = true) : FnF K mg x st f := ⟨PySem.W.mg_of X G a1, _, fun_mk l1 c1 kf⟩
/-- a method of the class at C -/
def MtF (K : PySem.W.Frag) (C : Addr) (x qual : Str) (st : Stmt) (f : Addr) : Prop := Meth K C x f ∧ ∃ fd, Fun K x qual st f fd
theorem mkMt (a1 : PySem.W.findIn K (.ref C) x = some (some (.ref f))) (l1 : K.lookup f = some ⟨oc, od, .func (PySem.W.fnOf x qual (defArgs st) (defBody st) (defScope st) .none kV doc pm an cd ct), sl⟩)
    (c1 : PySem.W.codeIn K cd qual = true) (fn : PySem.W.isFn K (.ref f) = true) (kf : PySem.W.keepIn K (.ref f) = true) : MtF K C x qual st f := ⟨⟨a1, fn, kf⟩, _, fun_mk l1 c1 kf⟩
/-- an `__init__` with one default -/
def InF (K : PySem.W.Frag) (C : Addr) (qual : Str) (st : Stmt) (f e : Addr) : Prop := Mk K C f ∧ ∃ fd, FunD K "__init__" qual (defArgs st) (defBody st) (defScope st) [.ref e] [] f fd
theorem mkIn (mk : PySem.W.makesIn K C = true) (a1 : PySem.W.findIn K (.ref C) "__init__" = some (some (.ref f))) (fn : PySem.W.isFn K (.ref f) = true) (kC : PySem.W.keepIn K (.ref C) = true)
    (l1 : K.lookup f = some ⟨oc, od, .func (PySem.W.fnOf "__init__" qual (defArgs st) (defBody st) (defScope st) (.ref T) kV doc pm an cd ct), sl⟩) (lT : K.lookup T = some ⟨ocT, odT, .seq #[.ref e] nT, slT⟩)
    (c1 : PySem.W.codeIn K cd qual = true) (kf : PySem.W.keepIn K (.ref f) = true) : InF K C qual st f e :=
  ⟨⟨mk, a1, fn, kC⟩, _, ⟨oc, od, .ref T, kV, doc, pm, an, cd, ct, sl, rfl, l1, c1, .inr ⟨by simp, T, _, [.ref e], nT, rfl, lT, rfl, .cons rfl .nil⟩, .inl rfl⟩, kf⟩
end
end FNX

set_option Elab.async false
set_option linter.all false
set_option maxRecDepth 100000
set_option maxHeartbeats 4000000
/-! ## Doors: lambdas handed to a def that catches what they raise -/
namespace FNX
open PySem PySem.Spec PyProof.Rows L2

/-! ### a try with several clauses, each with the exception's name -/
def wMas (K : PySem.W.Frag) (i : Nat) (Wout : WX) (D : Ends) : List (Value × (Addr → Value → Option Addr → TS)) → WX
  | [] => Wout
  | q :: r => wAs K q.1 i q.2 (wMas K i Wout D r) D
abbrev SuiteOk (X : Cx) (l : List Stmt) (ts : Addr → Value → Option Addr → TS) : Prop :=
  ∀ (z : Addr) (oz : Obj) (cls : Value) (d : Option Addr) (pn : List (Addr × Obj)), Zc cls d oz → (∃ us, oz.data = .fields us) → PSs (X.suite z ((z, oz) :: pn)) l (ts z cls d)
inductive Clauses (X : Cx) (n : Str) : List ExceptHandler → List (Value × (Addr → Value → Option Addr → TS)) → Prop
  | nil : Clauses X n [] []
  | cons {x : Str} {c : Value} {ts : Addr → Value → Option Addr → TS} {b : Stmt} {l : List Stmt} {p1 p2 : Pos} {hs : List ExceptHandler} {r : List (Value × (Addr → Value → Option Addr → TS))}
      (hc : Names X x c) (hsu : SuiteOk X (b :: l) ts) (hr : Clauses X n hs r) : Clauses X n (.ExceptHandler (some (.Name x p1)) (some n) (b :: l) p2 :: hs) ((c, ts) :: r)
section
variable {X : Cx} {n : Str} {i : Nat} {body : List Stmt} {h1 : ExceptHandler} {hs : List ExceptHandler} {cl : List (Value × (Addr → Value → Option Addr → TS))} {pos : Pos} {tb : WX → TS} {Wout : WX}
/-- what the clauses are asked, once the exception is caught -/
abbrev caught (X : Cx) (pins : List (Addr × Obj)) (D : Ends) (l : List ExceptHandler) : Value → Shared → Prop := fun e s1 =>
  wpAny (model X.prog X.w) X.A (noteFrame e X.env) (fun _ s2 => wpAny (model X.prog X.w) X.A (setFlight e none)
    (fun _ s3 => wpAny (model X.prog X.w) X.A (handleBy e X.env l) (SP X pins D) X.xe s3) X.xe s2) X.xe s1
theorem ps_try_mas (hst : X.stack = X.env :: X.outer) (hfr : X.env.frame = some X.env.locals) (hN : X.N.Nodup) (hi : X.N[i]? = some n) (hn : X.env.kindOf n = some .local) (tk : Takes X Wout)
    (hb : ∀ (W : WX) (pn : List (Addr × Obj)) (xe : Value → Shared → Prop), Takes (X.tr pn xe) W → PassesOwn (model X.prog X.w) X.A X.env xe → PSs (X.tr pn xe) body (tb W))
    (hc : Clauses X n (h1 :: hs) cl) : PS X (.Try body (h1 :: hs) [] [] pos) (fun D σ H => tb (wMas X.K i Wout D cl) D σ H) := by
  refine ⟨fun pins s σ H D I h => wpAny_Try_except ?_⟩
  have ok := I.ok
  have fs : X.A.frames = some (X.env :: X.outer) := ok.frames.trans (congrArg some hst)
  refine wpAny_mono ((hb (wMas X.K i Wout D cl) (X.pn ++ pins) (caught X pins D (h1 :: hs)) (fun u s' got => ?_) PassesOwn.looking).run [] s σ H D (I.toTry _) h) (fun fl s1 z => ?_) (fun _ _ z => z)
  · obtain ⟨a, B, sI, pins', σ', H', cls, d, rfl, J', nb, up, sky, na, os, ag, wish⟩ := got
    have J : Inv X pins σ' H' sI := J'.ofTry ok
    refine Sky.land Zc.steady fs hfr (show Sky B (X.env :: X.outer) a (Zc cls d) X.env.locals s'.heap from hst ▸ sky) fun hp fly upp => ?_
    have up1 := up.trans upp
    obtain ⟨oz, fz, az, zz, dz⟩ := fly.there
    have off : a ∉ frs (X.env :: X.outer) := fun hm => by
      obtain ⟨_, o2, e2, no2⟩ := fly.2.2.1.mem hm
      obtain rfl : oz = o2 := Option.some.inj (az.symm.trans e2)
      exact no2 fz dz
    have offL : a ≠ X.env.locals := fun e => off (List.mem_filterMap.mpr ⟨X.env, List.mem_cons_self, by rw [hfr, e]⟩)
    have offF : a ∉ X.fs := fun hm => by
      obtain ⟨v, hv, q⟩ := List.mem_filterMap.mp hm
      exact off (List.mem_filterMap.mpr ⟨v, List.mem_cons_of_mem _ hv, q⟩)
    have J1 : Inv X pins σ' H' { s' with heap := hp } := J.landed nb fly.1 up1 os ag
    have walk : ∀ {l : List ExceptHandler} {r : List (Value × (Addr → Value → Option Addr → TS))}, Clauses X n l r → wMas X.K i Wout D r cls d σ' H' →
        wpAny (model X.prog X.w) X.A (handleBy (.ref a) X.env l) (SP X pins D) X.xe { s' with heap := hp } := by
      intro l r hl
      induction hl with
      | nil =>
        intro want
        refine wpAny_handleBy_nil ?_
        have leave : wpAny (model X.prog X.w) X.A (setFlight (.ref a) X.env.frame) (fun _ s4 => wpAny (model X.prog X.w) X.A (throw (.ref a) : Sem Flow) (SP X pins D) X.xe s4) X.xe { s' with heap := hp } := by
          rw [hfr]
          exact HandSPX.setFlight_upZ fly fun h4 held up4 => wpAny_throw (tk _ _ ⟨a, B, sI, pins, σ', H', cls, d, rfl, J, nb, up1.trans up4, .inr (.inr (by rw [hst]; exact held)), na, os, ag, want⟩)
        obtain ⟨_, _, _, ob, vb, T, _, _, hob, _, hdb, hTb, _⟩ := id fly
        unfold PySem.passOn
        refine wpAny_bind (wpAny_field hob hdb hTb ?_)
        have nz : ¬ ((Value.ref T == Value.none) = true) := by simp
        rw [if_neg nz]
        first
          | exact wpAny_bind leave
          | exact wpAny_bind (wpAny_pure (wpAny_bind leave))
      | @cons x c ts b l2 p1 p2 hs2 r2 hnm hsu _ ih =>
        intro want
        obtain ⟨bl, hbl, yes, no⟩ := want
        have S1 := J1.suite az dz na offL offF
        have named : ∀ {Q1 : Value → Shared → Prop} {E1 : Value → Shared → Prop}, Q1 c { s' with heap := hp } →
            wpAny (model X.prog X.w) (X.A.mark (some (.ref a))) (eval (.Name x p1) X.env) Q1 E1 { s' with heap := hp } := fun q1 => by
          obtain ⟨g1, g2, g3⟩ := hnm
          rcases g3 with g3 | ⟨g3, g4, g5⟩
          · exact ld_glob (X := X.suite a ((a, oz) :: (X.pn ++ pins))) S1 g1 g3 q1 g2
          · exact ld_blt (X := X.suite a ((a, oz) :: (X.pn ++ pins))) S1 g1 g3 g4 q1 g5 g2
        have itsType : PySem.W.Looks (model X.prog X.w) hp (typeOf (.ref a)) cls := fun A1 Q1 E1 s1 k1 q1 => wpAny_typeOf_ref (k1 _ _ az) (zz.1.symm ▸ q1)
        have match_ := PySem.W.exm_one (M := model X.prog X.w) J1.kIn itsType hbl
        refine wpAny_handleBy_cons (codeAny_handlers_test (named (match_.here ?_))) (by intro e; cases e)
        cases bl with
        | false =>
          have go := ih (no rfl)
          exact go
        | true =>
          refine codeAny_handlers_suite_as (HandSPX.lands_againZ fly fun h4 fly4 up4 => ?_)
          obtain ⟨o4, f4, a4, z4, d4⟩ := fly4.there
          have J4 : Inv X pins σ' H' { s' with heap := h4 } := J.landed nb fly4.1 (up1.trans up4) os ag
          refine store_ok (X := X.suite a ((a, o4) :: (X.pn ++ pins))) (v := .ref a) (J4.suite a4 d4 na offL offF) hN hi (.inl hn) rfl (fun s5 S5 => ?_) (.inr hn)
          refine wpAny_mono ((hsu a o4 cls d (X.pn ++ pins) z4 ⟨f4, d4⟩).run [] s5 _ H' _ S5 (yes rfl a na)) (fun fl s6 z => ?_) (fun _ _ z => z.elim)
          have done : ∀ {σ6 : L2.St} {H6 : Hp} {Q6 : Shared → Prop}, Inv (X.suite a ((a, o4) :: (X.pn ++ pins))) [] σ6 H6 s6 → (∀ s7, Inv X pins (σ6.set i none) H6 s7 → Q6 s7) →
              wpAny (model X.prog X.w) X.A (do bindName X.env n .none; unbindBehindTheSuite X.env n p2) (fun _ s7 => Q6 s7) X.xe s6 := fun S6 q6 => gone_ok (S6.unsuite ok) hN hi hn q6
          cases fl with
          | ret u =>
            obtain ⟨v6, σ6, H6, S6, r6, q6⟩ := z
            exact done S6 fun s7 J7 => ⟨v6, _, _, J7, r6, q6⟩
          | next =>
            obtain ⟨σ6, H6, S6, q6⟩ := z
            exact done S6 fun s7 J7 => ⟨_, H6, J7, q6⟩
          | brk =>
            obtain ⟨σ6, H6, S6, q6⟩ := z
            exact done S6 fun s7 J7 => ⟨_, H6, J7, q6⟩
          | cont =>
            obtain ⟨σ6, H6, S6, q6⟩ := z
            exact done S6 fun s7 J7 => ⟨_, H6, J7, q6⟩
    exact walk hc wish
  · cases fl with
    | ret u =>
      obtain ⟨v, σ1, H1, J1, rv, q⟩ := z
      exact ⟨v, σ1, H1, J1.ofTry ok, rv, q⟩
    | next =>
      obtain ⟨σ1, H1, J1, q⟩ := z
      exact wpAny_execs_nil ⟨σ1, H1, J1.ofTry ok, q⟩
    | brk =>
      obtain ⟨σ1, H1, J1, q⟩ := z
      exact ⟨σ1, H1, J1.ofTry ok, q⟩
    | cont =>
      obtain ⟨σ1, H1, J1, q⟩ := z
      exact ⟨σ1, H1, J1.ofTry ok, q⟩
end

/-! ### a def whose code object is known -/
structure FunC (K : PySem.W.Frag) (x qual : Str) (st : Stmt) (f : Addr) (fd : FuncData) (c : Addr) : Prop where
  ex : ∃ (oc : Value) (od : Option Addr) (kV doc pm : Value) (an : Option Addr) (ct : Value) (osl : Array (Option Value)),
    fd = PySem.W.fnOf x qual (defArgs st) (defBody st) (defScope st) .none kV doc pm an (.ref c) ct ∧ K.lookup f = some ⟨oc, od, .func fd, osl⟩ ∧ PySem.W.codeIn K (.ref c) qual = true
  kp : PySem.W.keepIn K (.ref f) = true
section
variable {P : Program} {w : World} {K : PySem.W.Frag} {mg : Str → Option Value} {base : Heap}
theorem okGC {x qual : Str} {st : Stmt} {f c : Addr} {fd : FuncData} {N ps : List Str} {k : Nat} {sp : Sp} (F : FunC K x qual st f fd c) (S : FnScope N ps (defScope st))
    (len : ∀ vs H Q E, sp vs H Q E → vs.length = ps.length)
    (hbody : ∀ (A : Around) (outer : List Env) (s : Shared) (H : Hp) (vs : List V) (Q : VK) (E : XK), A.guards = some [] →
      Room k (A.deeper (envOfC qual (defScope st) s.heap.objs.size f (.ref c))) → sp vs H Q E →
      ∃ t, PSs (cxOf CX0 P w K mg base N qual (defScope st) f (.ref c) A outer s H E).nox (defBody st) t ∧ t { nx := fun _ H' => Q .non H', rt := Q } (start N vs) H) :
    GOk P w K mg base (k + 1) f fd ps sp := by
  refine ⟨len, fun A outer s H args us vs Q E hg hr e0 hb r hs => ?_⟩
  obtain ⟨oc, od, kV, doc, pm, an, ct, osl, rfl, lk, hcd⟩ := F.ex
  refine LamX.run_ofS (CX := CX0) lk hcd S hr e0 hb r (len _ _ _ _ hs) fun hr' => ?_
  obtain ⟨t, ht, q⟩ := hbody A outer s H vs Q E hg hr' hs
  exact ⟨t, ht.nox, q⟩
end

/-! ### what a def makes of a door -/
def wErr (K : PySem.W.Frag) (mk : Str → Str → Hp → (V → Hp → Prop) → Prop) (Q : VK) : List (Addr × Str) → XK
  | [] => fun _ _ _ => False
  | q :: r => fun cls d H => ∃ b, PySem.W.exmOne K cls (.ref q.1) = some b ∧
      (b = true → cls = .ref q.1 ∧ ∃ (dd : Addr) (v : V) (dt : PyData), d = some dd ∧ H dd = some (.xd [(("value" : Str), v)]) ∧ Rd K H v dt ∧ dt.showable = true ∧ dt.depth ≤ 60 ∧ dt.shown.length ≤ sizeLine ∧ mk q.2 dt.shown H Q) ∧
      (b = false → wErr K mk Q r cls d H)
/-- [word, repr(e.value)] -/
def mkPair : Str → Str → Hp → (V → Hp → Prop) → Prop := fun word text H Q => ∀ p, H p = none → Q (.ref p) (upd H p (.lst [.str word, .str text]))
/-- repr(e.value) -/
def mkText : Str → Str → Hp → (V → Hp → Prop) → Prop := fun _ text H Q => Q (.str text) H
def TErr (K : PySem.W.Frag) (mk : Str → Str → Hp → (V → Hp → Prop) → Prop) (cl : List (Addr × Str)) : (XK → Hp → VK → Prop) → Hp → VK → Prop :=
  fun tl H Q => tl (wErr K mk Q cl) H (fun _ H' => Q .non H')

/-! ### the law's own call, where tables of code objects grow -/
section
variable {P : Program} {w : World} {K : PySem.W.Frag} {mg mb : Str → Option Value} {k : Nat} {fa a : Addr} {fd : FuncData} {x : Str} {sp : Sp} {s : Shared} {vs : List Value} {ns : List Int} {cs : List (Addr × Addr)}
/-- the module's own dict of built-ins, as the top has left it -/
abbrev BMain (mg : Str → Option Value) (h : Heap) : Prop :=
  ∃ (bm : Addr) (ob : Obj), mg "__builtins__" = some (.ref bm) ∧ bm ≠ builtinsNs ∧ h.get? bm = some ob ∧ ob.cls = .type "module" ∧ ob.dict = some builtinsNs ∧ ob.data = .plain
theorem lawFromT {H : Hp} (KX : K.In s.heap) (hns : s.heap.Ns mainGlobals mg) (hb : s.heap.Ns builtinsNs mb) (hbb : ∀ x : Str, x ≠ "__name__" → mb x = bootBuiltins x)
    (hlim : s.heap.NoLimit) (hg : s.gens = #[]) (hr : Room k callerA)
    (hT : ∀ q ∈ cs, s.heap.get? q.2 = some (PySem.W.tabObj #[])) (hC : ∀ q ∈ cs, PySem.W.CodeHd s.heap q.1 q.2) (hbm : BMain mg s.heap)
    (F : ∀ base : Heap, K.In base → base.Ns mainGlobals mg → (∀ q ∈ cs, LamX.TabB base mg q.1 q.2) → GOk P w K mg base k fa fd [x] sp) (hbind : ∀ (s : Shared) (u : Value), BindsTo s fd ⟨[u], []⟩ [(x, u)])
    (hsp : sp [.ref a] H (fun v _ => v = .bl true) fun _ _ _ => False) (hok : HOk P w H s.heap) (hH : ∀ q ∈ cs, H q.2 = some (.tbl #[]))
    (hall : ∀ b u, H b = some u → K.lookup b = none ∧ ((∃ q ∈ cs, b = q.2) ∨ ((∃ o xs, u = .frz o (.lst xs)) ∧ ∃ o us m, s.heap.get? b = some o ∧ o.data = .seq us m))) :
    codeAny (model P w) callerA (.call (.ref fa) ⟨[.ref a], []⟩) (LawEnd s) s := by
  have seen : ∀ {b : Addr} {o : Obj}, s.heap.get? b = some o → H b = none → (hidT s.heap H).get? b = some o := fun e n => hidT_get e n
  have away : ∀ {b : Addr} {o : Obj}, s.heap.get? b = some o → (∀ us m, o.data ≠ .seq us m) → o.data ≠ .fields #[] → H b = none := fun {b o} e n1 n2 => by
    cases q : H b with
    | none => rfl
    | some u =>
      rcases (hall b u q).2 with ⟨t, ht, rfl⟩ | ⟨_, o2, us, m, e2, d2⟩
      · obtain rfl := Option.some.inj (e.symm.trans (hT t ht))
        exact absurd rfl n2
      · obtain rfl := Option.some.inj (e.symm.trans e2)
        exact absurd d2 (n1 us m)
  have dicts : ∀ {b : Addr} {o : Obj} {es : Array DictEntry} {ep : Nat}, s.heap.get? b = some o → o.data = .dict es ep → H b = none := fun e d =>
    away e (fun us m z => by rw [d] at z; cases z) (fun z => by rw [d] at z; cases z)
  have keep : ∀ {b : Addr} {m : Str → Option Value}, s.heap.Ns b m → (hidT s.heap H).Ns b m := fun n => by
    obtain ⟨o, es, ep, e, d, r⟩ := n
    exact ⟨o, es, ep, seen e (dicts e d), d, r⟩
  have kin : K.In (hidT s.heap H) := fun b o e => seen (KX b o e) (by
    cases q : H b with
    | none => rfl
    | some u =>
      rw [(hall b u q).1] at e
      cases e)
  have mod : Mod K mg (hidT s.heap H) := ⟨kin, keep hns, ⟨mb, keep hb, hbb⟩, by
    obtain ⟨mc, h1, h2⟩ := hlim
    exact ⟨mc, keep h1, h2⟩⟩
  have tabs : ∀ q ∈ cs, LamX.TabB (hidT s.heap H) mg q.1 q.2 := fun q hq => by
    have tq := hT q hq
    refine ⟨?_, ?_, fun z => ?_⟩
    · obtain ⟨o, us, file, tf, fl, tg, inF, tx, tt, e1, r1, r2, r3, rest⟩ := hC q hq
      refine ⟨o, us, file, tf, fl, tg, inF, tx, tt, seen e1 (away e1 (fun us' m z => ?_) fun z => ?_), r1, r2, r3, rest⟩
      · rw [r2] at z
        cases z
      · rw [r2] at z
        injection z with z
        rw [z] at r3
        simp at r3
    · obtain ⟨bm, ob, m1, m2, m3, m4, m5, m6⟩ := hbm
      refine ⟨bm, ob, m1, m2, fun z => ?_, fun z => ?_, seen m3 (away m3 (fun us' m z => ?_) fun z => ?_), m4, m5, m6⟩
      · obtain ⟨o, es, ep, e, d, _⟩ := hns
        rw [z, e] at m3
        obtain rfl := Option.some.inj m3
        rw [d] at m6
        cases m6
      · rw [z, tq] at m3
        obtain rfl := Option.some.inj m3
        cases m6
      · rw [m6] at z
        cases z
      · rw [m6] at z
        cases z
    · obtain ⟨o, es, ep, e, d, _⟩ := hns
      rw [z, tq] at e
      obtain rfl := Option.some.inj e
      cases d
  have e0 : Env0 P w K mg (hidT s.heap H) callerA [] s H :=
    ⟨rfl, mod, fun b o e => of_hidT e, Nat.le_of_eq (hidT_size _ _), trivial, fun b hb => absurd (show b ∈ ([] : List Addr) from hb) (by simp), hok, .of_eq hg⟩
  refine codeAny_mono ((F _ kin (keep hns) tabs).run callerA [] s H ⟨[.ref a], []⟩ [.ref a] [.ref a] _ _ rfl hr e0 (hbind s (.ref a)) (.cons rfl .nil) hsp) fun r s' z => ?_
  cases r with
  | error e => exact False.elim z
  | ok fl =>
    cases fl with
    | next => exact False.elim z
    | brk => exact False.elim z
    | cont => exact False.elim z
    | ret u =>
      obtain ⟨v, H', os, bare, un, hok', rv', q⟩ := z
      obtain rfl : v = .bl true := q
      obtain rfl : u = Value.bool true := rv'
      have grown : ∀ t ∈ cs, ∃ more : Array Value, s'.heap.get? t.2 = some { cls := .none, data := .fields more } := fun t ht => by
        obtain ⟨more, z⟩ := un.tbls t.2 #[] (hH t ht)
        exact ⟨_, hok' t.2 _ z⟩
      have same : ∀ b o, s.heap.get? b = some o → (∀ t ∈ cs, b ≠ t.2) → s'.heap.get? b = some o := fun b o e nt => by
        cases q : H b with
        | none => exact un.keep b o e q (fun z => absurd (show b ∈ ([] : List Addr) from z) (by simp)) (by simp)
        | some u =>
          rcases (hall b u q).2 with ⟨t, ht, z⟩ | ⟨⟨ob, xs, rfl⟩, _⟩
          · exact absurd z (nt t ht)
          obtain ⟨e1, _⟩ := hok b _ q
          obtain ⟨e2, _⟩ := hok' b _ (un.frzs b ob _ q)
          obtain rfl := Option.some.inj (e.symm.trans e1)
          exact e2
      have way : ∀ b : Addr, (∃ t ∈ cs, b = t.2) ∨ ∀ t ∈ cs, b ≠ t.2 := fun b => by
        by_cases c : ∃ t ∈ cs, b = t.2
        · exact .inl c
        · exact .inr fun t ht z => c ⟨t, ht, z⟩
      refine ⟨rfl, ⟨fun b o e => ?_, fun b o e => ?_⟩, os, bare⟩
      · rcases way b with ⟨t, ht, rfl⟩ | nt
        · obtain ⟨more, hm⟩ := grown t ht
          obtain rfl := Option.some.inj (e.symm.trans (hT t ht))
          exact .inr (.inl ⟨((hC t ht).tab (hT t ht)).isCodeTable, rfl, #[], more, rfl, by rw [Array.empty_append]; exact hm⟩)
        · exact .inl (same b o e nt)
      · rcases way b with ⟨t, ht, rfl⟩ | nt
        · obtain ⟨more, hm⟩ := grown t ht
          exact ⟨_, hm⟩
        · exact ⟨o, same b o e nt⟩
theorem lawCalledT (KX : K.In s.heap) (hns : s.heap.Ns mainGlobals mg) (hb : s.heap.Ns builtinsNs mb) (hbb : ∀ x : Str, x ≠ "__name__" → mb x = bootBuiltins x)
    (hlim : s.heap.NoLimit) (hg : s.gens = #[]) (hT : ∀ q ∈ cs, s.heap.get? q.2 = some (PySem.W.tabObj #[])) (nT : ∀ q ∈ cs, K.lookup q.2 = none) (hC : ∀ q ∈ cs, PySem.W.CodeHd s.heap q.1 q.2) (hbm : BMain mg s.heap)
    (ha : s.heap.get? a = some { cls := .type "list", data := .seq vs.toArray }) (hi : IntsAre vs ns) (hl : ns.length ≤ sizeLine)
    (hr : Room k callerA) (F : ∀ base : Heap, K.In base → base.Ns mainGlobals mg → (∀ q ∈ cs, LamX.TabB base mg q.1 q.2) → GOk P w K mg base k fa fd [x] sp)
    (hbind : ∀ (s : Shared) (u : Value), BindsTo s fd ⟨[u], []⟩ [(x, u)])
    (hsp : ∀ H : Hp, (∀ q ∈ cs, H q.2 = some (.tbl #[])) → SqL K H a (ns.map V.int) → sp [.ref a] H (fun v _ => v = .bl true) fun _ _ _ => False) :
    codeAny (model P w) callerA (.call (.ref fa) ⟨[.ref a], []⟩) (LawEnd s) s := by
  have rv := vals_ints hi
  have lenV := hi.length
  have aT : ∀ q ∈ cs, a ≠ q.2 := fun q hq z => by
    have e := hT q hq
    rw [← z, ha] at e
    have d := congrArg Obj.data (Option.some.inj e)
    cases d
  classical
  -- the script, where it isn't written
  let T : Hp := fun b => if ∃ q ∈ cs, b = q.2 then some (.tbl #[]) else none
  have atT : ∀ q ∈ cs, T q.2 = some (.tbl #[]) := fun q hq => if_pos ⟨q, hq, rfl⟩
  have ofT : ∀ {b u}, T b = some u → (∃ q ∈ cs, b = q.2) ∧ u = .tbl #[] := fun {b u} z => by
    by_cases c : ∃ q ∈ cs, b = q.2
    · exact ⟨c, (Option.some.inj ((if_pos c).symm.trans z)).symm⟩
    · cases (if_neg c).symm.trans z
  have okT : ∀ {b u}, T b = some u → ObjOk P w T s.heap b u ∧ ∀ H, ObjOk P w H s.heap b u := fun {b u} z => by
    obtain ⟨⟨q, hq, rfl⟩, rfl⟩ := ofT z
    exact ⟨hT q hq, fun _ => hT q hq⟩
  cases hk : K.lookup a with
  | some o =>
    have e := KX a o hk
    rw [ha] at e
    cases e
    refine lawFromT (H := T) KX hns hb hbb hlim hg hr hT hC hbm F hbind (hsp _ atT (.inr ⟨_, vs.toArray, _, hk, rfl, rfl, rfl, ?_, ?_⟩)) (fun b u z => (okT z).1) atT (fun b u z => ?_)
    · rw [List.size_toArray, lenV]
      exact hl
    · simpa using rv
    · obtain ⟨⟨q, hq, rfl⟩, _⟩ := ofT z
      exact ⟨nT q hq, .inl ⟨q, hq, rfl⟩⟩
  | none =>
    let U : Hp := fun b => if b = a then some (.frz { cls := .type "list", data := .seq vs.toArray } (.lst (ns.map V.int))) else T b
    have atU : ∀ q ∈ cs, U q.2 = some (.tbl #[]) := fun q hq => (if_neg (Ne.symm (aT q hq))).trans (atT q hq)
    have atA : U a = some (.frz { cls := .type "list", data := .seq vs.toArray } (.lst (ns.map V.int))) := if_pos rfl
    have ofU : ∀ {b u}, U b = some u → (b = a ∧ u = .frz { cls := .type "list", data := .seq vs.toArray } (.lst (ns.map V.int))) ∨ T b = some u := fun {b u} z => by
      by_cases c : b = a
      · exact .inl ⟨c, (Option.some.inj ((if_pos c).symm.trans z)).symm⟩
      · exact .inr ((if_neg c).symm.trans z)
    refine lawFromT (H := U) KX hns hb hbb hlim hg hr hT hC hbm F hbind (hsp _ atU (.inl (.inr ⟨_, atA⟩))) (fun b u z => ?_) atU (fun b u z => ?_)
    · rcases ofU z with ⟨rfl, rfl⟩ | z
      · exact ⟨ha, by rw [List.length_map]; exact hl, vs, _, rv, ha⟩
      · exact (okT z).2 _
    · rcases ofU z with ⟨rfl, rfl⟩ | z
      · exact ⟨hk, .inr ⟨⟨_, _, rfl⟩, _, _, _, ha, rfl⟩⟩
      · obtain ⟨⟨q, hq, rfl⟩, _⟩ := ofT z
        exact ⟨nT q hq, .inl ⟨q, hq, rfl⟩⟩
/-- what the head tells of a def with doors: its code object and the table -/
structure Door (K : PySem.W.Frag) (mg : Str → Option Value) (xs : List Str) (x : Str) (c Pt : Addr) : Prop where
  mem : x ∈ xs
  fn : ∃ f o fd e dd us sl, mg x = some (.ref f) ∧ K.lookup f = some o ∧ o.data = .func fd ∧ fd.code = .ref c ∧ K.lookup c = some ⟨e, dd, .fields us, sl⟩ ∧ us[11]? = some (.ref Pt)
  hd : PySem.W.codeHdIn K c Pt = true
  no : K.lookup Pt = none
/-- what the head leaves, from the law's promise; xs: the defs with doors -/
theorem walkGT {l : PySem.W.OpenLaw} {n k : Nat} {q : Program} {loose : List Str} {XP : (Str → Option Value) → Heap → Prop} {YP : World → Heap → Prop} {d : DefRec} {K : Params → PySem.W.Frag} {sp : World → List (Addr × Addr) → Sp} {x : Str} (xs : List Str)
    (hn : l.most = some n) (hn2 : n ≤ sizeLine) (hdf : d.params.defaults = []) (hr : Room k callerA) (hxs : xs.all (fun y => (recsOf q).any fun e => e.name == y) = true) (hY : ∀ (w : World) (h : Heap), YP w h → (K w.params).In h)
    (F : ∀ (w : World) (mg : Str → Option Value) (fa : Addr) (h : Heap), (K w.params).In h → h.Ns mainGlobals mg → mg d.name = some (.ref fa) →
      ∃ (fd : FuncData) (cs : List (Addr × Addr)), (∀ p ∈ cs, ∃ y, Door (K w.params) mg xs y p.1 p.2) ∧ (∀ (s : Shared) (u : Value), BindsTo s fd ⟨[u], []⟩ [(x, u)]) ∧
        (∀ (H : Hp) (a : Addr) (ns : List Int), ns.length ≤ n → (∀ p ∈ cs, H p.2 = some (.tbl #[])) → SqL (K w.params) H a (ns.map V.int) → sp w cs [.ref a] H (fun v _ => v = .bl true) fun _ _ _ => False) ∧
        ∀ base : Heap, (K w.params).In base → base.Ns mainGlobals mg → (∀ p ∈ cs, LamX.TabB base mg p.1 p.2) → GOk l.prog w (K w.params) mg base k fa fd [x] (sp w cs)) :
    PySem.W.WalkO q loose XP YP l.row.toRowW d [] (fun f vs => PySem.call f vs) := by
  refine Att.attach_call hn hdf fun w s₀ s₁ mg mb fa o pm cd doc a vs ns G Y ho hd hcd hmg hobj hints hlen hg => ?_
  have KX := hY w _ Y
  obtain ⟨fd, cs, hD, hb, hsp, hF⟩ := F w mg fa _ KX G.T.g hmg
  refine lawCalledT KX G.T.g G.T.b G.T.builtins G.T.nolimit hg (fun p hp => ?_) (fun p hp => ?_) (fun p hp => ?_) G.T.bmain hobj hints (Nat.le_trans hlen hn2) hr hF hb fun H hH hS => hsp H a ns hlen hH hS
  · obtain ⟨y, D⟩ := hD p hp
    obtain ⟨r, hr1, hr2⟩ := List.any_eq_true.mp (List.all_eq_true.mp hxs y D.mem)
    obtain rfl : r.name = y := beq_iff_eq.mp hr2
    obtain ⟨f', o', fd', c', P', t1, t2, t3, t4, _, t6⟩ := G.T.tab r hr1
    obtain ⟨f2, o2, fd2, e2, dd2, us2, sl2, d1, d2, d3, d4, d5, d6⟩ := D.fn
    obtain rfl : f2 = f' := by
      rw [d1] at t1
      injection t1 with t1
      injection t1
    obtain rfl : o2 = o' := Option.some.inj ((KX _ _ d2).symm.trans t2)
    rw [d3] at t3
    injection t3 with t3
    rw [← t3, d4] at t4
    injection t4 with t4
    obtain ⟨⟨o3, v3, g1, _, g3, g4⟩, g5⟩ := t6
    rw [← t4, KX _ _ d5] at g1
    obtain rfl := Option.some.inj g1
    injection g3 with g3
    rw [← g3, d6] at g4
    injection g4 with g4
    injection g4 with g4
    rw [g4]
    exact g5
  · obtain ⟨y, D⟩ := hD p hp
    exact D.no
  · obtain ⟨y, D⟩ := hD p hp
    exact PySem.W.codeHd_of_K KX D.hd
end
end FNX

set_option Elab.async false
set_option linter.all false
set_option maxRecDepth 100000
set_option maxHeartbeats 4000000
namespace FNX
open PySem PySem.Spec PyProof.Rows L2
theorem takes_len {X : Cx} {W : WX} (tk : Takes X W) : Takes X (fun cls d σ H => σ.length = X.N.length → W cls d σ H) := fun e s' x => tk e s' (by
  obtain ⟨a, B, sI, pins, σ, H, cls, d, h1, J, h2, h3, h4, h5, h6, h7, w⟩ := x
  exact ⟨a, B, sI, pins, σ, H, cls, d, h1, J, h2, h3, h4, h5, h6, h7, w J.len⟩)
theorem len3 {α : Type} {l : List α} (h : l.length = 3) : ∃ a b c, l = [a, b, c] := by
  match l, h with
  | [a, b, c], _ => exact ⟨a, b, c, rfl⟩
def tDoor (f c' : Addr) (q : Str) (tl : XK → Hp → VK → Prop) : WX → TS := fun W D σ H =>
  ∃ Ech : XK, (∀ cls d H' σ', Ech cls d H' → σ'.length = 3 → W cls d σ' H') ∧ σ[0]? = some (some (.ref f)) ∧ H c' = some (LamX.CodeO c' q) ∧ tl Ech H (fun _ H' => D.nx σ H')
def TErrK (K : PySem.W.Frag) (mk : Str → Str → Hp → (V → Hp → Prop) → Prop) (cl : List (Addr × Str)) : (XK → Hp → VK → Prop) → Hp → VK → Prop :=
  fun tl H Q => tl (wErr K mk Q cl) H (fun _ H' => ∃ v : V, some (some V.non) = some (some v) ∧ Q v H')
section
variable {X : Cx}
theorem pe_door {T : List (Addr × Str)} {TT : (XK → Hp → VK → Prop) → Hp → VK → Prop} {st : Stmt} {g c Pt : Addr} {fd : FuncData} {k : Nat} {params : Arguments} {body : Expr} {scope : Scope} {t : XK → TE} {p lpos pos : Pos}
    (hg : Gl X "_law_error") (hm : X.mg "_law_error" = some (.ref g)) (F : Fun X.K "_law_error" "_law_error" st g fd) (hb : L2.Binds X.K fd ["_law_door"] []) (Sg : FnScope ["_law_door", "_law_kept", "e"] ["_law_door"] (defScope st))
    (hva : Vis (defScope st) "_law_door") (hG : ∀ cdg, LamX.GivesTo X ["_law_door", "_law_kept", "e"] "_law_error" (defScope st) g cdg (defBody st) "_law_door" (X.env.qual ++ "<lambda>") TT)
    (TB : LamX.TabB X.base X.mg c Pt) (hcode : X.env.code = .ref c) (hmT : (Pt, X.env.qual ++ "<lambda>") ∈ T) (hu : ∀ p ∈ T, p.1 = Pt → p.2 = X.env.qual ++ "<lambda>") (hr : Room (k + 2) X.A)
    (L : LamX.LamS X.env.scope scope) (hdef : defaultsOf params X.env = ([], []))
    (hbind : ∀ (q : Str) (cl : List (Str × Addr)) (pm cv ctv : Value), bindArgs (PySem.W.kla_fn "<lambda>" q params body scope cl pm cv ctv) ⟨[], []⟩ = pure [])
    (hbody : ∀ (A : Around) (outer : List Env) (s : Shared) (H : Hp) (E : XK) (f c' : Addr), Room k (A.deeper (LamX.lamEnv X scope s.heap.objs.size f c')) → PE (LamX.lamCx X A outer s H E scope f c') body (t E)) :
    PE X (.Call (.Name "_law_error" p) [.Lambda params body scope lpos] [] pos) (LamX.tLam T TT t) := by
  obtain ⟨oc, od, kV, doc, pm, an, cdv, ct, osl, rfl, lk, hcd⟩ := F.ex
  exact LamX.pe_lamcall hg hm F.kp lk hcd hb Sg rfl hva (hG cdv) TB hcode hmT hu hr L hdef hbind hbody
end
def SameN (p : Addr) (H H' : Hp) : Prop := ∀ b o, b ≠ p → (∀ ps, o ≠ .tbl ps) → H b = some o → H' b = some o
theorem SameN.refl {p : Addr} {H : Hp} : SameN p H H := fun _ _ _ _ e => e
theorem SameN.trans {p : Addr} {H H1 H2 : Hp} (a : SameN p H H1) (b : SameN p H1 H2) : SameN p H H2 := fun c o n m e => b c o n m (a c o n m e)
theorem Same.n {p : Addr} {H H1 : Hp} (a : Same H H1) : SameN p H H1 := fun c o _ _ e => a c o e
theorem ExtN.n {p : Addr} {H H1 : Hp} (a : LamX.ExtN H H1) : SameN p H H1 := fun c o _ m e => a c o e m
theorem notTbl_lst {xs : List V} : ∀ ps, HO.lst xs ≠ .tbl ps := fun ps z => by cases z
theorem notTbl_tup {xs : List V} : ∀ ps, HO.tup xs ≠ .tbl ps := fun ps z => by cases z
theorem notTbl_ins {C dx : Addr} {fs : List (Str × V)} : ∀ ps, HO.ins C dx fs ≠ .tbl ps := fun ps z => by cases z
theorem Same.tabs {T : List (Addr × Str)} {H H' : Hp} (s : Same H H') (t : LamX.Tabs T H) : LamX.Tabs T H' := t.ext s
/-- lists of texts, not equal: told apart -/
def rNeS (K : PySem.W.Frag) : R2 := fun x y H Q => ∃ (a b : Addr) (xs : List Str), x = .ref a ∧ y = .ref b ∧ SqL K H a (xs.map V.str) ∧ SqL K H b (xs.map V.str) ∧ Q (.bl false) H
theorem op_neS {X : Cx} (hu : X.A.units + 64 < cLine) : OpR X (compareOp .NotEq) (rNeS X.K) := by
  intro pins s σ H x y v u Q I rx ry h
  obtain ⟨a, b, xs, rfl, rfl, ha, hb, q⟩ := h
  cases (show v = Value.ref a from rx)
  cases (show u = Value.ref b from ry)
  obtain ⟨us, r1, p1, _⟩ := I.list ha
  obtain ⟨ws, r2, p2, _⟩ := I.list hb
  have hsz : us.toArray.size = ws.toArray.size := by
    rw [List.size_toArray, List.size_toArray, ← r1.length, ← r2.length]
  refine (SeqAt.RcNeAt.lists (e := fun _ => true) p1.isList p2.isList hsz (by omega) (fun j h1 h2 => ?_)) _ _ _ _ ?_
  · have l1 := r1.length
    have h1' : j < us.length := by simpa using h1
    have h2' : j < ws.length := by simpa using h2
    obtain ⟨z, hz⟩ : ∃ z, xs[j]? = some z := ⟨xs[j]'(by rw [List.length_map] at l1; omega), List.getElem?_eq_getElem _⟩
    have hj : (xs.map V.str)[j]? = some (V.str z) := by
      rw [List.getElem?_map, hz]
      rfl
    obtain ⟨u1, e1, q1⟩ := r1.get hj
    obtain ⟨u2, e2, q2⟩ := r2.get hj
    obtain ⟨t1, rfl⟩ := q1
    obtain ⟨t2, rfl⟩ := q2
    have f1 : us.toArray[j] = .str z t1 := by
      rw [List.getElem_toArray]
      exact (List.getElem?_eq_some_iff.mp e1).2
    have f2 : ws.toArray[j] = .str z t2 := by
      rw [List.getElem_toArray]
      exact (List.getElem?_eq_some_iff.mp e2).2
    rw [f1, f2]
    have y := SeqAt.EqAt.str_str (A := X.A.in1) (s := s) z t1 z t2
    rwa [beq_self_eq_true] at y
  · rw [show ((List.range us.toArray.size).all fun _ => true) = true from List.all_eq_true.mpr fun _ _ => rfl]
    exact ⟨.bl false, H, I, rfl, q⟩
end FNX
namespace FNX
open PySem PySem.Spec PyProof.Rows L2
/-- a def with doors, as the top has left it -/
def FnC (K : PySem.W.Frag) (mg : Str → Option Value) (x : Str) (st : Stmt) (f c Pt : Addr) : Prop := mg x = some (.ref f) ∧ (∃ fd, FunC K x x st f fd c) ∧ Door K mg [x] x c Pt
theorem mkFC {K : PySem.W.Frag} {h : Heap} {mg : Str → Option Value} {x : Str} {st : Stmt} {f c Pt : Addr} {oc kV doc pm ct e : Value} {od an dd : Option Addr} {sl slc : Array (Option Value)} {us : Array Value} (X : K.In h) (G : h.Ns mainGlobals mg) (a1 : PySem.W.nsIn K mainGlobals x = some (some (.ref f)))
    (l1 : K.lookup f = some ⟨oc, od, .func (PySem.W.fnOf x x (defArgs st) (defBody st) (defScope st) .none kV doc pm an (.ref c) ct), sl⟩) (lc : K.lookup c = some ⟨e, dd, .fields us, slc⟩)
    (c1 : PySem.W.codeIn K (.ref c) x = true) (kf : PySem.W.keepIn K (.ref f) = true) (u11 : us[11]? = some (.ref Pt)) (hd : PySem.W.codeHdIn K c Pt = true) (no : K.lookup Pt = none) : FnC K mg x st f c Pt :=
  ⟨PySem.W.mg_of X G a1, ⟨_, ⟨oc, od, kV, doc, pm, an, ct, sl, rfl, l1, c1⟩, kf⟩, ⟨List.mem_singleton.mpr rfl, ⟨f, _, _, e, dd, us, slc, PySem.W.mg_of X G a1, l1, rfl, rfl, lc, u11⟩, hd, no⟩⟩
end FNX
namespace FNX
open PySem PySem.Spec PyProof.Rows L2
theorem walkGK {l : PySem.W.OpenLaw} {n k : Nat} {q : Program} {loose : List Str} {XP : (Str → Option Value) → Heap → Prop} {YP : World → Heap → Prop} {d : DefRec} {K : Params → PySem.W.Frag} {x : Str} (sp : PySem.W.Frag → List (Addr × Addr) → Sp) (xs : List Str)
    (hn : l.most = some n) (hn2 : n ≤ sizeLine) (hdf : d.params.defaults = []) (hr : Room k callerA) (hxs : xs.all (fun y => (recsOf q).any fun e => e.name == y) = true) (hY : ∀ (w : World) (h : Heap), YP w h → (K w.params).In h)
    (F : ∀ (w : World) (mg : Str → Option Value) (fa : Addr) (h : Heap), (K w.params).In h → h.Ns mainGlobals mg → mg d.name = some (.ref fa) →
      ∃ (fd : FuncData) (cs : List (Addr × Addr)), (∀ p ∈ cs, ∃ y, Door (K w.params) mg xs y p.1 p.2) ∧ (∀ (s : Shared) (u : Value), BindsTo s fd ⟨[u], []⟩ [(x, u)]) ∧
        (∀ (H : Hp) (a : Addr) (ns : List Int), ns.length ≤ n → (∀ p ∈ cs, H p.2 = some (.tbl #[])) → SqL (K w.params) H a (ns.map V.int) → sp (K w.params) cs [.ref a] H (fun v _ => v = .bl true) fun _ _ _ => False) ∧
        ∀ base : Heap, (K w.params).In base → base.Ns mainGlobals mg → (∀ p ∈ cs, LamX.TabB base mg p.1 p.2) → GOk l.prog w (K w.params) mg base k fa fd [x] (sp (K w.params) cs)) :
    PySem.W.WalkO q loose XP YP l.row.toRowW d [] (fun f vs => PySem.call f vs) := walkGT (sp := fun w cs => sp (K w.params) cs) xs hn hn2 hdf hr hxs hY F
end FNX
namespace FNX
open PySem PySem.Spec PyProof.Rows L2
theorem FunC.fn {K : PySem.W.Frag} {x qual : Str} {st : Stmt} {f c : Addr} {fd : FuncData} (F : FunC K x qual st f fd c) : Fun K x qual st f fd := by
  obtain ⟨oc, od, kV, doc, pm, an, ct, osl, e, lk, hcd⟩ := F.ex
  exact ⟨⟨oc, od, kV, doc, pm, an, .ref c, ct, osl, e, lk, hcd⟩, F.kp⟩
theorem Door.more {K : PySem.W.Frag} {mg : Str → Option Value} {xs ys : List Str} {x : Str} {c Pt : Addr} (D : Door K mg xs x c Pt) (h : x ∈ ys) : Door K mg ys x c Pt := ⟨h, D.fn, D.hd, D.no⟩
end FNX

set_option Elab.async false
set_option linter.all false
set_option maxRecDepth 100000
set_option maxHeartbeats 4000000
/-! ## Doors of any name, whose clauses keep a text or a value, and which keep what they are told -/
namespace FNX
open PySem PySem.Spec PyProof.Rows L2
abbrev MkC := V → PyData → Hp → (V → Hp → Prop) → Prop
/-- [word, repr(e.value)] -/
def mkR (word : Str) : MkC := fun _ d H Q => d.showable = true ∧ d.depth ≤ 60 ∧ d.shown.length ≤ sizeLine ∧ ∀ p, H p = none → Q (.ref p) (upd H p (.lst [.str word, .str d.shown]))
/-- [word, e.value] -/
def mkV (word : Str) : MkC := fun v _ H Q => ∀ p, H p = none → Q (.ref p) (upd H p (.lst [.str word, v]))
def wErrG (K : PySem.W.Frag) (Q : VK) : List (Addr × MkC) → XK
  | [] => fun _ _ _ => False
  | q :: r => fun cls d H => ∃ b, PySem.W.exmOne K cls (.ref q.1) = some b ∧
      (b = true → cls = .ref q.1 ∧ ∃ (dd : Addr) (v : V) (dt : PyData), d = some dd ∧ H dd = some (.xd [(("value" : Str), v)]) ∧ Rd K H v dt ∧ q.2 v dt H Q) ∧
      (b = false → wErrG K Q r cls d H)
/-- nothing is kept of what the door returns -/
def TErrG (K : PySem.W.Frag) (cl : List (Addr × MkC)) : (XK → Hp → VK → Prop) → Hp → VK → Prop :=
  fun tl H Q => tl (wErrG K Q cl) H (fun _ H' => ∃ v : V, some (some V.non) = some (some v) ∧ Q v H')
/-- ['told', what the door returns] -/
def TToldG (K : PySem.W.Frag) (word : Str) (cl : List (Addr × MkC)) : (XK → Hp → VK → Prop) → Hp → VK → Prop :=
  fun tl H Q => tl (wErrG K Q cl) H (fun v H' => 2 ≤ sizeLine ∧ ∀ p, H' p = none → ∃ u : V, some (some (V.ref p)) = some (some u) ∧ Q u (upd H' p (.lst [.str word, v])))
def tDoorV (f c' : Addr) (q : Str) (word : Str) (tl : XK → Hp → VK → Prop) : WX → TS := fun W D σ H =>
  ∃ Ech : XK, (∀ cls d H' σ', Ech cls d H' → σ'.length = 3 → W cls d σ' H') ∧ tAsg (tLst (tCons (tC (.str word)) (tCons (fun σZ HZ Q => σZ[0]? = some (some (.ref f)) ∧ HZ c' = some (LamX.CodeO c' q) ∧ tl Ech HZ Q) tNil))) (gName 1) D σ H
section
variable {X : Cx}
theorem pe_doorN {x : Str} {T : List (Addr × Str)} {TT : (XK → Hp → VK → Prop) → Hp → VK → Prop} {st : Stmt} {g c Pt : Addr} {fd : FuncData} {k : Nat} {params : Arguments} {body : Expr} {scope : Scope} {t : XK → TE} {p lpos pos : Pos}
    (hg : Gl X x) (hm : X.mg x = some (.ref g)) (F : Fun X.K x x st g fd) (hb : L2.Binds X.K fd ["_law_door"] []) (Sg : FnScope ["_law_door", "_law_kept", "e"] ["_law_door"] (defScope st))
    (hva : Vis (defScope st) "_law_door") (hG : ∀ cdg, LamX.GivesTo X ["_law_door", "_law_kept", "e"] x (defScope st) g cdg (defBody st) "_law_door" (X.env.qual ++ "<lambda>") TT)
    (TB : LamX.TabB X.base X.mg c Pt) (hcode : X.env.code = .ref c) (hmT : (Pt, X.env.qual ++ "<lambda>") ∈ T) (hu : ∀ p ∈ T, p.1 = Pt → p.2 = X.env.qual ++ "<lambda>") (hr : Room (k + 2) X.A)
    (L : LamX.LamS X.env.scope scope) (hdef : defaultsOf params X.env = ([], []))
    (hbind : ∀ (q : Str) (cl : List (Str × Addr)) (pm cv ctv : Value), bindArgs (PySem.W.kla_fn "<lambda>" q params body scope cl pm cv ctv) ⟨[], []⟩ = pure [])
    (hbody : ∀ (A : Around) (outer : List Env) (s : Shared) (H : Hp) (E : XK) (f c' : Addr), Room k (A.deeper (LamX.lamEnv X scope s.heap.objs.size f c')) → PE (LamX.lamCx X A outer s H E scope f c') body (t E))
    (hdb : (x == ("__debug__" : Str)) = false := by decide) :
    PE X (.Call (.Name x p) [.Lambda params body scope lpos] [] pos) (LamX.tLam T TT t) := by
  obtain ⟨oc, od, kV, doc, pm, an, cdv, ct, osl, rfl, lk, hcd⟩ := F.ex
  exact LamX.pe_lamcall hg hm F.kp lk hcd hb Sg rfl hva (hG cdv) TB hcode hmT hu hr L hdef hbind hbody hdb
end
end FNX

set_option Elab.async false
set_option linter.all false
set_option maxRecDepth 100000
set_option maxHeartbeats 4000000
/-! ## Further rules: int(a bool), != of two lists of the same items -/
namespace FNX
open PySem PySem.Spec PyProof.Rows L2
section
variable {X : Cx}
def rIntB : List V → Hp → VK → Prop := fun xs H Q => ∃ b : Bool, xs = [.bl b] ∧ Q (.int (if b = true then 1 else 0)) H
theorem call_intB : CallR X (.type "int") rIntB := by
  intro pins s σ H xs us Q I r h
  obtain ⟨b, rfl, q⟩ := h
  cases r with
  | cons r1 r2 =>
    cases r2
    cases r1
    exact PySem.call_int_bool ⟨.int (if b = true then 1 else 0), H, I.tok _, ⟨_, rfl⟩, q⟩
/-- lists of the same items -/
def rNeI (K : PySem.W.Frag) : R2 := fun x y H Q => ∃ (a b : Addr) (xs : List V), x = .ref a ∧ y = .ref b ∧ SqL K H a xs ∧ SqL K H b xs ∧ (∀ v ∈ xs, flatB v = true ∨ ∃ c, v = .ref c) ∧ Q (.bl false) H
theorem op_neI (hu : X.A.units + 64 < cLine) : OpR X (compareOp .NotEq) (rNeI X.K) := by
  intro pins s σ H x y v u Q I rx ry h
  obtain ⟨a, b, xs, rfl, rfl, ha, hb, hf, q⟩ := h
  cases (show v = Value.ref a from rx)
  cases (show u = Value.ref b from ry)
  obtain ⟨us, r1, p1, _⟩ := I.list ha
  obtain ⟨ws, r2, p2, _⟩ := I.list hb
  have hsz : us.toArray.size = ws.toArray.size := by
    rw [List.size_toArray, List.size_toArray, ← r1.length, ← r2.length]
  refine (SeqAt.RcNeAt.lists (e := fun _ => true) p1.isList p2.isList hsz (by omega) (fun j h1 h2 => ?_)) _ _ _ _ ?_
  · have l1 := r1.length
    have h1' : j < us.length := by simpa using h1
    obtain ⟨z, hz⟩ : ∃ z, xs[j]? = some z := ⟨xs[j]'(by omega), List.getElem?_eq_getElem _⟩
    obtain ⟨u1, e1, q1⟩ := r1.get hz
    obtain ⟨u2, e2, q2⟩ := r2.get hz
    have f1 : us.toArray[j] = u1 := by
      rw [List.getElem_toArray]
      exact (List.getElem?_eq_some_iff.mp e1).2
    have f2 : ws.toArray[j] = u2 := by
      rw [List.getElem_toArray]
      exact (List.getElem?_eq_some_iff.mp e2).2
    rw [f1, f2]
    rcases hf z (List.mem_of_getElem? hz) with hf | ⟨c, rfl⟩
    · exact eqAt_same q1 q2 hf
    · cases (show u1 = Value.ref c from q1)
      cases (show u2 = Value.ref c from q2)
      exact SeqAt.EqAt.same _
  · rw [show ((List.range us.toArray.size).all fun _ => true) = true from List.all_eq_true.mpr fun _ _ => rfl]
    exact ⟨.bl false, H, I, rfl, q⟩
end
end FNX

set_option Elab.async false
set_option linter.all false
set_option maxRecDepth 100000
set_option maxHeartbeats 4000000
/-! ## != of instances with an own __eq__, len of instances with an own __len__ -/
namespace FNX
open PySem PySem.Spec PyProof.Rows L2
section
variable {M : Model} {prog : Program} {w : World} {A : Around} {E : Value → Shared → Prop} {s : Shared} {K : PySem.W.Frag} {x C f : Addr} {ox : Obj} {od : Option Obj} {b tb : Value}
theorem ifBound_objNe {args : List Value} {Q : Option Value → Shared → Prop} (X : K.In s.heap) (I : PySem.W.InstAt s.heap x ox C od) (hs : PySem.W.findIn K (.ref C) "__ne__" = some (some (.builtin "object.__ne__")))
    (h : wpAny M A (call (.builtin "object.__ne__") (.ref x :: args)) (fun v => Q (some v)) E s) : wpAny M A (callSpecialIfBound? (.ref x) "__ne__" args) Q E s := by
  simp only [callSpecialIfBound?, bindSpecialIfBound?]
  refine wpAny_holding (wpAny_bind (wpAny_bind (wpAny_bind (I.type.here ((PySem.W.looks_findIn X hs).here ?_)))))
  refine wpAny_bind (wpAny_askSetting (wpAny_ite ?_))
  have fin : wpAny M A (call (.builtin "object.__ne__") ([.ref x] ++ args) >>= fun v => pure (some v)) Q E s := wpAny_bind (wpAny_mono h (fun v s' h' => wpAny_pure h') fun _ _ h' => h')
  split
  · exact wpAny_bind (wpAny_of_eq (F.cmp_object.ne.bind _) (wpAny_pure (by exact fin)))
  · exact wpAny_tryCatch (wpAny_bind (wpAny_of_eq (F.cmp_object.ne.bind _) (wpAny_pure (by exact fin))))
theorem objNe_own {Q : Fin → Shared → Prop} (hu : A.units < cLine) (X : K.In s.heap) (I : PySem.W.InstAt s.heap x ox C od) (hs : PySem.W.findIn K (.ref C) "__eq__" = some (some (.ref f))) (hf : PySem.W.isFn K (.ref f) = true)
    (h : wpAny (model prog w) A (call (.ref f) [.ref x, b]) (fun v s' => ∃ r, v = .bool r ∧ Q (.done (.ret (.bool (!r)))) s') E s) :
    wpAny (model prog w) A (Builtin.«object.__ne__» ⟨[.ref x, b], []⟩) Q E s := by
  unfold Builtin.«object.__ne__»
  repeat (first | with_reducible refine PySem.W.ifBound_K X I hs hf (wpAny_mono h (fun v s' hv => ?_) fun _ _ e => e) | with_reducible refine wpAny_cRoomFor hu ?_ | wp_step)
  obtain ⟨r, rfl, q⟩ := hv
  refine wpAny_bind (wpAny_truthy_bool ?_)
  exact wpAny_pure q
theorem ne_own {Q : Value → Shared → Prop} (hu : A.in1.units < cLine) (X : K.In s.heap) (I : PySem.W.InstAt s.heap x ox C od) (hb : PySem.W.Looks (model prog w) s.heap (typeOf b) tb) (hn : PySem.W.notFirst K C tb = true)
    (hm : PySem.W.mroIn K C (.type "object") = some true) (h1 : PySem.W.findIn K (.ref C) "__ne__" = some (some (.builtin "object.__ne__"))) (hs : PySem.W.findIn K (.ref C) "__eq__" = some (some (.ref f))) (hf : PySem.W.isFn K (.ref f) = true)
    (h : wpAny (model prog w) A.in1 (call (.ref f) [.ref x, b]) (fun v s' => ∃ r, v = .bool r ∧ Q (.bool (!r)) s') E s) : wpAny (model prog w) A (richCompare .NotEq (.ref x) b) Q E s := by
  have one : wpAny (model prog w) A (tryCompare (.ref x) (cmpInfo .NotEq).2.1 b) (fun r s' => ∃ v, r = some v ∧ Q v s') E s := by
    unfold tryCompare
    refine wpAny_bind (ifBound_objNe X I h1 ?_)
    refine wpAny_call (codeAny_call_builtin PySem.F.cmp_object.ne.plain PySem.F.cmpEntry_ne (PySem.W.check_slot PySem.F.cmpKind_ne PySem.F.cmpSplit_ne (I.type.andThen (PySem.W.looks_mroIn X hm)) (PySem.F.cmpArgs_ne _ _)
      (objNe_own hu X I hs hf (wpAny_mono h (fun v s' hv => ?_) fun _ _ e => e))))
    obtain ⟨r, rfl, q⟩ := hv
    refine ⟨r, rfl, ?_⟩
    exact wpAny_pure ⟨_, rfl, q⟩
  have hu0 : A.units < cLine := Nat.lt_of_le_of_lt (Nat.le_succ _) hu
  unfold richCompare
  simp only [oneThing_ref]
  refine wpAny_holding (wpAny_bind (wpAny_cRoomFor hu0 ?_))
  refine wpAny_bind (I.type.here (wpAny_bind (hb.here ?_)))
  split
  · rename_i q
    have e : PySem.W.subIn K tb (.ref C) = some false := by
      rcases Bool.or_eq_true_iff.mp hn with e | e
      · rw [beq_iff_eq.mp e] at q; simp at q
      · exact beq_iff_eq.mp e
    refine wpAny_bind ((PySem.W.looks_subIn X e).here ?_)
    simp only [Bool.false_eq_true, if_false]
    refine wpAny_bind (wpAny_mono one (fun r s' z => ?_) fun _ _ e => e)
    obtain ⟨v, rfl, hq⟩ := z
    exact wpAny_pure hq
  · refine wpAny_bind (wpAny_pure ?_)
    simp only [Bool.false_eq_true, if_false]
    refine wpAny_bind (wpAny_mono one (fun r s' z => ?_) fun _ _ e => e)
    obtain ⟨v, rfl, hq⟩ := z
    exact wpAny_pure hq
end
section
variable {X : Cx} {n : Nat} {D : Eqv}
def RcNG (X : Cx) (n : Nat) (D : Eqv) : Prop :=
  ∀ (A : Around) (pins : List (Addr × Obj)) (s : Shared) (σ : L2.St) (H : Hp) (x y : V) (u v : Value), Sub X n A → Inv X pins σ H s → RelV x u → RelV y v → D x y H →
    wpAny (model X.prog X.w) A (richCompare .NotEq u v) (fun r s' => r = .bool false ∧ ∃ H', Inv X pins σ H' s' ∧ Ext H H') X.xe s
theorem rcNG_ins {CX : CXT} {C f : Addr} {fd : FuncData} {ps : List Str} {R : Addr → Addr → Hp → Prop} {E : XK} (F : FnOk X.prog X.w X.K X.mg X.base CX n f fd ps (spEq R))
    (hs : PySem.W.findIn X.K (.ref C) "__eq__" = some (some (.ref f))) (h1 : PySem.W.findIn X.K (.ref C) "__ne__" = some (some (.builtin "object.__ne__"))) (hm : PySem.W.mroIn X.K C (.type "object") = some true)
    (hf : PySem.W.isFn X.K (.ref f) = true) (hb : L2.Binds X.K fd ps []) (hx : Passes CX X E) : RcNG X (n + 1) (DIns C R) := by
  intro A pins s σ H x y u v sb I rx ry d
  obtain ⟨a, b, dx, dy, fs, gs, rfl, rfl, ha, hb', hr⟩ := d
  cases rx
  cases ry
  obtain ⟨mA, J, _⟩ := ins_get I.hok ha
  obtain ⟨mB, J', _⟩ := ins_get I.hok hb'
  obtain ⟨od, J, _⟩ := J.look
  obtain ⟨od', J', _⟩ := J'.look
  have s1 := sb.in1
  refine ne_own (tb := .ref C) s1.room.units0 I.kIn J J'.type (by simp [PySem.W.notFirst]) hm h1 hs hf ?_
  have hsp : spEq R [.ref a, .ref b] H (fun v H' => v = .bl true ∧ Ext H H') E := ⟨a, b, rfl, hr, fun H' e => ⟨rfl, e⟩⟩
  have e0 : Env0 X.prog X.w X.K X.mg X.base A.in1 X.stack s H := by
    have e := I.env0
    exact ⟨by rw [s1.fr]; exact e.frames, e.mod, e.bs, e.bsz, e.funs, e.frf, e.hok, e.bare⟩
  have hl := F.len _ _ _ _ hsp
  have r2 : Vals [V.ref a, V.ref b] [Value.ref a, Value.ref b] := .cons rfl (.cons rfl .nil)
  refine wpAny_call (codeAny_mono (F.run A.in1 X.stack s H ⟨[.ref a, .ref b], []⟩ [.ref a, .ref b] [.ref a, .ref b] _ E s1.room e0 (by
    have := hb s [.ref a, .ref b] I.kIn (by simpa using hl)
    simpa using this) r2 hsp) fun r s' hq => ?_)
  cases r with
  | error e => exact hx pins σ H s e s' I hq
  | ok fl =>
    cases fl with
    | ret w =>
      obtain ⟨z, H', I', rz, ez, ex⟩ := I.after hq
      subst ez
      cases rz
      exact ⟨true, rfl, rfl, H', I', ex⟩
    | next => exact False.elim hq
    | brk => exact False.elim hq
    | cont => exact False.elim hq
/-- x != y, where == says True -/
def rNeG (D : Eqv) : R2 := fun x y H Q => D x y H ∧ ∀ H', Ext H H' → Q (.bl false) H'
theorem op_neG (h : RcNG X n D) (hr : Room n X.A) : OpR X (compareOp .NotEq) (rNeG D) := by
  intro pins s σ H x y v u Q I rx ry hq
  obtain ⟨d, q⟩ := hq
  show wpAny (model X.prog X.w) X.A (richCompare .NotEq v u) (EP X pins σ Q) X.xe s
  refine wpAny_mono (h X.A pins s σ H x y v u ⟨hr, rfl⟩ I rx ry d) (fun r s' z => ?_) fun _ _ x => x
  obtain ⟨hr', H', I', e⟩ := z
  subst hr'
  exact ⟨.bl false, H', I', rfl, q H' e⟩
/-- len of an instance with an own __len__ -/
def rLenI (C : Addr) (sp : Sp) (E : XK) : List V → Hp → VK → Prop := fun vs H Q => ∃ a dx fs, vs = [.ref a] ∧ H a = some (.ins C dx fs) ∧ sp [.ref a] H (fun v H' => ∃ n : Int, v = .int n ∧ 0 ≤ n ∧ n < 2 ^ 63 ∧ Q (.int n) H') E
theorem call_lenI {CX : CXT} {C f : Addr} {fd : FuncData} {ps : List Str} {sp : Sp} {E : XK} (F : FnOk X.prog X.w X.K X.mg X.base CX n f fd ps sp)
    (hs : PySem.W.findIn X.K (.ref C) "__len__" = some (some (.ref f))) (hf : PySem.W.isFn X.K (.ref f) = true) (hb : L2.Binds X.K fd ps []) (hx : Passes CX X E) (hr : Room (n + 1) X.A) : CallR X (.builtin "len") (rLenI C sp E) := by
  intro pins s σ H xs us Q I r h
  obtain ⟨a, dx, fs, rfl, ha, hsp⟩ := h
  cases r with
  | cons r1 r2 =>
    cases r2
    cases r1
    obtain ⟨mA, J, _⟩ := ins_get I.hok ha
    obtain ⟨od, J, _⟩ := J.look
    obtain ⟨m, hF⟩ := I.fr
    refine PySem.W.len_K hF I.ok.mod.kin J hs hf ?_
    have sb : Sub X n X.A.in1 := Sub.in1 ⟨hr, rfl⟩
    have e0 : Env0 X.prog X.w X.K X.mg X.base X.A.in1 X.stack s H := by
      have e := I.env0
      exact ⟨by rw [sb.fr]; exact e.frames, e.mod, e.bs, e.bsz, e.funs, e.frf, e.hok, e.bare⟩
    have hl := F.len _ _ _ _ hsp
    have r3 : Vals [V.ref a] [Value.ref a] := .cons rfl .nil
    refine wpAny_call (codeAny_mono (F.run X.A.in1 X.stack s H ⟨[.ref a], []⟩ [.ref a] [.ref a] _ E sb.room e0 (by
      have := hb s [.ref a] I.kIn (by simpa using hl)
      simpa using this) r3 hsp) fun r s' hq => ?_)
    cases r with
    | error e => exact hx pins σ H s e s' I hq
    | ok fl =>
      cases fl with
      | ret w =>
        obtain ⟨z, H', I', rz, n', ez, n0, n1, q⟩ := I.after hq
        subst ez
        obtain ⟨tk, rfl⟩ := rz
        refine ⟨⟨n0, n1⟩, .int n', H', I'.un (t' := s'.toks + 1) (Un.kept fun _ _ z => z) (I'.hok.kept fun _ _ z => z), ⟨_, rfl⟩, q⟩
      | next => exact False.elim hq
      | brk => exact False.elim hq
      | cont => exact False.elim hq
end
end FNX

set_option Elab.async false
set_option linter.all false
set_option maxRecDepth 100000
set_option maxHeartbeats 4000000
/-! ## t[::step] of a pair, step 1 or -1 -/
namespace FNX
open PySem PySem.Spec PyProof.Rows L2
section
variable {prog : Program} {w : World} {A : Around} {E : Value → Shared → Prop} {s : Shared}
theorem sliceApplied_pm {sl : Addr} {vs : Value} {st : Int} {Q : Int × Int × Nat → Shared → Prop} (hs : s.heap.IsSliceOf sl .none .none vs) (ps : IsPart vs (some st)) (h1 : st = 1 ∨ st = -1)
    (h : Q (if st = 1 then (0, 1, 2) else (1, -1, 2)) s) : wpAny (model prog w) A (Builtin.Slice.sliceApplied (.ref sl) (pure ((2 : Nat) : Int))) Q E s := by
  obtain ⟨os, hos, hcs, hds⟩ := id hs
  unfold Builtin.Slice.sliceApplied Builtin.Slice.sliceFields
  refine wpAny_bind (wpAny_bind (wpAny_field hos hds (x := .none) rfl (wpAny_bind (wpAny_field hos hds (x := .none) rfl (wpAny_bind (wpAny_field hos hds (x := vs) rfl (wpAny_pure ?_)))))))
  refine wpAny_bind (HT.slicePart_ ps ?_)
  rcases h1 with rfl | rfl
  · show wpAny _ _ (if ((1 : Int) == 0) = true then _ else _) _ _ s
    rw [if_neg (by decide)]
    refine wpAny_bind (HT.slicePart_ .none (wpAny_bind (HT.slicePart_ .none (wpAny_bind (wpAny_pure ?_)))))
    exact wpAny_pure h
  · show wpAny _ _ (if ((-1 : Int) == 0) = true then _ else _) _ _ s
    rw [if_neg (by decide)]
    refine wpAny_bind (HT.slicePart_ .none (wpAny_bind (HT.slicePart_ .none (wpAny_bind (wpAny_pure ?_)))))
    exact wpAny_pure h
theorem getItem_pair_pm {t sl : Addr} {u v vs : Value} {st : Int} {Q : Value → Shared → Prop} (ht : IsTup s.heap t #[u, v]) (hs : s.heap.IsSliceOf sl .none .none vs) (ps : IsPart vs (some st)) (h1 : st = 1 ∨ st = -1)
    (ha : st = 1 → Q (.ref t) s) (hb : st = -1 → Q (.ref s.heap.objs.size) { s with heap := s.heap.push { cls := .type "tuple", data := .seq #[v, u] } }) : wpAny (model prog w) A (getItem (.ref t) (.ref sl)) Q E s := by
  obtain ⟨os, hos, hcs, hds⟩ := id hs
  have hTs : s.TypeIs (.ref sl) "slice" := ⟨os, hos, hcs⟩
  unfold getItem
  try with_reducible refine wpAny_holding ?_
  first | refine wpAny_bind (wpAny_pure ?_) | skip
  refine wpAny_bind (wpAny_sequenceKey ht.typeIs (by decide) ?_)
  refine wpAny_bind (wpAny_callSpecial?_slot (name := Str.ofString "__getitem__") ht.typeIs PyProof.Rows.slot_tuple_getitem
    (wpAny_call_entry PyProof.Rows.slot_tuple_getitem ht.typeIs entry_tuple_getitem ?_ (args_tuple_getitem _ _)))
  show wpAny _ _ (Builtin.Tuple.tupleItemsOf (.ref t) >>= _) _ _ s
  refine wpAny_bind (tupleItemsOf_ ht ?_)
  refine wpAny_bind (wpAny_typeOf hTs ?_)
  rw [if_pos (by decide)]
  refine wpAny_bind (sliceApplied_pm hs ps h1 ?_)
  rcases h1 with rfl | rfl
  · rw [if_pos rfl]
    show wpAny _ _ (if ((0 : Int) == 0 && (1 : Int) == 1 && (2 == 2)) = true then _ else _) _ _ s
    rw [if_pos (by decide)]
    refine wpAny_bind (m := Builtin.Tuple.tupleIsExact _) ?_
    unfold Builtin.Tuple.tupleIsExact
    refine wpAny_bind (wpAny_typeOf ht.typeIs (wpAny_pure ?_))
    rw [if_pos (by decide)]
    have h := ha rfl
    repeat (first | exact wpAny_pure ⟨_, rfl, wpAny_pure h⟩ | exact wpAny_pure ⟨_, rfl, h⟩ | exact ⟨_, rfl, wpAny_pure h⟩ | exact ⟨_, rfl, h⟩ | wp_step)
  · rw [if_neg (by decide)]
    show wpAny _ _ (if ((1 : Int) == 0 && (-1 : Int) == 1 && (2 == 2)) = true then _ else _) _ _ s
    rw [if_neg (by decide)]
    have h := hb rfl
    have e : ((List.range 2).filterMap fun (k : Nat) => (#[u, v] : Array Value)[((1 : Int) + (k : Int) * (-1)).toNat]?).toArray = #[v, u] := rfl
    rw [e]
    have htake : sizeOk (.seq #[v, u]) := by show 2 ≤ sizeLine; decide
    first
      | exact wpAny_bind (m := Builtin.Tuple.tupleExact _) (wpAny_newObj_type (wpAny_pure ⟨_, rfl, wpAny_pure h⟩) htake)
      | exact wpAny_bind (m := Builtin.Tuple.tupleExact _) (wpAny_newObj_type (wpAny_bind (wpAny_pure (wpAny_pure ⟨_, rfl, wpAny_pure h⟩))) htake)
      | exact wpAny_bind (wpAny_bind (m := Builtin.Tuple.tupleExact _) (wpAny_newObj_type (wpAny_pure (wpAny_pure ⟨_, rfl, wpAny_pure h⟩)) htake))
      | exact wpAny_bind (wpAny_bind (m := Builtin.Tuple.tupleExact _) (wpAny_newObj_type (wpAny_pure ⟨_, rfl, wpAny_pure h⟩) htake))
end
/-- t[::step], t a pair -/
def tStepP (K : PySem.W.Frag) (te ts : TE) : TE := fun σ H Q => te σ H fun x H1 => tPart ts σ H1 fun o H2 => ∃ (a : Addr) (i j : V) (st : Int), x = .ref a ∧ o = some st ∧ (st = 1 ∨ st = -1) ∧ SqT K H2 a [i, j] ∧ (st = 1 → Q (.ref a) H2) ∧ (st = -1 → ∀ p, H2 p = none → Q (.ref p) (upd H2 p (.tup [j, i])))
section
variable {X : Cx}
theorem pe_stepP {e stp : Expr} {te ts : TE} {p3 pos : Pos} (he : PE X e te) (hst : PE X stp ts) (hops : ∀ a b : Value, (subscriptTail e (.Slice none none (some stp) p3) a b) = (subscriptTail e (.Slice none none (some stp) p3) a b) := by intro _ _; rfl) : PE X (.Subscript e (.Slice none none (some stp) p3) pos) (tStepP X.K te ts) := by
  refine ⟨fun pins s σ H Q I h => ?_⟩
  refine Subscript_ (thn (he.run pins s σ H _ I h) fun v s1 ⟨x, H1, I1, r1, q1⟩ => ?_)
  refine wpAny_Slice (thn (po_none.run pins s1 σ H1 (fun o H2 => o = none ∧ H2 = H1) I1 ⟨rfl, rfl⟩) fun vl s2 ⟨l, H2, I2, pl, el, e2⟩ => ?_)
  subst el e2
  refine thn (po_none.run pins s2 σ H2 (fun o H3 => o = none ∧ H3 = H2) I2 ⟨rfl, rfl⟩) fun vu s3 ⟨u, H3, I3, pu, eu, e3⟩ => ?_
  subst eu e3
  have hpo : PO X (some stp) (tPart ts) := po_some hst
  refine thn (hpo.run pins s3 σ H3 _ I3 q1) fun vs s4 ⟨o, H4, I4, ps, a, i, j, st, ex, eo, h1, hx, ha, hb⟩ => ?_
  subst eo ex
  cases r1
  cases pl
  cases pu
  have I5 : Inv X pins σ H4 { s4 with heap := s4.heap.push { cls := .type "slice", data := .fields #[.none, .none, vs] } } := I4.kept (t' := s4.toks) fun b ob q => Heap.get?_push_of_some _ q
  obtain ⟨its, r, ht, hz⟩ := I5.tuple hx
  obtain ⟨u1, u2, rfl, r1, r2⟩ := vals2 r
  show wpAny (model X.prog X.w) X.A (subscriptTail e (.Slice none none (some stp) p3) (.ref a) (.ref s4.heap.objs.size)) (EP X pins σ Q) X.xe { s4 with heap := s4.heap.push { cls := .type "slice", data := .fields #[.none, .none, vs] } }
  refine tail_any (ops := [.ref a, .ref s4.heap.objs.size]) ht.typeIs (PyProof.Rows.slot_tuple_getitem.lookup) ?_ (by with_unfolding_all rfl)
  refine getItem_pair_pm (u := u1) (v := u2) ht (Heap.IsSliceOf.new _ _ _ vs) ps h1 (fun e1 => ⟨.ref a, H4, I5, rfl, ha e1⟩) (fun e1 => ?_)
  refine ⟨.ref _, _, I5.laid (t' := s4.toks) (o := .tup [j, i]) (fun b ob q => Heap.get?_push_of_some _ q) (Nat.le_refl _) ?_, rfl, hb e1 _ (I5.hok.fresh (Nat.le_refl _))⟩
  exact ⟨by show 2 ≤ sizeLine; decide, _, .cons r2 (.cons r1 .nil), IsTup.new _ _⟩
end
end FNX

set_option Elab.async false
set_option linter.all false
set_option maxRecDepth 100000
set_option maxHeartbeats 4000000
/-! ## {(a, b): v}: a display with one tuple for a key -/
namespace FNX
open PySem PySem.Spec PyProof.Rows L2
def tDisp1T (tk tv : TE) : TE := fun σ H Q => ∀ p, H p = none → tk σ (upd H p (.dT [])) fun x H1 => tv σ H1 fun y H2 => ∃ (ks : List L2.Key) (b : Addr), x = .ref b ∧ H2 b = some (.tup (ks.map kV)) ∧ H2 p = some (.dT []) ∧ Q (.ref p) (upd H2 p (.dT [(ks, y)]))
section
variable {X : Cx}
theorem pe_disp1T {k v : Expr} {tk tv : TE} {pos : Pos} (hu : X.A.units + 1 < cLine) (hk : PE X k tk) (hv : PE X v tv) : PE X (.Dict [some k] [v] pos) (tDisp1T tk tv) := by
  refine ⟨fun pins s σ H Q I q => ?_⟩
  have hn := I.hok.fresh (Nat.le_refl s.heap.objs.size)
  have I1 := I.laid (a := s.heap.objs.size) (o := .dT []) (h' := s.heap.push { cls := .type "dict", data := .dict #[] }) (t' := s.toks) (fun _ _ q => Heap.get?_push_of_some _ q) (Nat.le_refl _) (dt_empty s.heap I.big)
  refine wpAny_Dict_any rfl rfl (by simp) (by show 1 ≤ 15; decide) ?_
  refine pairTrees_cons_walk (thn (hk.run pins _ σ _ _ I1 (q _ hn)) fun u s1 ⟨x, H1, I2, rx, q1⟩ => thn (hv.run pins s1 σ H1 _ I2 q1) fun w2 s2 ⟨y, H2, I3, ry, q2⟩ => pairTrees_nil_walk ?_)
  obtain ⟨ks, b, rfl, hb, hp, q3⟩ := q2
  cases rx
  obtain ⟨z, hd, xs, rel, dd⟩ := dt_of I3.hok hp
  cases rel
  unfold storeAll
  rw [List.forIn_cons]
  refine wpAny_bind (wpAny_bind (wpAny_dictSet_heap (hsz := Nat.zero_le _) (show (tupleKind (mixKind X.prog X.w)).room X.A from Nat.lt_of_succ_lt hu) (key_of I3.hok hb) dd fun h' dd' hs => wpAny_pure ?_))
  dsimp only
  rw [List.forIn_nil]
  refine wpAny_pure ?_
  obtain ⟨q0, es, ep, hq, h2, h3, h4, _, h5⟩ := dd'
  refine ⟨.ref s.heap.objs.size, _, d_write (ob := .dT [(ks, y)]) I3 (by rw [hp]; exact True.intro) hs ⟨q0, hq⟩ ⟨(by show 1 ≤ sizeLine; decide), hd, _, ((show KT H2 [] [] from .nil).put ks hb ry).keeps fun c ys ec => ?_, q0, es, ep, hq, h2, h3, h4, h5⟩, rfl, q3⟩
  rw [upd_ne (ne_of ec hp (fun z => nomatch z))]
  exact ec
end
end FNX
/-! ## its repr -/
namespace FNX
open PySem PySem.Spec PyProof.Rows L2
/-- data, or a dict of one pair of ints -/
def RdU (K : PySem.W.Frag) (H : Hp) (v : V) (d : PyData) : Prop := Rd K H v d ∨ ∃ (a : Addr) (i j n : Int), v = .ref a ∧ H a = some (.dT [([Sum.inl i, Sum.inl j], .int n)]) ∧ d = .dict [(.tuple [.int i, .int j], .int n)]
def rReprU (K : PySem.W.Frag) : List V → Hp → VK → Prop := fun xs H Q => ∃ v d, xs = [v] ∧ RdU K H v d ∧ d.showable = true ∧ d.depth ≤ 60 ∧ d.shown.length ≤ sizeLine ∧ Q (.str d.shown) H
section
variable {X : Cx}
theorem call_reprU (hg : X.A.guards = some []) (hu : X.A.units + 64 < cLine) : CallR X (.builtin "repr") (rReprU X.K) := by
  intro pins s σ H xs us Q I r h
  obtain ⟨v, d, rfl, hd | hd, h1, h2, h3, q⟩ := h
  · exact call_repr hg hu pins s σ H _ us Q I r ⟨v, d, rfl, hd, h1, h2, h3, q⟩
  obtain ⟨a, i, j, n, rfl, ha, rfl⟩ := hd
  cases r with
  | cons r1 r2 =>
    cases r2
    cases r1
    obtain ⟨_, hs, xs, rv, o, es, ep, ho, hx, hd, he, _⟩ := (show ObjOk X.prog X.w H s.heap a (.dT _) from I.hok a _ ha)
    cases rv with
    | @cons p t _ ts hp rest =>
      cases rest
      obtain ⟨ks, b, u⟩ := t
      obtain ⟨e1, hb, ru⟩ := hp
      obtain ⟨tk, rfl⟩ := ru
      obtain ⟨_, its, rit, ob, hob, hcb, m, hdb⟩ := (show ObjOk X.prog X.w H s.heap b (.tup _) from I.hok b _ hb)
      have ra : ReadsAll s.heap its [.int i, .int j] [] := pairReads rit
      have rt : Reads s.heap (.ref b) (.tuple [.int i, .int j]) _ := .tuple hob hcb hdb ra
      have k1 : ReadsAll s.heap (es.toList.map (·.key)) [PyData.tuple [.int i, .int j]] ([] ++ []) := by
        rw [he]
        exact .cons rt .nil
      have k2 : ReadsAll s.heap (es.toList.map (·.val)) [PyData.int n] [] := by
        rw [he]
        exact ReadsAll.cons (as := []) (.int n tk) .nil
      have rd : Reads s.heap (.ref a) (.dict [(.tuple [.int i, .int j], .int n)]) (a :: ([] ++ []) ++ []) := Reads.dict ho hx.1 hd k1 k2
      refine repr_of_reads' rd h1 (fun _ z => ?_) hg (by omega) (fun _ _ e => e) (fun h' u' tk k => ⟨.str _, H, I.un (t' := tk) (Un.kept k) (I.hok.kept k), ⟨u', rfl⟩, q⟩) h3
      have z : sysModules = a := by simpa using z
      rw [← z] at hs
      simp at hs
end
theorem RdU.same {K : PySem.W.Frag} {H H' : Hp} (s : Same H H') {v : V} {d : PyData} (h : RdU K H v d) : RdU K H' v d := by
  rcases h with h | ⟨a, i, j, n, rfl, h, rfl⟩
  · exact .inl (rdSame s h)
  · exact .inr ⟨a, i, j, n, rfl, s _ _ h, rfl⟩
/-! ## Doors that are told values of that kind, too -/
def wErrU (K : PySem.W.Frag) (Q : VK) : List (Addr × MkC) → XK
  | [] => fun _ _ _ => False
  | q :: r => fun cls d H => ∃ b, PySem.W.exmOne K cls (.ref q.1) = some b ∧
      (b = true → cls = .ref q.1 ∧ ∃ (dd : Addr) (v : V) (dt : PyData), d = some dd ∧ H dd = some (.xd [(("value" : Str), v)]) ∧ RdU K H v dt ∧ q.2 v dt H Q) ∧
      (b = false → wErrU K Q r cls d H)
def TErrU (K : PySem.W.Frag) (cl : List (Addr × MkC)) : (XK → Hp → VK → Prop) → Hp → VK → Prop :=
  fun tl H Q => tl (wErrU K Q cl) H (fun _ H' => ∃ v : V, some (some V.non) = some (some v) ∧ Q v H')
def rEqS (K : PySem.W.Frag) : R2 := fun x y H Q => ∃ (a b : Addr) (xs : List Str), x = .ref a ∧ y = .ref b ∧ SqL K H a (xs.map V.str) ∧ SqL K H b (xs.map V.str) ∧ Q (.bl true) H
theorem op_eqS {X : Cx} (hu : X.A.units + 64 < cLine) : OpR X (compareOp .Eq) (rEqS X.K) := by
  intro pins s σ H x y v u Q I rx ry h
  obtain ⟨a, b, xs, rfl, rfl, ha, hb, q⟩ := h
  cases (show v = Value.ref a from rx)
  cases (show u = Value.ref b from ry)
  obtain ⟨us, r1, p1, _⟩ := I.list ha
  obtain ⟨ws, r2, p2, _⟩ := I.list hb
  have hsz : us.toArray.size = ws.toArray.size := by
    rw [List.size_toArray, List.size_toArray, ← r1.length, ← r2.length]
  refine (SeqAt.RcAt.lists (e := fun _ => true) p1.isList p2.isList hsz (by omega) (fun j h1 h2 => ?_)) _ _ _ _ ?_
  · have l1 := r1.length
    have h1' : j < us.length := by simpa using h1
    have h2' : j < ws.length := by simpa using h2
    obtain ⟨z, hz⟩ : ∃ z, xs[j]? = some z := ⟨xs[j]'(by rw [List.length_map] at l1; omega), List.getElem?_eq_getElem _⟩
    have hj : (xs.map V.str)[j]? = some (V.str z) := by
      rw [List.getElem?_map, hz]
      rfl
    obtain ⟨u1, e1, q1⟩ := r1.get hj
    obtain ⟨u2, e2, q2⟩ := r2.get hj
    obtain ⟨t1, rfl⟩ := q1
    obtain ⟨t2, rfl⟩ := q2
    have f1 : us.toArray[j] = .str z t1 := by
      rw [List.getElem_toArray]
      exact (List.getElem?_eq_some_iff.mp e1).2
    have f2 : ws.toArray[j] = .str z t2 := by
      rw [List.getElem_toArray]
      exact (List.getElem?_eq_some_iff.mp e2).2
    rw [f1, f2]
    have y := SeqAt.EqAt.str_str (A := X.A.in1) (s := s) z t1 z t2
    rwa [beq_self_eq_true] at y
  · rw [show ((List.range us.toArray.size).all fun _ => true) = true from List.all_eq_true.mpr fun _ _ => rfl]
    exact ⟨.bl true, H, I, rfl, q⟩
end FNX

set_option Elab.async false
set_option linter.all false
set_option maxRecDepth 100000
set_option maxHeartbeats 4000000
/-! ## repr and == of instances with own defs, f-strings with data -/
namespace FNX
open PySem PySem.Spec PyProof.Rows L2
section
variable {X : Cx} {n : Nat}
/-- repr(x), x with an own __repr__ that is called where no repr runs -/
def rReprI (C : Addr) (sp : Sp) : List V → Hp → VK → Prop := fun vs H Q => ∃ a dx fs, vs = [.ref a] ∧ H a = some (.ins C dx fs) ∧ sp [.ref a] H (fun v H' => ∃ y : Str, v = .str y ∧ Q (.str y) H') E0
theorem call_reprI {C f : Addr} {fd : FuncData} {ps : List Str} {sp : Sp} (F : GOk X.prog X.w X.K X.mg X.base n f fd ps sp) (hg : X.A.guards = some [])
    (hs : PySem.W.findIn X.K (.ref C) "__repr__" = some (some (.ref f))) (hf : PySem.W.isFn X.K (.ref f) = true) (hb : L2.Binds X.K fd ps []) (hr : Room (n + 1) X.A) : CallR X (.builtin "repr") (rReprI C sp) := by
  intro pins s σ H xs us Q I r h
  obtain ⟨a, dx, fs, rfl, ha, hsp⟩ := h
  cases r with
  | cons r1 r2 =>
    cases r2
    cases r1
    obtain ⟨mA, J, _⟩ := ins_get I.hok ha
    obtain ⟨od, J, _⟩ := J.look
    obtain ⟨m, hF⟩ := I.fr
    have sb : Sub X n X.A.in1 := Sub.in1 ⟨hr, rfl⟩
    refine PySem.W.repr_K sb.room.units0 hF I.ok.mod.kin J hs hf ?_
    have e0 : Env0 X.prog X.w X.K X.mg X.base X.A.in1 X.stack s H := by
      have e := I.env0
      exact ⟨by rw [sb.fr]; exact e.frames, e.mod, e.bs, e.bsz, e.funs, e.frf, e.hok, e.bare⟩
    have hl := F.len _ _ _ _ hsp
    have r3 : Vals [V.ref a] [Value.ref a] := .cons rfl .nil
    refine wpAny_call (codeAny_mono (F.run X.A.in1 X.stack s H ⟨[.ref a], []⟩ [.ref a] [.ref a] _ E0 hg sb.room e0 (by
      have := hb s [.ref a] I.kIn (by simpa using hl)
      simpa using this) r3 hsp) fun r s' hq => ?_)
    cases r with
    | error e => exact (pass0 (X := X) pins σ H s e s' I hq)
    | ok fl =>
      cases fl with
      | ret w =>
        obtain ⟨z, H', I', rz, y, ez, q⟩ := I.after hq
        subst ez
        obtain ⟨tk, rfl⟩ := rz
        exact ⟨.str y, H', I', ⟨_, rfl⟩, q⟩
      | next => exact False.elim hq
      | brk => exact False.elim hq
      | cont => exact False.elim hq
/-- x == y, x with an own == that answers a bool; y another instance of the class, or a list -/
def rEqO (C : Addr) (sp : Sp) (E : XK) : R2 := fun x y H Q => ∃ a dx fs, x = .ref a ∧ H a = some (.ins C dx fs) ∧ ((∃ b dy gs, y = .ref b ∧ H b = some (.ins C dy gs)) ∨ ∃ b ys, y = .ref b ∧ H b = some (.lst ys)) ∧
  sp [x, y] H (fun v H' => ∃ r, v = .bl r ∧ Q (.bl r) H') E
theorem op_eqO {CX : CXT} {C f : Addr} {fd : FuncData} {ps : List Str} {sp : Sp} {E : XK} (F : FnOk X.prog X.w X.K X.mg X.base CX n f fd ps sp)
    (hs : PySem.W.findIn X.K (.ref C) "__eq__" = some (some (.ref f))) (hf : PySem.W.isFn X.K (.ref f) = true) (hl1 : PySem.W.notFirst X.K C (.type "list") = true) (hb : L2.Binds X.K fd ps []) (hx : Passes CX X E) (hr : Room n X.A) :
    OpR X (compareOp .Eq) (rEqO C sp E) := by
  intro pins s σ H x y v u Q I rx ry hq
  obtain ⟨a, dx, fs, rfl, ha, hy, hsp⟩ := hq
  cases rx
  obtain ⟨mA, J, _⟩ := ins_get I.hok ha
  obtain ⟨od, J, _⟩ := J.look
  obtain ⟨m, hF⟩ := I.fr
  have sb : Sub X n X.A := ⟨hr, rfl⟩
  have go : ∀ tb, PySem.W.Looks (model X.prog X.w) s.heap (typeOf u) tb → PySem.W.notFirst X.K C tb = true → wpAny (model X.prog X.w) X.A (richCompare .Eq (.ref a) u) (EP X pins σ Q) X.xe s := fun tb lb hn => by
    refine PySem.W.cmp_K (op := .Eq) (tb := tb) sb.room.units0 hF I.ok.mod.kin J lb hn hs hf ?_
    have e0 : Env0 X.prog X.w X.K X.mg X.base X.A X.stack s H := by
      have e := I.env0
      exact ⟨by rw [sb.fr]; exact e.frames, e.mod, e.bs, e.bsz, e.funs, e.frf, e.hok, e.bare⟩
    have hl := F.len _ _ _ _ hsp
    have r2 : Vals [V.ref a, y] [Value.ref a, u] := .cons rfl (.cons ry .nil)
    refine wpAny_call (codeAny_mono (F.run X.A X.stack s H ⟨[.ref a, u], []⟩ [.ref a, u] [.ref a, y] _ E sb.room e0 (by
      have := hb s [.ref a, u] I.kIn (by simpa using hl)
      simpa using this) r2 hsp) fun r s' hq => ?_)
    cases r with
    | error e => exact hx pins σ H s e s' I hq
    | ok fl =>
      cases fl with
      | ret w =>
        obtain ⟨z, H', I', rz, r, ez, q⟩ := I.after hq
        subst ez
        cases rz
        exact ⟨.bl r, H', I', rfl, q⟩
      | next => exact False.elim hq
      | brk => exact False.elim hq
      | cont => exact False.elim hq
  rcases hy with ⟨b, dy, gs, rfl, hb'⟩ | ⟨b, ys, rfl, hb'⟩
  · cases ry
    obtain ⟨mB, J', _⟩ := ins_get I.hok hb'
    obtain ⟨od', J', _⟩ := J'.look
    exact go (.ref C) J'.type (by simp [PySem.W.notFirst])
  · cases ry
    obtain ⟨_, _, m', _, h1⟩ := (show ObjOk X.prog X.w H s.heap b (.lst ys) from I.hok b _ hb')
    exact go (.type "list") ((PySem.W.Looks.ld h1).andThen .now) hl1
/-- {x} in an f-string, x a list, a tuple or a dict -/
def tFmtD (K : PySem.W.Frag) (te : TE) : TE := fun σ H Q => te σ H fun x H1 => ∃ a d, x = .ref a ∧ Rd K H1 x d ∧ d.showable = true ∧ d.depth ≤ 60 ∧ d.shown.length ≤ sizeLine ∧ Q (.str d.shown) H1
theorem pe_fmtD {e : Expr} {te : TE} {pos : Pos} (hg : X.A.guards = some []) (hu : X.A.units + 64 < cLine) (he : PE X e te) : PE X (.FormattedValue e (-1) none pos) (tFmtD X.K te) := by
  refine ⟨fun pins s σ H Q I h => ?_⟩
  refine wpAny_FormattedValue_plain (thn (he.run pins s σ H _ I h) fun v s1 hv => ?_)
  obtain ⟨x, H1, I1, r1, a, d, rfl, hd, h1, h2, h3, q⟩ := hv
  obtain ⟨as, hr, hsm⟩ := rdReads I1 hd r1
  cases r1
  exact formatField_of_reads hr h1 hsm hg (by omega) (fun _ _ e => e) (fun h' u tk k => ⟨.str d.shown, H1, I1.un (t' := tk) (Un.kept k) (I1.hok.kept k), ⟨_, rfl⟩, q⟩) h3
end
/-- a method that is called where no repr runs -/
def MAtG (P : Program) (w : World) (K : PySem.W.Frag) (mg : Str → Option Value) (base : Heap) (C : Addr) (k : Nat) (x : Str) (ps : List Str) (sp : Sp) : Prop :=
  ∃ f fd, GOk P w K mg base k f fd ps sp ∧ PySem.W.findIn K (.ref C) x = some (some (.ref f)) ∧ PySem.W.isFn K (.ref f) = true ∧ L2.Binds K fd ps []
section
variable {X : Cx} {k : Nat} {f : Addr} {fd : FuncData} {ps : List Str} {sp : Sp} {E : XK} {x : Str} {p pos : Pos}
/-- f(), f a def that is walked where no repr runs further out -/
theorem pe_callG0 (hgd : X.A.guards = some []) (F : GOk X.prog X.w X.K X.mg X.base k f fd ps sp) (hr : Room k X.A) (hg : Gl X x) (hm : X.mg x = some (.ref f)) (hk : PySem.W.keepIn X.K (.ref f) = true) (hb : L2.Binds X.K fd ps []) (hx : Passes CX0 X E)
    (hdb : (x == ("__debug__" : Str)) = false := by decide) : PE X (.Call (.Name x p) [] [] pos) (tCall sp [] E tNil) := by
  refine ⟨fun pins s σ H Q I h => ?_⟩
  refine wpAny_Call_Name_kw (ld_glob I hg hm ?_ hdb)
  have hl : (([] : List Value) ++ []).length = ps.length := F.len _ _ _ _ h
  refine PySem.W.callWith_K0 I.kIn hk (wpAny_call (codeAny_mono (F.run X.A X.stack s H ⟨[], []⟩ ([] ++ []) ([] ++ []) Q E hgd hr I.env0 (hb s [] I.kIn hl) .nil h) fun r s' hq => ?_))
  cases r with
  | error e => exact hx pins σ H s e s' I hq
  | ok fl =>
    cases fl with
    | ret u => exact I.after hq
    | next => exact False.elim hq
    | brk => exact False.elim hq
    | cont => exact False.elim hq
end
end FNX

set_option Elab.async false
set_option linter.all false
set_option maxRecDepth 100000
set_option maxHeartbeats 8000000
namespace K01
open PySem PySem.Spec PyProof.Rows L2 FNX
def top (i : Nat) : Stmt := PySem.Challenge.pw_firenegatives_k01_graphs_made.main.body.getD i (.Pass ⟨0, 0, 0, 0⟩)
abbrev s_InvalidSize_init : Stmt := inClass (top 2) 0
abbrev s_InvalidEdge_init : Stmt := inClass (top 3) 0
abbrev s_InvalidNode_init : Stmt := inClass (top 4) 0
abbrev s_TooMany_init : Stmt := inClass (top 5) 0
abbrev s_is_integer : Stmt := top 7
abbrev s_is_integer_within : Stmt := top 8
abbrev s_is_node : Stmt := top 9
abbrev s_check_node : Stmt := top 10
abbrev s_Graph_init : Stmt := inClass (top 14) 0
abbrev s_Graph_size : Stmt := inClass (top 14) 1
abbrev s_Graph_edges : Stmt := inClass (top 14) 2
abbrev s_Graph_neighbours : Stmt := inClass (top 14) 3
abbrev s_Graph_components : Stmt := inClass (top 14) 4
abbrev s_Graph_len : Stmt := inClass (top 14) 5
abbrev s_Graph_eq : Stmt := inClass (top 14) 6
abbrev s_Graph_repr : Stmt := inClass (top 14) 7
abbrev s_is_edge : Stmt := top 15
abbrev s_checked_edges : Stmt := top 16
abbrev s_neighbour_lists : Stmt := top 17
abbrev s_component_of : Stmt := top 18
abbrev s__law_pool : Stmt := top 20
abbrev s__law_take : Stmt := top 21
abbrev s__law_joins : Stmt := top 22
abbrev s__law_near : Stmt := top 23
abbrev s__law_parts : Stmt := top 24
abbrev s__law_error : Stmt := top 25
abbrev s__law_refused : Stmt := top 26
abbrev s__law_many : Stmt := top 27
abbrev s_law : Stmt := top 28
/-! ## The pool of draws -/
def PoolAt (H : Hp) (p : Addr) : Prop := ∃ c s : Int, H p = some (.lst [.int c, .int s]) ∧ 0 ≤ s ∧ s < 2147483648
def spPool (K : PySem.W.Frag) : Sp := fun vs H Q _ => ∃ (a : Addr) (ns : List Int) (k : Int), vs = [.ref a, .int k] ∧ SqL K H a (ns.map V.int) ∧ 0 ≤ k ∧ k < 100 ∧
  ∀ p H', H p = none → Same H H' → PoolAt H' p → Q (.ref p) H'
def spTake : Sp := fun vs H Q _ => ∃ (p : Addr) (n : Int), vs = [.ref p, .int n] ∧ PoolAt H p ∧ 0 < n ∧ n < 10000000000000000000 ∧
  ∀ r H', 0 ≤ r → r < n → PoolAt H' p → (∀ b, b ≠ p → H' b = H b) → Q (.int r) H'
section
variable {P : Program} {w : World} {K : PySem.W.Frag} {mg : Str → Option Value} {base : Heap}
theorem scTake : FnScope ["_law_pool_here", "_law_sides", "_law_found"] ["_law_pool_here", "_law_sides"] (defScope s__law_take) :=
  ⟨rfl, rfl, rfl, by decide +kernel, rfl, by decide +kernel, by decide +kernel⟩
theorem ok_take {f : Addr} {fd : FuncData} (F : Fun K "_law_take" "_law_take" s__law_take f fd) : FnOk P w K mg base CX0 1 f fd ["_law_pool_here", "_law_sides"] spTake := by
  refine F.ok scTake (fun vs H Q E h => ?_) (fun cdv A outer s H vs Q E hr h => ?_)
  · obtain ⟨p, n, rfl, _⟩ := h
    rfl
  · obtain ⟨p, n, rfl, ⟨c, s0, hp, hs1, hs2⟩, hn1, hn2, k⟩ := h
    refine ⟨_, pss_cons (ps_if (pt_cmpR op_gt (pe_ix ix_list (pv 0) pe_int (fun _ _ => rfl)) pe_int (nomark _))
        (pss_cons (ps_set (i := 2) scTake.nd rfl (Or.inl rfl) (pe_op op_mod (pe_ix ix_list (pv 0) pe_int (fun _ _ => rfl)) (pv 1)))
          (pss_cons (ps_asg (pe_op op_fdivW (pe_ix ix_list (pv 0) pe_int (fun _ _ => rfl)) (pv 1)) (pg_sub (pv 0) pe_int set_list))
          (pss_one (ps_ret (pv 2))))) pss_nil)
      (pss_cons (ps_asg (pe_op op_mod (pe_op op_add (pe_op op_mul (pe_ix ix_list (pv 0) pe_int (fun _ _ => rfl)) pe_int) pe_int) pe_int) (pg_sub (pv 0) pe_int set_list))
      (pss_one (ps_ret (pe_op op_mod (pe_op op_fdiv (pe_op op_mod (pe_op op_mul (pe_ix ix_list (pv 0) pe_int (fun _ _ => rfl)) (pe_ix ix_list (pv 0) pe_int (fun _ _ => rfl))) pe_int) pe_int) (pv 1))))), ?_⟩
    refine ⟨_, rfl, p, _, _, _, rfl, rfl, SqL.of hp, atI_nat (j := 0) rfl, _, _, rfl, rfl, _, rfl, ?_⟩
    refine ite2 (fun _ => ?_) (fun _ => ?_)
    · refine ⟨_, rfl, p, _, _, _, rfl, rfl, SqL.of hp, atI_nat (j := 0) rfl, _, rfl, _, _, rfl, rfl, hn1, ?_⟩
      refine ⟨_, rfl, p, _, _, _, rfl, rfl, SqL.of hp, atI_nat (j := 0) rfl, _, rfl, _, _, rfl, rfl, wide_div (b := 64) hn1 (by omega) (by decide) (by decide), _, rfl, p, _, _, 0, rfl, rfl, hp, rfl, _, rfl, ?_⟩
      exact k _ _ (Int.emod_nonneg _ (by omega)) (Int.emod_lt_of_pos _ hn1) ⟨_, _, upd_same, hs1, hs2⟩ fun b hb => upd_ne hb
    · refine ⟨_, rfl, p, _, _, _, rfl, rfl, SqL.of hp, atI_nat (j := 1) rfl, _, _, rfl, rfl, .inr ⟨by decide, by decide⟩, _, _, rfl, rfl, _, _, rfl, rfl, (by show (0 : Int) < 2147483647; decide), _, rfl, p, _, _, 1, rfl, rfl, hp, rfl, ?_⟩
      have e1 : (0 : Int) ≤ (s0 * 48271 + 11) % 2147483647 := Int.emod_nonneg _ (by decide)
      have e2 : (s0 * 48271 + 11) % 2147483647 < 2147483647 := Int.emod_lt_of_pos _ (by decide)
      refine ⟨_, rfl, p, _, _, _, rfl, rfl, SqL.of upd_same, atI_nat (j := 1) rfl, _, rfl, p, _, _, _, rfl, rfl, SqL.of upd_same, atI_nat (j := 1) rfl, _, _, rfl, rfl, .inl ⟨?_, ?_⟩,
        _, _, rfl, rfl, (by show (0 : Int) < 2147483629; decide), _, _, rfl, rfl, ⟨by decide, by decide⟩, _, rfl, _, _, rfl, rfl, hn1, ?_⟩
      · exact Int.lt_of_lt_of_le (by decide) e1
      · exact Int.lt_of_lt_of_le e2 (by decide)
      exact k _ _ (Int.emod_nonneg _ (by omega)) (Int.emod_lt_of_pos _ hn1) ⟨_, _, upd_same, e1, by omega⟩ fun b hb => upd_ne hb

theorem scPool : FnScope ["_law_script", "_law_k", "_law_cell", "_law_seed"] ["_law_script", "_law_k"] (defScope s__law_pool) :=
  ⟨rfl, rfl, rfl, by decide +kernel, rfl, by decide +kernel, by decide +kernel⟩
theorem mod_in (a : Int) {b : Int} (h : 0 < b) : 0 ≤ a % b ∧ a % b < b := ⟨Int.emod_nonneg _ (by omega), Int.emod_lt_of_pos _ h⟩
theorem ok_pool {f : Addr} {fd : FuncData} (F : Fun K "_law_pool" "_law_pool" s__law_pool f fd) (hlen : mg "len" = none) :
    FnOk P w K mg base CX0 1 f fd ["_law_script", "_law_k"] (spPool K) := by
  refine F.ok scPool (fun vs H Q E h => ?_) (fun cdv A outer s H vs Q E hr h => ?_)
  · obtain ⟨a, ns, k, rfl, _⟩ := h
    rfl
  · obtain ⟨a, ns, k, rfl, hS, hk1, hk2, kont⟩ := h
    refine ⟨_, pss_cons (ps_set (i := 2) scPool.nd rfl (Or.inl rfl) pe_int)
      (pss_cons (ps_if (pt_cmpR op_lt (pv 1) (pe_callB call_len_seq (by rfl) hlen PySem.boot_len (pa_cons (pv 0) pa_nil)) (nomark _))
        (pss_one (ps_set (i := 2) scPool.nd rfl (Or.inl rfl) (pe_ix ix_list (pv 0) (pv 1) (fun _ _ => rfl)))) pss_nil)
      (pss_cons (ps_set (i := 3) scPool.nd rfl (Or.inl rfl) (pe_op op_mod (pe_op op_mul (pe_op op_add (pe_op op_add (pe_op op_mod (pv 2) pe_int)
        (pe_op op_mul (pe_op op_mul pe_int (pv 1)) (pv 1))) pe_int) pe_int) pe_int))
      (pss_cons (ps_if (pt_cmpR op_lt (pv 2) (pe_op op_pow pe_int pe_int) (nomark _)) (pss_one (ps_set (i := 2) scPool.nd rfl (Or.inl rfl) pe_int)) pss_nil)
      (pss_one (ps_ret (pe_lst (pa_cons (pv 2) (pa_cons (pe_op op_add (pe_op op_mod (pe_op op_mul (pv 3) (pv 3)) pe_int) pe_int) pa_nil)))))))), ?_⟩
    refine ⟨_, rfl, _, rfl, a, _, rfl, .inl hS, _, _, rfl, rfl, _, rfl, ?_⟩
    -- behind the first if: some cell in slot 2
    have rest : ∀ c : Int, (tSeq (tAsg (tOp (rI (fun _ j => 0 < j) fun i j => .int (i % j)) (tOp (rI CMul fun i j => .int (i * j)) (tOp (rI0 fun i j => .int (i + j))
        (tOp (rI0 fun i j => .int (i + j)) (tOp (rI (fun _ j => 0 < j) fun i j => .int (i % j)) (tVar 2) (tC (.int 2147483629)))
          (tOp (rI CMul fun i j => .int (i * j)) (tOp (rI CMul fun i j => .int (i * j)) (tC (.int 7919)) (tVar 1)) (tVar 1))) (tC (.int 13))) (tC (.int 48271))) (tC (.int 2147483647))) (gName 3)) 
        (tSeq (tIfS (tTest (tOp (rI0 fun i j => .bl (decide (i < j))) (tVar 2) (tOp (rI CPow fun i j => .int (i ^ j.toNat)) (tC (.int 10)) (tC (.int 18))))) (tAsg (tC (.int 0)) (gName 2)) tNext)
          (tRet (tLst (tCons (tVar 2) (tCons (tOp (rI0 fun i j => .int (i + j)) (tOp (rI (fun _ j => 0 < j) fun i j => .int (i % j)) (tOp (rI CMul fun i j => .int (i * j)) (tVar 3) (tVar 3)) (tC (.int 2147483587))) (tC (.int 1))) tNil))))))
        { nx := fun _ H' => Q .non H', rt := Q } [some (.ref a), some (.int k), some (.int c), none] H := fun c => by
      refine ⟨_, rfl, _, _, rfl, rfl, (by show (0 : Int) < 2147483629; decide), _, rfl, _, _, rfl, rfl, .inl ⟨by decide, by decide⟩, _, rfl, _, _, rfl, rfl, .inr ⟨by omega, by omega⟩, _, _, rfl, rfl,
        _, _, rfl, rfl, _, _, rfl, rfl, .inr ⟨by decide, by decide⟩, _, _, rfl, rfl, (by show (0 : Int) < 2147483647; decide), ?_⟩
      have e1 := mod_in ((c % 2147483629 + 7919 * k * k + 13) * 48271) (b := 2147483647) (by decide)
      refine ⟨_, rfl, _, _, rfl, rfl, ⟨by decide, by decide, by decide⟩, _, _, rfl, rfl, _, rfl, ?_⟩
      have fin : ∀ c' : Int, (tRet (tLst (tCons (tVar 2) (tCons (tOp (rI0 fun i j => .int (i + j)) (tOp (rI (fun _ j => 0 < j) fun i j => .int (i % j)) (tOp (rI CMul fun i j => .int (i * j)) (tVar 3) (tVar 3)) (tC (.int 2147483587))) (tC (.int 1))) tNil))))
          { nx := fun _ H' => Q .non H', rt := Q } [some (.ref a), some (.int k), some (.int c'), some (.int ((c % 2147483629 + 7919 * k * k + 13) * 48271 % 2147483647))] H := fun c' => by
        refine ⟨_, rfl, _, rfl, _, rfl, _, _, rfl, rfl, .inl ⟨by omega, by omega⟩, _, _, rfl, rfl, (by show (0 : Int) < 2147483587; decide), _, _, rfl, rfl, (by show 2 ≤ sizeLine; decide), fun p hp => ?_⟩
        have e2 := mod_in ((c % 2147483629 + 7919 * k * k + 13) * 48271 % 2147483647 * ((c % 2147483629 + 7919 * k * k + 13) * 48271 % 2147483647)) (b := 2147483587) (by decide)
        exact kont p _ hp (fun b o e => by rw [upd_ne (ne_of_none e hp)]; exact e) ⟨_, _, upd_same, by omega, by omega⟩
      exact ite2 (fun _ => fin 0) (fun _ => fin c)
    refine ite2 (fun hlt => ?_) (fun _ => rest 0)
    have hkn : k.toNat < (ns.map V.int).length := by
      have hlt := of_decide_eq_true hlt
      rw [List.length_map] at hlt ⊢
      omega
    have hki : (ns.map V.int)[k.toNat]? = some (V.int (ns[k.toNat]'(by rw [List.length_map] at hkn; exact hkn))) := by
      rw [List.getElem?_map, List.getElem?_eq_getElem (by rw [List.length_map] at hkn; exact hkn)]
      rfl
    have hat := atI_nat hki
    rw [show ((k.toNat : Nat) : Int) = k by omega] at hat
    exact ⟨_, rfl, _, rfl, a, _, k, _, rfl, rfl, hS, hat, rest _⟩
end

/-! ## checks.py -/
theorem boot_isi : bootBuiltins "isinstance" = some (.builtin "isinstance") := by decide +kernel
theorem boot_all : bootBuiltins "all" = some (.builtin "all") := by decide +kernel
theorem boot_len1 : bootBuiltins "len" = some (.builtin "len") := by decide +kernel
/-- built-in names that the program leaves as they are -/
structure Nms (mg : Str → Option Value) : Prop where
  isi : mg "isinstance" = none
  int : mg "int" = none
  bool : mg "bool" = none
  list : mg "list" = none
  tuple : mg "tuple" = none
  len : mg "len" = none
  all : mg "all" = none
  range : mg "range" = none
  enumerate : mg "enumerate" = none
  min : mg "min" = none
  max : mg "max" = none
  sorted : mg "sorted" = none
  repr : mg "repr" = none
/-- a def x stands at f and keeps sp -/
def At (P : Program) (w : World) (K : PySem.W.Frag) (mg : Str → Option Value) (base : Heap) (CX : CXT) (k : Nat) (x : Str) (ps : List Str) (sp : Sp) : Prop :=
  ∃ f fd, FnOk P w K mg base CX k f fd ps sp ∧ mg x = some (.ref f) ∧ PySem.W.keepIn K (.ref f) = true ∧ Binds K fd ps []
def spIsInteger (K : PySem.W.Frag) : Sp := fun vs H Q _ => ∃ v d, vs = [v] ∧ Rd K H v d ∧ Q (.bl (isI d)) H
def spWithin (K : PySem.W.Frag) : Sp := fun vs H Q _ => ∃ v d lo hi, vs = [v, .int lo, .int hi] ∧ Rd K H v d ∧ Q (.bl (within lo hi d)) H
def lenD : PyData → Nat
  | .list ds => ds.length
  | _ => 0
def isIL (n : Nat) : PyData → Bool
  | .list ds => decide (ds.length = n) && ds.all isI
  | _ => false
def spIntList (K : PySem.W.Frag) : Sp := fun vs H Q _ => ∃ v d, ∃ n : Nat, vs = [v, .int n] ∧ Rd K H v d ∧ lenD d ≤ 100000 ∧ ∀ H', Same H H' → Q (.bl (isIL n d)) H'
def isNode (n : Nat) (d : PyData) : Bool := within 0 ((n : Int) - 1) d
def spIsNode (K : PySem.W.Frag) : Sp := fun vs H Q _ => ∃ v d, ∃ n : Nat, vs = [.int n, v] ∧ Rd K H v d ∧ Q (.bl (isNode n d)) H
def isNL (n : Nat) : PyData → Bool
  | .list ds => ds.all (isNode n)
  | _ => false
def spNodeList (K : PySem.W.Frag) : Sp := fun vs H Q _ => ∃ v d, ∃ n : Nat, vs = [.int n, v] ∧ Rd K H v d ∧ lenD d ≤ 100000 ∧ ∀ H', Same H H' → Q (.bl (isNL n d)) H'
theorem rdInt {K : PySem.W.Frag} {H : Hp} {v : V} {i : Int} (h : Rd K H v (.int i)) : v = .int i := by
  cases h with
  | dat h => cases h; rfl
theorem rdList {K : PySem.W.Frag} {H : Hp} {v : V} {ds : List PyData} (h : Rd K H v (.list ds)) : ∃ a xs, v = .ref a ∧ SqL K H a xs ∧ DpAll K H xs ds := by
  cases h with
  | dat h =>
    cases h with
    | lst h1 h2 => exact ⟨_, _, rfl, h1, h2⟩
theorem dpAllLen {K : PySem.W.Frag} {H : Hp} : ∀ {xs : List V} {ds : List PyData}, DpAll K H xs ds → xs.length = ds.length
  | [], _, h => by cases h; rfl
  | x :: xs, _, h => by
    cases h with
    | cons h1 h2 => rw [List.length_cons, List.length_cons, dpAllLen h2]
theorem dpAllAt {K : PySem.W.Frag} {H : Hp} : ∀ {xs : List V} {ds : List PyData} {i : Nat} {x : V}, DpAll K H xs ds → xs[i]? = some x → Dp K H x (ds.getD i .none)
  | [], _, _, _, _, e => by simp at e
  | y :: xs, _, 0, x, h, e => by
    cases h with
    | cons h1 h2 =>
      have e' : y = x := Option.some.inj e
      subst e'
      exact h1
  | y :: xs, _, i + 1, x, h, e => by
    cases h with
    | cons h1 h2 => exact dpAllAt (i := i) h2 e
theorem allRange (p : PyData → Bool) : ∀ ds : List PyData, ((List.range ds.length).map fun i => p (ds.getD i .none)).all id = ds.all p := by
  intro ds
  have e : (List.range ds.length).map (fun i => p (ds.getD i .none)) = ds.map p := by
    apply List.ext_getElem
    · simp
    · intro i h1 h2
      simp only [List.length_map, List.length_range] at h1
      rw [List.getElem_map, List.getElem_range, List.getElem_map, List.getD_eq_getElem?_getD, List.getElem?_eq_getElem h1]
      rfl
  rw [e, List.all_map]
  rfl
section
variable {P : Program} {w : World} {K : PySem.W.Frag} {mg : Str → Option Value} {base : Heap} {CXa : CXT}
theorem sc_is_integer : FnScope ["thing"] ["thing"] (defScope s_is_integer) := ⟨rfl, rfl, rfl, by decide +kernel, rfl, by decide +kernel, by decide +kernel⟩
theorem ok_is_integer {f : Addr} {fd : FuncData} (F : Fun K "is_integer" "is_integer" s_is_integer f fd) (M : Nms mg) : FnOk P w K mg base CX0 1 f fd ["thing"] (spIsInteger K) := by
  refine F.ok sc_is_integer (fun vs H Q E h => ?_) (fun cdv A outer s H vs Q E hr h => ?_)
  · obtain ⟨v, d, rfl, _⟩ := h
    rfl
  · obtain ⟨v, d, rfl, hd, k⟩ := h
    refine ⟨_, pss_one (ps_ret (pe_and (pe_callB call_isi (by rfl) M.isi boot_isi (pa_cons (pv 0) (pa_cons (pe_bltn (v := V.ty "int") rfl M.int (by decide +kernel) rfl) pa_nil)))
      (pe_one (pe_not (pe_callB call_isi (by rfl) M.isi boot_isi (pa_cons (pv 0) (pa_cons (pe_bltn (v := V.ty "bool") rfl M.bool (by decide +kernel) rfl) pa_nil))))))), ?_⟩
    refine ⟨_, rfl, v, _, _, _, _, rfl, .ty _, rdTy hd, kitI K d, _, rfl, ?_⟩
    cases d with
    | int i => exact iteT ⟨_, rfl, v, _, _, _, _, rfl, .ty _, rdTy hd, kitBo K _, _, rfl, k⟩
    | bool b => exact iteT ⟨_, rfl, v, _, _, _, _, rfl, .ty _, rdTy hd, kitBo K _, _, rfl, k⟩
    | none => exact iteF k
    | str _ => exact iteF k
    | list _ => exact iteF k
    | tuple _ => exact iteF k
    | dict _ => exact iteF k
theorem sc_within : FnScope ["thing", "low", "high"] ["thing", "low", "high"] (defScope s_is_integer_within) := ⟨rfl, rfl, rfl, by decide +kernel, rfl, by decide +kernel, by decide +kernel⟩
theorem ok_within {f : Addr} {fd : FuncData} (F : Fun K "is_integer_within" "is_integer_within" s_is_integer_within f fd) (G : At P w K mg base CX0 1 "is_integer" ["thing"] (spIsInteger K)) :
    FnOk P w K mg base CX0 2 f fd ["thing", "low", "high"] (spWithin K) := by
  obtain ⟨g, gd, G, mG, kG, bG⟩ := G
  refine F.ok sc_within (fun vs H Q E h => ?_) (fun cdv A outer s H vs Q E hr h => ?_)
  · obtain ⟨v, d, lo, hi, rfl, _⟩ := h
    rfl
  · obtain ⟨v, d, lo, hi, rfl, hd, k⟩ := h
    refine ⟨_, pss_one (ps_ret (pe_and (pe_call G hr (by rfl) mG kG bG .nil pass0 (pa_cons (pv 0) pa_nil)) (pe_one (pe_chain op_le op_le (pv 1) (pv 0) (pv 2))))), ?_⟩
    refine ⟨_, rfl, v, d, rfl, hd, _, rfl, ?_⟩
    cases d with
    | int i =>
      have e := rdInt hd
      subst e
      refine iteT ⟨_, rfl, _, rfl, _, _, rfl, rfl, _, rfl, ?_⟩
      by_cases hl : lo ≤ i
      · rw [decide_eq_true hl]
        have k : Q (.bl (decide (lo ≤ i) && decide (i ≤ hi))) H := k
        rw [decide_eq_true hl, Bool.true_and] at k
        exact iteT ⟨_, rfl, _, _, rfl, rfl, k⟩
      · rw [decide_eq_false hl]
        have k : Q (.bl (decide (lo ≤ i) && decide (i ≤ hi))) H := k
        rw [decide_eq_false hl, Bool.false_and] at k
        exact iteF k
    | bool b => exact iteF k
    | none => exact iteF k
    | str _ => exact iteF k
    | list _ => exact iteF k
    | tuple _ => exact iteF k
    | dict _ => exact iteF k
theorem decLen (i j : Nat) : decide (V.int (i : Int) = V.int (j : Int)) = decide (i = j) := by
  by_cases h : i = j
  · subst h
    rw [decide_eq_true rfl, decide_eq_true rfl]
  · rw [decide_eq_false h, decide_eq_false (fun z => h (by injection z with z; exact Int.ofNat.inj z))]
theorem sc_is_node : FnScope ["size", "thing"] ["size", "thing"] (defScope s_is_node) := ⟨rfl, rfl, rfl, by decide +kernel, rfl, by decide +kernel, by decide +kernel⟩
theorem ok_is_node {f : Addr} {fd : FuncData} (F : Fun K "is_node" "is_node" s_is_node f fd) (G : At P w K mg base CX0 2 "is_integer_within" ["thing", "low", "high"] (spWithin K)) :
    FnOk P w K mg base CX0 3 f fd ["size", "thing"] (spIsNode K) := by
  obtain ⟨g, gd, G, mG, kG, bG⟩ := G
  refine F.ok sc_is_node (fun vs H Q E h => ?_) (fun cdv A outer s H vs Q E hr h => ?_)
  · obtain ⟨v, d, n, rfl, _⟩ := h
    rfl
  · obtain ⟨v, d, n, rfl, hd, k⟩ := h
    exact ⟨_, pss_one (ps_ret (pe_call G hr (by rfl) mG kG bG .nil pass0 (pa_cons (pv 1) (pa_cons pe_int (pa_cons (pe_op op_sub (pv 0) pe_int) pa_nil))))),
      _, rfl, _, rfl, _, _, rfl, rfl, v, d, _, _, rfl, hd, k⟩
end

/-! ## Plays over plain lists -/
def flipL (row x : List Int) (v : Nat) : List Int := (row.foldl (fun y o => y.set o.toNat (y.getD o.toNat 0 + x.getD v 0)) x).set v (-(x.getD v 0))
def followL (N : List (List Int)) : List Nat → List Int → List Int → Option (List Int × List Int)
  | [], x, t => some (x, t)
  | v :: vs, x, t => if x.getD v 0 ≥ 0 then none else followL N vs (flipL (N.getD v []) x v) (t.set v (t.getD v 0 - x.getD v 0))
/-- the neighbours' lists name nodes -/
def WF (N : List (List Int)) : Prop := ∀ i, i < N.length → ∀ o ∈ N.getD i [], 0 ≤ o ∧ o < N.length
theorem foldSetLen (c : Int) : ∀ (row : List Int) (x : List Int), (row.foldl (fun y o => y.set o.toNat (y.getD o.toNat 0 + c)) x).length = x.length
  | [], x => rfl
  | o :: row, x => by
    rw [List.foldl_cons, foldSetLen c row, List.length_set]
theorem flipLen (row x : List Int) (v : Nat) : (flipL row x v).length = x.length := by
  unfold flipL
  rw [List.length_set, foldSetLen]
theorem mapSet {x : List Int} {i : Nat} {z : Int} : (x.map V.int).set i (.int z) = (x.set i z).map V.int := by
  rw [List.map_set]
theorem mapAt {x : List Int} {i : Nat} (h : i < x.length) : (x.map V.int)[i]? = some (V.int (x.getD i 0)) := by
  rw [List.getElem?_map, List.getElem?_eq_getElem h, List.getD_eq_getElem?_getD, List.getElem?_eq_getElem h]
  rfl
theorem atInt {x : List Int} {i : Int} (h0 : 0 ≤ i) (h : i < x.length) : atI (x.map V.int) i = some (V.int (x.getD i.toNat 0)) := by
  have z := atI_nat (mapAt (x := x) (i := i.toNat) (by omega))
  rwa [show ((i.toNat : Nat) : Int) = i by omega] at z
theorem ixInt {x : List Int} {i : Int} (h0 : 0 ≤ i) (h : i < x.length) : ixN (x.map V.int).length i = some i.toNat := by
  unfold ixN
  rw [if_pos h0, List.length_map, if_pos h]
/-- lists of ints at addresses -/
def RowsAt (H : Hp) (rows : List Addr) (N : List (List Int)) : Prop := rows.length = N.length ∧ ∀ (k : Nat) (r : Addr), rows[k]? = some r → H r = some (.lst ((N.getD k []).map V.int))
def NAt (H : Hp) (p : Addr) (N : List (List Int)) : Prop := ∃ rows, H p = some (.lst (rows.map V.ref)) ∧ RowsAt H rows N
theorem RowsAt.same {H H' : Hp} {rows : List Addr} {N : List (List Int)} (h : RowsAt H rows N) (s : Same H H') : RowsAt H' rows N := ⟨h.1, fun k r e => s _ _ (h.2 k r e)⟩
theorem NAt.same {H H' : Hp} {p : Addr} {N : List (List Int)} (h : NAt H p N) (s : Same H H') : NAt H' p N := by
  obtain ⟨rows, h1, h2⟩ := h
  exact ⟨rows, s _ _ h1, h2.same s⟩
theorem NAt.row {H : Hp} {p : Addr} {N : List (List Int)} (h : NAt H p N) {i : Int} (h0 : 0 ≤ i) (hi : i < N.length) :
    ∃ xs r, H p = some (.lst xs) ∧ atI xs i = some (.ref r) ∧ H r = some (.lst ((N.getD i.toNat []).map V.int)) := by
  obtain ⟨rows, h1, h2, h3⟩ := h
  have hl : i.toNat < rows.length := by omega
  refine ⟨_, rows[i.toNat], h1, ?_, h3 i.toNat _ (List.getElem?_eq_getElem hl)⟩
  have z : (rows.map V.ref)[i.toNat]? = some (V.ref rows[i.toNat]) := by
    rw [List.getElem?_map, List.getElem?_eq_getElem hl]
    rfl
  have q := atI_nat z
  rwa [show ((i.toNat : Nat) : Int) = i by omega] at q
/-- nodes out of data -/
def nodeOf : PyData → Nat
  | .int i => i.toNat
  | _ => 0
theorem nodesOf {K : PySem.W.Frag} {H : Hp} {n : Nat} : ∀ {xs : List V} {ds : List PyData}, DpAll K H xs ds → ds.all (isNode n) = true → xs = (ds.map nodeOf).map (fun v : Nat => V.int (v : Int)) ∧ ∀ v ∈ ds.map nodeOf, v < n
  | [], _, h, _ => by
    cases h
    exact ⟨rfl, fun v hv => by simp at hv⟩
  | x :: xs, _, h, ha => by
    cases h with
    | cons h1 h2 =>
      rename_i d ds
      rw [List.all_cons, Bool.and_eq_true] at ha
      obtain ⟨e, b⟩ := nodesOf h2 ha.2
      have hd := ha.1
      cases d with
      | int i =>
        cases h1
        have hd : (decide ((0 : Int) ≤ i) && decide (i ≤ (n : Int) - 1)) = true := hd
        rw [Bool.and_eq_true, decide_eq_true_eq, decide_eq_true_eq] at hd
        refine ⟨?_, fun v hv => ?_⟩
        · rw [List.map_cons, List.map_cons, ← e]
          show V.int i :: xs = V.int ((i.toNat : Nat) : Int) :: xs
          rw [show ((i.toNat : Nat) : Int) = i by omega]
        · rcases List.mem_cons.mp (show v ∈ nodeOf (.int i) :: ds.map nodeOf from hv) with rfl | hv
          · show i.toNat < n
            omega
          · exact b v hv
      | none => cases hd
      | bool _ => cases hd
      | str _ => cases hd
      | list _ => cases hd
      | tuple _ => cases hd
      | dict _ => cases hd

end K01

set_option Elab.async false
set_option linter.all false
set_option maxRecDepth 100000
set_option maxHeartbeats 8000000
namespace K01
open PySem PySem.Spec PyProof.Rows L2 FNX
/-! ## Graphs, read; firing -/
def gflds (n : Int) (j nr : Addr) : List (Str × V) := [("node_count", .int n), ("joined", .ref j), ("near", .ref nr)]
theorem gl_n (n : Int) (j nr : Addr) : (gflds n j nr).lookup ("node_count" : Str) = some (.int n) := by
  unfold gflds
  simp [List.lookup]
theorem gl_j (n : Int) (j nr : Addr) : (gflds n j nr).lookup ("joined" : Str) = some (.ref j) := rfl
theorem gl_r (n : Int) (j nr : Addr) : (gflds n j nr).lookup ("near" : Str) = some (.ref nr) := rfl
def GAt (CG : Addr) (H : Hp) (g : Addr) (N : List (List Int)) : Prop := ∃ dx j nr, H g = some (.ins CG dx (gflds (N.length : Int) j nr)) ∧ NAt H nr N
theorem GAt.same {CG : Addr} {H H' : Hp} {g : Addr} {N : List (List Int)} (h : GAt CG H g N) (s : Same H H') : GAt CG H' g N := by
  obtain ⟨dx, j, nr, h1, h2⟩ := h
  exact ⟨dx, j, nr, s _ _ h1, h2.same s⟩
/-- what the walk asks of the class Graph -/
structure GTxt (K : PySem.W.Frag) (mg : Str → Option Value) (CG : Addr) : Prop where
  cl : Cls K CG
  n1 : NoAttr K CG "node_count"
  n2 : NoAttr K CG "joined"
  n3 : NoAttr K CG "near"
  mgC : mg "Graph" = some (.ref CG)
/-- a method x of Graph keeps sp -/
def MAt (P : Program) (w : World) (K : PySem.W.Frag) (mg : Str → Option Value) (base : Heap) (CG : Addr) (CX : CXT) (k : Nat) (x : Str) (ps : List Str) (sp : Sp) : Prop :=
  ∃ f fd, FnOk P w K mg base CX k f fd ps sp ∧ Meth K CG x f ∧ Binds K fd ps []
def spSize (CG : Addr) : Sp := fun vs H Q _ => ∃ g N, vs = [.ref g] ∧ GAt CG H g N ∧ Q (.int (N.length : Int)) H
def spCheckNode : Sp := fun vs H Q _ => ∃ n i : Int, vs = [.int n, .int i] ∧ 0 ≤ i ∧ i < n ∧ Q .non H
def spNeighbours (CG : Addr) : Sp := fun vs H Q _ => ∃ g N, ∃ i : Int, vs = [.ref g, .int i] ∧ GAt CG H g N ∧ 0 ≤ i ∧ i < N.length ∧
  ∀ p, H p = none → Q (.ref p) (upd H p (.lst ((N.getD i.toNat []).map V.int)))
def spAll (CG : Addr) : Sp := fun vs H Q _ => ∃ g N, vs = [.ref g] ∧ GAt CG H g N ∧ N.length ≤ 1000 ∧ ∀ p H', H p = none → Same H H' → NAt H' p N → Q (.ref p) H'
def spFlip : Sp := fun vs H Q _ => ∃ p r, ∃ x row : List Int, ∃ v : Int, vs = [.ref p, .int v, .ref r] ∧ H p = some (.lst (x.map V.int)) ∧ H r = some (.lst (row.map V.int)) ∧ p ≠ r ∧
  0 ≤ v ∧ v < x.length ∧ (∀ o ∈ row, 0 ≤ o ∧ o < x.length) ∧ ∀ H', H' p = some (.lst ((flipL row x v.toNat).map V.int)) → (∀ b, b ≠ p → H' b = H b) → Q .non H'
section
variable {P : Program} {w : World} {K : PySem.W.Frag} {mg : Str → Option Value} {base : Heap} {CG : Addr}
theorem sc_gsize : FnScope ["self"] ["self"] (defScope s_Graph_size) := ⟨rfl, rfl, rfl, by decide +kernel, rfl, by decide +kernel, by decide +kernel⟩
theorem ok_gsize {f : Addr} {fd : FuncData} (F : Fun K "size" "Graph.size" s_Graph_size f fd) (T : GTxt K mg CG) : FnOk P w K mg base CX0 1 f fd ["self"] (spSize CG) := by
  refine F.ok sc_gsize (fun vs H Q E h => ?_) (fun cdv A outer s H vs Q E hr h => ?_)
  · obtain ⟨g, N, rfl, _⟩ := h
    rfl
  · obtain ⟨g, N, rfl, ⟨dx, j, nr, h1, h2⟩, k⟩ := h
    exact ⟨_, pss_one (ps_ret (pe_fld (pv 0) rfl)), _, rfl, g, CG, dx, _, _, rfl, h1, T.cl, T.n1, gl_n _ _ _, k⟩
theorem sc_check_node : FnScope ["size", "node"] ["size", "node"] (defScope s_check_node) := ⟨rfl, rfl, rfl, by decide +kernel, rfl, by decide +kernel, by decide +kernel⟩
theorem ok_check_node {f : Addr} {fd : FuncData} (F : Fun K "check_node" "check_node" s_check_node f fd) (G : At P w K mg base CX0 3 "is_node" ["size", "thing"] (spIsNode K)) :
    FnOk P w K mg base CX0 4 f fd ["size", "node"] spCheckNode := by
  obtain ⟨g, gd, G, mG, kG, bG⟩ := G
  refine F.ok sc_check_node (fun vs H Q E h => ?_) (fun cdv A outer s H vs Q E hr h => ?_)
  · obtain ⟨n, i, rfl, _⟩ := h
    rfl
  · obtain ⟨n, i, rfl, h0, h1, k⟩ := h
    refine ⟨_, pss_one (ps_if (pt_not (pt_val (pe_call G hr (by rfl) mG kG bG .nil pass0 (pa_cons (pv 0) (pa_cons (pv 1) pa_nil))))) (pss_one ps_never) pss_nil), ?_⟩
    obtain ⟨m, rfl⟩ : ∃ m : Nat, n = (m : Int) := ⟨n.toNat, by omega⟩
    refine ⟨_, rfl, _, rfl, .int i, .int i, m, rfl, .dat (.int i), _, rfl, ?_⟩
    have e : isNode m (.int i) = true := by
      show (decide ((0 : Int) ≤ i) && decide (i ≤ (m : Int) - 1)) = true
      rw [decide_eq_true h0, decide_eq_true (by omega)]
      rfl
    rw [e]
    exact iteF k
theorem sc_neighbours : FnScope ["self", "node"] ["self", "node"] (defScope s_Graph_neighbours) := ⟨rfl, rfl, rfl, by decide +kernel, rfl, by decide +kernel, by decide +kernel⟩
theorem ok_neighbours {f : Addr} {fd : FuncData} (F : Fun K "neighbours" "Graph.neighbours" s_Graph_neighbours f fd) (T : GTxt K mg CG) (M : Nms mg) (G : At P w K mg base CX0 4 "check_node" ["size", "node"] spCheckNode) :
    FnOk P w K mg base CX0 5 f fd ["self", "node"] (spNeighbours CG) := by
  obtain ⟨c, cd, G, mG, kG, bG⟩ := G
  refine F.ok sc_neighbours (fun vs H Q E h => ?_) (fun cdv A outer s H vs Q E hr h => ?_)
  · obtain ⟨g, N, i, rfl, _⟩ := h
    rfl
  · obtain ⟨g, N, i, rfl, ⟨dx, j, nr, h1, h2⟩, h0, hi, k⟩ := h
    refine ⟨_, pss_cons (ps_expr (pe_call G hr (by rfl) mG kG bG .nil pass0 (pa_cons (pe_fld (pv 0) rfl) (pa_cons (pv 1) pa_nil))))
      (pss_one (ps_ret (pe_callTy call_list_of (by rfl) M.list (by decide +kernel) (pa_cons (pe_ix ix_list (pe_fld (pv 0) rfl) (pv 1) (fun _ _ => rfl)) pa_nil)))), ?_⟩
    refine ⟨_, rfl, g, CG, dx, _, _, rfl, h1, T.cl, T.n1, gl_n _ _ _, _, rfl, _, i, rfl, h0, hi, ?_⟩
    obtain ⟨xs, r, e1, e2, e3⟩ := h2.row h0 hi
    exact ⟨_, rfl, g, CG, dx, _, _, rfl, h1, T.cl, T.n3, gl_r _ _ _, _, rfl, nr, xs, i, _, rfl, rfl, SqL.of e1, e2, r, _, rfl, .inl (SqL.of e3), fun l hl => k l hl⟩
end

/-! ## flip_in_place, follow -/
theorem takeMore {α : Type} : ∀ {l : List α} {i : Nat} {x : α}, l[i]? = some x → l.take (i + 1) = l.take i ++ [x]
  | [], _, _, h => by simp at h
  | a :: l, 0, x, h => by
    have e : a = x := Option.some.inj h
    subst e
    rfl
  | a :: l, i + 1, x, h => by
    rw [List.take_succ_cons, List.take_succ_cons, takeMore (l := l) (i := i) h]
    rfl
theorem intsAt {x : List Int} {i : Nat} {y : V} (h : (x.map V.int)[i]? = some y) : ∃ o, x[i]? = some o ∧ y = .int o := by
  rw [List.getElem?_map] at h
  cases e : x[i]? with
  | none =>
    rw [e] at h
    cases h
  | some o =>
    rw [e] at h
    exact ⟨o, rfl, (Option.some.inj h).symm⟩
theorem repZero (n : Nat) : (List.replicate n [V.int 0]).flatten = (List.replicate n (0 : Int)).map V.int := by
  induction n with
  | zero => rfl
  | succ n ih =>
    rw [List.replicate_succ, List.flatten_cons, ih, List.replicate_succ, List.map_cons]
    rfl
def playD (N : List (List Int)) (d : PyData) (x : List Int) : Option (List Int × List Int) := match d with
  | .list ds => if ds.all (isNode N.length) = true then followL N (ds.map nodeOf) x (List.replicate N.length 0) else none
  | _ => none
def spFollow (K : PySem.W.Frag) (CG : Addr) : Sp := fun vs H Q _ => ∃ g N pv x tv d, vs = [.ref g, .ref pv, tv] ∧ GAt CG H g N ∧ WF N ∧ N.length ≤ 1000 ∧ SqL K H pv (x.map V.int) ∧ x.length = N.length ∧
  Rd K H tv d ∧ lenD d ≤ 100000 ∧ (∀ H', Same H H' → playD N d x = none → Q .non H') ∧
  ∀ x' t' T a b H', playD N d x = some (x', t') → Same H H' → H a = none → H b = none → H' T = some (.tup [.ref a, .ref b]) → H' a = some (.lst (x'.map V.int)) → H' b = some (.lst (t'.map V.int)) → Q (.ref T) H'
section
variable {P : Program} {w : World} {K : PySem.W.Frag} {mg : Str → Option Value} {base : Heap} {CG : Addr}
end

/-! ## check_position, negatives, has_ended, and the plays -/
def negL (x : List Int) : List Nat := (List.range x.length).filter fun i => decide (x.getD i 0 < 0)
def endedL (x : List Int) : Bool := (negL x).isEmpty
def posD (x : List Int) : PyData := .list (x.map .int)
theorem dpInts {K : PySem.W.Frag} {H : Hp} : ∀ x : List Int, DpAll K H (x.map V.int) (x.map PyData.int)
  | [] => .nil
  | _ :: x => .cons (.int _) (dpInts x)
theorem ilPos {n : Nat} {x : List Int} (h : x.length = n) : isIL n (posD x) = true := by
  show (decide ((x.map PyData.int).length = n) && (x.map PyData.int).all isI) = true
  rw [List.length_map, decide_eq_true h, List.all_map]
  simp [isI]
def spCheckPos (K : PySem.W.Frag) (CP : Addr) : Sp := fun vs H Q E => ∃ v d, ∃ n : Nat, vs = [.int n, v] ∧ Rd K H v d ∧ lenD d ≤ 100000 ∧ (∀ H', Same H H' → isIL n d = true → Q .non H') ∧
  ∀ H' dd, Same H H' → H dd = none → H' dd = some (.xd [(("value" : Str), v)]) → isIL n d = false → E (.ref CP) (some dd) H'
def spNeg (K : PySem.W.Frag) (CG : Addr) : Sp := fun vs H Q _ => ∃ g N p x, vs = [.ref g, .ref p] ∧ GAt CG H g N ∧ SqL K H p (x.map V.int) ∧ x.length = N.length ∧ N.length ≤ 1000 ∧
  ∀ D H', H D = none → Same H H' → H' D = some (.lst ((negL x).map fun i : Nat => V.int (i : Int))) → Q (.ref D) H'
def spEnded (K : PySem.W.Frag) (CG : Addr) : Sp := fun vs H Q _ => ∃ g N p x, vs = [.ref g, .ref p] ∧ GAt CG H g N ∧ SqL K H p (x.map V.int) ∧ x.length = N.length ∧ N.length ≤ 1000 ∧
  ∀ H', Same H H' → Q (.bl (endedL x)) H'
section
variable {P : Program} {w : World} {K : PySem.W.Frag} {mg : Str → Option Value} {base : Heap} {CG CP CL : Addr}
theorem filtMore (p : Nat → Bool) (i : Nat) : (List.range (i + 1)).filter p = (List.range i).filter p ++ (if p i = true then [i] else []) := by
  rw [List.range_succ, List.filter_append]
  congr 1
  by_cases h : p i = true
  · rw [if_pos h]
    simp [h]
  · rw [if_neg h]
    simp [h]
/-! ### the plays; E: InvalidPosition with the position, then InvalidPlay with the nodes -/
def spChecked (K : PySem.W.Frag) (CG CP CL : Addr) (out : List Int × List Int → Hp → Addr → Hp → Prop) : Sp := fun vs H Q E => ∃ g N qv dp nv d, vs = [.ref g, qv, nv] ∧ GAt CG H g N ∧ WF N ∧ N.length ≤ 1000 ∧
  Rd K H qv dp ∧ lenD dp ≤ 100000 ∧ Rd K H nv d ∧ lenD d ≤ 100000 ∧
  (isIL N.length dp = false → ∀ H' dd, Same H H' → H dd = none → H' dd = some (.xd [(("value" : Str), qv)]) → E (.ref CP) (some dd) H') ∧
  ∀ x, dp = posD x → x.length = N.length →
    (∀ H' dd, playD N d x = none → Same H H' → H dd = none → H' dd = some (.xd [(("value" : Str), nv)]) → E (.ref CL) (some dd) H') ∧
    ∀ r, playD N d x = some r → ∀ a H', Same H H' → out r H a H' → Q (.ref a) H'
theorem intsOfAll : ∀ ds : List PyData, (∀ d ∈ ds, isI d = true) → ds = (ds.map (fun d => match d with | .int i => i | _ => 0)).map PyData.int
  | [], _ => rfl
  | d :: ds, z => by
    have q := z d List.mem_cons_self
    rw [List.map_cons, List.map_cons, ← intsOfAll ds (fun e he => z e (List.mem_cons_of_mem _ he))]
    cases d <;> first | rfl | cases q
theorem ilD {n : Nat} {d : PyData} (h : isIL n d = true) : ∃ x, d = posD x ∧ x.length = n := by
  cases d with
  | list ds =>
    have h : (decide (ds.length = n) && ds.all isI) = true := h
    rw [Bool.and_eq_true, decide_eq_true_eq] at h
    refine ⟨ds.map (fun d => match d with | .int i => i | _ => 0), ?_, by rw [List.length_map]; exact h.1⟩
    exact congrArg PyData.list (intsOfAll ds (List.all_eq_true.mp h.2))
  | none => cases h
  | bool _ => cases h
  | int _ => cases h
  | str _ => cases h
  | tuple _ => cases h
  | dict _ => cases h
theorem rdPos {H : Hp} {v : V} {x : List Int} (h : Rd K H v (posD x)) : ∃ p, v = .ref p ∧ SqL K H p (x.map V.int) := by
  obtain ⟨a, xs, rfl, h1, h2⟩ := rdList h
  refine ⟨a, rfl, ?_⟩
  have e : xs = x.map V.int := by
    clear h h1
    induction x generalizing xs with
    | nil => cases h2; rfl
    | cons i x ih =>
      cases h2 with
      | cons h3 h4 =>
        cases h3
        rw [ih _ h4]
        rfl
  rw [← e]
  exact h1
theorem followLen {N : List (List Int)} : ∀ (vs : List Nat) (x t x' t' : List Int), followL N vs x t = some (x', t') → x'.length = x.length ∧ t'.length = t.length
  | [], x, t, x', t', h => by
    have h : some (x, t) = some (x', t') := h
    cases h
    exact ⟨rfl, rfl⟩
  | v :: vs, x, t, x', t', h => by
    have h : (if x.getD v 0 ≥ 0 then none else followL N vs (flipL (N.getD v []) x v) (t.set v (t.getD v 0 - x.getD v 0))) = some (x', t') := h
    by_cases c : x.getD v 0 ≥ 0
    · rw [if_pos c] at h
      cases h
    · rw [if_neg c] at h
      obtain ⟨h1, h2⟩ := followLen vs _ _ _ _ h
      rw [flipLen] at h1
      rw [List.length_set] at h2
      exact ⟨h1, h2⟩
theorem playLen {N : List (List Int)} {d : PyData} {x x' t' : List Int} (h : playD N d x = some (x', t')) : x'.length = x.length ∧ t'.length = N.length := by
  cases d with
  | list ds =>
    have h : (if ds.all (isNode N.length) = true then followL N (ds.map nodeOf) x (List.replicate N.length 0) else none) = some (x', t') := h
    by_cases c : ds.all (isNode N.length) = true
    · rw [if_pos c] at h
      obtain ⟨h1, h2⟩ := followLen _ _ _ _ _ h
      exact ⟨h1, by rw [h2, List.length_replicate]⟩
    · rw [if_neg c] at h
      cases h
  | none => cases h
  | bool _ => cases h
  | int _ => cases h
  | str _ => cases h
  | tuple _ => cases h
  | dict _ => cases h
def outTup (r : List Int × List Int) (H : Hp) (a : Addr) (H' : Hp) : Prop := ∃ b c, H b = none ∧ H c = none ∧ H' a = some (.tup [.ref b, .ref c]) ∧ H' b = some (.lst (r.1.map V.int)) ∧ H' c = some (.lst (r.2.map V.int))
def outFst (r : List Int × List Int) (H : Hp) (a : Addr) (H' : Hp) : Prop := H a = none ∧ H' a = some (.lst (r.1.map V.int))
def outSnd (r : List Int × List Int) (H : Hp) (a : Addr) (H' : Hp) : Prop := H a = none ∧ H' a = some (.lst (r.2.map V.int))
section
variable {P : Program} {w : World} {K : PySem.W.Frag} {mg : Str → Option Value} {base : Heap} {CG CP CL : Addr}
/-- is_play, is_complete: a truth value of the play; E: InvalidPosition -/
def spTold (K : PySem.W.Frag) (CG CP : Addr) (b : Option (List Int × List Int) → Bool) : Sp := fun vs H Q E => ∃ g N qv dp nv d, vs = [.ref g, qv, nv] ∧ GAt CG H g N ∧ WF N ∧ N.length ≤ 1000 ∧
  Rd K H qv dp ∧ lenD dp ≤ 100000 ∧ Rd K H nv d ∧ lenD d ≤ 100000 ∧
  (isIL N.length dp = false → ∀ H' dd, Same H H' → H dd = none → H' dd = some (.xd [(("value" : Str), qv)]) → E (.ref CP) (some dd) H') ∧
  ∀ x, dp = posD x → x.length = N.length → ∀ H', Same H H' → Q (.bl (b (playD N d x))) H'
def complB : Option (List Int × List Int) → Bool
  | none => false
  | some r => endedL r.1
end
end

end K01

set_option Elab.async false
set_option linter.all false
set_option maxRecDepth 100000
set_option maxHeartbeats 8000000
namespace K01
open PySem PySem.Spec PyProof.Rows L2 FNX
/-! ## Edges -/
def pairD (e : Int × Int) : PyData := .tuple [.int e.1, .int e.2]
theorem eqvPair (e f : Int × Int) : PyData.eqv (pairD e) (pairD f) = decide (e = f) := by
  have h : PyData.eqv (pairD e) (pairD f) = ((e.1 == f.1) && ((e.2 == f.2) && true)) := by
    unfold pairD
    first
      | rfl
      | simp [PyData.eqv, PyData.eqvAll]
  rw [h, Bool.and_true]
  by_cases c : e = f
  · subst c
    simp
  · rw [decide_eq_false c]
    by_cases c1 : e.1 = f.1
    · by_cases c2 : e.2 = f.2
      · exact absurd (Prod.ext c1 c2) c
      · have z : (e.2 == f.2) = false := by simpa using c2
        rw [z, Bool.and_false]
    · have z : (e.1 == f.1) = false := by simpa using c1
      rw [z, Bool.false_and]
/-- edges at addresses -/
def TupsAt (H : Hp) (ts : List Addr) (es : List (Int × Int)) : Prop := ts.length = es.length ∧ ∀ (k : Nat) (t : Addr), ts[k]? = some t → ∃ e, es[k]? = some e ∧ H t = some (.tup [.int e.1, .int e.2])
def EdgesAt (H : Hp) (p : Addr) (es : List (Int × Int)) : Prop := ∃ ts, H p = some (.lst (ts.map V.ref)) ∧ TupsAt H ts es
theorem TupsAt.same {H H' : Hp} {ts : List Addr} {es : List (Int × Int)} (h : TupsAt H ts es) (s : Same H H') : TupsAt H' ts es := ⟨h.1, fun k t e => by
  obtain ⟨x, h1, h2⟩ := h.2 k t e
  exact ⟨x, h1, s _ _ h2⟩⟩
theorem EdgesAt.same {H H' : Hp} {p : Addr} {es : List (Int × Int)} (h : EdgesAt H p es) (s : Same H H') : EdgesAt H' p es := by
  obtain ⟨ts, h1, h2⟩ := h
  exact ⟨ts, s _ _ h1, h2.same s⟩
structure GoodE (n : Nat) (es : List (Int × Int)) : Prop where
  node : ∀ e ∈ es, 0 ≤ e.1 ∧ e.1 < e.2 ∧ e.2 < n
  once : es.Nodup
  few : es.length ≤ 40
theorem dpTups {K : PySem.W.Frag} {H : Hp} : ∀ {ts : List Addr} {es : List (Int × Int)}, TupsAt H ts es → DpAll K H (ts.map V.ref) (es.map pairD)
  | [], [], _ => .nil
  | [], _ :: _, h => by
    have z := h.1
    simp at z
  | _ :: _, [], h => by
    have z := h.1
    simp at z
  | t :: ts, e :: es, h => by
    obtain ⟨x, h1, h2⟩ := h.2 0 t rfl
    obtain rfl : e = x := Option.some.inj h1
    refine .cons (.tup (SqT.of h2) (.cons (.int _) (.cons (.int _) .nil))) (dpTups ⟨by simpa using h.1, fun k t' e' => ?_⟩)
    obtain ⟨x, q1, q2⟩ := h.2 (k + 1) t' e'
    exact ⟨x, q1, q2⟩
theorem layPairs : ∀ es : List (Int × Int), PyData.canLayAll0 (es.map pairD) = true
  | [] => rfl
  | _ :: es => by
    show (true && PyData.canLayAll0 (es.map pairD)) = true
    rw [layPairs es]
    rfl
theorem depPairs : ∀ es : List (Int × Int), PyData.depthAll (es.map pairD) ≤ 1
  | [] => by decide
  | _ :: es => by
    show max 1 (PyData.depthAll (es.map pairD)) ≤ 1
    have z := depPairs es
    omega
theorem shapedPairs (es : List (Int × Int)) : SeqAt.shaped (.list (es.map pairD)) = true := by
  unfold SeqAt.shaped
  have e1 : PyData.canLay0 (.list (es.map pairD)) = true := layPairs es
  have e2 : PyData.depth (.list (es.map pairD)) ≤ 64 := by
    show PyData.depthAll (es.map pairD) + 1 ≤ 64
    have z := depPairs es
    omega
  rw [e1, decide_eq_true e2]
  rfl
theorem anyPair {f : Int × Int} : ∀ {es : List (Int × Int)}, f ∉ es → ((es.map pairD).any fun z => PyData.eqv z (pairD f)) = false
  | [], _ => rfl
  | e :: es, h => by
    rw [List.map_cons, List.any_cons, eqvPair, decide_eq_false (fun z => h (by rw [z]; exact List.mem_cons_self)), anyPair (fun z => h (List.mem_cons_of_mem _ z))]
    rfl
theorem anyPairT {f : Int × Int} : ∀ {es : List (Int × Int)}, f ∈ es → ((es.map pairD).any fun z => PyData.eqv z (pairD f)) = true
  | [], h => by simp at h
  | e :: es, h => by
    rw [List.map_cons, List.any_cons, eqvPair]
    by_cases c : e = f
    · rw [decide_eq_true c, Bool.true_or]
    · have h' : f ∈ es := by
        rcases List.mem_cons.mp h with z | z
        · exact absurd z.symm c
        · exact z
      rw [anyPairT h', Bool.or_true]

/-! ## graphs.py -/
def spIsEdge : Sp := fun vs H Q _ => ∃ (n : Nat) (t : Addr) (e : Int × Int), vs = [.int n, .ref t] ∧ H t = some (.tup [.int e.1, .int e.2]) ∧ 0 ≤ e.1 ∧ e.1 < e.2 ∧ e.2 < n ∧ Q (.bl true) H
def spEdges (K : PySem.W.Frag) : Sp := fun vs H Q _ => ∃ (n : Nat) (p : Addr) (es : List (Int × Int)), vs = [.int n, .ref p] ∧ EdgesAt H p es ∧ GoodE n es ∧
  ∀ q H' es', H q = none → Same H H' → EdgesAt H' q es' → es'.Perm es → Q (.ref q) H'
theorem kitT (K : PySem.W.Frag) : PySem.W.kitOne K (.type "tuple") (.type "tuple") = some true := kit_ty (by decide +kernel)
theorem kitLT (K : PySem.W.Frag) : PySem.W.kitAny K (.type "list") [.type "list", .type "tuple"] = some true :=
  kitAny_cons (b := true) (kit_ty (by decide +kernel)) (fun h => by cases h) (fun _ => rfl)
theorem boot_min1 : bootBuiltins "min" = some (.builtin "min") := by decide +kernel
theorem boot_max1 : bootBuiltins "max" = some (.builtin "max") := by decide +kernel
theorem boot_sorted1 : bootBuiltins "sorted" = some (.builtin "sorted") := by decide +kernel
theorem nodeIn {n : Nat} {i : Int} (h0 : 0 ≤ i) (h1 : i < n) : isNode n (.int i) = true := by
  show (decide ((0 : Int) ≤ i) && decide (i ≤ (n : Int) - 1)) = true
  rw [decide_eq_true h0, decide_eq_true (by omega)]
  rfl
section
variable {P : Program} {w : World} {K : PySem.W.Frag} {mg : Str → Option Value} {base : Heap} {CG : Addr}
theorem sc_is_edge : FnScope ["size", "thing", "one", "two"] ["size", "thing"] (defScope s_is_edge) := ⟨rfl, rfl, rfl, by decide +kernel, rfl, by decide +kernel, by decide +kernel⟩
theorem ok_is_edge {f : Addr} {fd : FuncData} (F : Fun K "is_edge" "is_edge" s_is_edge f fd) (M : Nms mg) (G : At P w K mg base CX0 3 "is_node" ["size", "thing"] (spIsNode K)) :
    FnOk P w K mg base CX0 4 f fd ["size", "thing"] spIsEdge := by
  obtain ⟨c, cd, G, mG, kG, bG⟩ := G
  refine F.ok sc_is_edge (fun vs H Q E h => ?_) (fun cdv A outer s H vs Q E hr h => ?_)
  · obtain ⟨n, t, e, rfl, _⟩ := h
    rfl
  · obtain ⟨n, t, e, rfl, ht, h0, h1, h2, k⟩ := h
    refine ⟨_, pss_cons (ps_if (PW.pt (pw_or (pt_not (pt_val (pe_callB call_isi (by rfl) M.isi boot_isi (pa_cons (pv 1) (pa_cons (pe_bltn (v := V.ty "tuple") rfl M.tuple (by decide +kernel) rfl) pa_nil)))))
        (pw_or1 (pt_cmpR op_ne (pe_callB call_len_seq (by rfl) M.len boot_len1 (pa_cons (pv 1) pa_nil)) pe_int (nomark _))))) (pss_one (ps_ret pe_bl)) pss_nil)
      (pss_cons (ps_asg (pv 1) (pg_tup rfl (pgs_cons (pg_name (i := 2) sc_is_edge.nd rfl (Or.inl rfl)) (pgs_cons (pg_name (i := 3) sc_is_edge.nd rfl (Or.inl rfl)) pgs_nil))))
      (pss_one (ps_ret (pe_and (pe_call G hr (by rfl) mG kG bG .nil pass0 (pa_cons (pv 0) (pa_cons (pv 2) pa_nil))) (pe_and (pe_call G hr (by rfl) mG kG bG .nil pass0 (pa_cons (pv 0) (pa_cons (pv 3) pa_nil)))
        (pe_one (pe_cmpR op_ne (pv 2) (pv 3) (nomark _)))))))), ?_⟩
    refine ⟨_, rfl, .ref t, _, _, _, _, rfl, .ty _, .base (.tup ht), kitT K, _, rfl, iteF ?_⟩
    refine ⟨_, rfl, t, _, rfl, .inr (SqT.of ht), rfl, _, rfl, iteF ?_⟩
    refine ⟨_, rfl, t, _, rfl, SqT.of ht, rfl, _, _, rfl, _, _, rfl, rfl, ?_⟩
    refine ⟨_, rfl, _, rfl, .int e.1, .int e.1, n, rfl, .dat (.int _), _, rfl, ?_⟩
    rw [nodeIn h0 (by omega)]
    refine iteT ⟨_, rfl, _, rfl, .int e.2, .int e.2, n, rfl, .dat (.int _), _, rfl, ?_⟩
    rw [nodeIn (by omega) h2]
    refine iteT ⟨_, rfl, _, rfl, rfl, ?_⟩
    have ne : decide (V.int e.1 = V.int e.2) = false := decide_eq_false (fun z => by
      injection z with z
      omega)
    rw [ne]
    exact k
theorem sc_checked_edges : FnScope ["size", "edges", "found", "entry", "edge"] ["size", "edges"] (defScope s_checked_edges) := ⟨rfl, rfl, rfl, by decide +kernel, rfl, by decide +kernel, by decide +kernel⟩
theorem refAt {α : Type} {f : α → V} {xs : List α} {i : Nat} {y : V} (h : (xs.map f)[i]? = some y) : ∃ t, xs[i]? = some t ∧ y = f t := by
  rw [List.getElem?_map] at h
  cases e : xs[i]? with
  | none =>
    rw [e] at h
    cases h
  | some t =>
    rw [e] at h
    exact ⟨t, rfl, (Option.some.inj h).symm⟩
theorem notTaken {α : Type} {es : List α} (h : es.Nodup) {i : Nat} {e : α} (hi : es[i]? = some e) : e ∉ es.take i := by
  intro hm
  obtain ⟨j, hj, he⟩ := List.mem_iff_getElem.mp hm
  rw [List.length_take] at hj
  rw [List.getElem_take] at he
  obtain ⟨h1, h2⟩ := List.getElem?_eq_some_iff.mp hi
  have z := (List.pairwise_iff_getElem.mp h) j i (by omega) h1 (by omega)
  exact z (by rw [he, h2])
def keyE (H : Hp) : V → Int × Int
  | .ref t => match H t with
    | some (.tup [.int a, .int b]) => (a, b)
    | _ => (0, 0)
  | _ => (0, 0)
def refOf : V → Addr
  | .ref t => t
  | _ => 0
theorem keyE_at {H : Hp} {t : Addr} {e : Int × Int} (h : H t = some (.tup [.int e.1, .int e.2])) : keyE H (.ref t) = e := by
  unfold keyE
  simp only [h]
theorem permTups {H : Hp} {ts : List Addr} {es : List (Int × Int)} (h : TupsAt H ts es) {ys : List V} (hp : ys.Perm (ts.map V.ref)) : ∃ ts' es', ys = ts'.map V.ref ∧ TupsAt H ts' es' ∧ es'.Perm es := by
  have hm : ∀ y ∈ ys, ∃ t, y = V.ref t ∧ ∃ e : Int × Int, H t = some (.tup [.int e.1, .int e.2]) := fun y hy => by
    obtain ⟨t, ht, rfl⟩ := List.mem_map.mp (hp.mem_iff.mp hy)
    obtain ⟨k, hk, he⟩ := List.mem_iff_getElem.mp ht
    obtain ⟨e, h1, h2⟩ := h.2 k t (by rw [List.getElem?_eq_getElem hk, he])
    exact ⟨t, rfl, e, h2⟩
  have e1 : (ts.map V.ref).map (keyE H) = es := by
    apply List.ext_getElem
    · rw [List.length_map, List.length_map, h.1]
    · intro k h1 h2
      rw [List.length_map, List.length_map] at h1
      obtain ⟨e, q1, q2⟩ := h.2 k ts[k] (List.getElem?_eq_getElem h1)
      rw [List.getElem_map, List.getElem_map, keyE_at q2]
      rw [List.getElem?_eq_getElem h2] at q1
      exact (Option.some.inj q1).symm
  refine ⟨ys.map refOf, ys.map (keyE H), ?_, ⟨by rw [List.length_map, List.length_map], fun k t hk => ?_⟩, ?_⟩
  · rw [List.map_map]
    have z : ∀ y ∈ ys, (V.ref ∘ refOf) y = y := fun y hy => by
      obtain ⟨t, rfl, _⟩ := hm y hy
      rfl
    exact (List.map_congr_left z).symm ▸ (List.map_id ys).symm
  · rw [List.getElem?_map] at hk
    cases hy : ys[k]? with
    | none =>
      rw [hy] at hk
      cases hk
    | some y =>
      rw [hy] at hk
      obtain ⟨t', rfl, e, he⟩ := hm y (List.mem_of_getElem? hy)
      obtain rfl : t' = t := Option.some.inj hk
      refine ⟨e, ?_, he⟩
      rw [List.getElem?_map, hy]
      exact congrArg some (keyE_at he)
  · have z := hp.map (keyE H)
    rwa [e1] at z
theorem ok_checked_edges {f : Addr} {fd : FuncData} (F : Fun K "checked_edges" "checked_edges" s_checked_edges f fd) (M : Nms mg) (G : At P w K mg base CX0 4 "is_edge" ["size", "thing"] spIsEdge) :
    FnOk P w K mg base CX0 5 f fd ["size", "edges"] (spEdges K) := by
  obtain ⟨c, cd, G, mG, kG, bG⟩ := G
  refine F.ok sc_checked_edges (fun vs H Q E h => ?_) (fun cdv A outer s H vs Q E hr h => ?_)
  · obtain ⟨n, p, es, rfl, _⟩ := h
    rfl
  · obtain ⟨n, p, es, rfl, hp, ge, k⟩ := h
    have hu65 : A.units + 3 + 65 < cLine := by
      have := hr.un
      show A.units + 3 + 65 < _
      have z : A.units + 3 + 16 * 4 + 200 < cLine := this
      omega
    refine ⟨_, pss_cons (ps_if (pt_not (pt_val (pe_callB call_isiT (by rfl) M.isi boot_isi (pa_cons (pv 1) (pa_cons (pe_tup (pa_cons (pe_bltn (v := V.ty "list") rfl M.list (by decide +kernel) rfl)
          (pa_cons (pe_bltn (v := V.ty "tuple") rfl M.tuple (by decide +kernel) rfl) pa_nil))) pa_nil))))) (pss_one ps_never) pss_nil)
      (pss_cons (ps_set (i := 2) sc_checked_edges.nd rfl (Or.inl rfl) (pe_lst pa_nil))
      (pss_cons (ps_for PassesOwn.never rfl (pi_list (pv 1)) (pg_name (i := 3) sc_checked_edges.nd rfl (Or.inl rfl))
        (pss_cons (ps_if (pt_not (pt_val (pe_call G hr (by rfl) mG kG bG .nil pass0 (pa_cons (pv 0) (pa_cons (pv 3) pa_nil))))) (pss_one ps_never) pss_nil)
        (pss_cons (ps_set (i := 4) sc_checked_edges.nd rfl (Or.inl rfl) (pe_tup (pa_cons (pe_callB (cr_minT rfl hr.units) (by rfl) M.min boot_min1 (pa_cons (pv 3) pa_nil))
          (pa_cons (pe_callB (cr_maxT rfl hr.units) (by rfl) M.max boot_max1 (pa_cons (pv 3) pa_nil)) pa_nil))))
        (pss_cons (ps_if (pt_cmpR (op_inD hu65) (pv 4) (pv 2) (by rfl)) (pss_one ps_never) pss_nil)
        (pss_one (ps_expr (pe_bm PySem.F.plainAttrs_list PySem.F.slot_list_append PySem.F.type_list_append mt_append (pv 2) (pa_cons (pv 4) pa_nil))))))))
      (pss_one (ps_ret (pe_callB cr_sortedP (by rfl) M.sorted boot_sorted1 (pa_cons (pv 2) pa_nil)))))), ?_⟩
    obtain ⟨ts, h1, h2⟩ := id hp
    refine ⟨_, rfl, by show 2 ≤ sizeLine; decide, fun tp ntp => ⟨.ref p, tp, _, _, _, _, rfl, upd_same, .cons (.ty _) (.cons (.ty _) .nil), .base (.lst (same_upd ntp _ _ h1)), kitLT K, _, rfl, iteF ?_⟩⟩
    refine ⟨by show 0 ≤ sizeLine; decide, fun fo nfo => ?_⟩
    have s0 := (same_upd ntp (o := .tup [V.ty "list", V.ty "tuple"])).trans (same_upd nfo (o := .lst []))
    have f0 : H fo = none := Same.free (same_upd ntp) nfo
    refine ⟨_, rfl, p, rfl, ⟨_, SqL.of (s0 _ _ h1)⟩, for_list (K := K) (a := p) (xs := ts.map V.ref) (fun i σ H' => ∃ (o3 o4 : Option V) (fs : List Addr), σ = [some (.int n), some (.ref p), some (.ref fo), o3, o4] ∧
      Same H H' ∧ H' fo = some (.lst (fs.map V.ref)) ∧ TupsAt H' fs (es.take i)) ⟨none, none, [], rfl, s0, upd_same, ⟨rfl, fun k t e => by simp at e⟩⟩ (fun i σ H' _ h => ?_) (fun i y σ H' hi h => ?_) (fun σ H' h => ?_)⟩
    · obtain ⟨_, _, _, _, sm, _, _⟩ := h
      exact SqL.of (sm _ _ h1)
    · obtain ⟨o3, o4, fs, rfl, sm, e1, e2⟩ := h
      obtain ⟨t, ht, rfl⟩ := refAt hi
      obtain ⟨e, he, hte⟩ := h2.2 i t ht
      have good := ge.node e (List.mem_of_getElem? he)
      have hte' := sm _ _ hte
      refine ⟨_, rfl, _, rfl, n, t, e, rfl, hte', good.1, good.2.1, good.2.2, _, rfl, iteF ?_⟩
      refine ⟨_, rfl, t, e.1, e.2, rfl, hte', _, rfl, t, e.1, e.2, rfl, hte', by show 2 ≤ sizeLine; decide, fun ed ned => ?_⟩
      have em : min e.1 e.2 = e.1 := by omega
      have eM : max e.1 e.2 = e.2 := by omega
      rw [em, eM]
      have e1' : (upd H' ed (.tup [V.int e.1, V.int e.2])) fo = some (.lst (fs.map V.ref)) := same_upd ned _ _ e1
      have e2' := e2.same (same_upd ned (o := .tup [V.int e.1, V.int e.2]))
      refine ⟨_, rfl, _, rfl, pairD e, (es.take i).map pairD, .tup (SqT.of upd_same) (.cons (.int _) (.cons (.int _) .nil)), .lst (SqL.of e1') (dpTups e2'), rfl, shapedPairs _, _, rfl, ?_⟩
      rw [anyPair (notTaken ge.once he)]
      refine iteF ⟨_, rfl, .inl ⟨rfl, _, SqL.of e1'⟩, _, rfl, fo, _, _, rfl, rfl, e1', ?_, ?_⟩
      · rw [List.length_map, e2.1, List.length_take, sizeLine_eq]
        have := ge.few
        omega
      refine ⟨_, _, fs ++ [ed], rfl, fun b o z => ?_, by rw [upd_same, List.map_append]; rfl, ?_, fun k t' hk => ?_⟩
      · rw [upd_ne (ne_of_none z f0)]
        exact same_upd ned _ _ (sm _ _ z)
      · rw [takeMore he, List.length_append, List.length_append, e2.1]
        rfl
      · have efo : ed ≠ fo := (ne_of_none e1 ned).symm
        by_cases hlt : k < fs.length
        · rw [List.getElem?_append_left hlt] at hk
          obtain ⟨x, q1, q2⟩ := e2.2 k t' hk
          refine ⟨x, ?_, ?_⟩
          · rw [takeMore he, List.getElem?_append_left (by rw [← e2.1]; exact hlt)]
            exact q1
          · rw [upd_ne (ne_of q2 e1 (by intro z; cases z)), upd_ne (ne_of_none q2 ned)]
            exact q2
        · rw [List.getElem?_append_right (by omega)] at hk
          have hk' : k = fs.length := by
            have z := (List.getElem?_eq_some_iff.mp hk).1
            simp at z
            omega
          subst hk'
          rw [Nat.sub_self] at hk
          obtain rfl : ed = t' := Option.some.inj hk
          refine ⟨e, ?_, ?_⟩
          · rw [takeMore he, e2.1, List.getElem?_append_right (Nat.le_refl _), Nat.sub_self]
            rfl
          · rw [upd_ne efo, upd_same]
    · obtain ⟨o3, o4, fs, rfl, sm, e1, e2⟩ := h
      rw [List.length_map, h2.1, List.take_length] at e2
      refine ⟨_, rfl, fo, _, rfl, SqL.of e1, fun y hy => ?_, fun ys q hperm nq => ?_⟩
      · obtain ⟨t, ht, rfl⟩ := List.mem_map.mp hy
        obtain ⟨k', hk', he'⟩ := List.mem_iff_getElem.mp ht
        obtain ⟨x, q1, q2⟩ := e2.2 k' t (by rw [List.getElem?_eq_getElem hk', he'])
        exact ⟨t, x.1, x.2, rfl, q2⟩
      · obtain ⟨ts', es', rfl, r1, r2⟩ := permTups e2 hperm
        exact k q _ es' (sm.free nq) (sm.trans (same_upd nq)) ⟨ts', upd_same, r1.same (same_upd nq)⟩ r2
end

/-! ## neighbour_lists -/
def rowOf (es : List (Int × Int)) (i : Int) : List Int := es.flatMap fun e => (if e.1 = i then [e.2] else []) ++ (if e.2 = i then [e.1] else [])
structure IsNear (n : Nat) (es : List (Int × Int)) (N : List (List Int)) : Prop where
  len : N.length = n
  row : ∀ i, i < n → (N.getD i []).Perm (rowOf es i)
  asc : ∀ i, i < n → (N.getD i []).Pairwise (· ≤ ·)
theorem rowOf_perm {es fs : List (Int × Int)} (h : es.Perm fs) (i : Int) : (rowOf es i).Perm (rowOf fs i) := List.Perm.flatMap_right _ h
theorem IsNear.perm {n : Nat} {es fs : List (Int × Int)} {N : List (List Int)} (h : IsNear n es N) (p : es.Perm fs) : IsNear n fs N := ⟨h.len, fun i hi => (h.row i hi).trans (rowOf_perm p i), h.asc⟩
theorem IsNear.uniq {n : Nat} {es : List (Int × Int)} {N M : List (List Int)} (h : IsNear n es N) (g : IsNear n es M) : N = M := by
  apply List.ext_getElem
  · rw [h.len, g.len]
  · intro i h1 h2
    have hi : i < n := by
      rw [← h.len]
      exact h1
    have a1 := h.row i hi
    have a2 := g.row i hi
    have b1 := h.asc i hi
    have b2 := g.asc i hi
    rw [List.getD_eq_getElem?_getD, List.getElem?_eq_getElem h1] at a1 b1
    rw [List.getD_eq_getElem?_getD, List.getElem?_eq_getElem h2] at a2 b2
    exact List.Perm.eq_of_pairwise (fun a b _ _ => Int.le_antisymm) b1 b2 (a1.trans a2.symm)
theorem rowOf_mem {n : Nat} {es : List (Int × Int)} (g : ∀ e ∈ es, 0 ≤ e.1 ∧ e.1 < e.2 ∧ e.2 < n) {i o : Int} (h : o ∈ rowOf es i) : 0 ≤ o ∧ o < n := by
  obtain ⟨e, he, h⟩ := List.mem_flatMap.mp h
  have z := g e he
  rcases List.mem_append.mp h with h | h
  · by_cases c : e.1 = i
    · rw [if_pos c, List.mem_singleton] at h
      omega
    · rw [if_neg c] at h
      simp at h
  · by_cases c : e.2 = i
    · rw [if_pos c, List.mem_singleton] at h
      omega
    · rw [if_neg c] at h
      simp at h
theorem IsNear.wf {n : Nat} {es : List (Int × Int)} {N : List (List Int)} (h : IsNear n es N) (g : ∀ e ∈ es, 0 ≤ e.1 ∧ e.1 < e.2 ∧ e.2 < n) : WF N := by
  intro i hi o ho
  rw [h.len] at hi ⊢
  exact rowOf_mem g ((h.row i hi).mem_iff.mp ho)
theorem rowOf_len : ∀ (es : List (Int × Int)) (i : Int), (rowOf es i).length ≤ 2 * es.length
  | [], _ => by simp [rowOf]
  | e :: es, i => by
    have z := rowOf_len es i
    have q : rowOf (e :: es) i = ((if e.1 = i then [e.2] else []) ++ (if e.2 = i then [e.1] else [])) ++ rowOf es i := rfl
    have q1 : (if e.1 = i then [e.2] else []).length ≤ 1 := by split <;> simp
    have q2 : (if e.2 = i then [e.1] else []).length ≤ 1 := by split <;> simp
    rw [q, List.length_append, List.length_append, List.length_cons]
    omega
theorem rowOf_more {es : List (Int × Int)} {k : Nat} {e : Int × Int} (h : es[k]? = some e) (i : Int) :
    rowOf (es.take (k + 1)) i = rowOf (es.take k) i ++ ((if e.1 = i then [e.2] else []) ++ (if e.2 = i then [e.1] else [])) := by
  rw [takeMore h]
  unfold rowOf
  rw [List.flatMap_append, List.flatMap_cons, List.flatMap_nil, List.append_nil]
/-- rows that grow -/
def Grow (H : Hp) (rs : List Addr) (n : Nat) (es : List (Int × Int)) : Prop := rs.length = n ∧ rs.Nodup ∧ ∀ (k : Nat) (r : Addr), rs[k]? = some r → H r = some (.lst ((rowOf es (k : Int)).map V.int))
theorem nodupAt {rs : List Addr} (h : rs.Nodup) {i j : Nat} {r s : Addr} (hi : rs[i]? = some r) (hj : rs[j]? = some s) (ne : i ≠ j) : r ≠ s := by
  intro e
  subst e
  obtain ⟨a1, a2⟩ := List.getElem?_eq_some_iff.mp hi
  obtain ⟨b1, b2⟩ := List.getElem?_eq_some_iff.mp hj
  exact ne ((List.getElem_inj h).mp (a2.trans b2.symm))
/-- lists that are new behind H: they stay whatever becomes of H's own objects -/
def NewN (H H' : Hp) (q : Addr) (N : List (List Int)) : Prop := ∀ H'', (∀ b o, H b = none → H' b = some o → H'' b = some o) → NAt H'' q N
theorem NewN.at {H H' : Hp} {q : Addr} {N : List (List Int)} (h : NewN H H' q N) : NAt H' q N := h H' fun _ _ _ e => e
def spNear (K : PySem.W.Frag) : Sp := fun vs H Q _ => ∃ (n : Nat) (p : Addr) (es : List (Int × Int)), vs = [.int n, .ref p] ∧ EdgesAt H p es ∧ GoodE n es ∧ n ≤ 1000 ∧
  ∀ q H' N, H q = none → Same H H' → NewN H H' q N → IsNear n es N → Q (.ref q) H'
theorem Grow.at {H : Hp} {rs : List Addr} {n : Nat} {es : List (Int × Int)} (h : Grow H rs n es) {i : Int} (h0 : 0 ≤ i) (hi : i < n) : ∃ r, rs[i.toNat]? = some r ∧ atI (rs.map V.ref) i = some (.ref r) ∧ H r = some (.lst ((rowOf es i).map V.int)) := by
  have hl : i.toNat < rs.length := by
    rw [h.1]
    omega
  refine ⟨rs[i.toNat], List.getElem?_eq_getElem hl, ?_, ?_⟩
  · have z : (rs.map V.ref)[i.toNat]? = some (V.ref rs[i.toNat]) := by
      rw [List.getElem?_map, List.getElem?_eq_getElem hl]
      rfl
    have q := atI_nat z
    rwa [show ((i.toNat : Nat) : Int) = i by omega] at q
  · have z := h.2.2 i.toNat _ (List.getElem?_eq_getElem hl)
    rwa [show ((i.toNat : Nat) : Int) = i by omega] at z
/-- one edge more -/
theorem Grow.more {H : Hp} {rs : List Addr} {n : Nat} {es : List (Int × Int)} {k : Nat} {e : Int × Int} {r1 r2 : Addr} (h : Grow H rs n (es.take k)) (he : es[k]? = some e) (g : 0 ≤ e.1 ∧ e.1 < e.2 ∧ e.2 < n)
    (h1 : rs[e.1.toNat]? = some r1) (h2 : rs[e.2.toNat]? = some r2) :
    Grow (upd (upd H r1 (.lst ((rowOf (es.take k) e.1).map V.int ++ [V.int e.2]))) r2 (.lst ((rowOf (es.take k) e.2).map V.int ++ [V.int e.1]))) rs n (es.take (k + 1)) := by
  refine ⟨h.1, h.2.1, fun j r hj => ?_⟩
  have hne : e.2.toNat ≠ e.1.toNat := by omega
  rw [rowOf_more he]
  by_cases c2 : j = e.2.toNat
  · subst c2
    obtain rfl : r2 = r := Option.some.inj (h2.symm.trans hj)
    have z1 : ((e.2.toNat : Nat) : Int) = e.2 := by omega
    rw [upd_same, z1, if_neg (by omega), if_pos rfl, List.nil_append, List.map_append]
    rfl
  · rw [upd_ne (nodupAt h.2.1 hj h2 c2)]
    by_cases c1 : j = e.1.toNat
    · subst c1
      obtain rfl : r1 = r := Option.some.inj (h1.symm.trans hj)
      have z1 : ((e.1.toNat : Nat) : Int) = e.1 := by omega
      rw [upd_same, z1, if_pos rfl, if_neg (by omega), List.append_nil, List.map_append]
      rfl
    · rw [upd_ne (nodupAt h.2.1 hj h1 c1), h.2.2 j r hj, if_neg (by omega), if_neg (by omega), List.append_nil, List.append_nil]
theorem getDl {α : Type} {L : List α} {x d : α} {k : Nat} (h : k < L.length) : (L ++ [x]).getD k d = L.getD k d := by
  rw [List.getD_eq_getElem?_getD, List.getD_eq_getElem?_getD, List.getElem?_append_left h]
theorem getDe {α : Type} {L : List α} {x d : α} {k : Nat} (h : k = L.length) : (L ++ [x]).getD k d = x := by
  subst h
  rw [List.getD_eq_getElem?_getD, List.getElem?_append_right (Nat.le_refl _), Nat.sub_self]
  rfl
section
variable {P : Program} {w : World} {K : PySem.W.Frag} {mg : Str → Option Value} {base : Heap} {CG : Addr}
theorem sc_near : FnScope ["size", "edges", "near", "one", "two", "node", "nodes"] ["size", "edges"] (defScope s_neighbour_lists) := ⟨rfl, rfl, rfl, by decide +kernel, rfl, by decide +kernel, by decide +kernel⟩
theorem ok_near {f : Addr} {fd : FuncData} (F : Fun K "neighbour_lists" "neighbour_lists" s_neighbour_lists f fd) (M : Nms mg) : FnOk P w K mg base CX0 1 f fd ["size", "edges"] (spNear K) := by
  refine F.ok sc_near (fun vs H Q E h => ?_) (fun cdv A outer s H vs Q E hr h => ?_)
  · obtain ⟨n, p, es, rfl, _⟩ := h
    rfl
  · obtain ⟨n, p, es, rfl, hp, ge, hn, k⟩ := h
    refine ⟨_, pss_cons (ps_setLc (i := 2) (own := [("node", 5)]) (g := gName 5) (tt := tYes) (by rfl) sc_near.nd rfl rfl (sw_true rfl rfl rfl (by decide +kernel))
      (pi_range1 rfl M.range (pa_cons (pv 0) pa_nil))
      (blkOk_by (own := [("node", 5)]) (N := ["size", "edges", "near", "one", "two", "node", "nodes"]) (sc := defScope s_neighbour_lists) (by decide +kernel))
      (fun _ _ _ _ _ => pg_name (i := 5) sc_near.nd rfl (Or.inl rfl)) (fun _ _ _ _ _ => pts_nil)
      (fun _ _ _ _ _ => pe_lst pa_nil))
      (pss_cons (ps_for PassesOwn.never rfl (pi_list (pv 1)) (pg_tup rfl (pgs_cons (pg_name (i := 3) sc_near.nd rfl (Or.inl rfl)) (pgs_cons (pg_name (i := 4) sc_near.nd rfl (Or.inl rfl)) pgs_nil)))
        (pss_cons (ps_expr (pe_bm PySem.F.plainAttrs_list PySem.F.slot_list_append PySem.F.type_list_append mt_append (pe_ix ix_list (pv 2) (pv 3) (fun _ _ => rfl)) (pa_cons (pv 4) pa_nil)))
        (pss_one (ps_expr (pe_bm PySem.F.plainAttrs_list PySem.F.slot_list_append PySem.F.type_list_append mt_append (pe_ix ix_list (pv 2) (pv 4) (fun _ _ => rfl)) (pa_cons (pv 3) pa_nil))))))
      (pss_one (ps_ret (pe_lc (own := [("nodes", 6)]) (g := gName 6) (tt := tYes) rfl sc_near.nd (pi_list (pv 2))
      (blkOk_by (own := [("nodes", 6)]) (N := ["size", "edges", "near", "one", "two", "node", "nodes"]) (sc := defScope s_neighbour_lists) (by decide +kernel))
      (fun _ _ _ _ _ => pg_name (i := 6) sc_near.nd rfl (Or.inl rfl)) (fun _ _ _ _ _ => pts_nil)
      (fun _ _ _ _ _ => pe_callB (show CallR _ (.builtin "sorted") (rSortedI K) from cr_sortedI) (by rfl) M.sorted boot_sorted1 (pa_cons (pv 6) pa_nil)))))), ?_⟩
    obtain ⟨ts, h1, h2⟩ := id hp
    refine ⟨_, rfl, n, rfl, by omega, by omega, fun D hD => ?_⟩
    refine lc_range (lo := 0) (fun i H' => Same H H' ∧ ∃ rs : List Addr, H' D = some (.lst (rs.map V.ref)) ∧ D ∉ rs ∧ (∀ r ∈ rs, H r = none) ∧ Grow H' rs i []) ⟨same_upd hD, [], upd_same, by simp, by simp, rfl, by simp, fun k r e => by simp at e⟩ (fun i H' hi h => ?_) (fun H' h => ?_)
    · obtain ⟨sm, rs, e1, e2, e3, e4⟩ := h
      refine ⟨rfl, ?_⟩
      refine ⟨by show 0 ≤ sizeLine; decide, fun p np => ?_⟩
      have hpD : D ≠ p := ne_of_none e1 np
      refine ⟨_, by rw [upd_ne hpD]; exact e1, by rw [List.length_map, e4.1, sizeLine_eq]; omega, fun b o z => ?_, rs ++ [p], by rw [upd_same, List.map_append]; rfl, ?_, fun r hr' => ?_, ?_⟩
      · rw [upd_ne (ne_of_none z hD), upd_ne (ne_of_none (sm _ _ z) np)]
        exact sm _ _ z
      · intro z
        rcases List.mem_append.mp z with z | z
        · exact e2 z
        · exact hpD (List.mem_singleton.mp z)
      · rcases List.mem_append.mp hr' with z | z
        · exact e3 r z
        · rw [List.mem_singleton.mp z]
          exact sm.free np
      · refine ⟨by rw [List.length_append, e4.1]; rfl, ?_, fun k r hk => ?_⟩
        · refine List.nodup_append.mpr ⟨e4.2.1, by simp, fun a ha b hb => ?_⟩
          rw [List.mem_singleton] at hb
          subst hb
          obtain ⟨k, hk, he⟩ := List.mem_iff_getElem.mp ha
          intro q
          subst q
          have z := e4.2.2 k _ (by rw [List.getElem?_eq_getElem hk, he])
          rw [np] at z
          cases z
        · by_cases hlt : k < rs.length
          · rw [List.getElem?_append_left hlt] at hk
            have z := e4.2.2 k r hk
            have nD : r ≠ D := fun q => e2 (q ▸ List.mem_of_getElem? hk)
            rw [upd_ne nD, upd_ne (ne_of_none z np)]
            exact z
          · rw [List.getElem?_append_right (by omega)] at hk
            have hk' : k = rs.length := by
              have := (List.getElem?_eq_some_iff.mp hk).1
              simp at this
              omega
            subst hk'
            rw [Nat.sub_self] at hk
            obtain rfl : p = r := Option.some.inj hk
            rw [upd_ne hpD.symm, upd_same]
            rfl
    · obtain ⟨sm, rs, e1, e2, e3, e4⟩ := h
      refine ⟨_, rfl, p, rfl, ⟨_, SqL.of (sm _ _ h1)⟩, for_list (K := K) (a := p) (xs := ts.map V.ref) (fun i σ H' => ∃ (o3 o4 : Option V), σ = [some (.int n), some (.ref p), some (.ref D), o3, o4, none, none] ∧
        Same H H' ∧ H' D = some (.lst (rs.map V.ref)) ∧ Grow H' rs n (es.take i)) ⟨none, none, rfl, sm, e1, e4⟩ (fun i σ H' _ h => ?_) (fun i y σ H' hi h => ?_) (fun σ H' h => ?_)⟩
      · obtain ⟨_, _, _, sm, _, _⟩ := h
        exact SqL.of (sm _ _ h1)
      · obtain ⟨o3, o4, rfl, sm, e1, e4⟩ := h
        obtain ⟨t, ht, rfl⟩ := refAt hi
        obtain ⟨e, he, hte⟩ := h2.2 i t ht
        have good := ge.node e (List.mem_of_getElem? he)
        have few := ge.few
        have hte' := sm _ _ hte
        have lt := (List.getElem?_eq_some_iff.mp he).1
        obtain ⟨r1, q1, a1, b1⟩ := e4.at (i := e.1) good.1 (by omega)
        obtain ⟨r2, q2, a2, b2⟩ := e4.at (i := e.2) (by omega) good.2.2
        have n12 : r2 ≠ r1 := nodupAt e4.2.1 q2 q1 (by omega)
        have l1 := rowOf_len (es.take i) e.1
        have l2 := rowOf_len (es.take i) e.2
        rw [List.length_take] at l1 l2
        have fr1 := e3 r1 (List.mem_of_getElem? q1)
        have fr2 := e3 r2 (List.mem_of_getElem? q2)
        have nD1 : D ≠ r1 := fun q => e2 (q ▸ List.mem_of_getElem? q1)
        have nD2 : D ≠ r2 := fun q => e2 (q ▸ List.mem_of_getElem? q2)
        refine ⟨t, _, rfl, SqT.of hte', rfl, _, _, rfl, _, _, rfl, rfl, ?_⟩
        refine ⟨_, rfl, _, rfl, D, _, e.1, _, rfl, rfl, SqL.of e1, a1, .inl ⟨rfl, _, SqL.of b1⟩, _, rfl, r1, _, _, rfl, rfl, b1, by rw [List.length_map, sizeLine_eq]; omega, ?_⟩
        have e1' : (upd H' r1 (.lst ((rowOf (es.take i) e.1).map V.int ++ [V.int e.2]))) D = some (.lst (rs.map V.ref)) := by
          rw [upd_ne nD1]
          exact e1
        have b2' : (upd H' r1 (.lst ((rowOf (es.take i) e.1).map V.int ++ [V.int e.2]))) r2 = some (.lst ((rowOf (es.take i) e.2).map V.int)) := by
          rw [upd_ne n12]
          exact b2
        refine ⟨_, rfl, _, rfl, D, _, e.2, _, rfl, rfl, SqL.of e1', a2, .inl ⟨rfl, _, SqL.of b2'⟩, _, rfl, r2, _, _, rfl, rfl, b2', by rw [List.length_map, sizeLine_eq]; omega, ?_⟩
        refine ⟨_, _, rfl, fun b o z => ?_, ?_, e4.more he good q1 q2⟩
        · rw [upd_ne (ne_of_none z fr2), upd_ne (ne_of_none z fr1)]
          exact sm _ _ z
        · rw [upd_ne nD2]
          exact e1'
      · obtain ⟨o3, o4, rfl, sm, e1, e4⟩ := h
        rw [List.length_map, h2.1, List.take_length] at e4
        refine ⟨_, rfl, D, rfl, ⟨_, SqL.of e1⟩, fun q nq => ?_⟩
        have qD : D ≠ q := ne_of_none e1 nq
        have fqH : H q = none := sm.free nq
        refine lc_list (K := K) (a := D) (xs := rs.map V.ref) (fun i H'' => Same H' H'' ∧ ∃ (ps : List Addr) (L : List (List Int)), H'' q = some (.lst (ps.map V.ref)) ∧ ps.length = i ∧ L.length = i ∧
          (∀ (k : Nat) (r : Addr), ps[k]? = some r → r ≠ q ∧ H r = none ∧ H'' r = some (.lst ((L.getD k []).map V.int))) ∧ (∀ k : Nat, k < i → (L.getD k []).Perm (rowOf es k)) ∧ ∀ k : Nat, k < i → (L.getD k []).Pairwise (· ≤ ·))
          ⟨same_upd nq, [], [], upd_same, rfl, rfl, fun k r e => by simp at e, fun k e => by omega, fun k e => by omega⟩ (fun i H'' _ h => SqL.of (h.1 _ _ e1)) (fun i x H'' hi h => ?_) (fun H'' h => ?_)
        · obtain ⟨sm2, ps, L, f1, f2, f3, f4, f5, f6⟩ := h
          obtain ⟨r, hr', rfl⟩ := refAt hi
          have hb := e4.2.2 i r hr'
          have hlt : i < n := by
            rw [← e4.1]
            exact (List.getElem?_eq_some_iff.mp hr').1
          refine ⟨rfl, ?_⟩
          refine ⟨_, rfl, r, _, rfl, SqL.of (sm2 _ _ hb), fun ns' t hperm hasc nt => ?_⟩
          have tq : q ≠ t := ne_of_none f1 nt
          refine ⟨_, by rw [upd_ne tq]; exact f1, by rw [List.length_map, f2, sizeLine_eq]; omega, fun b o z => ?_, ps ++ [t], L ++ [ns'], by rw [upd_same, List.map_append]; rfl, by rw [List.length_append, f2]; rfl, by rw [List.length_append, f3]; rfl, fun k r' hk => ?_, fun k hk => ?_, fun k hk => ?_⟩
          · rw [upd_ne (ne_of_none z nq), upd_ne (ne_of_none (sm2 _ _ z) nt)]
            exact sm2 _ _ z
          · by_cases hl : k < ps.length
            · rw [List.getElem?_append_left hl] at hk
              obtain ⟨z1, z0, z2⟩ := f4 k r' hk
              rw [upd_ne z1, upd_ne (ne_of_none z2 nt), getDl (by omega)]
              exact ⟨z1, z0, z2⟩
            · rw [List.getElem?_append_right (by omega)] at hk
              have hk' : k = ps.length := by
                have := (List.getElem?_eq_some_iff.mp hk).1
                simp at this
                omega
              subst hk'
              rw [Nat.sub_self] at hk
              obtain rfl : t = r' := Option.some.inj hk
              rw [upd_ne tq.symm, upd_same, getDe (by omega)]
              exact ⟨tq.symm, sm.free (sm2.free nt), rfl⟩
          · by_cases c : k < i
            · rw [getDl (by omega)]
              exact f5 k c
            · rw [getDe (by omega), show k = i by omega]
              exact hperm
          · by_cases c : k < i
            · rw [getDl (by omega)]
              exact f6 k c
            · rw [getDe (by omega)]
              exact hasc
        · obtain ⟨sm2, ps, L, f1, f2, f3, f4, f5, f6⟩ := h
          rw [List.length_map, e4.1] at f2 f3 f5 f6
          exact k q H'' L fqH (sm.trans sm2) (fun H3 h3 => ⟨ps, h3 q _ fqH f1, by omega, fun k r e => h3 r _ (f4 k r e).2.1 (f4 k r e).2.2⟩) ⟨f3, f5, f6⟩
end

/-! ## Graph.__init__ -/
theorem eqPair (e f : Int × Int) : PyData.eqv (pairD e) (pairD f) = decide (e = f) := eqvPair e f
theorem GoodE.perm {n : Nat} {es fs : List (Int × Int)} (h : GoodE n es) (p : fs.Perm es) : GoodE n fs := ⟨fun e he => h.node e (p.mem_iff.mp he), (p.nodup_iff).mpr h.once, by rw [p.length_eq]; exact h.few⟩
def spGInit (CG : Addr) : Sp := fun vs H Q _ => ∃ (x dx p : Addr) (n : Nat) (es : List (Int × Int)), vs = [.ref x, .int n, .ref p] ∧ H x = some (.ins CG dx []) ∧ EdgesAt H p es ∧ GoodE n es ∧ 1 ≤ n ∧ n ≤ 16 ∧
  ∀ H' N j nr, (∀ b o, b ≠ x → H b = some o → H' b = some o) → H' x = some (.ins CG dx (gflds (N.length : Int) j nr)) → NewN H H' nr N → IsNear n es N → (∃ es', EdgesAt H' j es' ∧ es'.Perm es) → Q .non H'
section
variable {P : Program} {w : World} {K : PySem.W.Frag} {mg : Str → Option Value} {base : Heap} {CG : Addr}
theorem sc_ginit : FnScope ["self", "size", "edges", "joined"] ["self", "size", "edges"] (defScope s_Graph_init) := ⟨rfl, rfl, rfl, by decide +kernel, rfl, by decide +kernel, by decide +kernel⟩
theorem ok_ginit {f : Addr} {fd : FuncData} {dvs : List V} {kws : List (Str × V)} (F : FunD K "__init__" "Graph.__init__" (defArgs s_Graph_init) (defBody s_Graph_init) (defScope s_Graph_init) dvs kws f fd) (T : GTxt K mg CG) (M : Nms mg)
    {t16 t40 : Tok} (m16 : mg "MOST_NODES" = some (.int 16 t16)) (m40 : mg "MOST_EDGES" = some (.int 40 t40))
    (GW : At P w K mg base CX0 2 "is_integer_within" ["thing", "low", "high"] (spWithin K)) (GE : At P w K mg base CX0 5 "checked_edges" ["size", "edges"] (spEdges K)) (GN : At P w K mg base CX0 1 "neighbour_lists" ["size", "edges"] (spNear K)) :
    FnOk P w K mg base CX0 6 f fd ["self", "size", "edges"] (spGInit CG) := by
  obtain ⟨gw, gwd, GW, mW, kW, bW⟩ := GW
  obtain ⟨ge, ged, GE, mE, kE, bE⟩ := GE
  obtain ⟨gn, gnd, GN, mN, kN, bN⟩ := GN
  refine F.ok sc_ginit (fun vs H Q E h => ?_) (fun cdv A outer s H vs Q E hr h => ?_)
  · obtain ⟨x, dx, p, n, es, rfl, _⟩ := h
    rfl
  · obtain ⟨x, dx, p, n, es, rfl, hx, hp, good, n1, n16, k⟩ := h
    have hr2 : Room 2 _ := hr.mono (by decide)
    have hr1 : Room 1 _ := hr.mono (by decide)
    refine ⟨_, pss_cons (ps_if (pt_not (pt_val (pe_call GW hr2 (by rfl) mW kW bW .nil pass0 (pa_cons (pv 1) (pa_cons pe_int (pa_cons (pe_glob (v := .int 16) (by rfl) m16 ⟨_, rfl⟩) pa_nil)))))) (pss_one ps_never) pss_nil)
      (pss_cons (ps_set (i := 3) sc_ginit.nd rfl (Or.inl rfl) (pe_call GE hr (by rfl) mE kE bE .nil pass0 (pa_cons (pv 1) (pa_cons (pv 2) pa_nil))))
      (pss_cons (ps_if (pt_cmpR op_gt (pe_callB call_len_seq (by rfl) M.len boot_len1 (pa_cons (pv 3) pa_nil)) (pe_glob (v := .int 40) (by rfl) m40 ⟨_, rfl⟩) (nomark _)) (pss_one ps_never) pss_nil)
      (pss_cons (ps_fld (pv 0) (pv 1) rfl)
      (pss_cons (ps_fld (pv 0) (pv 3) rfl)
      (pss_one (ps_fld (pv 0) (pe_call GN hr1 (by rfl) mN kN bN .nil pass0 (pa_cons (pv 1) (pa_cons (pv 3) pa_nil))) rfl)))))), ?_⟩
    refine ⟨_, rfl, .int n, .int n, 1, 16, rfl, .dat (.int n), _, rfl, ?_⟩
    have hw : within 1 16 (.int (n : Int)) = true := by
      show (decide ((1 : Int) ≤ n) && decide ((n : Int) ≤ 16)) = true
      rw [decide_eq_true (by omega), decide_eq_true (by omega)]
      rfl
    rw [hw]
    refine iteF ?_
    refine ⟨_, rfl, _, rfl, n, p, es, rfl, hp, good, fun q H1 es1 nq s1 hq pe => ?_⟩
    have good1 := good.perm pe
    obtain ⟨ts, h1, h2⟩ := id hq
    refine ⟨_, rfl, q, _, rfl, .inl (SqL.of h1), _, _, rfl, rfl, _, rfl, ?_⟩
    have few := good1.few
    rw [decide_eq_false (by rw [List.length_map, h2.1]; omega)]
    refine iteF ?_
    have nxq : q ≠ x := (ne_of_none hx nq).symm
    refine ⟨_, rfl, _, rfl, x, CG, dx, _, rfl, s1 _ _ hx, T.cl, T.n1, by decide, ?_⟩
    refine ⟨_, rfl, _, rfl, x, CG, dx, _, rfl, upd_same, T.cl, T.n2, (by show 1 < 1000; decide), ?_⟩
    have hx1 := s1 _ _ hx
    have tx : ∀ (k : Nat) (t : Addr), ts[k]? = some t → t ≠ x := fun k t e => by
      obtain ⟨z, _, q2⟩ := h2.2 k t e
      exact ne_of q2 hx1 (by intro y; cases y)
    refine ⟨_, rfl, _, rfl, n, q, es1, rfl, ?_, good1, by omega, fun r H2 N nr s2 hN near => ?_⟩
    · exact ⟨ts, by rw [upd_ne nxq, upd_ne nxq]; exact h1, h2.1, fun k t e => by
        obtain ⟨z, q1, q2⟩ := h2.2 k t e
        exact ⟨z, q1, by rw [upd_ne (tx k t e), upd_ne (tx k t e)]; exact q2⟩⟩
    have hx2 := s2 _ _ (upd_same (H := upd H1 x (.ins CG dx (putF "node_count" (.int n) []))) (a := x) (o := .ins CG dx (putF "joined" (.ref q) (putF "node_count" (.int n) []))))
    refine ⟨_, rfl, x, CG, dx, _, rfl, hx2, T.cl, T.n3, (by show 2 < 1000; decide), ?_⟩
    have up : ∀ b o, b ≠ x → H1 b = some o → H2 b = some o := fun b o hb e => s2 _ _ (by rw [upd_ne hb, upd_ne hb]; exact e)
    refine k _ N q r (fun b o hb e => ?_) ?_ ?_ (near.perm pe) ⟨es1, ⟨ts, ?_, h2.1, fun k t e => ?_⟩, pe⟩
    · rw [upd_ne hb]
      exact up b o hb (s1 _ _ e)
    · rw [upd_same, near.len]
      rfl
    · intro H3 h3
      refine hN H3 fun b o hb e => ?_
      have bx : b ≠ x := fun z => by
        rw [z, upd_same] at hb
        cases hb
      rw [upd_ne bx, upd_ne bx] at hb
      exact h3 b o (s1.free hb) (by rw [upd_ne bx]; exact e)
    · rw [upd_ne nxq]
      exact up q _ nxq h1
    · obtain ⟨z, q1, q2⟩ := h2.2 k t e
      exact ⟨z, q1, by rw [upd_ne (tx k t e)]; exact up t _ (tx k t e) q2⟩
end

end K01

set_option Elab.async false
set_option linter.all false
set_option maxRecDepth 100000
set_option maxHeartbeats 8000000
namespace K01
open PySem PySem.Spec PyProof.Rows L2 FNX
/-! ## A new object -/
theorem newAt {H : Hp} {a : Addr} (o : HO) (h : H a = none) : ∃ H1, upd H a o = H1 ∧ Same H H1 ∧ H1 a = some o := ⟨_, rfl, same_upd h, upd_same⟩
theorem eqvSame {d : PyData} (h : SeqAt.shaped d = true) : PyData.eqv d d = true := SeqAt.eqv_refl d (SeqAt.canLay_of_shaped h)
theorem boot_repr1 : bootBuiltins "repr" = some (.builtin "repr") := by decide +kernel
theorem layInts : ∀ es : List Int, PyData.canLayAll0 (es.map PyData.int) = true
  | [] => rfl
  | _ :: es => by
    show (true && PyData.canLayAll0 (es.map PyData.int)) = true
    rw [layInts es]
    rfl
theorem depInts : ∀ es : List Int, PyData.depthAll (es.map PyData.int) ≤ 0
  | [] => by decide
  | _ :: es => by
    show max 0 (PyData.depthAll (es.map PyData.int)) ≤ 0
    have z := depInts es
    omega
theorem shapedInts (es : List Int) : SeqAt.shaped (.list (es.map PyData.int)) = true := by
  unfold SeqAt.shaped
  have e1 : PyData.canLay0 (.list (es.map PyData.int)) = true := layInts es
  have e2 : PyData.depth (.list (es.map PyData.int)) ≤ 64 := by
    show PyData.depthAll (es.map PyData.int) + 1 ≤ 64
    have z := depInts es
    omega
  rw [e1, decide_eq_true e2]
  rfl

/-! ## The law's own edges -/
/-- all but the object at p stays -/
def SameX (p : Addr) (H H' : Hp) : Prop := ∀ b o, b ≠ p → H b = some o → H' b = some o
theorem SameX.trans {p : Addr} {H H1 H2 : Hp} (a : SameX p H H1) (b : SameX p H1 H2) : SameX p H H2 := fun c o n e => b c o n (a c o n e)
theorem Same.x {p : Addr} {H H1 : Hp} (a : Same H H1) : SameX p H H1 := fun c o _ e => a c o e
theorem sameX_take {p : Addr} {H H' : Hp} (h : ∀ b, b ≠ p → H' b = H b) : SameX p H H' := fun b o n e => (h b n).trans e
theorem SameX.free {p q : Addr} {H H' : Hp} (a : SameX p H H') (h : PoolAt H p) (n : H' q = none) (hp : PoolAt H' p) : H q = none := by
  cases e : H q with
  | none => rfl
  | some o =>
    have z : q ≠ p := fun c => by
      obtain ⟨_, _, z, _⟩ := hp
      rw [← c, n] at z
      cases z
    rw [a q o z e] at n
    cases n
theorem PoolAt.same {p : Addr} {H H' : Hp} (h : PoolAt H p) (s : Same H H') : PoolAt H' p := by
  obtain ⟨c, d, z, r⟩ := h
  exact ⟨c, d, s _ _ z, r⟩
theorem PoolAt.ne {p q : Addr} {H : Hp} (h : PoolAt H p) (n : H q = none) : p ≠ q := by
  obtain ⟨_, _, z, _⟩ := h
  exact ne_of_none z n
theorem TupsAt.sameX {p : Addr} {H H' : Hp} {ts : List Addr} {es : List (Int × Int)} (h : TupsAt H ts es) (hp : PoolAt H p) (s : SameX p H H') : TupsAt H' ts es := ⟨h.1, fun k t e => by
  obtain ⟨x, h1, h2⟩ := h.2 k t e
  obtain ⟨_, _, z, _⟩ := hp
  exact ⟨x, h1, s _ _ (ne_of h2 z (by intro y; cases y)) h2⟩⟩
theorem TupsAt.push {H : Hp} {ts : List Addr} {es : List (Int × Int)} {t : Addr} {e : Int × Int} (h : TupsAt H ts es) (ht : H t = some (.tup [.int e.1, .int e.2])) : TupsAt H (ts ++ [t]) (es ++ [e]) := by
  refine ⟨by rw [List.length_append, List.length_append, h.1]; rfl, fun k t' hk => ?_⟩
  by_cases hl : k < ts.length
  · rw [List.getElem?_append_left hl] at hk
    obtain ⟨x, q1, q2⟩ := h.2 k t' hk
    exact ⟨x, by rw [List.getElem?_append_left (by rw [← h.1]; exact hl)]; exact q1, q2⟩
  · rw [List.getElem?_append_right (by omega)] at hk
    have hk' : k = ts.length := by
      have z := (List.getElem?_eq_some_iff.mp hk).1
      simp at z
      omega
    subst hk'
    rw [Nat.sub_self] at hk
    obtain rfl : t = t' := Option.some.inj hk
    refine ⟨e, ?_, ht⟩
    rw [h.1, List.getElem?_append_right (Nat.le_refl _), Nat.sub_self]
    rfl
def spJoins : Sp := fun vs H Q _ => ∃ (p : Addr) (n m : Nat), vs = [.ref p, .int n, .int m] ∧ PoolAt H p ∧ 1 ≤ n ∧ n ≤ 1000 ∧ m ≤ 40 ∧
  ∀ q H' es, H q = none → SameX p H H' → PoolAt H' p → EdgesAt H' q es → GoodE n es → Q (.ref q) H'
section
variable {P : Program} {w : World} {K : PySem.W.Frag} {mg : Str → Option Value} {base : Heap} {CG : Addr}
theorem sc_joins : FnScope ["_law_pool_here", "_law_many_here", "_law_limit", "_law_found", "_law_turn", "_law_one", "_law_two"] ["_law_pool_here", "_law_many_here", "_law_limit"] (defScope s__law_joins) := ⟨rfl, rfl, rfl, by decide +kernel, rfl, by decide +kernel, by decide +kernel⟩
theorem ok_joins {f : Addr} {fd : FuncData} (F : Fun K "_law_joins" "_law_joins" s__law_joins f fd) (M : Nms mg) (G : At P w K mg base CX0 1 "_law_take" ["_law_pool_here", "_law_sides"] spTake) :
    FnOk P w K mg base CX0 2 f fd ["_law_pool_here", "_law_many_here", "_law_limit"] spJoins := by
  obtain ⟨c, cd, G, mG, kG, bG⟩ := G
  refine F.ok sc_joins (fun vs H Q E h => ?_) (fun cdv A outer s H vs Q E hr h => ?_)
  · obtain ⟨p, n, m, rfl, _⟩ := h
    rfl
  · obtain ⟨p, n, m, rfl, hp, n1, n2, m1, k⟩ := h
    have hu65 : A.units + 3 + 65 < cLine := by
      have := hr.un
      show A.units + 3 + 65 < _
      have z : A.units + 3 + 16 * 1 + 200 < cLine := this
      omega
    refine ⟨_, pss_cons (ps_set (i := 3) sc_joins.nd rfl (Or.inl rfl) (pe_lst pa_nil))
      (pss_cons (ps_for PassesOwn.never rfl (pi_range1 rfl M.range (pa_cons (pe_call G hr (by rfl) mG kG bG .nil pass0 (pa_cons (pv 0) (pa_cons (pe_op op_add (pv 2) pe_int) pa_nil))) pa_nil)) (pg_name (i := 4) sc_joins.nd rfl (Or.inl rfl))
        (pss_cons (ps_par (i := 5) (j := 6) (by rfl) sc_joins.nd rfl rfl (by decide) rfl rfl (pa_cons (pe_call G hr (by rfl) mG kG bG .nil pass0 (pa_cons (pv 0) (pa_cons (pv 1) pa_nil))) (pa_cons (pe_call G hr (by rfl) mG kG bG .nil pass0 (pa_cons (pv 0) (pa_cons (pv 1) pa_nil))) pa_nil)) (by rfl))
        (pss_one (ps_if (PW.pt (pw_and (pt_cmpR op_ne (pv 5) (pv 6) (nomark _)) (pw_and1 (pt_cmpR (op_notInD hu65) (pe_tup (pa_cons (pe_callB (call_min2 rfl) (by rfl) M.min boot_min1 (pa_cons (pv 5) (pa_cons (pv 6) pa_nil)))
            (pa_cons (pe_callB (call_max2 rfl) (by rfl) M.max boot_max1 (pa_cons (pv 5) (pa_cons (pv 6) pa_nil))) pa_nil))) (pv 3) (by rfl)))))
          (pss_one (ps_expr (pe_bm PySem.F.plainAttrs_list PySem.F.slot_list_append PySem.F.type_list_append mt_append (pv 3) (pa_cons (pe_tup (pa_cons (pe_callB (call_min2 rfl) (by rfl) M.min boot_min1 (pa_cons (pv 5) (pa_cons (pv 6) pa_nil)))
            (pa_cons (pe_callB (call_max2 rfl) (by rfl) M.max boot_max1 (pa_cons (pv 5) (pa_cons (pv 6) pa_nil))) pa_nil))) pa_nil)))) pss_nil))))
      (pss_one (ps_ret (pv 3)))), ?_⟩
    refine ⟨by show 0 ≤ sizeLine; decide, fun D nD => ?_⟩
    have pD := hp.ne nD
    refine ⟨_, rfl, _, rfl, _, _, rfl, rfl, p, _, rfl, hp.same (same_upd nD), by omega, by omega, fun r H1 r0 r1 hp1 s1 => ?_⟩
    have sx0 : SameX p H H1 := (Same.x (same_upd nD)).trans (sameX_take s1)
    have d1 : H1 D = some (.lst []) := by
      rw [s1 D pD.symm, upd_same]
    obtain ⟨m', rfl⟩ : ∃ m' : Nat, r = (m' : Int) := ⟨r.toNat, by omega⟩
    refine ⟨m', rfl, by omega, by omega, for_range (n := m') (fun i σ H' => ∃ (o4 o5 o6 : Option V) (ts : List Addr) (es : List (Int × Int)), σ = [some (.ref p), some (.int n), some (.int m), some (.ref D), o4, o5, o6] ∧
      SameX p H H' ∧ PoolAt H' p ∧ H' D = some (.lst (ts.map V.ref)) ∧ TupsAt H' ts es ∧ (∀ e ∈ es, 0 ≤ e.1 ∧ e.1 < e.2 ∧ e.2 < n) ∧ es.Nodup ∧ es.length ≤ i)
      ⟨none, none, none, [], [], rfl, sx0, hp1, d1, ⟨rfl, fun k t e => by simp at e⟩, by simp, by simp, by simp⟩ (fun i σ H' hi h => ?_) (fun σ H' h => ?_)⟩
    · obtain ⟨o4, o5, o6, ts, es, rfl, sx, hpp, hD, ht, g1, g2, g3⟩ := h
      refine ⟨_, rfl, _, rfl, p, _, rfl, hpp, by omega, by omega, fun a H2 a0 a1 hp2 s2 => ?_⟩
      refine ⟨_, rfl, _, rfl, p, _, rfl, hp2, by omega, by omega, fun b H3 b0 b1 hp3 s3 => ?_⟩
      have sx3 : SameX p H' H3 := (sameX_take s2).trans (sameX_take s3)
      have hD3 : H3 D = some (.lst (ts.map V.ref)) := sx3 D _ pD.symm hD
      have ht3 := ht.sameX hpp sx3
      have sxa := sx.trans sx3
      refine ⟨_, _, rfl, ?_⟩
      refine ⟨_, rfl, _, rfl, rfl, _, rfl, ?_⟩
      by_cases c : a = b
      · rw [decide_eq_true (congrArg V.int c)]
        exact iteF ⟨_, _, _, ts, es, rfl, sxa, hp3, hD3, ht3, g1, g2, by omega⟩
      have ne : decide (V.int a = V.int b) = false := decide_eq_false (fun z => by
        injection z with z
        exact c z)
      rw [ne]
      refine iteT ?_
      have em : (if b < a then b else a) = min a b := by
        split <;> omega
      have eM : (if b > a then b else a) = max a b := by
        split <;> omega
      refine ⟨_, rfl, _, rfl, a, b, rfl, _, rfl, _, rfl, a, b, rfl, by show 2 ≤ sizeLine; decide, fun T nT => ?_⟩
      rw [em, eM]
      have hDT := same_upd nT (o := .tup [V.int (min a b), V.int (max a b)]) _ _ hD3
      have htT := ht3.same (same_upd nT (o := .tup [V.int (min a b), V.int (max a b)]))
      have hpT := hp3.same (same_upd nT (o := .tup [V.int (min a b), V.int (max a b)]))
      have sxT : SameX p H (upd H3 T (.tup [V.int (min a b), V.int (max a b)])) := sxa.trans (Same.x (same_upd nT))
      refine ⟨_, rfl, pairD (min a b, max a b), es.map pairD, .tup (SqT.of upd_same) (.cons (.int _) (.cons (.int _) .nil)), .lst (SqL.of hDT) (dpTups htT), rfl, shapedPairs _, _, rfl, ?_⟩
      by_cases hm : (min a b, max a b) ∈ es
      · rw [anyPairT hm]
        exact iteF ⟨_, _, _, ts, es, rfl, sxT, hpT, hDT, htT, g1, g2, by omega⟩
      rw [anyPair hm]
      refine iteT ⟨_, rfl, .inl ⟨rfl, _, SqL.of hDT⟩, _, rfl, _, rfl, a, b, rfl, _, rfl, _, rfl, a, b, rfl, by show 2 ≤ sizeLine; decide, fun U nU => ?_⟩
      rw [em, eM]
      have hDU := same_upd nU (o := .tup [V.int (min a b), V.int (max a b)]) _ _ hDT
      have htU := htT.same (same_upd nU (o := .tup [V.int (min a b), V.int (max a b)]))
      have hpU := hpT.same (same_upd nU (o := .tup [V.int (min a b), V.int (max a b)]))
      have sxU := sxT.trans (Same.x (p := p) (same_upd nU (o := .tup [V.int (min a b), V.int (max a b)])))
      have hU : (upd (upd H3 T (.tup [V.int (min a b), V.int (max a b)])) U (.tup [V.int (min a b), V.int (max a b)])) U = some (.tup [V.int (min a b), V.int (max a b)]) := upd_same
      generalize upd (upd H3 T (.tup [V.int (min a b), V.int (max a b)])) U (.tup [V.int (min a b), V.int (max a b)]) = H5 at hDU htU hpU sxU hU ⊢
      refine ⟨D, _, _, rfl, rfl, hDU, by rw [List.length_map, htU.1, sizeLine_eq]; omega, ?_⟩
      have htP := htU.push (t := U) (e := (min a b, max a b)) hU
      refine ⟨_, _, _, ts ++ [U], es ++ [(min a b, max a b)], rfl, fun q o hq e => ?_, ?_, by rw [upd_same, List.map_append]; rfl, ⟨htP.1, fun k t hk => ?_⟩, fun e he => ?_, ?_, by rw [List.length_append]; show es.length + 1 ≤ _; omega⟩
      · have qD : q ≠ D := fun z => by
          rw [z, nD] at e
          cases e
        rw [upd_ne qD]
        exact sxU q o hq e
      · obtain ⟨c1, c2, z, y⟩ := hpU
        exact ⟨c1, c2, by rw [upd_ne pD]; exact z, y⟩
      · obtain ⟨x, q1, q2⟩ := htP.2 k t hk
        exact ⟨x, q1, by rw [upd_ne (ne_of q2 hDU (by intro y; cases y))]; exact q2⟩
      · rcases List.mem_append.mp he with he | he
        · exact g1 e he
        · rw [List.mem_singleton.mp he]
          show 0 ≤ min a b ∧ min a b < max a b ∧ max a b < n
          omega
      · refine List.nodup_append.mpr ⟨g2, by simp, fun x hx y hy => ?_⟩
        rw [List.mem_singleton.mp hy]
        exact fun z => hm (z ▸ hx)
    · obtain ⟨o4, o5, o6, ts, es, rfl, sx, hpp, hD, ht, g1, g2, g3⟩ := h
      exact ⟨_, rfl, k D H' es nD sx hpp ⟨ts, hD, ht⟩ ⟨g1, g2, by omega⟩⟩
end

/-! ## The law's own plays -/
/-- lists that stand still whatever becomes of the object at p -/
def NX (p : Addr) (H : Hp) (q : Addr) (N : List (List Int)) : Prop := ∀ H', SameX p H H' → NAt H' q N
theorem SameX.refl {p : Addr} {H : Hp} : SameX p H H := fun _ _ _ e => e
theorem NX.at {p q : Addr} {H : Hp} {N : List (List Int)} (h : NX p H q N) : NAt H q N := h H SameX.refl
theorem NX.same {p q : Addr} {H H' : Hp} {N : List (List Int)} (h : NX p H q N) (s : SameX p H H') : NX p H' q N := fun H2 s2 => h H2 (s.trans s2)
def spTurned (K : PySem.W.Frag) : Sp := fun vs H Q _ => ∃ (nr h : Addr) (N : List (List Int)) (x : List Int) (v : Int), vs = [.ref nr, .ref h, .int v] ∧ NAt H nr N ∧ WF N ∧ H h = some (.lst (x.map V.int)) ∧ x.length = N.length ∧ 0 ≤ v ∧ v < N.length ∧
  ∀ q H', H q = none → Same H H' → H' q = some (.lst ((flipL (N.getD v.toNat []) x v.toNat).map V.int)) → Q (.ref q) H'
def spSmall : Sp := fun vs H Q _ => ∃ (p : Addr) (n wd : Nat), vs = [.ref p, .int n, .int wd] ∧ PoolAt H p ∧ n ≤ 1000 ∧ wd ≤ 1000 ∧
  ∀ q H' (x : List Int), H q = none → SameX p H H' → PoolAt H' p → H' q = some (.lst (x.map V.int)) → x.length = n → (∀ o ∈ x, -(wd : Int) ≤ o ∧ o ≤ wd) → Q (.ref q) H'
def spLed (K : PySem.W.Frag) : Sp := fun vs H Q _ => ∃ (p nr h : Addr) (N : List (List Int)) (x : List Int), vs = [.ref p, .ref nr, .ref h] ∧ PoolAt H p ∧ NX p H nr N ∧ WF N ∧ H h = some (.lst (x.map V.int)) ∧ h ≠ p ∧ x.length = N.length ∧ N.length ≤ 1000 ∧
  ∀ q H' (vs : List Int), H q = none → SameX p H H' → PoolAt H' p → H' q = some (.lst (vs.map V.int)) → vs.length ≤ 12 → (∀ v ∈ vs, 0 ≤ v ∧ v < N.length) → Q (.ref q) H'
section
variable {P : Program} {w : World} {K : PySem.W.Frag} {mg : Str → Option Value} {base : Heap} {CG : Addr}
end

/-! ## The law's own lists of neighbours -/
section
variable {P : Program} {w : World} {K : PySem.W.Frag} {mg : Str → Option Value} {base : Heap} {CG : Addr}
theorem sc_lnear : FnScope ["_law_many_here", "_law_joins_here", "_law_found", "_law_one", "_law_two", "_law_node", "_law_row"] ["_law_many_here", "_law_joins_here"] (defScope s__law_near) := ⟨rfl, rfl, rfl, by decide +kernel, rfl, by decide +kernel, by decide +kernel⟩
theorem ok_lnear {f : Addr} {fd : FuncData} (F : Fun K "_law_near" "_law_near" s__law_near f fd) (M : Nms mg) : FnOk P w K mg base CX0 1 f fd ["_law_many_here", "_law_joins_here"] (spNear K) := by
  refine F.ok sc_lnear (fun vs H Q E h => ?_) (fun cdv A outer s H vs Q E hr h => ?_)
  · obtain ⟨n, p, es, rfl, _⟩ := h
    rfl
  · obtain ⟨n, p, es, rfl, hp, ge, hn, k⟩ := h
    refine ⟨_, pss_cons (ps_setLc (i := 2) (own := [("_law_node", 5)]) (g := gName 5) (tt := tYes) (by rfl) sc_lnear.nd rfl rfl (sw_true rfl rfl rfl (by decide +kernel))
      (pi_range1 rfl M.range (pa_cons (pv 0) pa_nil))
      (blkOk_by (own := [("_law_node", 5)]) (N := ["_law_many_here", "_law_joins_here", "_law_found", "_law_one", "_law_two", "_law_node", "_law_row"]) (sc := defScope s__law_near) (by decide +kernel))
      (fun _ _ _ _ _ => pg_name (i := 5) sc_lnear.nd rfl (Or.inl rfl)) (fun _ _ _ _ _ => pts_nil)
      (fun _ _ _ _ _ => pe_lst pa_nil))
      (pss_cons (ps_for PassesOwn.never rfl (pi_list (pe_callB cr_sortedP (by rfl) M.sorted boot_sorted1 (pa_cons (pv 1) pa_nil))) (pg_tup rfl (pgs_cons (pg_name (i := 3) sc_lnear.nd rfl (Or.inl rfl)) (pgs_cons (pg_name (i := 4) sc_lnear.nd rfl (Or.inl rfl)) pgs_nil)))
        (pss_cons (ps_expr (pe_bm PySem.F.plainAttrs_list PySem.F.slot_list_append PySem.F.type_list_append mt_append (pe_ix ix_list (pv 2) (pv 3) (fun _ _ => rfl)) (pa_cons (pv 4) pa_nil)))
        (pss_one (ps_expr (pe_bm PySem.F.plainAttrs_list PySem.F.slot_list_append PySem.F.type_list_append mt_append (pe_ix ix_list (pv 2) (pv 4) (fun _ _ => rfl)) (pa_cons (pv 3) pa_nil))))))
      (pss_one (ps_ret (pe_lc (own := [("_law_row", 6)]) (g := gName 6) (tt := tYes) rfl sc_lnear.nd (pi_list (pv 2))
      (blkOk_by (own := [("_law_row", 6)]) (N := ["_law_many_here", "_law_joins_here", "_law_found", "_law_one", "_law_two", "_law_node", "_law_row"]) (sc := defScope s__law_near) (by decide +kernel))
      (fun _ _ _ _ _ => pg_name (i := 6) sc_lnear.nd rfl (Or.inl rfl)) (fun _ _ _ _ _ => pts_nil)
      (fun _ _ _ _ _ => pe_callB (show CallR _ (.builtin "sorted") (rSortedI K) from cr_sortedI) (by rfl) M.sorted boot_sorted1 (pa_cons (pv 6) pa_nil)))))), ?_⟩
    obtain ⟨ts, h1, h2⟩ := id hp
    refine ⟨_, rfl, n, rfl, by omega, by omega, fun D hD => ?_⟩
    refine lc_range (lo := 0) (fun i H' => Same H H' ∧ ∃ rs : List Addr, H' D = some (.lst (rs.map V.ref)) ∧ D ∉ rs ∧ (∀ r ∈ rs, H r = none) ∧ Grow H' rs i []) ⟨same_upd hD, [], upd_same, by simp, by simp, rfl, by simp, fun k r e => by simp at e⟩ (fun i H' hi h => ?_) (fun H' h => ?_)
    · obtain ⟨sm, rs, e1, e2, e3, e4⟩ := h
      refine ⟨rfl, ?_⟩
      refine ⟨by show 0 ≤ sizeLine; decide, fun p np => ?_⟩
      have hpD : D ≠ p := ne_of_none e1 np
      refine ⟨_, by rw [upd_ne hpD]; exact e1, by rw [List.length_map, e4.1, sizeLine_eq]; omega, fun b o z => ?_, rs ++ [p], by rw [upd_same, List.map_append]; rfl, ?_, fun r hr' => ?_, ?_⟩
      · rw [upd_ne (ne_of_none z hD), upd_ne (ne_of_none (sm _ _ z) np)]
        exact sm _ _ z
      · intro z
        rcases List.mem_append.mp z with z | z
        · exact e2 z
        · exact hpD (List.mem_singleton.mp z)
      · rcases List.mem_append.mp hr' with z | z
        · exact e3 r z
        · rw [List.mem_singleton.mp z]
          exact sm.free np
      · refine ⟨by rw [List.length_append, e4.1]; rfl, ?_, fun k r hk => ?_⟩
        · refine List.nodup_append.mpr ⟨e4.2.1, by simp, fun a ha b hb => ?_⟩
          rw [List.mem_singleton] at hb
          subst hb
          obtain ⟨k, hk, he⟩ := List.mem_iff_getElem.mp ha
          intro q
          subst q
          have z := e4.2.2 k _ (by rw [List.getElem?_eq_getElem hk, he])
          rw [np] at z
          cases z
        · by_cases hlt : k < rs.length
          · rw [List.getElem?_append_left hlt] at hk
            have z := e4.2.2 k r hk
            have nD : r ≠ D := fun q => e2 (q ▸ List.mem_of_getElem? hk)
            rw [upd_ne nD, upd_ne (ne_of_none z np)]
            exact z
          · rw [List.getElem?_append_right (by omega)] at hk
            have hk' : k = rs.length := by
              have := (List.getElem?_eq_some_iff.mp hk).1
              simp at this
              omega
            subst hk'
            rw [Nat.sub_self] at hk
            obtain rfl : p = r := Option.some.inj hk
            rw [upd_ne hpD.symm, upd_same]
            rfl
    · obtain ⟨sm, rs, e1, e2, e3, e4⟩ := h
      refine ⟨_, rfl, p, _, rfl, SqL.of (sm _ _ h1), fun y hy => ?_, fun ys qs hperm nqs => ?_⟩
      · obtain ⟨t, ht, rfl⟩ := List.mem_map.mp hy
        obtain ⟨k', hk', he'⟩ := List.mem_iff_getElem.mp ht
        obtain ⟨x, q1, q2⟩ := h2.2 k' t (by rw [List.getElem?_eq_getElem hk', he'])
        exact ⟨t, x.1, x.2, rfl, sm _ _ q2⟩
      have h2' := h2.same sm
      obtain ⟨ts', es', rfl, w2, pe⟩ := permTups h2' hperm
      have ge' := ge.perm pe
      have h1s : (upd H' qs (.lst (ts'.map V.ref))) qs = some (.lst (ts'.map V.ref)) := upd_same
      have h2s := w2.same (same_upd nqs (o := .lst (ts'.map V.ref)))
      have smS : Same H (upd H' qs (.lst (ts'.map V.ref))) := sm.trans (same_upd nqs)
      have e1s := same_upd nqs (o := .lst (ts'.map V.ref)) _ _ e1
      have e4s : Grow (upd H' qs (.lst (ts'.map V.ref))) rs n [] := ⟨e4.1, e4.2.1, fun k r hk => same_upd nqs _ _ (e4.2.2 k r hk)⟩
      have e3s : ∀ r ∈ rs, r ≠ qs := fun r hr => by
        obtain ⟨k', hk', he'⟩ := List.mem_iff_getElem.mp hr
        exact ne_of_none (e4.2.2 k' r (by rw [List.getElem?_eq_getElem hk', he'])) nqs
      have nDq : D ≠ qs := ne_of_none e1 nqs
      clear h2 h1 hp
      refine ⟨qs, rfl, ⟨_, SqL.of h1s⟩, for_list (K := K) (a := qs) (xs := ts'.map V.ref) (fun i σ H' => ∃ (o3 o4 : Option V), σ = [some (.int n), some (.ref p), some (.ref D), o3, o4, none, none] ∧
        Same H H' ∧ H' qs = some (.lst (ts'.map V.ref)) ∧ TupsAt H' ts' es' ∧ H' D = some (.lst (rs.map V.ref)) ∧ Grow H' rs n (es'.take i)) ⟨none, none, rfl, smS, h1s, h2s, e1s, e4s⟩ (fun i σ H' _ h => ?_) (fun i y σ H' hi h => ?_) (fun σ H' h => ?_)⟩
      · obtain ⟨_, _, _, sm, hq, _, _⟩ := h
        exact SqL.of hq
      · obtain ⟨o3, o4, rfl, sm, hq, h2, e1, e4⟩ := h
        obtain ⟨t, ht, rfl⟩ := refAt hi
        obtain ⟨e, he, hte⟩ := h2.2 i t ht
        have good := ge'.node e (List.mem_of_getElem? he)
        have few := ge'.few
        have hte' := hte
        have lt := (List.getElem?_eq_some_iff.mp he).1
        obtain ⟨r1, q1, a1, b1⟩ := e4.at (i := e.1) good.1 (by omega)
        obtain ⟨r2, q2, a2, b2⟩ := e4.at (i := e.2) (by omega) good.2.2
        have n12 : r2 ≠ r1 := nodupAt e4.2.1 q2 q1 (by omega)
        have l1 := rowOf_len (es'.take i) e.1
        have l2 := rowOf_len (es'.take i) e.2
        rw [List.length_take] at l1 l2
        have fr1 := e3 r1 (List.mem_of_getElem? q1)
        have fr2 := e3 r2 (List.mem_of_getElem? q2)
        have nD1 : D ≠ r1 := fun q => e2 (q ▸ List.mem_of_getElem? q1)
        have nD2 : D ≠ r2 := fun q => e2 (q ▸ List.mem_of_getElem? q2)
        refine ⟨t, _, rfl, SqT.of hte', rfl, _, _, rfl, _, _, rfl, rfl, ?_⟩
        refine ⟨_, rfl, _, rfl, D, _, e.1, _, rfl, rfl, SqL.of e1, a1, .inl ⟨rfl, _, SqL.of b1⟩, _, rfl, r1, _, _, rfl, rfl, b1, by rw [List.length_map, sizeLine_eq]; omega, ?_⟩
        have e1' : (upd H' r1 (.lst ((rowOf (es'.take i) e.1).map V.int ++ [V.int e.2]))) D = some (.lst (rs.map V.ref)) := by
          rw [upd_ne nD1]
          exact e1
        have b2' : (upd H' r1 (.lst ((rowOf (es'.take i) e.1).map V.int ++ [V.int e.2]))) r2 = some (.lst ((rowOf (es'.take i) e.2).map V.int)) := by
          rw [upd_ne n12]
          exact b2
        refine ⟨_, rfl, _, rfl, D, _, e.2, _, rfl, rfl, SqL.of e1', a2, .inl ⟨rfl, _, SqL.of b2'⟩, _, rfl, r2, _, _, rfl, rfl, b2', by rw [List.length_map, sizeLine_eq]; omega, ?_⟩
        have nq1 := e3s r1 (List.mem_of_getElem? q1)
        have nq2 := e3s r2 (List.mem_of_getElem? q2)
        refine ⟨_, _, rfl, fun b o z => ?_, by rw [upd_ne nq2.symm, upd_ne nq1.symm]; exact hq, ⟨h2.1, fun k t e => ?_⟩, ?_, e4.more he good q1 q2⟩
        · rw [upd_ne (ne_of_none z fr2), upd_ne (ne_of_none z fr1)]
          exact sm _ _ z
        · obtain ⟨x, z1, z2⟩ := h2.2 k t e
          refine ⟨x, z1, ?_⟩
          rw [upd_ne (ne_of z2 b2 (by intro y; cases y)), upd_ne (ne_of z2 b1 (by intro y; cases y))]
          exact z2
        · rw [upd_ne nD2]
          exact e1'
      · obtain ⟨o3, o4, rfl, sm, _, h2, e1, e4⟩ := h
        rw [List.length_map, h2.1, List.take_length] at e4
        refine ⟨_, rfl, D, rfl, ⟨_, SqL.of e1⟩, fun q nq => ?_⟩
        have qD : D ≠ q := ne_of_none e1 nq
        have fqH : H q = none := sm.free nq
        refine lc_list (K := K) (a := D) (xs := rs.map V.ref) (fun i H'' => Same H' H'' ∧ ∃ (ps : List Addr) (L : List (List Int)), H'' q = some (.lst (ps.map V.ref)) ∧ ps.length = i ∧ L.length = i ∧
          (∀ (k : Nat) (r : Addr), ps[k]? = some r → r ≠ q ∧ H r = none ∧ H'' r = some (.lst ((L.getD k []).map V.int))) ∧ (∀ k : Nat, k < i → (L.getD k []).Perm (rowOf es' k)) ∧ ∀ k : Nat, k < i → (L.getD k []).Pairwise (· ≤ ·))
          ⟨same_upd nq, [], [], upd_same, rfl, rfl, fun k r e => by simp at e, fun k e => by omega, fun k e => by omega⟩ (fun i H'' _ h => SqL.of (h.1 _ _ e1)) (fun i x H'' hi h => ?_) (fun H'' h => ?_)
        · obtain ⟨sm2, ps, L, f1, f2, f3, f4, f5, f6⟩ := h
          obtain ⟨r, hr', rfl⟩ := refAt hi
          have hb := e4.2.2 i r hr'
          have hlt : i < n := by
            rw [← e4.1]
            exact (List.getElem?_eq_some_iff.mp hr').1
          refine ⟨rfl, ?_⟩
          refine ⟨_, rfl, r, _, rfl, SqL.of (sm2 _ _ hb), fun ns' t hperm hasc nt => ?_⟩
          have tq : q ≠ t := ne_of_none f1 nt
          refine ⟨_, by rw [upd_ne tq]; exact f1, by rw [List.length_map, f2, sizeLine_eq]; omega, fun b o z => ?_, ps ++ [t], L ++ [ns'], by rw [upd_same, List.map_append]; rfl, by rw [List.length_append, f2]; rfl, by rw [List.length_append, f3]; rfl, fun k r' hk => ?_, fun k hk => ?_, fun k hk => ?_⟩
          · rw [upd_ne (ne_of_none z nq), upd_ne (ne_of_none (sm2 _ _ z) nt)]
            exact sm2 _ _ z
          · by_cases hl : k < ps.length
            · rw [List.getElem?_append_left hl] at hk
              obtain ⟨z1, z0, z2⟩ := f4 k r' hk
              rw [upd_ne z1, upd_ne (ne_of_none z2 nt), getDl (by omega)]
              exact ⟨z1, z0, z2⟩
            · rw [List.getElem?_append_right (by omega)] at hk
              have hk' : k = ps.length := by
                have := (List.getElem?_eq_some_iff.mp hk).1
                simp at this
                omega
              subst hk'
              rw [Nat.sub_self] at hk
              obtain rfl : t = r' := Option.some.inj hk
              rw [upd_ne tq.symm, upd_same, getDe (by omega)]
              exact ⟨tq.symm, sm.free (sm2.free nt), rfl⟩
          · by_cases c : k < i
            · rw [getDl (by omega)]
              exact f5 k c
            · rw [getDe (by omega), show k = i by omega]
              exact hperm
          · by_cases c : k < i
            · rw [getDl (by omega)]
              exact f6 k c
            · rw [getDe (by omega)]
              exact hasc
        · obtain ⟨sm2, ps, L, f1, f2, f3, f4, f5, f6⟩ := h
          rw [List.length_map, e4.1] at f2 f3 f5 f6
          exact k q H'' L fqH (sm.trans sm2) (fun H3 h3 => ⟨ps, h3 q _ fqH f1, by omega, fun k r e => h3 r _ (f4 k r e).2.1 (f4 k r e).2.2⟩) ((show IsNear n es' L from ⟨f3, f5, f6⟩).perm pe)
end

/-! ## Data whose text is short -/
structure Shw (k L : Nat) (d : PyData) : Prop where
  ok : d.showable = true
  deep : d.depth ≤ k
  len : d.shown.length ≤ L
theorem Shw.mono {k L k' L' : Nat} {d : PyData} (h : Shw k L d) (hk : k ≤ k') (hl : L ≤ L') : Shw k' L' d := ⟨h.ok, Nat.le_trans h.deep hk, Nat.le_trans h.len hl⟩
theorem textFrom_le : ∀ (ts : List Str) (k : Nat) (acc : Str), (textFrom k acc ts).length ≤ acc.length + piled ts
  | [], _, acc => by show acc.length ≤ acc.length + _; omega
  | t :: r, k, acc => by
    have h1 := textFrom_le r (k + 1) (acc ++ (if k > 0 then ", " else "" : String) ++ t)
    have e : (acc ++ (if k > 0 then ", " else "" : String) ++ t).length = acc.length + (if k > 0 then 2 else 0) + t.length := by
      rw [strLen_append, strLen_append]
      split <;> rfl
    have e2 : (if k > 0 then 2 else 0 : Nat) ≤ 2 := by split <;> decide
    rw [e] at h1
    rw [piled_cons]
    show (textFrom (k + 1) (acc ++ (if k > 0 then ", " else "" : String) ++ t) r).length ≤ _
    omega
theorem listText_le (ts : List Str) : (listText ts).length ≤ piled ts + 2 := by
  have h := textFrom_le ts 0 "["
  have e : (listText ts).length = (textFrom 0 "[" ts).length + 1 := by
    unfold listText
    rw [strLen_append]
    rfl
  have e1 : ((("[" : String) : Str)).length = 1 := rfl
  omega
theorem tupleText_le (ts : List Str) : (tupleText ts).length ≤ piled ts + 3 := by
  have e : (tupleText ts).length = 1 + (Str.join ", " ts).length + (((if ts.length == 1 then ",)" else ")" : String) : Str)).length := by
    unfold tupleText
    rw [strLen_append, strLen_append]
    rfl
  have e3 : (((if ts.length == 1 then ",)" else ")" : String) : Str)).length ≤ 2 := by split <;> decide
  cases ts with
  | nil =>
    have z : (Str.join ", " ([] : List Str)).length = 0 := rfl
    omega
  | cons t r =>
    have z := join_length_add (t :: r) (by simp)
    omega
theorem shownAll_map : ∀ es : List PyData, PyData.shownAll es = es.map PyData.shown
  | [] => by simp only [PyData.shownAll, List.map_nil]
  | e :: es => by simp only [PyData.shownAll, List.map_cons, shownAll_map es]
theorem piled_le {L : Nat} : ∀ {es : List PyData}, (∀ e ∈ es, e.shown.length ≤ L) → piled (es.map PyData.shown) ≤ (L + 2) * es.length
  | [], _ => Nat.zero_le _
  | e :: es, h => by
    have h1 := h e List.mem_cons_self
    have h2 := piled_le (es := es) fun x hx => h x (List.mem_cons_of_mem _ hx)
    rw [List.map_cons, piled_cons, List.length_cons, Nat.mul_succ]
    omega
theorem showAll_of : ∀ {es : List PyData}, (∀ e ∈ es, e.showable = true) → PyData.showableAll es = true
  | [], _ => by simp only [PyData.showableAll]
  | e :: es, h => by simp only [PyData.showableAll, h e List.mem_cons_self, showAll_of (es := es) fun x hx => h x (List.mem_cons_of_mem _ hx), Bool.and_self]
theorem deepAll_of {k : Nat} : ∀ {es : List PyData}, (∀ e ∈ es, e.depth ≤ k) → PyData.depthAll es ≤ k
  | [], _ => by simp only [PyData.depthAll]; omega
  | e :: es, h => by
    have h1 := h e List.mem_cons_self
    have h2 := deepAll_of (es := es) fun x hx => h x (List.mem_cons_of_mem _ hx)
    simp only [PyData.depthAll]
    omega
theorem shwList {k L m : Nat} {es : List PyData} (h : ∀ e ∈ es, Shw k L e) (hm : es.length ≤ m) : Shw (k + 1) ((L + 2) * m + 2) (.list es) := by
  refine ⟨?_, ?_, ?_⟩
  · simp only [PyData.showable]
    exact showAll_of fun e he => (h e he).ok
  · have z := deepAll_of (k := k) fun e he => (h e he).deep
    simp only [PyData.depth]
    omega
  · simp only [PyData.shown]
    rw [shownAll_map]
    have z := listText_le (es.map PyData.shown)
    have y := piled_le (L := L) (es := es) fun e he => (h e he).len
    have x := Nat.mul_le_mul_left (L + 2) hm
    omega
theorem shwTup {k L m : Nat} {es : List PyData} (h : ∀ e ∈ es, Shw k L e) (hm : es.length ≤ m) : Shw (k + 1) ((L + 2) * m + 3) (.tuple es) := by
  refine ⟨?_, ?_, ?_⟩
  · simp only [PyData.showable]
    exact showAll_of fun e he => (h e he).ok
  · have z := deepAll_of (k := k) fun e he => (h e he).deep
    simp only [PyData.depth]
    omega
  · simp only [PyData.shown]
    rw [shownAll_map]
    have z := tupleText_le (es.map PyData.shown)
    have y := piled_le (L := L) (es := es) fun e he => (h e he).len
    have x := Nat.mul_le_mul_left (L + 2) hm
    omega
theorem intLen {i : Int} {k : Nat} (hk : 0 < k) (h : i.natAbs < 10 ^ k) : (Str.ofString (toString i)).length ≤ k + 1 := by
  by_cases c : 0 ≤ i
  · have z := toString_length_le (v := i) c hk (by
      have e : i = (i.natAbs : Int) := by omega
      rw [e]
      exact_mod_cast h)
    omega
  · obtain ⟨m, rfl⟩ : ∃ m, i = Int.negSucc m := ⟨(-i - 1).toNat, by omega⟩
    have z := toString_length_le (v := ((m + 1 : Nat) : Int)) (by omega) hk (by exact_mod_cast h)
    have e : toString (Int.negSucc m) = "-" ++ toString (((m + 1 : Nat) : Int)) := rfl
    rw [e]
    have q : ∀ a b : String, (Str.ofString (a ++ b)).length = (Str.ofString a).length + (Str.ofString b).length := fun a b => by
      rw [Str.ofString_eq_toList, Str.ofString_eq_toList, Str.ofString_eq_toList]
      simp [Str.length]
    rw [q]
    have o : (Str.ofString "-").length = 1 := rfl
    omega
theorem shwInt {i : Int} (h : i.natAbs < 10 ^ 12) : Shw 0 13 (.int i) := by
  refine ⟨?_, ?_, ?_⟩
  · simp only [PyData.showable]
    refine decide_eq_true ?_
    have z : i.natAbs.log2 ≤ 40 := by
      by_cases c : i.natAbs = 0
      · rw [c]
        decide
      · exact Nat.le_of_lt_succ ((Nat.log2_lt c).mpr (Nat.lt_of_lt_of_le h (by decide)))
    omega
  · simp only [PyData.depth]
    omega
  · simp only [PyData.shown]
    exact intLen (by decide) h

/-! ## How great the numbers of a play grow -/
def Bd (C : Nat) (x : List Int) : Prop := ∀ z ∈ x, z.natAbs ≤ C
theorem Bd.getD {C : Nat} {x : List Int} (h : Bd C x) (i : Nat) : (x.getD i 0).natAbs ≤ C := by
  rw [List.getD_eq_getElem?_getD]
  cases e : x[i]? with
  | none => exact Nat.zero_le _
  | some z => exact h z (List.mem_of_getElem? e)
theorem Bd.mono {C D : Nat} {x : List Int} (h : Bd C x) (d : C ≤ D) : Bd D x := fun z hz => Nat.le_trans (h z hz) d
theorem Bd.set {C : Nat} {x : List Int} (h : Bd C x) {i : Nat} {v : Int} (hv : v.natAbs ≤ C) : Bd C (x.set i v) := fun z hz => by
  rcases List.mem_or_eq_of_mem_set hz with hz | rfl
  · exact h z hz
  · exact hv
theorem Bd.fold {B : Nat} {c : Int} (hc : c.natAbs ≤ B) : ∀ (row y : List Int) (C : Nat), Bd C y → Bd (C + row.length * B) (row.foldl (fun y o => y.set o.toNat (y.getD o.toNat 0 + c)) y)
  | [], y, C, h => by
    rw [List.foldl_nil]
    exact h.mono (by omega)
  | o :: row, y, C, h => by
    rw [List.foldl_cons]
    have z := Bd.fold hc row (y.set o.toNat (y.getD o.toNat 0 + c)) (C + B) ((h.mono (by omega)).set (by
      have q := h.getD o.toNat
      omega))
    refine z.mono ?_
    rw [List.length_cons, Nat.add_mul]
    omega
theorem Bd.flip {C : Nat} {row x : List Int} {v : Nat} (h : Bd C x) (hr : row.length ≤ 80) : Bd (81 * C) (flipL row x v) := by
  have hv := h.getD v
  have z := Bd.fold (c := x.getD v 0) hv row x C h
  have y := Nat.mul_le_mul_right C hr
  refine (z.mono ?_).set ?_
  · omega
  · omega
theorem Bd.follow {N : List (List Int)} (hN : ∀ i, (N.getD i []).length ≤ 80) : ∀ (vs : List Nat) (C : Nat) (x t x' t' : List Int), Bd C x → Bd C t → followL N vs x t = some (x', t') → Bd (81 ^ vs.length * C) x' ∧ Bd (81 ^ vs.length * C) t'
  | [], C, x, t, x', t', hx, ht, e => by
    unfold followL at e
    injection e with e
    injection e with e1 e2
    subst e1 e2
    rw [List.length_nil, Nat.pow_zero, Nat.one_mul]
    exact ⟨hx, ht⟩
  | v :: vs, C, x, t, x', t', hx, ht, e => by
    unfold followL at e
    by_cases c : x.getD v 0 ≥ 0
    · rw [if_pos c] at e
      cases e
    rw [if_neg c] at e
    have hv := hx.getD v
    have z := Bd.follow hN vs (81 * C) _ _ x' t' (hx.flip (hN v)) ((ht.mono (by omega)).set (by
      have q := ht.getD v
      omega)) e
    rw [List.length_cons, Nat.pow_succ, Nat.mul_assoc]
    exact z
theorem Bd.play {N : List (List Int)} {d : PyData} {x x' t' : List Int} (hN : ∀ i, (N.getD i []).length ≤ 80) (hx : Bd 4 x) (hd : lenD d ≤ 25) (e : playD N d x = some (x', t')) : Bd (81 ^ 25 * 4) x' ∧ Bd (81 ^ 25 * 4) t' := by
  cases d with
  | list ds =>
    have hp : playD N (.list ds) x = if ds.all (isNode N.length) = true then followL N (ds.map nodeOf) x (List.replicate N.length 0) else none := rfl
    rw [hp] at e
    by_cases c : ds.all (isNode N.length) = true
    · rw [if_pos c] at e
      have z := Bd.follow hN _ 4 _ _ _ _ hx (fun z hz => by
        rw [(List.mem_replicate.mp hz).2]
        decide) e
      have l : (ds.map nodeOf).length ≤ 25 := by
        rw [List.length_map]
        exact hd
      have p := Nat.mul_le_mul_right 4 (Nat.pow_le_pow_right (show 0 < 81 by decide) l)
      exact ⟨z.1.mono p, z.2.mono p⟩
    · rw [if_neg c] at e
      cases e
  | _ => cases e
theorem shwBig {i : Int} (h : i.natAbs ≤ 81 ^ 25 * 4) : Shw 0 61 (.int i) := by
  have h' : i.natAbs < 10 ^ 60 := Nat.lt_of_le_of_lt h (by decide +kernel)
  refine ⟨?_, ?_, ?_⟩
  · simp only [PyData.showable]
    refine decide_eq_true ?_
    by_cases c : i.natAbs = 0
    · rw [c]
      decide
    · exact Nat.lt_trans ((Nat.log2_lt c).mpr (Nat.lt_trans h' (show 10 ^ 60 < 2 ^ 250 by decide +kernel))) (by decide)
  · simp only [PyData.depth]
    omega
  · simp only [PyData.shown]
    exact intLen (by decide) h'
theorem shwBigs {x : List Int} (h : Bd (81 ^ 25 * 4) x) (hl : x.length ≤ 1000) : Shw 1 63002 (.list (x.map PyData.int)) :=
  (shwList (k := 0) (L := 61) (m := 1000) (fun e he => by
    obtain ⟨v, hv, rfl⟩ := List.mem_map.mp he
    exact shwBig (h v hv)) (by rw [List.length_map]; exact hl))

/-! ## Two negative nodes: both orders meet -/
def cnt (N : List (List Int)) (i j : Nat) : Int := (((N.getD i []).count (j : Int) : Nat) : Int)
structure Sym (N : List (List Int)) : Prop where
  wf : WF N
  sym : ∀ i j, i < N.length → j < N.length → cnt N i j = cnt N j i
  self : ∀ i, i < N.length → cnt N i i = 0
  one : ∀ i j, i < N.length → cnt N i j = 0 ∨ cnt N i j = 1
theorem getSet {x : List Int} {i j : Nat} {z : Int} (h : j < x.length) : (x.set j z).getD i 0 = if i = j then z else x.getD i 0 := by
  rw [List.getD_eq_getElem?_getD, List.getElem?_set, List.getD_eq_getElem?_getD]
  by_cases c : j = i
  · subst c
    rw [if_pos rfl, if_pos h, if_pos rfl]
    rfl
  · rw [if_neg c, if_neg (fun z => c z.symm)]
theorem foldAt (c : Int) : ∀ (row y : List Int) (i : Nat), (∀ o ∈ row, 0 ≤ o ∧ o < y.length) → (row.foldl (fun y o => y.set o.toNat (y.getD o.toNat 0 + c)) y).getD i 0 = y.getD i 0 + ((row.count (i : Int) : Nat) : Int) * c
  | [], y, i, _ => by
    rw [List.foldl_nil, List.count_nil]
    omega
  | o :: row, y, i, h => by
    have ho := h o List.mem_cons_self
    have hl : o.toNat < y.length := by omega
    rw [List.foldl_cons, foldAt c row _ i (fun u hu => by rw [List.length_set]; exact h u (List.mem_cons_of_mem _ hu)), getSet hl, List.count_cons]
    by_cases e : i = o.toNat
    · subst e
      rw [if_pos rfl, show ((o == ((o.toNat : Nat) : Int)) = true) from by rw [beq_iff_eq]; omega, if_pos rfl, Int.natCast_add, Int.add_mul]
      show _ + c + _ = _ + (_ + 1 * c)
      omega
    · rw [if_neg e, if_neg (by rw [beq_iff_eq]; omega), Nat.add_zero]
theorem flipAt {N : List (List Int)} {x : List Int} {v i : Nat} (wf : WF N) (hl : x.length = N.length) (hv : v < N.length) :
    (flipL (N.getD v []) x v).getD i 0 = if i = v then -(x.getD v 0) else x.getD i 0 + cnt N v i * x.getD v 0 := by
  unfold flipL
  rw [getSet (by rw [foldSetLen]; omega)]
  by_cases e : i = v
  · rw [if_pos e, if_pos e]
  · rw [if_neg e, if_neg e, foldAt _ _ _ _ (fun o ho => by rw [hl]; exact wf v hv o ho)]
    rfl
theorem extD {x y : List Int} (hl : x.length = y.length) (h : ∀ i, i < x.length → x.getD i 0 = y.getD i 0) : x = y := by
  apply List.ext_getElem hl
  intro i h1 h2
  have z := h i h1
  rw [List.getD_eq_getElem?_getD, List.getElem?_eq_getElem h1, List.getD_eq_getElem?_getD, List.getElem?_eq_getElem h2] at z
  exact z
section
variable {N : List (List Int)} {x : List Int} {a b : Nat}
/-- the two nodes are not neighbours -/
theorem swap2 (S : Sym N) (hl : x.length = N.length) (ha : a < N.length) (hb : b < N.length) (hab : a ≠ b) (h0 : cnt N a b = 0) :
    flipL (N.getD b []) (flipL (N.getD a []) x a) b = flipL (N.getD a []) (flipL (N.getD b []) x b) a := by
  have h0' : cnt N b a = 0 := by rw [S.sym b a hb ha]; exact h0
  refine extD (by rw [flipLen, flipLen, flipLen, flipLen]) (fun i hi => ?_)
  have l1 : (flipL (N.getD a []) x a).length = N.length := by rw [flipLen]; exact hl
  have l2 : (flipL (N.getD b []) x b).length = N.length := by rw [flipLen]; exact hl
  rw [flipAt S.wf l1 hb, flipAt S.wf l2 ha, flipAt S.wf hl ha, flipAt S.wf hl hb, flipAt S.wf hl ha, flipAt S.wf hl hb, h0, h0', if_neg hab, if_neg hab.symm]
  by_cases c1 : i = b
  · have c2 : ¬ i = a := fun z => hab (z ▸ c1)
    rw [if_pos c1, if_neg c2, if_pos c1]
    subst c1
    rw [h0]
    omega
  · rw [if_neg c1]
    by_cases c2 : i = a
    · rw [if_pos c2, if_pos c2]
      subst c2
      rw [h0']
      omega
    · rw [if_neg c2, if_neg c2, if_neg c1]
      rcases S.one a i ha with e | e <;> rcases S.one b i hb with f | f <;> rw [e, f] <;> omega
theorem swap3 (S : Sym N) (hl : x.length = N.length) (ha : a < N.length) (hb : b < N.length) (hab : a ≠ b) (h1 : cnt N a b = 1) :
    flipL (N.getD a []) (flipL (N.getD b []) (flipL (N.getD a []) x a) b) a = flipL (N.getD b []) (flipL (N.getD a []) (flipL (N.getD b []) x b) a) b := by
  have h1' : cnt N b a = 1 := by rw [S.sym b a hb ha]; exact h1
  refine extD (by rw [flipLen, flipLen, flipLen, flipLen, flipLen, flipLen]) (fun i hi => ?_)
  have l1 : (flipL (N.getD a []) x a).length = N.length := by rw [flipLen]; exact hl
  have l2 : (flipL (N.getD b []) x b).length = N.length := by rw [flipLen]; exact hl
  have l3 : (flipL (N.getD b []) (flipL (N.getD a []) x a) b).length = N.length := by rw [flipLen]; exact l1
  have l4 : (flipL (N.getD a []) (flipL (N.getD b []) x b) a).length = N.length := by rw [flipLen]; exact l2
  rw [flipAt S.wf l3 ha, flipAt S.wf l4 hb, flipAt S.wf l1 hb, flipAt S.wf l2 ha, flipAt S.wf l1 hb, flipAt S.wf l2 ha]
  rw [flipAt S.wf hl ha, flipAt S.wf hl hb, flipAt S.wf hl ha, flipAt S.wf hl hb, flipAt S.wf hl ha, flipAt S.wf hl hb, h1, h1']
  simp only [if_neg hab, if_neg hab.symm, if_true]
  by_cases c1 : i = b
  · have c2 : ¬ i = a := fun z => hab (z ▸ c1)
    rw [if_pos c1, if_neg c2]
    simp only [if_pos c1]
    subst c1
    rw [h1]
    omega
  · by_cases c2 : i = a
    · simp only [if_pos c2, if_neg c1]
      subst c2
      rw [h1']
      omega
    · simp only [if_neg c1, if_neg c2]
      rcases S.one a i ha with e | e <;> rcases S.one b i hb with f | f <;> rw [e, f] <;> omega
end
theorem oneCount (u v k l : Int) : List.count l (if u = k then [v] else []) = (if u = k ∧ v = l then 1 else 0) := by
  by_cases c : u = k
  · by_cases d : v = l
    · rw [if_pos c, if_pos (And.intro c d), d, List.count_singleton_self]
    · rw [if_pos c, if_neg (fun z => d z.2)]
      exact List.count_eq_zero.mpr (fun z => d (List.mem_singleton.mp z).symm)
  · rw [if_neg c, if_neg (fun z => c z.1)]
    rfl
theorem rowCount : ∀ (es : List (Int × Int)) (i j : Int), ((rowOf es i).count j) = (rowOf es j).count i
  | [], _, _ => rfl
  | e :: es, i, j => by
    have q : ∀ k : Int, rowOf (e :: es) k = ((if e.1 = k then [e.2] else []) ++ (if e.2 = k then [e.1] else [])) ++ rowOf es k := fun _ => rfl
    rw [q i, q j, List.count_append, List.count_append, List.count_append, List.count_append, rowCount es i j]
    rw [oneCount, oneCount, oneCount, oneCount]
    congr 1
    split <;> split <;> split <;> split <;> omega
theorem rowLe : ∀ (es : List (Int × Int)) (i j : Int), es.Nodup → (∀ e ∈ es, e.1 < e.2) → (rowOf es i).count j ≤ 1 ∧ (i = j → (rowOf es i).count j = 0) ∧ ((rowOf es i).count j = 1 ↔ ((min i j, max i j) ∈ es))
  | [], _, _, _, _ => ⟨Nat.zero_le _, fun _ => rfl, ⟨fun z => (by cases z), fun z => (by cases z)⟩⟩
  | e :: es, i, j, hn, ha => by
    have q : rowOf (e :: es) i = ((if e.1 = i then [e.2] else []) ++ (if e.2 = i then [e.1] else [])) ++ rowOf es i := rfl
    obtain ⟨h1, h2⟩ := List.nodup_cons.mp hn
    obtain ⟨r1, r2, r3⟩ := rowLe es i j h2 fun u hu => ha u (List.mem_cons_of_mem _ hu)
    have lt := ha e List.mem_cons_self
    rw [q, List.count_append, List.count_append, oneCount, oneCount]
    by_cases c : e = (min i j, max i j)
    · have hno : (rowOf es i).count j = 0 := by
        rcases Nat.eq_zero_or_pos ((rowOf es i).count j) with z | z
        · exact z
        · exact absurd (r3.mp (by omega)) (c ▸ h1)
      have e1 : e.1 = min i j := by rw [c]
      have e2 : e.2 = max i j := by rw [c]
      have tot : (if e.1 = i ∧ e.2 = j then 1 else 0 : Nat) + (if e.2 = i ∧ e.1 = j then 1 else 0) = 1 := by
        by_cases d : i < j
        · rw [if_pos (by omega), if_neg (by omega)]
        · rw [if_neg (by omega), if_pos (by omega)]
      rw [tot, hno]
      exact ⟨by omega, fun z => by omega, ⟨fun _ => c ▸ List.mem_cons_self, fun _ => rfl⟩⟩
    · have n1 : ¬ (e.1 = i ∧ e.2 = j) := fun z => c (by
        rw [show e = (e.1, e.2) from rfl, z.1, z.2]
        have : min i j = i := by omega
        have : max i j = j := by omega
        rw [‹min i j = i›, ‹max i j = j›])
      have n2 : ¬ (e.2 = i ∧ e.1 = j) := fun z => c (by
        rw [show e = (e.1, e.2) from rfl, z.1, z.2]
        have : min i j = j := by omega
        have : max i j = i := by omega
        rw [‹min i j = j›, ‹max i j = i›])
      rw [if_neg n1, if_neg n2, Nat.zero_add]
      refine ⟨r1, r2, r3.trans ⟨fun z => List.mem_cons_of_mem _ z, fun z => ?_⟩⟩
      rcases List.mem_cons.mp z with z | z
      · exact absurd z.symm c
      · exact z
theorem IsNear.symm {n : Nat} {es : List (Int × Int)} {N : List (List Int)} (h : IsNear n es N) (g : GoodE n es) : Sym N := by
  have c : ∀ i j, i < N.length → cnt N i j = (((rowOf es (i : Int)).count (j : Int) : Nat) : Int) := fun i j hi => by
    unfold cnt
    rw [(h.row i (by rw [← h.len]; exact hi)).count_eq]
  have lt : ∀ e ∈ es, e.1 < e.2 := fun e he => (g.node e he).2.1
  refine ⟨h.wf g.node, fun i j hi hj => ?_, fun i hi => ?_, fun i j hi => ?_⟩
  · rw [c i j hi, c j i hj, rowCount]
  · rw [c i i hi, (rowLe es i i g.once lt).2.1 rfl]
    rfl
  · rw [c i j hi]
    have z := (rowLe es (i : Int) (j : Int) g.once lt).1
    omega
theorem IsNear.edge {n : Nat} {es : List (Int × Int)} {N : List (List Int)} (h : IsNear n es N) (g : GoodE n es) {i j : Nat} (hi : i < N.length) : cnt N i j = 1 ↔ (min (i : Int) j, max (i : Int) j) ∈ es := by
  unfold cnt
  rw [(h.row i (by rw [← h.len]; exact hi)).count_eq, ← (rowLe es (i : Int) (j : Int) g.once fun e he => (g.node e he).2.1).2.2]
  omega

end K01

set_option Elab.async false
set_option linter.all false
set_option maxRecDepth 100000
set_option maxHeartbeats 8000000
namespace K01
open PySem PySem.Spec PyProof.Rows L2 FNX
/-! ## Around a law -/
def GX (CG p : Addr) (H : Hp) (g : Addr) (N : List (List Int)) : Prop := ∀ H', SameX p H H' → GAt CG H' g N
theorem GX.at {CG p g : Addr} {H : Hp} {N : List (List Int)} (h : GX CG p H g N) : GAt CG H g N := h H SameX.refl
theorem GX.same {CG p g : Addr} {H H' : Hp} {N : List (List Int)} (h : GX CG p H g N) (s : SameX p H H') : GX CG p H' g N := fun H2 s2 => h H2 (s.trans s2)
theorem SameX.same {p : Addr} {H H' : Hp} (s : SameX p H H') (n : H p = none) : Same H H' := fun b o e => s b o (ne_of_none e n) e
theorem NewN.x {H H1 : Hp} {p q : Addr} {N : List (List Int)} (h : NewN H H1 q N) (hp : PoolAt H p) : NX p H1 q N := fun H2 s => h H2 fun b o n e => s b o (hp.ne n).symm e
theorem gx_of {CG p g dx j nr : Addr} {H H1 : Hp} {N : List (List Int)} (hp : PoolAt H p) (gp : g ≠ p) (hg : H1 g = some (.ins CG dx (gflds (N.length : Int) j nr))) (h : NewN H H1 nr N) : GX CG p H1 g N :=
  fun H2 s => ⟨dx, j, nr, s g _ gp hg, (h.x hp) H2 s⟩
theorem sqLSame {K : PySem.W.Frag} {H H' : Hp} {a : Addr} {xs : List V} (h : SqL K H a xs) (s : Same H H') : SqL K H' a xs := by
  rcases h with (h | ⟨o, h⟩) | h
  · exact .inl (.inl (s _ _ h))
  · exact .inl (.inr ⟨o, s _ _ h⟩)
  · exact .inr h
theorem near_rows {n : Nat} {es : List (Int × Int)} {N : List (List Int)} (h : IsNear n es N) (g : GoodE n es) : ∀ i, (N.getD i []).length ≤ 80 := fun i => by
  by_cases hi : i < n
  · rw [(h.row i hi).length_eq]
    have := rowOf_len es (i : Int)
    have := g.few
    omega
  · rw [List.getD_eq_getElem?_getD, List.getElem?_eq_none (by rw [h.len]; omega)]
    exact Nat.zero_le _
theorem shwLine {k L : Nat} {d : PyData} (h : Shw k L d) (hk : k ≤ 60) (hL : L ≤ 1000000) : d.showable = true ∧ d.depth ≤ 60 ∧ d.shown.length ≤ sizeLine := ⟨h.ok, Nat.le_trans h.deep hk, Nat.le_trans h.len (Nat.le_trans hL (by rw [sizeLine_eq]; decide))⟩

/-! ## Around a law with doors -/
abbrev lamT (Pt : Addr) : List (Addr × Str) := [(Pt, (("law" : Str) ++ ".<locals>.") ++ "<lambda>")]
def spLawT (K : PySem.W.Frag) (cs : List (Addr × Addr)) : Sp := fun vs H Q _ => ∃ (a : Addr) (ns : List Int), vs = [.ref a] ∧ SqL K H a (ns.map V.int) ∧ ns.length ≤ 63 ∧ (∀ p ∈ cs, H p.2 = some (.tbl #[])) ∧ ∀ H', Q (.bl true) H'
theorem tabs0 {H : Hp} {c Pt : Addr} (h : ∀ p ∈ [(c, Pt)], H p.2 = some (.tbl #[])) : LamX.Tabs (lamT Pt) H := fun p hp => by
  rw [List.mem_singleton.mp hp]
  exact .nil (h (c, Pt) (List.mem_singleton.mpr rfl))
theorem posInj {x y : List Int} (h : posD x = posD y) : x = y := by
  have z : x.map PyData.int = y.map PyData.int := by
    injection h
  exact List.map_inj_right (fun _ _ e => by injection e) |>.mp z
theorem sqLExt {K : PySem.W.Frag} {H H' : Hp} {a : Addr} {xs : List V} (h : SqL K H a xs) (s : LamX.ExtN H H') : SqL K H' a xs := by
  rcases h with (h | ⟨o, h⟩) | h
  · exact .inl (.inl (s _ _ h fun _ z => by cases z))
  · exact .inl (.inr ⟨o, s _ _ h fun _ z => by cases z⟩)
  · exact .inr h
theorem naExt {H H' : Hp} {p : Addr} {N : List (List Int)} (h : NAt H p N) (s : LamX.ExtN H H') : NAt H' p N := by
  obtain ⟨rows, h1, h2⟩ := h
  exact ⟨rows, s _ _ h1 (fun _ z => by cases z), h2.1, fun k r e => s _ _ (h2.2 k r e) fun _ z => by cases z⟩
theorem gaExt {CG : Addr} {H H' : Hp} {g : Addr} {N : List (List Int)} (h : GAt CG H g N) (s : LamX.ExtN H H') : GAt CG H' g N := by
  obtain ⟨dx, j, nr, h1, h2⟩ := h
  exact ⟨dx, j, nr, s _ _ h1 (fun _ z => by cases z), naExt h2 s⟩
theorem Same.ext {H H' : Hp} (s : Same H H') : LamX.ExtN H H' := fun b o e _ => s b o e
theorem same_updN {H H' : Hp} {a : Addr} {o : HO} (s : Same H H') (n : H a = none) : Same H (upd H' a o) := fun b u e => by
  rw [upd_ne (ne_of_none e n)]
  exact s b u e
theorem dpNats {K : PySem.W.Frag} {H : Hp} : ∀ x : List Nat, DpAll K H (x.map fun v : Nat => V.int (v : Int)) (x.map fun v : Nat => PyData.int (v : Int))
  | [] => .nil
  | _ :: x => .cons (.int _) (dpNats x)
theorem shapedTup {xs ys : List Int} : SeqAt.shaped (.tuple [posD xs, posD ys]) = true := by
  unfold SeqAt.shaped
  have a1 := layInts xs
  have a2 := layInts ys
  have b1 := depInts xs
  have b2 := depInts ys
  have e1 : PyData.canLay0 (.tuple [posD xs, posD ys]) = true := by
    show (PyData.canLayAll0 (xs.map PyData.int) && (PyData.canLayAll0 (ys.map PyData.int) && true)) = true
    rw [a1, a2]
    rfl
  have e2 : PyData.depth (.tuple [posD xs, posD ys]) ≤ 64 := by
    show max (PyData.depthAll (xs.map PyData.int) + 1) (max (PyData.depthAll (ys.map PyData.int) + 1) 0) + 1 ≤ 64
    omega
  rw [e1, decide_eq_true e2]
  rfl
theorem shwPow {i : Int} {k : Nat} (hk : 0 < k) (k2 : k ≤ 400) (h : i.natAbs < 10 ^ k) : Shw 0 (k + 1) (.int i) := by
  refine ⟨?_, ?_, ?_⟩
  · simp only [PyData.showable]
    refine decide_eq_true ?_
    by_cases c : i.natAbs = 0
    · rw [c]
      decide
    · have z : i.natAbs < 2 ^ (4 * k) := Nat.lt_of_lt_of_le h (by
        rw [Nat.pow_mul]
        exact Nat.pow_le_pow_left (by decide) k)
      have y := (Nat.log2_lt c).mpr z
      exact Nat.lt_trans y (Nat.lt_of_le_of_lt (Nat.mul_le_mul_left 4 k2) (by decide))
  · simp only [PyData.depth]
    omega
  · simp only [PyData.shown]
    exact intLen hk h
theorem shwInts {x : List Int} {k m : Nat} (hk : 0 < k) (k2 : k ≤ 400) (h : ∀ v ∈ x, v.natAbs < 10 ^ k) (hl : x.length ≤ m) : Shw 1 ((k + 3) * m + 2) (posD x) :=
  shwList (k := 0) (L := k + 1) (m := m) (fun e he => by
    obtain ⟨v, hv, rfl⟩ := List.mem_map.mp he
    exact shwPow hk k2 (h v hv)) (by rw [List.length_map]; exact hl)
theorem repOne {α : Type} (n : Nat) (v : α) : (List.replicate n [v]).flatten = List.replicate n v := by
  induction n with
  | zero => rfl
  | succ n ih =>
    rw [List.replicate_succ, List.flatten_cons, ih, List.replicate_succ]
    rfl
theorem dpBls {K : PySem.W.Frag} {H : Hp} : ∀ n : Nat, DpAll K H (List.replicate n (V.bl true)) (List.replicate n (PyData.bool true))
  | 0 => .nil
  | n + 1 => .cons (.bl _) (dpBls n)

/-! ## Told by a door -/
/-- what an exception of the class C with the value v leaves -/
def told (C : Addr) (v : V) (H : Hp) (E : XK) : Prop := ∀ H' dd, Same H H' → H dd = none → H' dd = some (.xd [(("value" : Str), v)]) → E (.ref C) (some dd) H'
theorem toldHead {K : PySem.W.Frag} {C : Addr} {w : Str} {r : List (Addr × Str)} {v : V} {d : PyData} {H : Hp} {Q : VK} (x : PySem.W.exmOne K (.ref C) (.ref C) = some true) (hd : ∀ H', Same H H' → Rd K H' v d)
    (sh : d.showable = true ∧ d.depth ≤ 60 ∧ d.shown.length ≤ sizeLine) (k : ∀ H' p, Same H H' → H' p = none → Q (.ref p) (upd H' p (.lst [.str w, .str d.shown]))) : told C v H (wErr K mkPair Q ((C, w) :: r)) :=
  fun H' dd s _ hx => ⟨true, x, fun _ => ⟨rfl, dd, v, d, rfl, hx, hd H' s, sh.1, sh.2.1, sh.2.2, fun p np => k H' p s np⟩, (fun z => nomatch z)⟩
theorem toldTail {K : PySem.W.Frag} {mk : Str → Str → Hp → (V → Hp → Prop) → Prop} {C C0 : Addr} {w : Str} {r : List (Addr × Str)} {v : V} {H : Hp} {Q : VK} (x : PySem.W.exmOne K (.ref C) (.ref C0) = some false) (t : told C v H (wErr K mk Q r)) : told C v H (wErr K mk Q ((C0, w) :: r)) :=
  fun H' dd s nd hx => ⟨false, x, (fun z => nomatch z), fun _ => t H' dd s nd hx⟩
theorem edExt {H H' : Hp} {q : Addr} {es : List (Int × Int)} (h : EdgesAt H q es) (s : LamX.ExtN H H') : EdgesAt H' q es := by
  obtain ⟨ts, h1, h2, h3⟩ := h
  refine ⟨ts, s _ _ h1 (fun _ z => by cases z), h2, fun k t e => ?_⟩
  obtain ⟨x, a, b⟩ := h3 k t e
  exact ⟨x, a, s _ _ b (fun _ z => by cases z)⟩
theorem edX {H H' : Hp} {p q : Addr} {es : List (Int × Int)} (h : EdgesAt H q es) (hp : PoolAt H p) (n : p ≠ q) (s : SameX p H H') : EdgesAt H' q es := by
  obtain ⟨ts, h1, h2⟩ := h
  exact ⟨ts, s _ _ n.symm h1, h2.sameX hp s⟩
theorem shwI {i : Int} (h : i.natAbs < 10 ^ 30) : (PyData.int i).showable = true ∧ (PyData.int i).depth ≤ 60 ∧ (PyData.int i).shown.length ≤ sizeLine := shwLine (shwPow (k := 30) (by decide) (by decide) h) (by decide) (by decide)

end K01

set_option Elab.async false
set_option linter.all false
set_option maxRecDepth 100000
set_option maxHeartbeats 8000000
namespace K01
open PySem PySem.Spec PyProof.Rows L2 FNX
/-! ## Graphs by their edges, made of any data -/
def isTup : PyData → Bool
  | .tuple _ => true
  | _ => false
theorem kitTu (K : PySem.W.Frag) : ∀ d : PyData, PySem.W.kitOne K (.type (tyD d)) (.type "tuple") = some (isTup d)
  | .none => (kit_ty (by decide +kernel) : PySem.W.kitOne K (.type "NoneType") (.type "tuple") = some false)
  | .bool _ => (kit_ty (by decide +kernel) : PySem.W.kitOne K (.type "bool") (.type "tuple") = some false)
  | .int _ => (kit_ty (by decide +kernel) : PySem.W.kitOne K (.type "int") (.type "tuple") = some false)
  | .str _ => (kit_ty (by decide +kernel) : PySem.W.kitOne K (.type "str") (.type "tuple") = some false)
  | .list _ => (kit_ty (by decide +kernel) : PySem.W.kitOne K (.type "list") (.type "tuple") = some false)
  | .tuple _ => (kit_ty (by decide +kernel) : PySem.W.kitOne K (.type "tuple") (.type "tuple") = some true)
  | .dict _ => (kit_ty (by decide +kernel) : PySem.W.kitOne K (.type "dict") (.type "tuple") = some false)
theorem rdTup {K : PySem.W.Frag} {H : Hp} {v : V} {ds : List PyData} (h : Rd K H v (.tuple ds)) : ∃ a xs, v = .ref a ∧ SqT K H a xs ∧ DpAll K H xs ds := by
  cases h with
  | dat h =>
    cases h with
    | tup h1 h2 => exact ⟨_, _, rfl, h1, h2⟩
theorem decVI (i j : Int) : decide (V.int i = V.int j) = decide (i = j) := by
  by_cases h : i = j
  · rw [h, decide_eq_true rfl, decide_eq_true rfl]
  · rw [decide_eq_false h, decide_eq_false (fun z => h (by injection z))]
theorem nodeD {n : Nat} {d : PyData} (h : isNode n d = true) : ∃ v : Nat, d = .int (v : Int) ∧ v < n := by
  cases d with
  | int i =>
    have h : (decide ((0 : Int) ≤ i) && decide (i ≤ (n : Int) - 1)) = true := h
    rw [Bool.and_eq_true, decide_eq_true_eq, decide_eq_true_eq] at h
    exact ⟨i.toNat, by rw [show ((i.toNat : Nat) : Int) = i by omega], by omega⟩
  | _ => cases h
def isEdgeD (n : Nat) : PyData → Bool
  | .tuple [a, b] => isNode n a && isNode n b && !PyData.eqv a b
  | _ => false
theorem isEdgeLen {n : Nat} {ds : List PyData} (h : ds.length ≠ 2) : isEdgeD n (.tuple ds) = false := by
  match ds, h with
  | [], _ => rfl
  | [_], _ => rfl
  | _ :: _ :: _ :: _, _ => rfl
  | [_, _], h => exact absurd rfl h
theorem isEdgePair {n : Nat} {e : Int × Int} (h : 0 ≤ e.1 ∧ e.1 < n ∧ 0 ≤ e.2 ∧ e.2 < n ∧ e.1 ≠ e.2) : isEdgeD n (pairD e) = true := by
  show (isNode n (.int e.1) && isNode n (.int e.2) && !PyData.eqv (.int e.1) (.int e.2)) = true
  rw [nodeIn h.1 h.2.1, nodeIn h.2.2.1 h.2.2.2.1]
  have q : PyData.eqv (.int e.1) (.int e.2) = false := by
    have z : PyData.eqv (.int e.1) (.int e.2) = (e.1 == e.2) := by
      first
        | rfl
        | simp [PyData.eqv]
    rw [z]
    exact beq_eq_false_iff_ne.mpr h.2.2.2.2
  rw [q]
  rfl
def spIsEdgeD (K : PySem.W.Frag) : Sp := fun vs H Q _ => ∃ (n : Nat) (v : V) (d : PyData), vs = [.int (n : Int), v] ∧ Rd K H v d ∧ ∀ H', Same H H' → Q (.bl (isEdgeD n d)) H'
section
variable {P : Program} {w : World} {K : PySem.W.Frag} {mg : Str → Option Value} {base : Heap} {CG CS CM CE : Addr}
theorem ok_is_edgeD {f : Addr} {fd : FuncData} (F : Fun K "is_edge" "is_edge" s_is_edge f fd) (M : Nms mg) (G : At P w K mg base CX0 3 "is_node" ["size", "thing"] (spIsNode K)) :
    FnOk P w K mg base CX0 4 f fd ["size", "thing"] (spIsEdgeD K) := by
  obtain ⟨c, cd, G, mG, kG, bG⟩ := G
  refine F.ok sc_is_edge (fun vs H Q E h => ?_) (fun cdv A outer s H vs Q E hr h => ?_)
  · obtain ⟨n, v, d, rfl, _⟩ := h
    rfl
  · obtain ⟨n, v, d, rfl, hd, k⟩ := h
    have nd := sc_is_edge.nd
    refine ⟨_, (pss_cons (ps_if (PW.pt (pw_or (pt_not (pt_val (pe_callB call_isi (by rfl) M.isi boot_isi (pa_cons (pv 1) (pa_cons (pe_bltn (v := V.ty "tuple") rfl M.tuple (by decide +kernel) rfl) pa_nil))))) (pw_or1 (pt_cmpR op_ne (pe_callB call_len_seq (by rfl) M.len boot_len1 (pa_cons (pv 1) pa_nil)) pe_int (nomark _))))) (pss_one (ps_ret pe_bl)) pss_nil)
      (pss_cons (ps_asg (pv 1) (pg_tup rfl (pgs_cons (pg_name (i := 2) nd rfl (Or.inl rfl)) (pgs_cons (pg_name (i := 3) nd rfl (Or.inl rfl)) pgs_nil))))
      (pss_one (ps_ret (pe_and (pe_call G hr (by rfl) mG kG bG .nil pass0 (pa_cons (pv 0) (pa_cons (pv 2) pa_nil))) (pe_and (pe_call G hr (by rfl) mG kG bG .nil pass0 (pa_cons (pv 0) (pa_cons (pv 3) pa_nil))) (pe_one (pe_cmpR op_ne (pv 2) (pv 3) (nomark _))))))))), ?_⟩
    refine ⟨_, rfl, v, _, _, _, _, rfl, .ty _, rdTy hd, kitTu K d, _, rfl, ?_⟩
    cases d with
    | none => exact iteT (k H (Same.refl H))
    | bool _ => exact iteT (k H (Same.refl H))
    | int _ => exact iteT (k H (Same.refl H))
    | str _ => exact iteT (k H (Same.refl H))
    | list _ => exact iteT (k H (Same.refl H))
    | dict _ => exact iteT (k H (Same.refl H))
    | tuple ds =>
      obtain ⟨t, ys, rfl, ht, hds⟩ := rdTup hd
      have hl := dpAllLen hds
      refine iteF ⟨_, rfl, t, _, rfl, .inr ht, rfl, _, rfl, ?_⟩
      rw [hl]
      by_cases c2 : ds.length = 2
      case neg =>
        rw [decVI, decide_eq_false (by omega)]
        have z := k H (Same.refl H)
        rw [isEdgeLen c2] at z
        exact iteT z
      rw [decVI, decide_eq_true (by omega)]
      refine iteF ?_
      obtain ⟨d1, d2, rfl⟩ : ∃ d1 d2, ds = [d1, d2] := by
        match ds, c2 with
        | [d1, d2], _ => exact ⟨d1, d2, rfl⟩
      obtain ⟨y1, y2, rfl, h1, h2⟩ : ∃ y1 y2, ys = [y1, y2] ∧ Dp K H y1 d1 ∧ Dp K H y2 d2 := by
        cases hds with
        | cons h1 hr1 =>
          cases hr1 with
          | cons h2 hr2 =>
            cases hr2
            exact ⟨_, _, rfl, h1, h2⟩
      refine ⟨_, rfl, t, _, rfl, ht, rfl, _, _, rfl, _, _, rfl, rfl, ?_⟩
      refine ⟨_, rfl, _, rfl, y1, d1, n, rfl, .dat h1, _, rfl, ?_⟩
      have z : Q (.bl (isNode n d1 && isNode n d2 && !PyData.eqv d1 d2)) H := k H (Same.refl H)
      cases c1 : isNode n d1 with
      | false =>
        rw [c1] at z
        exact iteF z
      | true =>
        refine iteT ⟨_, rfl, _, rfl, y2, d2, n, rfl, .dat h2, _, rfl, ?_⟩
        cases c3 : isNode n d2 with
        | false =>
          rw [c1, c3] at z
          exact iteF z
        | true =>
          rw [c1, c3] at z
          obtain ⟨i, rfl, _⟩ := nodeD c1
          obtain ⟨j, rfl, _⟩ := nodeD c3
          cases h1
          cases h2
          refine iteT ⟨_, rfl, _, rfl, rfl, ?_⟩
          have q : PyData.eqv (.int (i : Int)) (.int (j : Int)) = decide (V.int (i : Int) = V.int (j : Int)) := by
            have z : PyData.eqv (.int (i : Int)) (.int (j : Int)) = ((i : Int) == (j : Int)) := by
              first
                | rfl
                | simp [PyData.eqv]
            rw [z, decVI]
            by_cases c : (i : Int) = (j : Int)
            · rw [decide_eq_true c]
              exact beq_iff_eq.mpr c
            · rw [decide_eq_false c]
              exact beq_eq_false_iff_ne.mpr c
          rw [q] at z
          exact z
end

end K01

set_option Elab.async false
set_option linter.all false
set_option maxRecDepth 100000
set_option maxHeartbeats 8000000
namespace K01
open PySem PySem.Spec PyProof.Rows L2 FNX
/-! ## checked_edges, Graph.__init__ over any data -/
def ordP (e : Int × Int) : Int × Int := (min e.1 e.2, max e.1 e.2)
structure GoodU (n : Nat) (es : List (Int × Int)) : Prop where
  node : ∀ e ∈ es, 0 ≤ e.1 ∧ e.1 < n ∧ 0 ≤ e.2 ∧ e.2 < n ∧ e.1 ≠ e.2
  once : (es.map ordP).Nodup
  few : es.length ≤ 1000
def SrtE (es : List (Int × Int)) : Prop := es.Pairwise fun a b => a.1 < b.1 ∨ (a.1 = b.1 ∧ a.2 ≤ b.2)
theorem SrtE.uniq {a b : List (Int × Int)} (p : a.Perm b) (ha : SrtE a) (hb : SrtE b) : a = b := List.Perm.eq_of_pairwise (fun a b _ _ h1 h2 => Prod.ext (by omega) (by omega)) ha hb p
theorem GoodU.ord {n : Nat} {es : List (Int × Int)} (h : GoodU n es) (f : es.length ≤ 40) : GoodE n (es.map ordP) := ⟨fun e he => by
  obtain ⟨d, hd, rfl⟩ := List.mem_map.mp he
  have := h.node d hd
  unfold ordP
  dsimp only
  omega, h.once, by rw [List.length_map]; exact f⟩
theorem ordId {e : Int × Int} (h : e.1 < e.2) : ordP e = e := by
  unfold ordP
  exact Prod.ext (show min e.1 e.2 = e.1 by omega) (show max e.1 e.2 = e.2 by omega)
theorem ordMap {n : Nat} {es : List (Int × Int)} (h : GoodE n es) : es.map ordP = es := by
  have z : ∀ e ∈ es, ordP e = e := fun e he => ordId (h.node e he).2.1
  exact (List.map_congr_left z).trans (List.map_id es)
theorem GoodE.toU {n : Nat} {es : List (Int × Int)} (h : GoodE n es) : GoodU n es := ⟨fun e he => by have := h.node e he; omega, by rw [ordMap h]; exact h.once, Nat.le_trans h.few (by decide)⟩
structure GE (CG : Addr) (H : Hp) (g : Addr) (n : Nat) (es : List (Int × Int)) : Prop where
  obj : ∃ dx j nr N, H g = some (.ins CG dx (gflds (n : Int) j nr)) ∧ EdgesAt H j es ∧ NAt H nr N ∧ IsNear n es N
  good : GoodE n es
  asc : SrtE es
  n1 : 1 ≤ n
  n16 : n ≤ 16
theorem GE.same {CG : Addr} {H H' : Hp} {g : Addr} {n : Nat} {es : List (Int × Int)} (h : GE CG H g n es) (s : Same H H') : GE CG H' g n es := by
  obtain ⟨⟨dx, j, nr, N, h1, h2, h3, h4⟩, a, b, c, d⟩ := h
  exact ⟨⟨dx, j, nr, N, s _ _ h1, h2.same s, h3.same s, h4⟩, a, b, c, d⟩
theorem kitTT (K : PySem.W.Frag) : PySem.W.kitAny K (.type "tuple") [.type "list", .type "tuple"] = some true :=
  kitAny_cons (b := false) (kit_ty (by decide +kernel)) (fun _ => kitAny_cons (b := true) (kit_ty (by decide +kernel)) (fun h => by cases h) (fun _ => rfl)) (fun h => by cases h)
theorem tyXSame {K : PySem.W.Frag} {H H' : Hp} {t : Value} {x : V} (h : TyX K H x t) (s : Same H H') : TyX K H' x t := by
  cases h with
  | base h =>
    cases h with
    | non => exact .base .non
    | bl b => exact .base (.bl b)
    | int i => exact .base (.int i)
    | str z => exact .base (.str z)
    | flt z => exact .base (.flt z)
    | lst e => exact .base (.lst (s _ _ e))
    | frz e => exact .base (.frz (s _ _ e))
    | tup e => exact .base (.tup (s _ _ e))
    | dK e => exact .base (.dK (s _ _ e))
    | dT e => exact .base (.dT (s _ _ e))
    | ins e a b c d f => exact .base (.ins (s _ _ e) a b c d f)
  | byt b => exact .byt b
  | set e => exact .set (s _ _ e)
  | kList e c => exact .kList e c
  | kTuple e c => exact .kTuple e c
  | kDict e c => exact .kDict e c
  | fTuple e => exact .fTuple (s _ _ e)
  | fDict e => exact .fDict (s _ _ e)
/-- good entries, then a bad one -/
def BadAt (K : PySem.W.Frag) (H : Hp) (n : Nat) (v y : V) : Prop := ∃ (p : Addr) (ts : List Addr) (es : List (Int × Int)) (rest : List V), v = .ref p ∧ H p = some (.lst (ts.map V.ref ++ y :: rest)) ∧ TupsAt H ts es ∧ GoodU n es ∧
  ((∃ d, Rd K H y d ∧ isEdgeD n d = false) ∨ ∃ (t : Addr) (e : Int × Int), y = .ref t ∧ H t = some (.tup [.int e.1, .int e.2]) ∧ (0 ≤ e.1 ∧ e.1 < n ∧ 0 ≤ e.2 ∧ e.2 < n ∧ e.1 ≠ e.2) ∧ ordP e ∈ es.map ordP)
def GoodAt (K : PySem.W.Frag) (H : Hp) (n : Nat) (v : V) (es : List (Int × Int)) : Prop := ∃ (p : Addr) (ts : List Addr), v = .ref p ∧ (H p = some (.lst (ts.map V.ref)) ∨ H p = some (.tup (ts.map V.ref))) ∧ TupsAt H ts es ∧ GoodU n es
def NoSeq (K : PySem.W.Frag) (H : Hp) (v : V) : Prop := ∃ T, TyX K H v (.type T) ∧ PySem.W.kitAny K (.type T) [.type "list", .type "tuple"] = some false
def spEdges01 (K : PySem.W.Frag) (CE : Addr) : Sp := fun vs H Q E => ∃ (n : Nat) (v : V), vs = [.int (n : Int), v] ∧
  ((∃ es, GoodAt K H n v es ∧ ∀ q H' es', H q = none → Same H H' → EdgesAt H' q es' → es'.Perm (es.map ordP) → SrtE es' → Q (.ref q) H') ∨ (NoSeq K H v ∧ told CE v H E) ∨ (∃ y, BadAt K H n v y ∧ told CE y H E))
section
variable {P : Program} {w : World} {K : PySem.W.Frag} {mg : Str → Option Value} {base : Heap} {CG CS CM CE : Addr}
theorem ok_checked01 {f : Addr} {fd : FuncData} (F : Fun K "checked_edges" "checked_edges" s_checked_edges f fd) (M : Nms mg) (EE : Ex P w K mg base "InvalidEdge" CE) (tyE : PySem.W.typeIn K (.ref CE) = some (.type "type"))
    (G : At P w K mg base CX0 4 "is_edge" ["size", "thing"] (spIsEdgeD K)) : FnOk P w K mg base (L2.CX P w) 5 f fd ["size", "edges"] (spEdges01 K CE) := by
  obtain ⟨c, cd, G, mG, kG, bG⟩ := G
  refine F.okX sc_checked_edges (fun vs H Q E h => ?_) (fun cdv A outer s H vs Q E hr h => ?_)
  · obtain ⟨n, v, rfl, _⟩ := h
    rfl
  · obtain ⟨n, v, rfl, h⟩ := h
    have hr2 : Room 2 _ := hr.mono (by decide)
    have hu65 : A.units + 3 + 65 < cLine := by
      have := hr.un
      show A.units + 3 + 65 < _
      have z : A.units + 3 + 16 * 4 + 200 < cLine := this
      omega
    have lms : ∀ es : List (Int × Int), (es.map ordP).length = es.length := fun es => List.length_map ..
    rcases h with ⟨es, ⟨p, ts, rfl, (hp | hp), h2, ge⟩, k⟩ | ⟨⟨T, hT, kT⟩, t⟩ | ⟨y, ⟨p, ts, es, rest, rfl, hp, h2, ge, bad⟩, t⟩
    · refine ⟨_, pss_cons (ps_if (pt_not (pt_val (pe_callB call_isiT (by rfl) M.isi boot_isi (pa_cons (pv 1) (pa_cons (pe_tup (pa_cons (pe_bltn (v := V.ty "list") rfl M.list (by decide +kernel) rfl)
          (pa_cons (pe_bltn (v := V.ty "tuple") rfl M.tuple (by decide +kernel) rfl) pa_nil))) pa_nil))))) (pss_one (ps_raiseX rfl EE tyE hr2 (takes_of rfl rfl rfl rfl) rfl (pa_cons (pv 1) pa_nil))) pss_nil)
      (pss_cons (ps_set (i := 2) sc_checked_edges.nd rfl (Or.inl rfl) (pe_lst pa_nil))
      (pss_cons (ps_for PassesOwn.leaving rfl (pi_list (pv 1)) (pg_name (i := 3) sc_checked_edges.nd rfl (Or.inl rfl))
        (pss_cons (ps_if (pt_not (pt_val (pe_call G hr (by rfl) mG kG bG .nil pass0 (pa_cons (pv 0) (pa_cons (pv 3) pa_nil))))) (pss_one (ps_raiseX rfl EE tyE hr2 (takes_of rfl rfl rfl rfl) rfl (pa_cons (pv 3) pa_nil))) pss_nil)
        (pss_cons (ps_set (i := 4) sc_checked_edges.nd rfl (Or.inl rfl) (pe_tup (pa_cons (pe_callB (cr_minT rfl hr.units) (by rfl) M.min boot_min1 (pa_cons (pv 3) pa_nil))
          (pa_cons (pe_callB (cr_maxT rfl hr.units) (by rfl) M.max boot_max1 (pa_cons (pv 3) pa_nil)) pa_nil))))
        (pss_cons (ps_if (pt_cmpR (op_inD hu65) (pv 4) (pv 2) (by rfl)) (pss_one (ps_raiseX rfl EE tyE hr2 (takes_of rfl rfl rfl rfl) rfl (pa_cons (pv 3) pa_nil))) pss_nil)
        (pss_one (ps_expr (pe_bm PySem.F.plainAttrs_list PySem.F.slot_list_append PySem.F.type_list_append mt_append (pv 2) (pa_cons (pv 4) pa_nil))))))))
      (pss_one (ps_ret (pe_callB (show CallR _ (.builtin "sorted") (rSortedPO K) from cr_sortedPO) (by rfl) M.sorted boot_sorted1 (pa_cons (pv 2) pa_nil)))))), ?_⟩
      have ms : ∀ {i : Nat} {e : Int × Int}, es[i]? = some e → (es.map ordP)[i]? = some (ordP e) := fun {i e} he => by rw [List.getElem?_map, he]; rfl
      refine ⟨_, rfl, by show 2 ≤ sizeLine; decide, fun tp ntp => ⟨.ref p, tp, _, _, _, _, rfl, upd_same, .cons (.ty _) (.cons (.ty _) .nil), .base (.lst (same_upd ntp _ _ hp)), kitLT K, _, rfl, iteF ?_⟩⟩
      refine ⟨by show 0 ≤ sizeLine; decide, fun fo nfo => ?_⟩
      have s0 := (same_upd ntp (o := .tup [V.ty "list", V.ty "tuple"])).trans (same_upd nfo (o := .lst []))
      have f0 : H fo = none := Same.free (same_upd ntp) nfo
      refine ⟨_, rfl, p, rfl, ⟨_, SqL.of (s0 _ _ hp)⟩, for_list (K := K) (a := p) (xs := ts.map V.ref) (fun i σ H' => ∃ (o3 o4 : Option V) (fs : List Addr), σ = [some (.int n), some (.ref p), some (.ref fo), o3, o4] ∧
        Same H H' ∧ H' fo = some (.lst (fs.map V.ref)) ∧ TupsAt H' fs ((es.map ordP).take i)) ⟨none, none, [], rfl, s0, upd_same, ⟨rfl, fun k t e => by simp at e⟩⟩ (fun i σ H' _ h => ?_) (fun i y σ H' hi h => ?_) (fun σ H' h => ?_)⟩
      · obtain ⟨_, _, _, _, sm, _, _⟩ := h
        exact SqL.of (sm _ _ hp)
      · obtain ⟨o3, o4, fs, rfl, sm, e1, e2⟩ := h
        obtain ⟨t, ht, rfl⟩ := refAt hi
        obtain ⟨e, he, hte⟩ := h2.2 i t ht
        have good := ge.node e (List.mem_of_getElem? he)
        have hm := ms he
        have hte0 := sm _ _ hte
        refine ⟨_, rfl, _, rfl, n, .ref t, pairD e, rfl, .dat (.tup (SqT.of hte0) (.cons (.int _) (.cons (.int _) .nil))), fun H0' s0' => ⟨_, rfl, ?_⟩⟩
        rw [isEdgePair ⟨good.1, good.2.1, good.2.2.1, good.2.2.2.1, good.2.2.2.2⟩]
        refine iteF ?_
        have sm := sm.trans s0'
        have e1 := s0' _ _ e1
        have e2 := e2.same s0'
        have hte' := sm _ _ hte
        refine ⟨_, rfl, t, e.1, e.2, rfl, hte', _, rfl, t, e.1, e.2, rfl, hte', by show 2 ≤ sizeLine; decide, fun ed ned => ?_⟩
        have e1' : (upd H0' ed (.tup [V.int (min e.1 e.2), V.int (max e.1 e.2)])) fo = some (.lst (fs.map V.ref)) := same_upd ned _ _ e1
        have e2' := e2.same (same_upd ned (o := .tup [V.int (min e.1 e.2), V.int (max e.1 e.2)]))
        refine ⟨_, rfl, _, rfl, pairD (ordP e), ((es.map ordP).take i).map pairD, .tup (SqT.of upd_same) (.cons (.int _) (.cons (.int _) .nil)), .lst (SqL.of e1') (dpTups e2'), rfl, shapedPairs _, _, rfl, ?_⟩
        rw [anyPair (notTaken ge.once hm)]
        refine iteF ⟨_, rfl, .inl ⟨rfl, _, SqL.of e1'⟩, _, rfl, fo, _, _, rfl, rfl, e1', ?_, ?_⟩
        · rw [List.length_map, e2.1, List.length_take, sizeLine_eq]
          have := ge.few
          have := lms es
          omega
        refine ⟨_, _, fs ++ [ed], rfl, fun b o z => ?_, by rw [upd_same, List.map_append]; rfl, ?_, fun k t' hk => ?_⟩
        · rw [upd_ne (ne_of_none z f0)]
          exact same_upd ned _ _ (sm _ _ z)
        · rw [takeMore hm, List.length_append, List.length_append, e2.1]
          rfl
        · have efo : ed ≠ fo := (ne_of_none e1 ned).symm
          by_cases hlt : k < fs.length
          · rw [List.getElem?_append_left hlt] at hk
            obtain ⟨x, q1, q2⟩ := e2.2 k t' hk
            refine ⟨x, ?_, ?_⟩
            · rw [takeMore hm, List.getElem?_append_left (by rw [← e2.1]; exact hlt)]
              exact q1
            · rw [upd_ne (ne_of q2 e1 (by intro z; cases z)), upd_ne (ne_of_none q2 ned)]
              exact q2
          · rw [List.getElem?_append_right (by omega)] at hk
            have hk' : k = fs.length := by
              have z := (List.getElem?_eq_some_iff.mp hk).1
              simp at z
              omega
            subst hk'
            rw [Nat.sub_self] at hk
            obtain rfl : ed = t' := Option.some.inj hk
            refine ⟨ordP e, ?_, ?_⟩
            · rw [takeMore hm, e2.1, List.getElem?_append_right (Nat.le_refl _), Nat.sub_self]
              rfl
            · rw [upd_ne efo, upd_same]
              rfl
      · obtain ⟨o3, o4, fs, rfl, sm, e1, e2⟩ := h
        rw [List.length_map, h2.1, ← lms, List.take_length] at e2
        refine ⟨_, rfl, fo, _, keyE H', rfl, SqL.of e1, fun y hy => ?_, fun ys q hsrt hstb nq => ?_⟩
        · obtain ⟨t, ht, rfl⟩ := List.mem_map.mp hy
          obtain ⟨k', hk', he'⟩ := List.mem_iff_getElem.mp ht
          obtain ⟨x, q1, q2⟩ := e2.2 k' t (by rw [List.getElem?_eq_getElem hk', he'])
          exact ⟨t, rfl, by rw [keyE_at q2]; exact q2⟩
        · obtain ⟨ts', es', rfl, r1, r2⟩ := permTups e2 hstb.perm
          refine k q _ es' (sm.free nq) (sm.trans (same_upd nq)) ⟨ts', upd_same, r1.same (same_upd nq)⟩ r2 ?_
          have ek : (ts'.map V.ref).map (keyE H') = es' := by
            apply List.ext_getElem
            · rw [List.length_map, List.length_map, r1.1]
            · intro k h1 h2
              rw [List.length_map, List.length_map] at h1
              obtain ⟨e, q1, q2⟩ := r1.2 k ts'[k] (List.getElem?_eq_getElem h1)
              rw [List.getElem_map, List.getElem_map, keyE_at q2]
              rw [List.getElem?_eq_getElem h2] at q1
              exact (Option.some.inj q1).symm
          unfold SrtE
          rw [← ek]
          refine List.pairwise_map.mpr (hsrt.imp fun {a b} h => ?_)
          have := SrtO.lexB_no.mp h
          omega
    · refine ⟨_, pss_cons (ps_if (pt_not (pt_val (pe_callB call_isiT (by rfl) M.isi boot_isi (pa_cons (pv 1) (pa_cons (pe_tup (pa_cons (pe_bltn (v := V.ty "list") rfl M.list (by decide +kernel) rfl)
          (pa_cons (pe_bltn (v := V.ty "tuple") rfl M.tuple (by decide +kernel) rfl) pa_nil))) pa_nil))))) (pss_one (ps_raiseX rfl EE tyE hr2 (takes_of rfl rfl rfl rfl) rfl (pa_cons (pv 1) pa_nil))) pss_nil)
      (pss_cons (ps_set (i := 2) sc_checked_edges.nd rfl (Or.inl rfl) (pe_lst pa_nil))
      (pss_cons (ps_for PassesOwn.leaving rfl (pi_tup (pv 1)) (pg_name (i := 3) sc_checked_edges.nd rfl (Or.inl rfl))
        (pss_cons (ps_if (pt_not (pt_val (pe_call G hr (by rfl) mG kG bG .nil pass0 (pa_cons (pv 0) (pa_cons (pv 3) pa_nil))))) (pss_one (ps_raiseX rfl EE tyE hr2 (takes_of rfl rfl rfl rfl) rfl (pa_cons (pv 3) pa_nil))) pss_nil)
        (pss_cons (ps_set (i := 4) sc_checked_edges.nd rfl (Or.inl rfl) (pe_tup (pa_cons (pe_callB (cr_minT rfl hr.units) (by rfl) M.min boot_min1 (pa_cons (pv 3) pa_nil))
          (pa_cons (pe_callB (cr_maxT rfl hr.units) (by rfl) M.max boot_max1 (pa_cons (pv 3) pa_nil)) pa_nil))))
        (pss_cons (ps_if (pt_cmpR (op_inD hu65) (pv 4) (pv 2) (by rfl)) (pss_one (ps_raiseX rfl EE tyE hr2 (takes_of rfl rfl rfl rfl) rfl (pa_cons (pv 3) pa_nil))) pss_nil)
        (pss_one (ps_expr (pe_bm PySem.F.plainAttrs_list PySem.F.slot_list_append PySem.F.type_list_append mt_append (pv 2) (pa_cons (pv 4) pa_nil))))))))
      (pss_one (ps_ret (pe_callB (show CallR _ (.builtin "sorted") (rSortedPO K) from cr_sortedPO) (by rfl) M.sorted boot_sorted1 (pa_cons (pv 2) pa_nil)))))), ?_⟩
      have ms : ∀ {i : Nat} {e : Int × Int}, es[i]? = some e → (es.map ordP)[i]? = some (ordP e) := fun {i e} he => by rw [List.getElem?_map, he]; rfl
      refine ⟨_, rfl, by show 2 ≤ sizeLine; decide, fun tp ntp => ⟨.ref p, tp, _, _, _, _, rfl, upd_same, .cons (.ty _) (.cons (.ty _) .nil), .base (.tup (same_upd ntp _ _ hp)), kitTT K, _, rfl, iteF ?_⟩⟩
      refine ⟨by show 0 ≤ sizeLine; decide, fun fo nfo => ?_⟩
      have s0 := (same_upd ntp (o := .tup [V.ty "list", V.ty "tuple"])).trans (same_upd nfo (o := .lst []))
      have f0 : H fo = none := Same.free (same_upd ntp) nfo
      refine ⟨_, rfl, p, rfl, ⟨_, SqT.of (s0 _ _ hp)⟩, for_tup (K := K) (a := p) (xs := ts.map V.ref) (fun i σ H' => ∃ (o3 o4 : Option V) (fs : List Addr), σ = [some (.int n), some (.ref p), some (.ref fo), o3, o4] ∧
        Same H H' ∧ H' fo = some (.lst (fs.map V.ref)) ∧ TupsAt H' fs ((es.map ordP).take i)) ⟨none, none, [], rfl, s0, upd_same, ⟨rfl, fun k t e => by simp at e⟩⟩ (fun i σ H' _ h => ?_) (fun i y σ H' hi h => ?_) (fun σ H' h => ?_)⟩
      · obtain ⟨_, _, _, _, sm, _, _⟩ := h
        exact SqT.of (sm _ _ hp)
      · obtain ⟨o3, o4, fs, rfl, sm, e1, e2⟩ := h
        obtain ⟨t, ht, rfl⟩ := refAt hi
        obtain ⟨e, he, hte⟩ := h2.2 i t ht
        have good := ge.node e (List.mem_of_getElem? he)
        have hm := ms he
        have hte0 := sm _ _ hte
        refine ⟨_, rfl, _, rfl, n, .ref t, pairD e, rfl, .dat (.tup (SqT.of hte0) (.cons (.int _) (.cons (.int _) .nil))), fun H0' s0' => ⟨_, rfl, ?_⟩⟩
        rw [isEdgePair ⟨good.1, good.2.1, good.2.2.1, good.2.2.2.1, good.2.2.2.2⟩]
        refine iteF ?_
        have sm := sm.trans s0'
        have e1 := s0' _ _ e1
        have e2 := e2.same s0'
        have hte' := sm _ _ hte
        refine ⟨_, rfl, t, e.1, e.2, rfl, hte', _, rfl, t, e.1, e.2, rfl, hte', by show 2 ≤ sizeLine; decide, fun ed ned => ?_⟩
        have e1' : (upd H0' ed (.tup [V.int (min e.1 e.2), V.int (max e.1 e.2)])) fo = some (.lst (fs.map V.ref)) := same_upd ned _ _ e1
        have e2' := e2.same (same_upd ned (o := .tup [V.int (min e.1 e.2), V.int (max e.1 e.2)]))
        refine ⟨_, rfl, _, rfl, pairD (ordP e), ((es.map ordP).take i).map pairD, .tup (SqT.of upd_same) (.cons (.int _) (.cons (.int _) .nil)), .lst (SqL.of e1') (dpTups e2'), rfl, shapedPairs _, _, rfl, ?_⟩
        rw [anyPair (notTaken ge.once hm)]
        refine iteF ⟨_, rfl, .inl ⟨rfl, _, SqL.of e1'⟩, _, rfl, fo, _, _, rfl, rfl, e1', ?_, ?_⟩
        · rw [List.length_map, e2.1, List.length_take, sizeLine_eq]
          have := ge.few
          have := lms es
          omega
        refine ⟨_, _, fs ++ [ed], rfl, fun b o z => ?_, by rw [upd_same, List.map_append]; rfl, ?_, fun k t' hk => ?_⟩
        · rw [upd_ne (ne_of_none z f0)]
          exact same_upd ned _ _ (sm _ _ z)
        · rw [takeMore hm, List.length_append, List.length_append, e2.1]
          rfl
        · have efo : ed ≠ fo := (ne_of_none e1 ned).symm
          by_cases hlt : k < fs.length
          · rw [List.getElem?_append_left hlt] at hk
            obtain ⟨x, q1, q2⟩ := e2.2 k t' hk
            refine ⟨x, ?_, ?_⟩
            · rw [takeMore hm, List.getElem?_append_left (by rw [← e2.1]; exact hlt)]
              exact q1
            · rw [upd_ne (ne_of q2 e1 (by intro z; cases z)), upd_ne (ne_of_none q2 ned)]
              exact q2
          · rw [List.getElem?_append_right (by omega)] at hk
            have hk' : k = fs.length := by
              have z := (List.getElem?_eq_some_iff.mp hk).1
              simp at z
              omega
            subst hk'
            rw [Nat.sub_self] at hk
            obtain rfl : ed = t' := Option.some.inj hk
            refine ⟨ordP e, ?_, ?_⟩
            · rw [takeMore hm, e2.1, List.getElem?_append_right (Nat.le_refl _), Nat.sub_self]
              rfl
            · rw [upd_ne efo, upd_same]
              rfl
      · obtain ⟨o3, o4, fs, rfl, sm, e1, e2⟩ := h
        rw [List.length_map, h2.1, ← lms, List.take_length] at e2
        refine ⟨_, rfl, fo, _, keyE H', rfl, SqL.of e1, fun y hy => ?_, fun ys q hsrt hstb nq => ?_⟩
        · obtain ⟨t, ht, rfl⟩ := List.mem_map.mp hy
          obtain ⟨k', hk', he'⟩ := List.mem_iff_getElem.mp ht
          obtain ⟨x, q1, q2⟩ := e2.2 k' t (by rw [List.getElem?_eq_getElem hk', he'])
          exact ⟨t, rfl, by rw [keyE_at q2]; exact q2⟩
        · obtain ⟨ts', es', rfl, r1, r2⟩ := permTups e2 hstb.perm
          refine k q _ es' (sm.free nq) (sm.trans (same_upd nq)) ⟨ts', upd_same, r1.same (same_upd nq)⟩ r2 ?_
          have ek : (ts'.map V.ref).map (keyE H') = es' := by
            apply List.ext_getElem
            · rw [List.length_map, List.length_map, r1.1]
            · intro k h1 h2
              rw [List.length_map, List.length_map] at h1
              obtain ⟨e, q1, q2⟩ := r1.2 k ts'[k] (List.getElem?_eq_getElem h1)
              rw [List.getElem_map, List.getElem_map, keyE_at q2]
              rw [List.getElem?_eq_getElem h2] at q1
              exact (Option.some.inj q1).symm
          unfold SrtE
          rw [← ek]
          refine List.pairwise_map.mpr (hsrt.imp fun {a b} h => ?_)
          have := SrtO.lexB_no.mp h
          omega
    · refine ⟨_, pss_cons (ps_if (pt_not (pt_val (pe_callB call_isiT (by rfl) M.isi boot_isi (pa_cons (pv 1) (pa_cons (pe_tup (pa_cons (pe_bltn (v := V.ty "list") rfl M.list (by decide +kernel) rfl)
          (pa_cons (pe_bltn (v := V.ty "tuple") rfl M.tuple (by decide +kernel) rfl) pa_nil))) pa_nil))))) (pss_one (ps_raiseX rfl EE tyE hr2 (takes_of rfl rfl rfl rfl) rfl (pa_cons (pv 1) pa_nil))) pss_nil)
      (pss_cons (ps_set (i := 2) sc_checked_edges.nd rfl (Or.inl rfl) (pe_lst pa_nil))
      (pss_cons (ps_for PassesOwn.leaving rfl (pi_list (pv 1)) (pg_name (i := 3) sc_checked_edges.nd rfl (Or.inl rfl))
        (pss_cons (ps_if (pt_not (pt_val (pe_call G hr (by rfl) mG kG bG .nil pass0 (pa_cons (pv 0) (pa_cons (pv 3) pa_nil))))) (pss_one (ps_raiseX rfl EE tyE hr2 (takes_of rfl rfl rfl rfl) rfl (pa_cons (pv 3) pa_nil))) pss_nil)
        (pss_cons (ps_set (i := 4) sc_checked_edges.nd rfl (Or.inl rfl) (pe_tup (pa_cons (pe_callB (cr_minT rfl hr.units) (by rfl) M.min boot_min1 (pa_cons (pv 3) pa_nil))
          (pa_cons (pe_callB (cr_maxT rfl hr.units) (by rfl) M.max boot_max1 (pa_cons (pv 3) pa_nil)) pa_nil))))
        (pss_cons (ps_if (pt_cmpR (op_inD hu65) (pv 4) (pv 2) (by rfl)) (pss_one (ps_raiseX rfl EE tyE hr2 (takes_of rfl rfl rfl rfl) rfl (pa_cons (pv 3) pa_nil))) pss_nil)
        (pss_one (ps_expr (pe_bm PySem.F.plainAttrs_list PySem.F.slot_list_append PySem.F.type_list_append mt_append (pv 2) (pa_cons (pv 4) pa_nil))))))))
      (pss_one (ps_ret (pe_callB (show CallR _ (.builtin "sorted") (rSortedPO K) from cr_sortedPO) (by rfl) M.sorted boot_sorted1 (pa_cons (pv 2) pa_nil)))))), ?_⟩
      refine ⟨_, rfl, by show 2 ≤ sizeLine; decide, fun tp ntp => ⟨v, tp, _, _, _, _, rfl, upd_same, .cons (.ty _) (.cons (.ty _) .nil), tyXSame hT (same_upd ntp), kT, _, rfl, iteT ?_⟩⟩
      exact ⟨_, rfl, v, rfl, fun dd H' nd s2 hx => t H' dd ((same_upd ntp).trans s2) ((same_upd ntp).free nd) hx⟩
    · refine ⟨_, pss_cons (ps_if (pt_not (pt_val (pe_callB call_isiT (by rfl) M.isi boot_isi (pa_cons (pv 1) (pa_cons (pe_tup (pa_cons (pe_bltn (v := V.ty "list") rfl M.list (by decide +kernel) rfl)
          (pa_cons (pe_bltn (v := V.ty "tuple") rfl M.tuple (by decide +kernel) rfl) pa_nil))) pa_nil))))) (pss_one (ps_raiseX rfl EE tyE hr2 (takes_of rfl rfl rfl rfl) rfl (pa_cons (pv 1) pa_nil))) pss_nil)
      (pss_cons (ps_set (i := 2) sc_checked_edges.nd rfl (Or.inl rfl) (pe_lst pa_nil))
      (pss_cons (ps_for PassesOwn.leaving rfl (pi_list (pv 1)) (pg_name (i := 3) sc_checked_edges.nd rfl (Or.inl rfl))
        (pss_cons (ps_if (pt_not (pt_val (pe_call G hr (by rfl) mG kG bG .nil pass0 (pa_cons (pv 0) (pa_cons (pv 3) pa_nil))))) (pss_one (ps_raiseX rfl EE tyE hr2 (takes_of rfl rfl rfl rfl) rfl (pa_cons (pv 3) pa_nil))) pss_nil)
        (pss_cons (ps_set (i := 4) sc_checked_edges.nd rfl (Or.inl rfl) (pe_tup (pa_cons (pe_callB (cr_minT rfl hr.units) (by rfl) M.min boot_min1 (pa_cons (pv 3) pa_nil))
          (pa_cons (pe_callB (cr_maxT rfl hr.units) (by rfl) M.max boot_max1 (pa_cons (pv 3) pa_nil)) pa_nil))))
        (pss_cons (ps_if (pt_cmpR (op_inD hu65) (pv 4) (pv 2) (by rfl)) (pss_one (ps_raiseX rfl EE tyE hr2 (takes_of rfl rfl rfl rfl) rfl (pa_cons (pv 3) pa_nil))) pss_nil)
        (pss_one (ps_expr (pe_bm PySem.F.plainAttrs_list PySem.F.slot_list_append PySem.F.type_list_append mt_append (pv 2) (pa_cons (pv 4) pa_nil))))))))
      (pss_one (ps_ret (pe_callB (show CallR _ (.builtin "sorted") (rSortedPO K) from cr_sortedPO) (by rfl) M.sorted boot_sorted1 (pa_cons (pv 2) pa_nil)))))), ?_⟩
      have ms : ∀ {i : Nat} {e : Int × Int}, es[i]? = some e → (es.map ordP)[i]? = some (ordP e) := fun {i e} he => by rw [List.getElem?_map, he]; rfl
      refine ⟨_, rfl, by show 2 ≤ sizeLine; decide, fun tp ntp => ⟨.ref p, tp, _, _, _, _, rfl, upd_same, .cons (.ty _) (.cons (.ty _) .nil), .base (.lst (same_upd ntp _ _ hp)), kitLT K, _, rfl, iteF ?_⟩⟩
      refine ⟨by show 0 ≤ sizeLine; decide, fun fo nfo => ?_⟩
      have s0 := (same_upd ntp (o := .tup [V.ty "list", V.ty "tuple"])).trans (same_upd nfo (o := .lst []))
      have f0 : H fo = none := Same.free (same_upd ntp) nfo
      refine ⟨_, rfl, p, rfl, ⟨_, SqL.of (s0 _ _ hp)⟩, for_list (K := K) (a := p) (xs := ts.map V.ref ++ y :: rest) (fun i σ H' => i ≤ ts.length ∧ ∃ (o3 o4 : Option V) (fs : List Addr), σ = [some (.int n), some (.ref p), some (.ref fo), o3, o4] ∧
        Same H H' ∧ H' fo = some (.lst (fs.map V.ref)) ∧ TupsAt H' fs ((es.map ordP).take i)) ⟨Nat.zero_le _, none, none, [], rfl, s0, upd_same, ⟨rfl, fun k t e => by simp at e⟩⟩ (fun i σ H' _ h => ?_) (fun i y' σ H' hi h => ?_) (fun σ H' h => ?_)⟩
      · obtain ⟨_, _, _, _, _, sm, _, _⟩ := h
        exact SqL.of (sm _ _ hp)
      · obtain ⟨hle, o3, o4, fs, rfl, sm, e1, e2⟩ := h
        by_cases c : i < ts.length
        case pos =>
          rw [List.getElem?_append_left (by rw [List.length_map]; exact c)] at hi
          obtain ⟨t', ht, rfl⟩ := refAt hi
          obtain ⟨e, he, hte⟩ := h2.2 i t' ht
          have good := ge.node e (List.mem_of_getElem? he)
          have hm := ms he
          have hte0 := sm _ _ hte
          refine ⟨_, rfl, _, rfl, n, .ref t', pairD e, rfl, .dat (.tup (SqT.of hte0) (.cons (.int _) (.cons (.int _) .nil))), fun H0' s0' => ⟨_, rfl, ?_⟩⟩
          rw [isEdgePair ⟨good.1, good.2.1, good.2.2.1, good.2.2.2.1, good.2.2.2.2⟩]
          refine iteF ?_
          have sm := sm.trans s0'
          have e1 := s0' _ _ e1
          have e2 := e2.same s0'
          have hte' := sm _ _ hte
          refine ⟨_, rfl, t', e.1, e.2, rfl, hte', _, rfl, t', e.1, e.2, rfl, hte', by show 2 ≤ sizeLine; decide, fun ed ned => ?_⟩
          have e1' : (upd H0' ed (.tup [V.int (min e.1 e.2), V.int (max e.1 e.2)])) fo = some (.lst (fs.map V.ref)) := same_upd ned _ _ e1
          have e2' := e2.same (same_upd ned (o := .tup [V.int (min e.1 e.2), V.int (max e.1 e.2)]))
          refine ⟨_, rfl, _, rfl, pairD (ordP e), ((es.map ordP).take i).map pairD, .tup (SqT.of upd_same) (.cons (.int _) (.cons (.int _) .nil)), .lst (SqL.of e1') (dpTups e2'), rfl, shapedPairs _, _, rfl, ?_⟩
          rw [anyPair (notTaken ge.once hm)]
          refine iteF ⟨_, rfl, .inl ⟨rfl, _, SqL.of e1'⟩, _, rfl, fo, _, _, rfl, rfl, e1', ?_, ?_⟩
          · rw [List.length_map, e2.1, List.length_take, sizeLine_eq]
            have := ge.few
            have := lms es
            omega
          refine ⟨by omega, _, _, fs ++ [ed], rfl, fun b o z => ?_, by rw [upd_same, List.map_append]; rfl, ?_, fun k t2 hk => ?_⟩
          · rw [upd_ne (ne_of_none z f0)]
            exact same_upd ned _ _ (sm _ _ z)
          · rw [takeMore hm, List.length_append, List.length_append, e2.1]
            rfl
          · have efo : ed ≠ fo := (ne_of_none e1 ned).symm
            by_cases hlt : k < fs.length
            · rw [List.getElem?_append_left hlt] at hk
              obtain ⟨x, q1, q2⟩ := e2.2 k t2 hk
              refine ⟨x, ?_, ?_⟩
              · rw [takeMore hm, List.getElem?_append_left (by rw [← e2.1]; exact hlt)]
                exact q1
              · rw [upd_ne (ne_of q2 e1 (by intro z; cases z)), upd_ne (ne_of_none q2 ned)]
                exact q2
            · rw [List.getElem?_append_right (by omega)] at hk
              have hk' : k = fs.length := by
                have z := (List.getElem?_eq_some_iff.mp hk).1
                simp at z
                omega
              subst hk'
              rw [Nat.sub_self] at hk
              obtain rfl : ed = t2 := Option.some.inj hk
              refine ⟨ordP e, ?_, ?_⟩
              · rw [takeMore hm, e2.1, List.getElem?_append_right (Nat.le_refl _), Nat.sub_self]
                rfl
              · rw [upd_ne efo, upd_same]
                rfl
        have ei : i = ts.length := by omega
        rw [List.getElem?_append_right (by rw [List.length_map]; omega), List.length_map, ei, Nat.sub_self] at hi
        obtain rfl : y = y' := Option.some.inj hi
        rcases bad with ⟨d, hd, hb⟩ | ⟨t0, e, rfl, hte, hge, hmem⟩
        · refine ⟨_, rfl, _, rfl, n, y, d, rfl, rdSame sm hd, fun H0' s0' => ⟨_, rfl, ?_⟩⟩
          rw [hb]
          exact iteT ⟨_, rfl, y, rfl, fun dd H2 nd s2 hx => t H2 dd (sm.trans (s0'.trans s2)) ((sm.trans s0').free nd) hx⟩
        · refine ⟨_, rfl, _, rfl, n, .ref t0, pairD e, rfl, .dat (.tup (SqT.of (sm _ _ hte)) (.cons (.int _) (.cons (.int _) .nil))), fun H0' s0' => ⟨_, rfl, ?_⟩⟩
          rw [isEdgePair hge]
          refine iteF ?_
          have sm := sm.trans s0'
          have e1 := s0' _ _ e1
          have e2 := e2.same s0'
          have hte' := sm _ _ hte
          refine ⟨_, rfl, t0, e.1, e.2, rfl, hte', _, rfl, t0, e.1, e.2, rfl, hte', by show 2 ≤ sizeLine; decide, fun ed ned => ?_⟩
          have s3 := same_upd ned (o := .tup [V.int (min e.1 e.2), V.int (max e.1 e.2)])
          have e1' : (upd H0' ed (.tup [V.int (min e.1 e.2), V.int (max e.1 e.2)])) fo = some (.lst (fs.map V.ref)) := s3 _ _ e1
          have e2' := e2.same s3
          refine ⟨_, rfl, _, rfl, pairD (ordP e), ((es.map ordP).take i).map pairD, .tup (SqT.of upd_same) (.cons (.int _) (.cons (.int _) .nil)), .lst (SqL.of e1') (dpTups e2'), rfl, shapedPairs _, _, rfl, ?_⟩
          rw [ei, h2.1, ← lms, List.take_length, anyPairT hmem]
          exact iteT ⟨_, rfl, .ref t0, rfl, fun dd H2 nd s2 hx => t H2 dd (sm.trans (s3.trans s2)) ((sm.trans s3).free nd) hx⟩
      · obtain ⟨hle, _⟩ := h
        rw [List.length_append, List.length_map, List.length_cons] at hle
        omega
end

end K01

set_option Elab.async false
set_option linter.all false
set_option maxRecDepth 100000
set_option maxHeartbeats 8000000
namespace K01
open PySem PySem.Spec PyProof.Rows L2 FNX
/-! ## Graph.__init__ over any data, its methods -/
def spGI01 (K : PySem.W.Frag) (CG CS CM CE : Addr) : Sp := fun vs H Q E => ∃ (x dx : Addr) (sv ev : V), vs = [.ref x, sv, ev] ∧ H x = some (.ins CG dx []) ∧
  ((∃ sd, Rd K H sv sd ∧ within 1 16 sd = false ∧ told CS sv H E) ∨
   (∃ n : Nat, sv = .int (n : Int) ∧ 1 ≤ n ∧ n ≤ 16 ∧
     ((NoSeq K H ev ∧ told CE ev H E) ∨ (∃ y, BadAt K H n ev y ∧ told CE y H E) ∨
      (∃ es, GoodAt K H n ev es ∧ (40 < es.length → told CM (.int (es.length : Int)) H E) ∧
        (es.length ≤ 40 → ∀ H' j nr N es', (∀ b o, b ≠ x → H b = some o → H' b = some o) → H' x = some (.ins CG dx (gflds (n : Int) j nr)) → EdgesAt H' j es' → NAt H' nr N → IsNear n es' N → es'.Perm (es.map ordP) → SrtE es' → H j = none → (∀ H2, (∀ b o, H b = none → H' b = some o → H2 b = some o) → NAt H2 nr N) → Q .non H')))))
section
variable {P : Program} {w : World} {K : PySem.W.Frag} {mg : Str → Option Value} {base : Heap} {CG CS CM CE CN : Addr}
theorem ok_gi01 {f : Addr} {fd : FuncData} {dvs : List V} {kws : List (Str × V)} (F : FunD K "__init__" "Graph.__init__" (defArgs s_Graph_init) (defBody s_Graph_init) (defScope s_Graph_init) dvs kws f fd) (T : GTxt K mg CG) (M : Nms mg)
    {t16 t40 : Tok} (m16 : mg "MOST_NODES" = some (.int 16 t16)) (m40 : mg "MOST_EDGES" = some (.int 40 t40)) (ES : Ex P w K mg base "InvalidSize" CS) (tyS : PySem.W.typeIn K (.ref CS) = some (.type "type"))
    (EM : Ex P w K mg base "TooMany" CM) (tyM : PySem.W.typeIn K (.ref CM) = some (.type "type"))
    (GW : At P w K mg base CX0 2 "is_integer_within" ["thing", "low", "high"] (spWithin K)) (GE' : At P w K mg base (L2.CX P w) 5 "checked_edges" ["size", "edges"] (spEdges01 K CE)) (GN : At P w K mg base CX0 1 "neighbour_lists" ["size", "edges"] (spNear K)) :
    FnOk P w K mg base (L2.CX P w) 6 f fd ["self", "size", "edges"] (spGI01 K CG CS CM CE) := by
  obtain ⟨gw, gwd, GW, mW, kW, bW⟩ := GW
  obtain ⟨ge, ged, GE', mE, kE, bE⟩ := GE'
  obtain ⟨gn, gnd, GN, mN, kN, bN⟩ := GN
  refine F.ok sc_ginit (fun vs H Q E h => ?_) (fun cdv A outer s H vs Q E hr h => ?_)
  · obtain ⟨x, dx, sv, ev, rfl, _⟩ := h
    rfl
  · obtain ⟨x, dx, sv, ev, rfl, hx, h⟩ := h
    have hr2 : Room 2 _ := hr.mono (by decide)
    have hr1 : Room 1 _ := hr.mono (by decide)
    refine ⟨_, pss_cons (ps_if (pt_not (pt_val (pe_call GW hr2 (by rfl) mW kW bW .nil pass0 (pa_cons (pv 1) (pa_cons pe_int (pa_cons (pe_glob (v := .int 16) (by rfl) m16 ⟨_, rfl⟩) pa_nil)))))) (pss_one (ps_raiseX rfl ES tyS hr2 (takes_of rfl rfl rfl rfl) rfl (pa_cons (pv 1) pa_nil))) pss_nil)
      (pss_cons (ps_set (i := 3) sc_ginit.nd rfl (Or.inl rfl) (pe_call GE' hr (by rfl) mE kE bE .nil (passes_call (E := E) (takes_of rfl rfl rfl rfl) (fun _ _ _ _ h => h)) (pa_cons (pv 1) (pa_cons (pv 2) pa_nil))))
      (pss_cons (ps_if (pt_cmpR op_gt (pe_callB call_len_seq (by rfl) M.len boot_len1 (pa_cons (pv 3) pa_nil)) (pe_glob (v := .int 40) (by rfl) m40 ⟨_, rfl⟩) (nomark _)) (pss_one (ps_raiseX rfl EM tyM hr2 (takes_of rfl rfl rfl rfl) rfl (pa_cons (pe_callB call_len_seq (by rfl) M.len boot_len1 (pa_cons (pv 3) pa_nil)) pa_nil))) pss_nil)
      (pss_cons (ps_fld (pv 0) (pv 1) rfl)
      (pss_cons (ps_fld (pv 0) (pv 3) rfl)
      (pss_one (ps_fld (pv 0) (pe_call GN hr1 (by rfl) mN kN bN .nil pass0 (pa_cons (pv 1) (pa_cons (pv 3) pa_nil))) rfl)))))), ?_⟩
    rcases h with ⟨sd, hsd, hw, t⟩ | ⟨n, rfl, n1, n16, h⟩
    · refine ⟨_, rfl, sv, sd, 1, 16, rfl, hsd, _, rfl, ?_⟩
      rw [hw]
      exact iteT ⟨_, rfl, sv, rfl, fun dd H' nd s2 hx => t H' dd s2 nd hx⟩
    refine ⟨_, rfl, .int n, .int n, 1, 16, rfl, .dat (.int n), _, rfl, ?_⟩
    have hw : within 1 16 (.int (n : Int)) = true := by
      show (decide ((1 : Int) ≤ n) && decide ((n : Int) ≤ 16)) = true
      rw [decide_eq_true (by omega), decide_eq_true (by omega)]
      rfl
    rw [hw]
    refine iteF ?_
    refine ⟨_, rfl, _, rfl, n, ev, rfl, ?_⟩
    rcases h with h | h | ⟨es, hG, kM, k⟩
    · exact .inr (.inl h)
    · exact .inr (.inr h)
    have good : GoodU n es := by
      obtain ⟨_, _, _, _, _, g⟩ := hG
      exact g
    refine .inl ⟨es, hG, fun q H1 es1 nq s1 hq pe sE => ?_⟩
    obtain ⟨ts, h1, h2⟩ := id hq
    have les : ts.length = es.length := by rw [h2.1, pe.length_eq, List.length_map]
    refine ⟨_, rfl, q, _, rfl, .inl (SqL.of h1), _, _, rfl, rfl, _, rfl, ?_⟩
    by_cases c40 : es.length ≤ 40
    case neg =>
      rw [decide_eq_true (by rw [List.length_map, les]; omega)]
      refine iteT ⟨_, rfl, q, _, rfl, .inl (SqL.of h1), _, rfl, fun dd H' nd s2 hx => ?_⟩
      rw [List.length_map, les] at hx
      exact kM (by omega) H' dd (s1.trans s2) (s1.free nd) hx
    rw [decide_eq_false (by rw [List.length_map, les]; omega)]
    have good1 : GoodE n es1 := (good.ord c40).perm pe
    refine iteF ?_
    have nxq : q ≠ x := (ne_of_none hx nq).symm
    refine ⟨_, rfl, _, rfl, x, CG, dx, _, rfl, s1 _ _ hx, T.cl, T.n1, by decide, ?_⟩
    refine ⟨_, rfl, _, rfl, x, CG, dx, _, rfl, upd_same, T.cl, T.n2, (by show 1 < 1000; decide), ?_⟩
    have hx1 := s1 _ _ hx
    have tx : ∀ (k : Nat) (t : Addr), ts[k]? = some t → t ≠ x := fun k t e => by
      obtain ⟨z, _, q2⟩ := h2.2 k t e
      exact ne_of q2 hx1 (by intro y; cases y)
    refine ⟨_, rfl, _, rfl, n, q, es1, rfl, ?_, good1, by omega, fun r H2 N nr s2 hN near => ?_⟩
    · exact ⟨ts, by rw [upd_ne nxq, upd_ne nxq]; exact h1, h2.1, fun k t e => by
        obtain ⟨z, q1, q2⟩ := h2.2 k t e
        exact ⟨z, q1, by rw [upd_ne (tx k t e), upd_ne (tx k t e)]; exact q2⟩⟩
    have hx2 := s2 _ _ (upd_same (H := upd H1 x (.ins CG dx (putF "node_count" (.int n) []))) (a := x) (o := .ins CG dx (putF "joined" (.ref q) (putF "node_count" (.int n) []))))
    refine ⟨_, rfl, x, CG, dx, _, rfl, hx2, T.cl, T.n3, (by show 2 < 1000; decide), ?_⟩
    have up : ∀ b o, b ≠ x → H1 b = some o → H2 b = some o := fun b o hb e => s2 _ _ (by rw [upd_ne hb, upd_ne hb]; exact e)
    refine k c40 _ q r N es1 (fun b o hb e => ?_) ?_ ⟨ts, ?_, h2.1, fun k t e => ?_⟩ ?_ near pe sE nq (fun H3 h3 => ?_)
    · rw [upd_ne hb]
      exact up b o hb (s1 _ _ e)
    · rw [upd_same]
      rfl
    · rw [upd_ne nxq]
      exact up q _ nxq h1
    · obtain ⟨z, q1, q2⟩ := h2.2 k t e
      exact ⟨z, q1, by rw [upd_ne (tx k t e)]; exact up t _ (tx k t e) q2⟩
    · refine hN _ fun b o hb e => ?_
      have bx : b ≠ x := fun z => by
        rw [z, upd_same] at hb
        cases hb
      rw [upd_ne bx]
      exact e
    · refine hN _ fun b o hb e => ?_
      have bx : b ≠ x := fun z => by
        rw [z, upd_same] at hb
        cases hb
      rw [upd_ne bx, upd_ne bx] at hb
      exact h3 b o (s1.free hb) (by rw [upd_ne bx]; exact e)
theorem preS {CG : Addr} {H : Hp} {x dx : Addr} (nx : H x = none) (ndx : H dx = none) (ne : dx ≠ x) : Same H (upd (upd H dx (.own x)) x (.ins CG dx [])) := by
  have sA : Same H (upd H dx (.own x)) := same_upd ndx
  have nx1 : (upd H dx (.own x)) x = none := by rw [upd_ne ne.symm]; exact nx
  exact sA.trans (same_upd nx1)
theorem made {CG : Addr} {H H' : Hp} {x dx j nr : Addr} {n : Nat} {N : List (List Int)} {es es' : List (Int × Int)} (nx : H x = none) (ndx : H dx = none) (ne : dx ≠ x) (hU : GoodU n es) (n1 : 1 ≤ n) (c16 : n ≤ 16) (c40 : es.length ≤ 40)
    (up : ∀ b o, b ≠ x → (upd (upd H dx (.own x)) x (.ins CG dx [])) b = some o → H' b = some o) (hx' : H' x = some (.ins CG dx (gflds (n : Int) j nr))) (hj : EdgesAt H' j es') (hN : NAt H' nr N) (near : IsNear n es' N) (pe : es'.Perm (es.map ordP)) (sE : SrtE es') :
    Same H H' ∧ GE CG H' x n es' := by
  have s := preS (CG := CG) nx ndx ne
  exact ⟨fun b o e => up b o (ne_of_none e nx) (s _ _ e), ⟨dx, j, nr, N, hx', hj, hN, near⟩, (hU.ord c40).perm pe, sE, n1, c16⟩
theorem goodSame {H H' : Hp} {n : Nat} {v : V} {es : List (Int × Int)} (h : GoodAt K H n v es) (s : Same H H') : GoodAt K H' n v es := by
  obtain ⟨p, ts, rfl, h1, h2, g⟩ := h
  exact ⟨p, ts, rfl, h1.imp (s _ _) (s _ _), h2.same s, g⟩
theorem noSeqSame {H H' : Hp} {v : V} (h : NoSeq K H v) (s : Same H H') : NoSeq K H' v := by
  obtain ⟨T, h1, h2⟩ := h
  exact ⟨T, tyXSame h1 s, h2⟩
theorem badSame {H H' : Hp} {n : Nat} {v y : V} (h : BadAt K H n v y) (s : Same H H') : BadAt K H' n v y := by
  obtain ⟨p, ts, es, rest, rfl, h1, h2, g, b⟩ := h
  refine ⟨p, ts, es, rest, rfl, s _ _ h1, h2.same s, g, b.imp (fun ⟨d, h, e⟩ => ⟨d, rdSame s h, e⟩) (fun ⟨t, e, h1, h2, h3⟩ => ⟨t, e, h1, s _ _ h2, h3⟩)⟩
def spSizeE (CG : Addr) : Sp := fun vs H Q _ => ∃ g n es, vs = [.ref g] ∧ GE CG H g n es ∧ Q (.int (n : Int)) H
def spEdgesOf (CG : Addr) : Sp := fun vs H Q _ => ∃ g n es, vs = [.ref g] ∧ GE CG H g n es ∧ ∀ q H', H q = none → Same H H' → EdgesAt H' q es → Q (.ref q) H'
def spLenE (CG : Addr) : Sp := fun vs H Q _ => ∃ g n es, vs = [.ref g] ∧ GE CG H g n es ∧ Q (.int (es.length : Int)) H
def spNb (K : PySem.W.Frag) (CG CN : Addr) : Sp := fun vs H Q E => ∃ g n es v d, vs = [.ref g, v] ∧ GE CG H g n es ∧ Rd K H v d ∧ (isNode n d = false → told CN v H E) ∧
  (∀ a : Nat, d = .int (a : Int) → a < n → ∀ N q H', IsNear n es N → H q = none → Same H H' → H' q = some (.lst ((N.getD a []).map V.int)) → Q (.ref q) H')
theorem ok_gsizeE {f : Addr} {fd : FuncData} (F : Fun K "size" "Graph.size" s_Graph_size f fd) (T : GTxt K mg CG) : FnOk P w K mg base CX0 1 f fd ["self"] (spSizeE CG) := by
  refine F.ok sc_gsize (fun vs H Q E h => ?_) (fun cdv A outer s H vs Q E hr h => ?_)
  · obtain ⟨g, n, es, rfl, _⟩ := h
    rfl
  · obtain ⟨g, n, es, rfl, ⟨⟨dx, j, nr, N, h1, h2, _, _⟩, _, _, _, _⟩, k⟩ := h
    exact ⟨_, pss_one (ps_ret (pe_fld (pv 0) rfl)), _, rfl, g, CG, dx, _, _, rfl, h1, T.cl, T.n1, gl_n _ _ _, k⟩
theorem sc_gedges : FnScope ["self"] ["self"] (defScope s_Graph_edges) := ⟨rfl, rfl, rfl, by decide +kernel, rfl, by decide +kernel, by decide +kernel⟩
theorem ok_gedges {f : Addr} {fd : FuncData} (F : Fun K "edges" "Graph.edges" s_Graph_edges f fd) (T : GTxt K mg CG) (M : Nms mg) : FnOk P w K mg base CX0 1 f fd ["self"] (spEdgesOf CG) := by
  refine F.ok sc_gedges (fun vs H Q E h => ?_) (fun cdv A outer s H vs Q E hr h => ?_)
  · obtain ⟨g, n, es, rfl, _⟩ := h
    rfl
  · obtain ⟨g, n, es, rfl, ⟨⟨dx, j, nr, N, h1, ⟨ts, h2, h3⟩, _, _⟩, _, _, _, _⟩, k⟩ := h
    refine ⟨_, pss_one (ps_ret (pe_callTy call_list_of (by rfl) M.list (by decide +kernel) (pa_cons (pe_fld (pv 0) rfl) pa_nil))), ?_⟩
    refine ⟨_, rfl, g, CG, dx, _, _, rfl, h1, T.cl, T.n2, gl_j _ _ _, j, _, rfl, .inl (SqL.of h2), fun q nq => ?_⟩
    exact k q _ nq (same_upd nq) ⟨ts, upd_same, h3.same (same_upd nq)⟩
theorem sc_glen : FnScope ["self"] ["self"] (defScope s_Graph_len) := ⟨rfl, rfl, rfl, by decide +kernel, rfl, by decide +kernel, by decide +kernel⟩
theorem ok_glen {f : Addr} {fd : FuncData} (F : Fun K "__len__" "Graph.__len__" s_Graph_len f fd) (T : GTxt K mg CG) (M : Nms mg) : FnOk P w K mg base CX0 1 f fd ["self"] (spLenE CG) := by
  refine F.ok sc_glen (fun vs H Q E h => ?_) (fun cdv A outer s H vs Q E hr h => ?_)
  · obtain ⟨g, n, es, rfl, _⟩ := h
    rfl
  · obtain ⟨g, n, es, rfl, ⟨⟨dx, j, nr, N, h1, ⟨ts, h2, h3⟩, _, _⟩, _, _, _, _⟩, k⟩ := h
    refine ⟨_, pss_one (ps_ret (pe_callB call_len_seq (by rfl) M.len boot_len1 (pa_cons (pe_fld (pv 0) rfl) pa_nil))), ?_⟩
    refine ⟨_, rfl, g, CG, dx, _, _, rfl, h1, T.cl, T.n2, gl_j _ _ _, j, _, rfl, .inl (SqL.of h2), ?_⟩
    rw [List.length_map, h3.1]
    exact k
def spCheckNodeY (K : PySem.W.Frag) (CN : Addr) : Sp := fun vs H Q E => ∃ (n : Nat) (v : V) (d : PyData), vs = [.int (n : Int), v] ∧ Rd K H v d ∧ (isNode n d = false → told CN v H E) ∧ (isNode n d = true → Q .non H)
theorem ok_check_nodeY {f : Addr} {fd : FuncData} (F : Fun K "check_node" "check_node" s_check_node f fd) (EN : Ex P w K mg base "InvalidNode" CN) (tyN : PySem.W.typeIn K (.ref CN) = some (.type "type"))
    (G : At P w K mg base CX0 3 "is_node" ["size", "thing"] (spIsNode K)) : FnOk P w K mg base (L2.CX P w) 4 f fd ["size", "node"] (spCheckNodeY K CN) := by
  obtain ⟨g, gd, G, mG, kG, bG⟩ := G
  refine F.okX sc_check_node (fun vs H Q E h => ?_) (fun cdv A outer s H vs Q E hr h => ?_)
  · obtain ⟨n, v, d, rfl, _⟩ := h
    rfl
  · obtain ⟨n, v, d, rfl, hd, t, k⟩ := h
    have hr2 : Room 2 _ := hr.mono (by decide)
    refine ⟨_, pss_one (ps_if (pt_not (pt_val (pe_call G hr (by rfl) mG kG bG .nil pass0 (pa_cons (pv 0) (pa_cons (pv 1) pa_nil))))) (pss_one (ps_raiseX rfl EN tyN hr2 (takes_of rfl rfl rfl rfl) rfl (pa_cons (pv 1) pa_nil))) pss_nil), ?_⟩
    refine ⟨_, rfl, _, rfl, v, d, n, rfl, hd, _, rfl, ?_⟩
    cases c : isNode n d with
    | false => exact iteT ⟨_, rfl, v, rfl, fun dd H' nd s2 hx => t c H' dd s2 nd hx⟩
    | true => exact iteF (k c)
theorem ok_nbY {f : Addr} {fd : FuncData} (F : Fun K "neighbours" "Graph.neighbours" s_Graph_neighbours f fd) (T : GTxt K mg CG) (M : Nms mg) (G : At P w K mg base (L2.CX P w) 4 "check_node" ["size", "node"] (spCheckNodeY K CN)) :
    FnOk P w K mg base (L2.CX P w) 5 f fd ["self", "node"] (spNb K CG CN) := by
  obtain ⟨c, cd, G, mG, kG, bG⟩ := G
  refine F.okX sc_neighbours (fun vs H Q E h => ?_) (fun cdv A outer s H vs Q E hr h => ?_)
  · obtain ⟨g, n, es, v, d, rfl, _⟩ := h
    rfl
  · obtain ⟨g, n, es, v, d, rfl, ⟨⟨dx, j, nr, N, h1, h2, h3, h4⟩, _, _, _, _⟩, hd, t, k⟩ := h
    refine ⟨_, pss_cons (ps_expr (pe_call G hr (by rfl) mG kG bG .nil (passes_call (E := E) (takes_of rfl rfl rfl rfl) (fun _ _ _ _ h => h)) (pa_cons (pe_fld (pv 0) rfl) (pa_cons (pv 1) pa_nil))))
      (pss_one (ps_ret (pe_callTy call_list_of (by rfl) M.list (by decide +kernel) (pa_cons (pe_ix ix_list (pe_fld (pv 0) rfl) (pv 1) (fun _ _ => rfl)) pa_nil)))), ?_⟩
    refine ⟨_, rfl, g, CG, dx, _, _, rfl, h1, T.cl, T.n1, gl_n _ _ _, _, rfl, n, v, d, rfl, hd, t, fun hn => ?_⟩
    obtain ⟨a, rfl, ha⟩ := nodeD hn
    cases hd with
    | dat hd =>
      cases hd
      obtain ⟨xs, r, g1, g2, g3⟩ := h3.row (i := (a : Int)) (by omega) (by rw [h4.len]; omega)
      refine ⟨_, rfl, g, CG, dx, _, _, rfl, h1, T.cl, T.n3, gl_r _ _ _, _, rfl, nr, xs, (a : Int), _, rfl, rfl, SqL.of g1, g2, r, _, rfl, .inl (SqL.of g3), fun q nq => ?_⟩
      exact k a rfl ha N q _ h4 nq (same_upd nq) upd_same
end

/-! ## components: what is reached, and labels that spread -/
def Rch (adj : Nat → Nat → Prop) : Nat → Nat → Nat → Prop
  | 0, u, v => u = v
  | k + 1, u, v => Rch adj k u v ∨ ∃ w, Rch adj k u w ∧ adj w v
def Con (adj : Nat → Nat → Prop) (u v : Nat) : Prop := ∃ k, Rch adj k u v
section
variable {adj : Nat → Nat → Prop}
theorem Rch.mono {k : Nat} {u v : Nat} (h : Rch adj k u v) : ∀ j, Rch adj (k + j) u v
  | 0 => h
  | j + 1 => .inl (Rch.mono h j)
theorem Con.refl (u : Nat) : Con adj u u := ⟨0, rfl⟩
theorem Con.step {u w v : Nat} (h : Con adj u w) (a : adj w v) : Con adj u v := by
  obtain ⟨k, h⟩ := h
  exact ⟨k + 1, .inr ⟨w, h, a⟩⟩
theorem Con.of : ∀ (k : Nat) {u v : Nat} {P : Nat → Prop}, P u → (∀ w v, P w → adj w v → P v) → Rch adj k u v → P v
  | 0, _, _, _, h, _, e => by
    cases e
    exact h
  | k + 1, _, _, _, h, st, e => by
    rcases e with e | ⟨w, e, a⟩
    · exact Con.of k h st e
    · exact st w _ (Con.of k h st e) a
theorem Con.ind {u v : Nat} {P : Nat → Prop} (h : Con adj u v) (h0 : P u) (st : ∀ w v, P w → adj w v → P v) : P v := by
  obtain ⟨k, h⟩ := h
  exact Con.of k h0 st h
theorem Con.trans {u v w : Nat} (h : Con adj u v) (g : Con adj v w) : Con adj u w := g.ind (P := fun z => Con adj u z) h fun _ _ p a => p.step a
theorem Con.symm (sy : ∀ a b, adj a b → adj b a) {u v : Nat} (h : Con adj u v) : Con adj v u :=
  h.ind (P := fun z => Con adj z u) (Con.refl u) fun a b p e => ((Con.refl b).step (sy a b e)).trans p
open Classical in
noncomputable def cntC (P : Nat → Prop) : Nat → Nat
  | 0 => 0
  | n + 1 => cntC P n + if P n then 1 else 0
theorem cntC_le (P : Nat → Prop) : ∀ n, cntC P n ≤ n
  | 0 => Nat.le_refl _
  | n + 1 => by
    have := cntC_le P n
    unfold cntC
    split <;> omega
theorem cntC_mono {P Q : Nat → Prop} : ∀ n, (∀ v, v < n → P v → Q v) → cntC P n ≤ cntC Q n
  | 0, _ => Nat.le_refl _
  | n + 1, h => by
    have ih := cntC_mono n fun v hv => h v (by omega)
    unfold cntC
    by_cases c : P n
    · rw [if_pos c, if_pos (h n (by omega) c)]
      omega
    · rw [if_neg c]
      omega
theorem cntC_lt {P Q : Nat → Prop} : ∀ n, (∀ v, v < n → P v → Q v) → (∃ v, v < n ∧ Q v ∧ ¬ P v) → cntC P n < cntC Q n
  | 0, _, h => by
    obtain ⟨v, hv, _⟩ := h
    omega
  | n + 1, h, ⟨v, hv, q, p⟩ => by
    unfold cntC
    by_cases c : v = n
    · subst c
      have ih := cntC_mono v fun w hw => h w (by omega)
      rw [if_neg p, if_pos q]
      omega
    · have ih := cntC_lt n (fun w hw => h w (by omega)) ⟨v, by omega, q, p⟩
      by_cases c : P n
      · rw [if_pos c, if_pos (h n (by omega) c)]
        omega
      · rw [if_neg c]
        omega
theorem conN {n u v : Nat} (ad : ∀ w v, adj w v → w < n ∧ v < n) (hu : u < n) (h : Con adj u v) : Rch adj n u v := by
  have grow : ∀ k, (∃ j, j ≤ k ∧ ∀ w v, Rch adj j u w → adj w v → Rch adj j u v) ∨ k + 1 ≤ cntC (Rch adj k u) n := fun k => by
    induction k with
    | zero =>
      right
      have := cntC_lt (P := fun _ => False) (Q := Rch adj 0 u) n (fun _ _ h => h.elim) ⟨u, hu, rfl, id⟩
      omega
    | succ k ih =>
      rcases ih with ⟨j, hj, c⟩ | ih
      · exact .inl ⟨j, by omega, c⟩
      by_cases c : ∀ w v, Rch adj k u w → adj w v → Rch adj k u v
      · exact .inl ⟨k, by omega, c⟩
      · right
        have : ∃ w v, Rch adj k u w ∧ adj w v ∧ ¬ Rch adj k u v := by
          refine Classical.byContradiction fun no => c fun w v h1 h2 => ?_
          exact Classical.byContradiction fun h3 => no ⟨w, v, h1, h2, h3⟩
        obtain ⟨w, v, h1, h2, h3⟩ := this
        have := cntC_lt (P := Rch adj k u) (Q := Rch adj (k + 1) u) n (fun _ _ h => .inl h) ⟨v, (ad w v h2).2, .inr ⟨w, h1, h2⟩, h3⟩
        omega
  rcases grow n with ⟨j, hj, c⟩ | g
  · have r0 : ∀ j, Rch adj j u u := fun j => by
      have := Rch.mono (adj := adj) (show Rch adj 0 u u from rfl) j
      rwa [Nat.zero_add] at this
    have z := h.ind (P := fun z => Rch adj j u z) (r0 j) fun w v p a => c w v p a
    have := Rch.mono z (n - j)
    rwa [show j + (n - j) = n by omega] at this
  · have := cntC_le (Rch adj n u) n
    omega
end
def adjE (es : List (Int × Int)) (a b : Nat) : Prop := ((a : Int), (b : Int)) ∈ es ∨ ((b : Int), (a : Int)) ∈ es
theorem adjE.symm {es : List (Int × Int)} (a b : Nat) (h : adjE es a b) : adjE es b a := Or.symm h
theorem adjE.lt {n : Nat} {es : List (Int × Int)} (g : ∀ e ∈ es, 0 ≤ e.1 ∧ e.1 < e.2 ∧ e.2 < n) (a b : Nat) (h : adjE es a b) : a < n ∧ b < n := by
  rcases h with h | h <;> have := g _ h <;> simp only at this <;> omega
theorem adjE.perm {es fs : List (Int × Int)} (p : es.Perm fs) {a b : Nat} : adjE es a b ↔ adjE fs a b := by
  unfold adjE
  rw [p.mem_iff, p.mem_iff]
/-! labels -/
def rel1 (nm : List Int) (e : Int × Int) : List Int := (nm.set e.1.toNat (min (nm.getD e.1.toNat 0) (nm.getD e.2.toNat 0))).set e.2.toNat (min (nm.getD e.1.toNat 0) (nm.getD e.2.toNat 0))
theorem rel1_len (nm : List Int) (e : Int × Int) : (rel1 nm e).length = nm.length := by
  unfold rel1
  rw [List.length_set, List.length_set]
theorem rel1_at {nm : List Int} {e : Int × Int} (h1 : e.1.toNat < nm.length) (h2 : e.2.toNat < nm.length) (v : Nat) :
    (rel1 nm e).getD v 0 = if v = e.1.toNat ∨ v = e.2.toNat then min (nm.getD e.1.toNat 0) (nm.getD e.2.toNat 0) else nm.getD v 0 := by
  unfold rel1
  rw [getSet (by rw [List.length_set]; exact h2), getSet h1]
  by_cases c2 : v = e.2.toNat
  · rw [if_pos c2, if_pos (.inr c2)]
  · rw [if_neg c2]
    by_cases c1 : v = e.1.toNat
    · rw [if_pos c1, if_pos (.inl c1)]
    · rw [if_neg c1, if_neg (by rintro (h | h) <;> contradiction)]
theorem rel1_le {nm : List Int} {e : Int × Int} (h1 : e.1.toNat < nm.length) (h2 : e.2.toNat < nm.length) (v : Nat) : (rel1 nm e).getD v 0 ≤ nm.getD v 0 := by
  rw [rel1_at h1 h2]
  split
  · rename_i h
    rcases h with h | h <;> rw [h] <;> omega
  · exact Int.le_refl _
def relR (es : List (Int × Int)) (nm : List Int) : List Int := es.foldl rel1 nm
theorem relR_len : ∀ (es : List (Int × Int)) (nm : List Int), (relR es nm).length = nm.length
  | [], _ => rfl
  | e :: es, nm => by
    show (relR es (rel1 nm e)).length = _
    rw [relR_len es, rel1_len]
def InE (n : Nat) (es : List (Int × Int)) : Prop := ∀ e ∈ es, 0 ≤ e.1 ∧ e.1 < e.2 ∧ e.2 < n
theorem relR_le {n : Nat} : ∀ (es : List (Int × Int)) (nm : List Int), InE n es → nm.length = n → ∀ v, (relR es nm).getD v 0 ≤ nm.getD v 0
  | [], _, _, _, _ => Int.le_refl _
  | e :: es, nm, g, l, v => by
    have he := g e List.mem_cons_self
    have ih := relR_le es (rel1 nm e) (fun d hd => g d (List.mem_cons_of_mem _ hd)) (by rw [rel1_len]; exact l) v
    have := rel1_le (nm := nm) (e := e) (by omega) (by omega) v
    show (relR es (rel1 nm e)).getD v 0 ≤ _
    omega
theorem relR_edge {n : Nat} : ∀ (es : List (Int × Int)) (nm : List Int), InE n es → nm.length = n → ∀ e ∈ es, (relR es nm).getD e.1.toNat 0 ≤ nm.getD e.2.toNat 0 ∧ (relR es nm).getD e.2.toNat 0 ≤ nm.getD e.1.toNat 0
  | [], _, _, _, e, h => by cases h
  | d :: es, nm, g, l, e, h => by
    have hd := g d List.mem_cons_self
    have g' : InE n es := fun d hd => g d (List.mem_cons_of_mem _ hd)
    have l' : (rel1 nm d).length = n := by rw [rel1_len]; exact l
    show (relR es (rel1 nm d)).getD e.1.toNat 0 ≤ _ ∧ (relR es (rel1 nm d)).getD e.2.toNat 0 ≤ _
    rcases List.mem_cons.mp h with rfl | h
    · have a1 := relR_le es _ g' l' e.1.toNat
      have a2 := relR_le es _ g' l' e.2.toNat
      rw [rel1_at (by omega) (by omega), if_pos (.inl rfl)] at a1
      rw [rel1_at (by omega) (by omega), if_pos (.inr rfl)] at a2
      omega
    · have ih := relR_edge es _ g' l' e h
      have b1 := rel1_le (nm := nm) (e := d) (by omega) (by omega) e.1.toNat
      have b2 := rel1_le (nm := nm) (e := d) (by omega) (by omega) e.2.toNat
      omega
def labK (es : List (Int × Int)) (n : Nat) : Nat → List Int
  | 0 => (List.range n).map fun v : Nat => (v : Int)
  | k + 1 => relR es (labK es n k)
theorem labK_len (es : List (Int × Int)) (n : Nat) : ∀ k, (labK es n k).length = n
  | 0 => by
    unfold labK
    rw [List.length_map, List.length_range]
  | k + 1 => by
    unfold labK
    rw [relR_len, labK_len es n k]
theorem lab0_at {es : List (Int × Int)} {n v : Nat} (h : v < n) : (labK es n 0).getD v 0 = v := by
  unfold labK
  rw [List.getD_eq_getElem?_getD, List.getElem?_map, List.getElem?_range h]
  rfl
theorem labK_le {es : List (Int × Int)} {n : Nat} (g : InE n es) : ∀ (k u v : Nat), u < n → v < n → Rch (adjE es) k u v → (labK es n k).getD v 0 ≤ u
  | 0, u, v, hu, hv, h => by
    cases h
    rw [lab0_at hv]
    exact Int.le_refl _
  | k + 1, u, v, hu, hv, h => by
    have le := relR_le es (labK es n k) g (labK_len es n k)
    show (relR es (labK es n k)).getD v 0 ≤ u
    rcases h with h | ⟨w, h, a⟩
    · have := labK_le g k u v hu hv h
      have := le v
      omega
    · have hw := (adjE.lt g w v a).1
      have := labK_le g k u w hu hw h
      rcases a with a | a
      · have := (relR_edge es (labK es n k) g (labK_len es n k) _ a).2
        simp only [Int.toNat_natCast] at this
        omega
      · have := (relR_edge es (labK es n k) g (labK_len es n k) _ a).1
        simp only [Int.toNat_natCast] at this
        omega
/-- each label is a node that is reached -/
def LabOk (es : List (Int × Int)) (n : Nat) (nm : List Int) : Prop := ∀ v, v < n → ∃ u : Nat, nm.getD v 0 = (u : Int) ∧ u < n ∧ Con (adjE es) v u
theorem rel1_ok {es : List (Int × Int)} {n : Nat} {nm : List Int} {e : Int × Int} (g : InE n es) (he : e ∈ es) (l : nm.length = n) (h : LabOk es n nm) : LabOk es n (rel1 nm e) := fun v hv => by
  have ge := g e he
  rw [rel1_at (by omega) (by omega)]
  obtain ⟨u1, a1, b1, c1⟩ := h e.1.toNat (by omega)
  obtain ⟨u2, a2, b2, c2⟩ := h e.2.toNat (by omega)
  have ad : adjE es e.1.toNat e.2.toNat := .inl (by rw [show ((e.1.toNat : Nat) : Int) = e.1 by omega, show ((e.2.toNat : Nat) : Int) = e.2 by omega]; exact he)
  have c12 : Con (adjE es) e.1.toNat e.2.toNat := (Con.refl _).step ad
  have c21 : Con (adjE es) e.2.toNat e.1.toNat := (Con.refl _).step (adjE.symm _ _ ad)
  split
  · rename_i hh
    by_cases c : nm.getD e.1.toNat 0 ≤ nm.getD e.2.toNat 0
    · rw [show min (nm.getD e.1.toNat 0) (nm.getD e.2.toNat 0) = nm.getD e.1.toNat 0 by omega]
      rcases hh with rfl | rfl
      · exact ⟨u1, a1, b1, c1⟩
      · exact ⟨u1, a1, b1, c21.trans c1⟩
    · rw [show min (nm.getD e.1.toNat 0) (nm.getD e.2.toNat 0) = nm.getD e.2.toNat 0 by omega]
      rcases hh with rfl | rfl
      · exact ⟨u2, a2, b2, c12.trans c2⟩
      · exact ⟨u2, a2, b2, c2⟩
  · exact h v hv
theorem relR_ok {es : List (Int × Int)} {n : Nat} (g : InE n es) : ∀ (fs : List (Int × Int)) (nm : List Int), (∀ e ∈ fs, e ∈ es) → nm.length = n → LabOk es n nm → LabOk es n (relR fs nm)
  | [], _, _, _, h => h
  | e :: fs, nm, s, l, h => relR_ok g fs (rel1 nm e) (fun d hd => s d (List.mem_cons_of_mem _ hd)) (by rw [rel1_len]; exact l) (rel1_ok g (s e List.mem_cons_self) l h)
theorem labK_ok {es : List (Int × Int)} {n : Nat} (g : InE n es) : ∀ k, LabOk es n (labK es n k)
  | 0 => fun v hv => ⟨v, lab0_at hv, hv, Con.refl v⟩
  | k + 1 => relR_ok g es _ (fun _ h => h) (labK_len es n k) (labK_ok g k)
/-- the least node that is reached -/
structure Least (es : List (Int × Int)) (n v m : Nat) : Prop where
  lt : m < n
  con : Con (adjE es) v m
  le : ∀ u, u < n → Con (adjE es) v u → m ≤ u
theorem Least.uniq {es : List (Int × Int)} {n v m m' : Nat} (h : Least es n v m) (g : Least es n v m') : m = m' := by
  have := h.le m' g.lt g.con
  have := g.le m h.lt h.con
  omega
theorem labN {es : List (Int × Int)} {n v : Nat} (g : InE n es) (hv : v < n) : ∃ m : Nat, (labK es n n).getD v 0 = (m : Int) ∧ Least es n v m := by
  obtain ⟨m, e, hm, c⟩ := labK_ok g n v hv
  refine ⟨m, e, hm, c, fun u hu cu => ?_⟩
  have := labK_le g n u v hu hv (conN (adjE.lt g) hu (cu.symm adjE.symm))
  omega
theorem Least.same {es : List (Int × Int)} {n v w m : Nat} (h : Least es n v m) (c : Con (adjE es) v w) : Least es n w m := ⟨h.lt, (c.symm adjE.symm).trans h.con, fun u hu cu => h.le u hu (c.trans cu)⟩

end K01

set_option Elab.async false
set_option linter.all false
set_option maxRecDepth 100000
set_option maxHeartbeats 8000000
namespace K01
open PySem PySem.Spec PyProof.Rows L2 FNX
/-! ## components as lists -/
theorem nodupLen : ∀ (n : Nat) (l : List Int), l.Nodup → (∀ v ∈ l, 0 ≤ v ∧ v < n) → l.length ≤ n
  | 0, l, _, h => by
    cases l with
    | nil => exact Nat.le_refl _
    | cons a r =>
      have := h a List.mem_cons_self
      omega
  | n + 1, l, nd, h => by
    by_cases c : (n : Int) ∈ l
    · have e := nodupLen n (l.erase (n : Int)) (nd.erase _) (fun v hv => by
        have h1 := h v (List.mem_of_mem_erase hv)
        have h2 : v ≠ n := (nd.mem_erase_iff.mp hv).1
        omega)
      rw [List.length_erase_of_mem c] at e
      omega
    · have := nodupLen n l nd (fun v hv => by
        have h1 := h v hv
        have h2 : v ≠ n := fun z => c (z ▸ hv)
        omega)
      omega
theorem intEqV (a b : Int) : eqV (.int a) (.int b) = decide (a = b) := by
  show (a == b) = decide (a = b)
  by_cases c : a = b
  · rw [decide_eq_true c]
    exact beq_iff_eq.mpr c
  · rw [decide_eq_false c]
    exact beq_eq_false_iff_ne.mpr c
theorem flatInts (x : List Int) : (x.map V.int).all flatV = true := by
  rw [List.all_eq_true]
  intro v hv
  obtain ⟨z, _, rfl⟩ := List.mem_map.mp hv
  rfl
def lab (es : List (Int × Int)) (n v : Nat) : Int := (labK es n n).getD v 0
def compL (es : List (Int × Int)) (n : Nat) (m : Int) : List Int := ((List.range n).filter fun w => decide (lab es n w = m)).map fun w : Nat => (w : Int)
def partsL (es : List (Int × Int)) (n : Nat) : List (List Int) := ((List.range n).filter fun v => decide (lab es n v = (v : Int))).map fun v : Nat => compL es n (v : Int)
theorem con_lab {es : List (Int × Int)} {n v w : Nat} (g : InE n es) (hv : v < n) (hw : w < n) : Con (adjE es) v w ↔ lab es n w = lab es n v := by
  obtain ⟨m, e1, l1⟩ := labN g hv
  obtain ⟨m', e2, l2⟩ := labN g hw
  unfold lab
  rw [e1, e2]
  refine ⟨fun c => ?_, fun e => ?_⟩
  · rw [(l1.same c).uniq l2]
  · have : m' = m := by omega
    subst this
    exact l1.con.trans (l2.con.symm adjE.symm)
theorem con_perm {es fs : List (Int × Int)} (p : es.Perm fs) {v w : Nat} (h : Con (adjE es) v w) : Con (adjE fs) v w :=
  h.ind (P := fun z => Con (adjE fs) v z) (Con.refl v) fun _ _ q a => q.step ((adjE.perm p).mp a)
theorem lab_perm {es fs : List (Int × Int)} {n v : Nat} (p : es.Perm fs) (g : InE n es) (hv : v < n) : lab es n v = lab fs n v := by
  have g' : InE n fs := fun e he => g e (p.mem_iff.mpr he)
  obtain ⟨m, e1, l1⟩ := labN g hv
  obtain ⟨m', e2, l2⟩ := labN g' hv
  unfold lab
  rw [e1, e2, l1.uniq (m' := m') ⟨l2.lt, con_perm p.symm l2.con, fun u hu c => l2.le u hu (con_perm p c)⟩]
theorem compL_perm {es fs : List (Int × Int)} {n : Nat} (p : es.Perm fs) (g : InE n es) (m : Int) : compL es n m = compL fs n m := by
  unfold compL
  congr 1
  refine List.filter_congr fun w hw => ?_
  rw [lab_perm p g (List.mem_range.mp hw)]
theorem partsL_perm {es fs : List (Int × Int)} {n : Nat} (p : es.Perm fs) (g : InE n es) : partsL es n = partsL fs n := by
  unfold partsL
  rw [List.filter_congr (q := fun v => decide (lab fs n v = (v : Int))) fun w hw => by rw [lab_perm p g (List.mem_range.mp hw)]]
  exact List.map_congr_left fun v _ => compL_perm p g _
theorem lab_lt {es : List (Int × Int)} {n v : Nat} (g : InE n es) (hv : v < n) : ∃ m : Nat, lab es n v = (m : Int) ∧ m ≤ v ∧ lab es n m = (m : Int) := by
  obtain ⟨m, e1, l1⟩ := labN g hv
  have := l1.le v hv (Con.refl v)
  refine ⟨m, e1, this, ?_⟩
  rw [(con_lab g hv (by omega)).mp l1.con]
  exact e1
theorem compL_mem {es : List (Int × Int)} {n : Nat} {m z : Int} : z ∈ compL es n m ↔ ∃ w : Nat, z = (w : Int) ∧ w < n ∧ lab es n w = m := by
  unfold compL
  rw [List.mem_map]
  constructor
  · rintro ⟨w, hw, rfl⟩
    obtain ⟨a, b⟩ := List.mem_filter.mp hw
    exact ⟨w, rfl, List.mem_range.mp a, of_decide_eq_true b⟩
  · rintro ⟨w, rfl, a, b⟩
    exact ⟨w, List.mem_filter.mpr ⟨List.mem_range.mpr a, decide_eq_true b⟩, rfl⟩
theorem compL_nodup (es : List (Int × Int)) (n : Nat) (m : Int) : (compL es n m).Nodup :=
  List.Pairwise.map _ (fun a b hab (z : (a : Int) = b) => hab (by omega)) (List.nodup_range.sublist List.filter_sublist)
theorem compL_asc (es : List (Int × Int)) (n : Nat) (m : Int) : (compL es n m).Pairwise (· ≤ ·) :=
  List.Pairwise.map _ (fun a b hab => by omega) ((List.pairwise_lt_range (n := n)).sublist List.filter_sublist)
theorem compL_head {es : List (Int × Int)} {n v : Nat} (g : InE n es) (hv : v < n) : ∃ r, compL es n (lab es n v) = lab es n v :: r := by
  obtain ⟨m, e1, l1, l2⟩ := lab_lt g hv
  rw [e1]
  have mem : (m : Int) ∈ compL es n m := compL_mem.mpr ⟨m, rfl, by omega, l2⟩
  cases e : compL es n m with
  | nil => rw [e] at mem; cases mem
  | cons a r =>
    have asc := compL_asc es n m
    have ha : a ∈ compL es n m := by rw [e]; exact List.mem_cons_self
    obtain ⟨w, rfl, hw, lw⟩ := compL_mem.mp ha
    obtain ⟨m', e1', l1', _⟩ := lab_lt g hw
    rw [e] at asc mem
    have : w ≤ m := by
      rcases List.mem_cons.mp mem with h | h
      · omega
      · have := (List.pairwise_cons.mp asc).1 _ h
        omega
    have : (m : Int) = m' := by rw [← lw, e1']
    exact ⟨r, by rw [show w = m by omega]⟩
theorem rowMem {es : List (Int × Int)} {i o : Int} : o ∈ rowOf es i ↔ (i, o) ∈ es ∨ (o, i) ∈ es := by
  unfold rowOf
  rw [List.mem_flatMap]
  constructor
  · rintro ⟨e, he, h⟩
    rcases List.mem_append.mp h with h | h
    · by_cases c : e.1 = i
      · rw [if_pos c, List.mem_singleton] at h
        left
        rw [h, ← c]
        exact he
      · rw [if_neg c] at h
        cases h
    · by_cases c : e.2 = i
      · rw [if_pos c, List.mem_singleton] at h
        right
        rw [h, ← c]
        exact he
      · rw [if_neg c] at h
        cases h
  · rintro (h | h)
    · exact ⟨_, h, List.mem_append.mpr (.inl (by rw [if_pos rfl]; exact List.mem_singleton.mpr rfl))⟩
    · exact ⟨_, h, List.mem_append.mpr (.inr (by rw [if_pos rfl]; exact List.mem_singleton.mpr rfl))⟩
theorem nearMem {n : Nat} {es : List (Int × Int)} {N : List (List Int)} (h : IsNear n es N) (g : InE n es) {v : Nat} (hv : v < n) {o : Int} : o ∈ N.getD v [] ↔ ∃ w : Nat, o = (w : Int) ∧ w < n ∧ adjE es v w := by
  rw [(h.row v hv).mem_iff, rowMem]
  constructor
  · intro a
    have b : 0 ≤ o ∧ o < n := by
      rcases a with a | a <;> have := g _ a <;> simp only at this <;> omega
    obtain ⟨w, rfl⟩ : ∃ w : Nat, o = (w : Int) := ⟨o.toNat, by omega⟩
    exact ⟨w, rfl, by omega, a⟩
  · rintro ⟨w, rfl, _, a⟩
    exact a
theorem nearNodup {n : Nat} {es : List (Int × Int)} {N : List (List Int)} (h : IsNear n es N) (g : GoodE n es) {v : Nat} (hv : v < n) : (N.getD v []).Nodup := by
  refine ((h.row v hv).nodup_iff).mpr (List.nodup_iff_count.mpr fun a => ?_)
  exact (rowLe es v a g.once (fun e he => (g.node e he).2.1)).1
theorem inInts (x : List Int) (v : Int) : inV (.int v) (x.map V.int) = decide (v ∈ x) := by
  unfold inV
  rw [List.any_map]
  by_cases c : v ∈ x
  · rw [decide_eq_true c]
    exact List.any_eq_true.mpr ⟨v, c, by show eqV (.int v) (.int v) = true; rw [intEqV]; exact decide_eq_true rfl⟩
  · rw [decide_eq_false c]
    refine List.any_eq_false.mpr fun y hy => ?_
    show ¬ eqV (.int y) (.int v) = true
    rw [intEqV, decide_eq_true_eq]
    intro z
    exact c (z ▸ hy)
def spComp (K : PySem.W.Frag) : Sp := fun vs H Q _ => ∃ (nr : Addr) (v n : Nat) (es : List (Int × Int)) (N : List (List Int)), vs = [.ref nr, .int (v : Int)] ∧ NAt H nr N ∧ IsNear n es N ∧ GoodE n es ∧ v < n ∧ n ≤ 16 ∧
  ∀ q H', H q = none → Same H H' → H' q = some (.lst ((compL es n (lab es n v)).map V.int)) → Q (.ref q) H'
def spParts (K : PySem.W.Frag) (CG : Addr) : Sp := fun vs H Q _ => ∃ (g : Addr) (n : Nat) (es : List (Int × Int)), vs = [.ref g] ∧ GE CG H g n es ∧
  ∀ (q : Addr) (H' : Hp) (rs : List Addr), H q = none → Same H H' → H' q = some (.lst (rs.map V.ref)) → rs.length = (partsL es n).length → (∀ (k : Nat) (r : Addr), rs[k]? = some r → H r = none ∧ r ≠ q ∧ H' r = some (.lst (((partsL es n).getD k []).map V.int))) → Q (.ref q) H'
section
variable {P : Program} {w : World} {K : PySem.W.Frag} {mg : Str → Option Value} {base : Heap} {CG : Addr}
theorem sc_comp : FnScope ["near", "start", "found", "waiting", "node", "fresh", "other"] ["near", "start"] (defScope s_component_of) := ⟨rfl, rfl, rfl, by decide +kernel, rfl, by decide +kernel, by decide +kernel⟩
theorem ok_comp {f : Addr} {fd : FuncData} (F : Fun K "component_of" "component_of" s_component_of f fd) (M : Nms mg) : FnOk P w K mg base CX0 1 f fd ["near", "start"] (spComp K) := by
  refine F.ok sc_comp (fun vs H Q E h => ?_) (fun cdv A outer s H vs Q E hr h => ?_)
  · obtain ⟨nr, v, n, es, N, rfl, _⟩ := h
    rfl
  · obtain ⟨nr, v, n, es, N, rfl, hN, near, good, hv, hn16, k⟩ := h
    have nd := sc_comp.nd
    have gi : InE n es := good.node
    refine ⟨_, (pss_cons (ps_set (i := 2) nd rfl (Or.inr rfl) (pe_lst (pa_cons (pv 1) pa_nil)))
      (pss_cons (ps_set (i := 3) nd rfl (Or.inl rfl) (pe_lst (pa_cons (pv 1) pa_nil)))
      (pss_cons (ps_while PassesOwn.never (pt_truth (pv 3) (by intro _; rfl)) (pss_cons (ps_set (i := 4) nd rfl (Or.inl rfl) (pe_bm0 PySem.F.plainAttrs_list PySem.F.slot_list_pop PySem.F.type_list_pop mt_pop (pv 3)))
      (pss_cons (ps_setLc (i := 5) (own := [("other", 6)]) (g := gName 6) (by rfl) nd rfl rfl (sw_true rfl rfl rfl (by decide +kernel)) (pi_list (pe_ix (r := rIxL K) ix_list (pv 0) (pv 4) (fun _ _ => rfl))) (blkOk_by (own := [("other", 6)]) (N := ["near", "start", "found", "waiting", "node", "fresh", "other"]) (sc := defScope s_component_of) (by decide +kernel)) (fun _ _ _ _ _ => pg_name (i := 6) nd rfl (Or.inl rfl)) (fun _ _ _ _ _ => pts_one (pt_cmpR (show OpR _ _ (rIn K true) from op_notIn_seq) (pv 6) (pv 2) (by with_unfolding_all rfl))) (fun _ _ _ _ _ => (pv 6)))
      (pss_cons (ps_expr (pe_bm PySem.F.plainAttrs_list PySem.F.slot_list_extend PySem.F.type_list_extend mt_extend (pv 2) (pa_cons (pv 5) pa_nil)))
      (pss_one (ps_expr (pe_bm PySem.F.plainAttrs_list PySem.F.slot_list_extend PySem.F.type_list_extend mt_extend (pv 3) (pa_cons (pv 5) pa_nil))))))))
      (pss_one (ps_ret (pe_callB (show CallR _ (.builtin "sorted") (rSortedI K) from cr_sortedI) (by rfl) M.sorted boot_sorted1 (pa_cons (pv 2) pa_nil))))))), ?_⟩
    refine ⟨_, rfl, by show 1 ≤ sizeLine; decide, fun Fa nF => ?_⟩
    obtain ⟨H1, q1, s1, h1⟩ := newAt (.lst [V.int (v : Int)]) nF
    rw [q1]
    refine ⟨_, rfl, by show 1 ≤ sizeLine; decide, fun Wa nW => ?_⟩
    obtain ⟨H2, q2, s2, h2⟩ := newAt (.lst [V.int (v : Int)]) nW
    rw [q2]
    have FW : Fa ≠ Wa := ne_of_none h1 nW
    have nW0 := s1.free nW
    have s12 := s1.trans s2
    refine ⟨fun u σ H' => ∃ (o4 o5 o6 : Option V) (fs ws : List Int), u = 2 * (n - fs.length) + ws.length ∧ σ = [some (.ref nr), some (.int (v : Int)), some (.ref Fa), some (.ref Wa), o4, o5, o6] ∧ Same H H' ∧
      H' Fa = some (.lst (fs.map V.int)) ∧ H' Wa = some (.lst (ws.map V.int)) ∧ fs.Nodup ∧ (v : Int) ∈ fs ∧ (∀ z ∈ fs, ∃ a : Nat, z = (a : Int) ∧ a < n ∧ Con (adjE es) v a) ∧ (∀ z ∈ ws, z ∈ fs) ∧ ws.length ≤ fs.length ∧
      (∀ a : Nat, (a : Int) ∈ fs → (a : Int) ∉ ws → ∀ b : Nat, adjE es a b → (b : Int) ∈ fs),
      ⟨_, none, none, none, [(v : Int)], [(v : Int)], rfl, rfl, s12, s2 _ _ h1, h2, by simp, List.mem_singleton.mpr rfl, fun z hz => ⟨v, List.mem_singleton.mp hz, hv, Con.refl v⟩, fun z hz => hz, Nat.le_refl _, fun a ha hn => absurd ha hn⟩, fun u σ H' h => ?_⟩
    obtain ⟨o4, o5, o6, fs, ws, rfl, rfl, sm, eF, eW, fnd, fv, fall, wf, lw, clo⟩ := h
    have fle : fs.length ≤ n := nodupLen n fs fnd fun z hz => by
      obtain ⟨a, rfl, ha, _⟩ := fall z hz
      omega
    refine ⟨_, rfl, (!(ws.map V.int).isEmpty), .inl ⟨_, SqL.of eW, rfl⟩, ?_⟩
    by_cases cw : ws = []
    · subst cw
      refine iteF ?_
      refine ⟨_, rfl, Fa, _, rfl, SqL.of eF, fun ns q pe asc nq => ?_⟩
      have e : ns = compL es n (lab es n v) := by
        refine List.Perm.eq_of_pairwise (le := (· ≤ ·)) (fun a b _ _ => Int.le_antisymm) asc (compL_asc es n _) (pe.trans ((List.perm_ext_iff_of_nodup fnd (compL_nodup es n _)).mpr fun z => ?_))
        rw [compL_mem]
        constructor
        · intro hz
          obtain ⟨a, rfl, ha, c⟩ := fall z hz
          exact ⟨a, rfl, ha, (con_lab gi hv ha).mp c⟩
        · rintro ⟨a, rfl, ha, c⟩
          exact ((con_lab gi hv ha).mpr c).ind (P := fun b => (b : Int) ∈ fs) fv fun x y hx a => clo x hx (fun z => by cases z) y a
      rw [e]
      exact k q _ (sm.free nq) (sm.trans (same_upd nq)) upd_same
    obtain ⟨wr, x, rfl⟩ : ∃ wr x, ws = wr ++ [x] := ⟨ws.dropLast, ws.getLast cw, (List.dropLast_concat_getLast cw).symm⟩
    rw [show (!((wr ++ [x]).map V.int).isEmpty) = true by rw [List.map_append]; cases wr <;> rfl]
    obtain ⟨a, rfl, ha, ca⟩ := fall x (wf x (List.mem_append.mpr (.inr (List.mem_singleton.mpr rfl))))
    rw [List.length_append, List.length_singleton] at lw
    refine iteT ?_
    refine ⟨fun σ' H'' => ∃ u' : Nat, u' < 2 * (n - fs.length) + (wr ++ [(a : Int)]).length ∧ ∃ (o4 o5 o6 : Option V) (fs ws : List Int), u' = 2 * (n - fs.length) + ws.length ∧ σ' = [some (.ref nr), some (.int (v : Int)), some (.ref Fa), some (.ref Wa), o4, o5, o6] ∧ Same H H'' ∧
      H'' Fa = some (.lst (fs.map V.int)) ∧ H'' Wa = some (.lst (ws.map V.int)) ∧ fs.Nodup ∧ (v : Int) ∈ fs ∧ (∀ z ∈ fs, ∃ a : Nat, z = (a : Int) ∧ a < n ∧ Con (adjE es) v a) ∧ (∀ z ∈ ws, z ∈ fs) ∧ ws.length ≤ fs.length ∧
      (∀ a : Nat, (a : Int) ∈ fs → (a : Int) ∉ ws → ∀ b : Nat, adjE es a b → (b : Int) ∈ fs), fun σ' H'' h => h, ?_⟩
    refine ⟨_, rfl, .inl ⟨rfl, _, SqL.of eW⟩, Wa, _, .int (a : Int), rfl, rfl, eW, by rw [List.map_append, List.length_append]; simp, ?_⟩
    rw [show ((wr ++ [(a : Int)]).map V.int).dropLast = wr.map V.int by rw [List.map_append, List.map_cons, List.map_nil, List.dropLast_concat]]
    obtain ⟨H3, q3⟩ : ∃ H3, upd H' Wa (.lst (wr.map V.int)) = H3 := ⟨_, rfl⟩
    have eW3 : H3 Wa = some (.lst (wr.map V.int)) := by rw [← q3, upd_same]
    have eF3 : H3 Fa = some (.lst (fs.map V.int)) := by rw [← q3, upd_ne FW]; exact eF
    have sm3 : Same H H3 := fun b o e => by rw [← q3, upd_ne (ne_of_none e nW0)]; exact sm _ _ e
    rw [q3]
    have hN3 := hN.same sm3
    obtain ⟨xs, r, g1, g2, g3⟩ := hN3.row (i := (a : Int)) (by omega) (by rw [near.len]; omega)
    rw [Int.toNat_natCast] at g3
    have rnd := nearNodup near good ha
    have rmem : ∀ o, o ∈ N.getD a [] ↔ ∃ w : Nat, o = (w : Int) ∧ w < n ∧ adjE es a w := fun o => nearMem near gi ha
    have rlen : (N.getD a []).length ≤ n := nodupLen n _ rnd fun z hz => by
      obtain ⟨w, rfl, hw, _⟩ := (rmem z).mp hz
      omega
    generalize N.getD a [] = row at g3 rnd rmem rlen
    refine ⟨_, rfl, _, rfl, nr, xs, (a : Int), _, rfl, rfl, SqL.of g1, g2, r, rfl, ⟨_, SqL.of g3⟩, fun D nD => ?_⟩
    refine lc_list (K := K) (a := r) (xs := row.map V.int) (fun i H4 => Same H3 H4 ∧ H4 D = some (.lst (((row.take i).filter fun o => decide (o ∉ fs)).map V.int))) ⟨same_upd nD, upd_same⟩ (fun i H4 _ h => SqL.of (h.1 _ _ g3)) (fun i x H4 hi h => ?_) (fun H4 h => ?_)
    · obtain ⟨s4, eD⟩ := h
      rw [List.getElem?_map] at hi
      obtain ⟨o, ho, rfl⟩ : ∃ o, row[i]? = some o ∧ x = V.int o := by
        cases e : row[i]? with
        | none => rw [e] at hi; cases hi
        | some o => rw [e] at hi; exact ⟨o, rfl, (Option.some.inj hi).symm⟩
      refine ⟨rfl, ?_⟩
      refine ⟨_, rfl, _, rfl, Fa, _, rfl, .inl (SqL.of (s4 _ _ eF3)), rfl, flatInts fs, _, rfl, ?_⟩
      rw [if_pos rfl, inInts]
      by_cases c : o ∈ fs
      · rw [decide_eq_true c]
        refine iteF ⟨s4, ?_⟩
        rw [takeMore ho, List.filter_append, List.filter_cons, if_neg (by simpa using c), List.filter_nil, List.append_nil]
        exact eD
      · rw [decide_eq_false c]
        refine iteT ⟨_, rfl, _, eD, ?_, fun b u z => ?_, ?_⟩
        · rw [List.length_map]
          have := List.length_filter_le (fun o => decide (o ∉ fs)) (row.take i)
          rw [List.length_take] at this
          rw [sizeLine_eq]
          omega
        · rw [upd_ne (ne_of_none z nD)]
          exact s4 _ _ z
        · rw [upd_same, takeMore ho, List.filter_append, List.filter_cons, if_pos (by simpa using c), List.filter_nil, List.map_append]
          rfl
    obtain ⟨s4, eD⟩ := h
    rw [List.length_map, List.take_length] at eD
    obtain ⟨fr, hfr⟩ : ∃ fr, (row.filter fun o => decide (o ∉ fs)) = fr := ⟨_, rfl⟩
    have frMem : ∀ o, o ∈ fr ↔ o ∈ row ∧ o ∉ fs := fun o => by rw [← hfr, List.mem_filter, decide_eq_true_eq]
    have frLen : fr.length ≤ 16 := by
      have := List.length_filter_le (fun o => decide (o ∉ fs)) row
      rw [hfr] at this
      omega
    have frNd : fr.Nodup := by rw [← hfr]; exact rnd.sublist List.filter_sublist
    rw [hfr] at eD
    clear hfr
    have DF : Fa ≠ D := ne_of_none eF3 nD
    have DW : Wa ≠ D := ne_of_none eW3 nD
    have eF4 := s4 _ _ eF3
    have eW4 := s4 _ _ eW3
    have sm4 := sm3.trans s4
    refine ⟨_, rfl, .inl ⟨rfl, _, SqL.of eF4⟩, _, rfl, Fa, D, _, _, rfl, rfl, eF4, eD, by rw [List.length_map, List.length_map, sizeLine_eq]; omega, ?_⟩
    rw [show fs.map V.int ++ fr.map V.int = (fs ++ fr).map V.int by rw [List.map_append]]
    obtain ⟨H5, q5⟩ : ∃ H5, upd H4 Fa (.lst ((fs ++ fr).map V.int)) = H5 := ⟨_, rfl⟩
    have eF5 : H5 Fa = some (.lst ((fs ++ fr).map V.int)) := by rw [← q5, upd_same]
    have eW5 : H5 Wa = some (.lst (wr.map V.int)) := by rw [← q5, upd_ne FW.symm]; exact eW4
    have eD5 : H5 D = some (.lst (fr.map V.int)) := by rw [← q5, upd_ne DF.symm]; exact eD
    have sm5 : Same H H5 := fun b o e => by rw [← q5, upd_ne (ne_of_none e nF)]; exact sm4 _ _ e
    rw [q5]
    refine ⟨_, rfl, .inl ⟨rfl, _, SqL.of eW5⟩, _, rfl, Wa, D, _, _, rfl, rfl, eW5, eD5, by rw [List.length_map, List.length_map, sizeLine_eq]; omega, ?_⟩
    rw [show wr.map V.int ++ fr.map V.int = (wr ++ fr).map V.int by rw [List.map_append]]
    have nd2 : (fs ++ fr).Nodup := List.nodup_append.mpr ⟨fnd, frNd, fun x hx y hy z => ((frMem y).mp hy).2 (z ▸ hx)⟩
    have all2 : ∀ z ∈ fs ++ fr, ∃ a : Nat, z = (a : Int) ∧ a < n ∧ Con (adjE es) v a := fun z hz => by
      rcases List.mem_append.mp hz with hz | hz
      · exact fall z hz
      · obtain ⟨b, rfl, hb, ab⟩ := (rmem z).mp ((frMem z).mp hz).1
        exact ⟨b, rfl, hb, ca.step ab⟩
    have le2 : (fs ++ fr).length ≤ n := nodupLen n _ nd2 fun z hz => by
      obtain ⟨a, rfl, ha, _⟩ := all2 z hz
      omega
    rw [List.length_append] at le2
    refine ⟨_, ?_, _, _, _, fs ++ fr, wr ++ fr, rfl, rfl, fun b o e => ?_, ?_, upd_same, nd2, List.mem_append.mpr (.inl fv), all2, fun z hz => ?_, ?_, fun b hb nb c ac => ?_⟩
    · rw [List.length_append, List.length_append, List.length_append, List.length_singleton]
      omega
    · rw [upd_ne (ne_of_none e nW0)]
      exact sm5 _ _ e
    · rw [upd_ne FW]
      exact eF5
    · rcases List.mem_append.mp hz with hz | hz
      · exact List.mem_append.mpr (.inl (wf z (List.mem_append.mpr (.inl hz))))
      · exact List.mem_append.mpr (.inr hz)
    · rw [List.length_append, List.length_append]
      omega
    · have nb2 : (b : Int) ∉ fr := fun z => nb (List.mem_append.mpr (.inr z))
      have hb : (b : Int) ∈ fs := by
        rcases List.mem_append.mp hb with hb | hb
        · exact hb
        · exact absurd hb nb2
      by_cases e : b = a
      · subst e
        by_cases cf : (c : Int) ∈ fs
        · exact List.mem_append.mpr (.inl cf)
        · exact List.mem_append.mpr (.inr ((frMem _).mpr ⟨(rmem _).mpr ⟨c, rfl, (adjE.lt gi _ _ ac).2, ac⟩, cf⟩))
      · refine List.mem_append.mpr (.inl (clo b hb (fun z => ?_) c ac))
        rcases List.mem_append.mp z with z | z
        · exact nb (List.mem_append.mpr (.inl z))
        · rw [List.mem_singleton] at z
          omega
end

/-! ## Graph.components -/
def partsTo (es : List (Int × Int)) (n i : Nat) : List (List Int) := ((List.range i).filter fun v => decide (lab es n v = (v : Int))).map fun v : Nat => compL es n (v : Int)
theorem partsTo_le (es : List (Int × Int)) (n i : Nat) : (partsTo es n i).length ≤ i := by
  unfold partsTo
  rw [List.length_map]
  have := List.length_filter_le (fun v => decide (lab es n v = (v : Int))) (List.range i)
  rw [List.length_range] at this
  exact this
theorem partsTo_yes {es : List (Int × Int)} {n i : Nat} (h : lab es n i = (i : Int)) : partsTo es n (i + 1) = partsTo es n i ++ [compL es n (i : Int)] := by
  unfold partsTo
  rw [List.range_succ, List.filter_append, List.filter_cons, if_pos (by simpa using h), List.filter_nil, List.map_append]
  rfl
theorem partsTo_no {es : List (Int × Int)} {n i : Nat} (h : lab es n i ≠ (i : Int)) : partsTo es n (i + 1) = partsTo es n i := by
  unfold partsTo
  rw [List.range_succ, List.filter_append, List.filter_cons, if_neg (by simpa using h), List.filter_nil, List.append_nil]
section
variable {P : Program} {w : World} {K : PySem.W.Frag} {mg : Str → Option Value} {base : Heap} {CG : Addr}
theorem sc_parts : FnScope ["self", "found", "node", "component"] ["self"] (defScope s_Graph_components) := ⟨rfl, rfl, rfl, by decide +kernel, rfl, by decide +kernel, by decide +kernel⟩
theorem ok_parts {f : Addr} {fd : FuncData} (F : Fun K "components" "Graph.components" s_Graph_components f fd) (T : GTxt K mg CG) (M : Nms mg) (G : At P w K mg base CX0 1 "component_of" ["near", "start"] (spComp K)) :
    FnOk P w K mg base CX0 2 f fd ["self"] (spParts K CG) := by
  obtain ⟨fc, fdc, GC, mC, kC, bC⟩ := G
  refine F.ok sc_parts (fun vs H Q E h => ?_) (fun cdv A outer s H vs Q E hr h => ?_)
  · obtain ⟨g, n, es, rfl, _⟩ := h
    rfl
  · obtain ⟨g, n, es, rfl, hg, k⟩ := h
    have nd := sc_parts.nd
    obtain ⟨⟨dx, j, nr, N, h1, hE, hN, near⟩, good, asc, n1, n16⟩ := hg
    have gi : InE n es := good.node
    refine ⟨_, (pss_cons (ps_set (i := 1) nd rfl (Or.inl rfl) (pe_lst pa_nil))
      (pss_cons (ps_for PassesOwn.never rfl (pi_range1 rfl M.range (pa_cons (pe_fld (pv 0) rfl) pa_nil)) (pg_name (i := 2) nd rfl (Or.inl rfl)) (pss_cons (ps_set (i := 3) nd rfl (Or.inl rfl) (pe_call GC hr (by rfl) mC kC bC .nil pass0 (pa_cons (pe_fld (pv 0) rfl) (pa_cons (pv 2) pa_nil))))
      (pss_one (ps_if (pt_cmpR op_eq (pe_ix (r := rIxL K) ix_list (pv 3) pe_int (fun _ _ => rfl)) (pv 2) (nomark _)) (pss_one (ps_expr (pe_bm PySem.F.plainAttrs_list PySem.F.slot_list_append PySem.F.type_list_append mt_append (pv 1) (pa_cons (pv 3) pa_nil)))) pss_nil))))
      (pss_one (ps_ret (pv 1))))), ?_⟩
    refine ⟨by show 0 ≤ sizeLine; decide, fun D nD => ?_⟩
    obtain ⟨H1, q1, s1, eD1⟩ := newAt (.lst []) nD
    rw [q1]
    refine ⟨_, rfl, g, CG, dx, _, _, rfl, s1 _ _ h1, T.cl, T.n1, gl_n _ _ _, n, rfl, by omega, by omega, for_range (lo := 0) (n := n) (fun i σ H' => ∃ (o2 o3 : Option V) (rs : List Addr), σ = [some (.ref g), some (.ref D), o2, o3] ∧ Same H H' ∧
      H' D = some (.lst (rs.map V.ref)) ∧ rs.length = (partsTo es n i).length ∧ ∀ (k : Nat) (r : Addr), rs[k]? = some r → H r = none ∧ r ≠ D ∧ H' r = some (.lst (((partsTo es n i).getD k []).map V.int)))
      ⟨none, none, [], rfl, s1, eD1, rfl, fun k r e => by simp at e⟩ (fun i σ H' hi h => ?_) (fun σ H' h => ?_)⟩
    · obtain ⟨o2, o3, rs, rfl, sm, eD, ln, all⟩ := h
      rw [Int.zero_add]
      have hi' : i < n := hi
      have hg' := sm _ _ h1
      refine ⟨_, rfl, g, CG, dx, _, _, rfl, hg', T.cl, T.n3, gl_r _ _ _, _, rfl, nr, i, n, es, N, rfl, hN.same sm, near, good, hi', n16, fun q H2 nq s2 eq => ?_⟩
      obtain ⟨r, hr'⟩ := compL_head gi hi'
      refine ⟨_, rfl, q, _, (0 : Int), _, rfl, rfl, SqL.of eq, by rw [hr']; exact atI_nat (j := 0) rfl, _, rfl, rfl, _, rfl, ?_⟩
      have qD : D ≠ q := ne_of_none eD nq
      have eD2 := s2 _ _ eD
      by_cases c : lab es n i = (i : Int)
      · rw [decide_eq_true (congrArg V.int c)]
        rw [c] at eq
        refine iteT ⟨_, rfl, .inl ⟨rfl, _, SqL.of eD2⟩, _, rfl, D, _, _, rfl, rfl, eD2, ?_, ?_⟩
        · have := partsTo_le es n i
          rw [List.length_map, ln, sizeLine_eq]
          omega
        refine ⟨_, _, rs ++ [q], rfl, fun b o e => ?_, by rw [upd_same, List.map_append]; rfl, ?_, fun k r' hk => ?_⟩
        · rw [upd_ne (ne_of_none e nD)]
          exact s2 _ _ (sm _ _ e)
        · rw [partsTo_yes c, List.length_append, List.length_append, ln]
          rfl
        · rw [partsTo_yes c]
          by_cases hl : k < rs.length
          · rw [List.getElem?_append_left hl] at hk
            obtain ⟨z1, z2, z3⟩ := all k r' hk
            rw [getDl (by omega), upd_ne z2]
            exact ⟨z1, z2, s2 _ _ z3⟩
          · rw [List.getElem?_append_right (by omega)] at hk
            have hk' : k = rs.length := by
              have := (List.getElem?_eq_some_iff.mp hk).1
              simp at this
              omega
            subst hk'
            rw [Nat.sub_self] at hk
            obtain rfl : q = r' := Option.some.inj hk
            rw [getDe (by omega), upd_ne qD.symm]
            exact ⟨sm.free nq, qD.symm, eq⟩
      · rw [decide_eq_false (fun z => by injection z with z; exact c z)]
        refine iteF ⟨_, _, rs, rfl, sm.trans s2, eD2, by rw [partsTo_no c]; exact ln, fun k r' hk => ?_⟩
        obtain ⟨z1, z2, z3⟩ := all k r' hk
        rw [partsTo_no c]
        exact ⟨z1, z2, s2 _ _ z3⟩
    · obtain ⟨o2, o3, rs, rfl, sm, eD, ln, all⟩ := h
      exact ⟨_, rfl, k D H' rs nD sm eD ln all⟩
end

end K01

set_option Elab.async false
set_option linter.all false
set_option maxRecDepth 100000
set_option maxHeartbeats 8000000
namespace K01
open PySem PySem.Spec PyProof.Rows L2 FNX
/-! ## _law_parts -/
theorem rgNat (n : Nat) : rgV 0 (n : Int) = ((List.range n).map fun v : Nat => (v : Int)).map V.int := by
  unfold rgV
  rw [show ((n : Int) - 0).toNat = n by omega, List.map_map]
  refine List.map_congr_left fun k _ => ?_
  show V.int (0 + (k : Int)) = V.int (k : Int)
  rw [Int.zero_add]
theorem relR_more {es : List (Int × Int)} {j : Nat} {e : Int × Int} (h : es[j]? = some e) (nm : List Int) : relR (es.take (j + 1)) nm = rel1 (relR (es.take j) nm) e := by
  unfold relR
  rw [takeMore h, List.foldl_append]
  rfl
theorem labIn {es : List (Int × Int)} {n i : Nat} (g : InE n es) (hi : i < n) : (i : Int) ∈ labK es n n ↔ lab es n i = (i : Int) := by
  have at' : ∀ v, v < n → (labK es n n)[v]? = some (lab es n v) := fun v hv => by
    unfold lab
    rw [List.getD_eq_getElem?_getD, List.getElem?_eq_getElem (by rw [labK_len]; exact hv)]
    rfl
  constructor
  · intro h
    obtain ⟨v, hv, e⟩ := List.getElem_of_mem h
    have hv' : v < n := by rw [labK_len] at hv; exact hv
    obtain ⟨m, e1, _, e3⟩ := lab_lt g hv'
    have := at' v hv'
    rw [List.getElem?_eq_getElem hv, e, e1] at this
    have := Option.some.inj this
    rw [show i = m by omega]
    exact e3
  · intro h
    have := List.mem_of_getElem? (at' i hi)
    rwa [h] at this
def spLParts (K : PySem.W.Frag) : Sp := fun vs H Q _ => ∃ (jp : Addr) (n : Nat) (es : List (Int × Int)), vs = [.int (n : Int), .ref jp] ∧ EdgesAt H jp es ∧ GoodE n es ∧ n ≤ 16 ∧
  ∀ (q : Addr) (H' : Hp) (rs : List Addr), H q = none → Same H H' → H' q = some (.lst (rs.map V.ref)) → rs.length = (partsL es n).length → (∀ (k : Nat) (r : Addr), rs[k]? = some r → H' r = some (.lst (((partsL es n).getD k []).map V.int))) → Q (.ref q) H'
section
variable {P : Program} {w : World} {K : PySem.W.Frag} {mg : Str → Option Value} {base : Heap} {CG : Addr}
theorem sc_lparts : FnScope ["_law_many_here", "_law_joins_here", "_law_names", "_law_turn", "_law_one", "_law_two", "_law_least", "_law_first", "_law_node"] ["_law_many_here", "_law_joins_here"] (defScope s__law_parts) := ⟨rfl, rfl, rfl, by decide +kernel, rfl, by decide +kernel, by decide +kernel⟩
theorem ok_lparts {f : Addr} {fd : FuncData} (F : Fun K "_law_parts" "_law_parts" s__law_parts f fd) (M : Nms mg) : FnOk P w K mg base CX0 1 f fd ["_law_many_here", "_law_joins_here"] (spLParts K) := by
  refine F.ok sc_lparts (fun vs H Q E h => ?_) (fun cdv A outer s H vs Q E hr h => ?_)
  · obtain ⟨jp, n, es, rfl, _⟩ := h
    rfl
  · obtain ⟨jp, n, es, rfl, hE, good, hn16, k⟩ := h
    have nd := sc_lparts.nd
    have gi : InE n es := good.node
    obtain ⟨ts, e1, e2⟩ := id hE
    refine ⟨_, (pss_cons (ps_set (i := 2) nd rfl (Or.inr rfl) (pe_listRg rfl (by rfl) M.list (prg_1 (by rfl) M.range (pv 0))))
      (pss_cons (ps_for PassesOwn.never rfl (pi_range1 rfl M.range (pa_cons (pv 0) pa_nil)) (pg_name (i := 3) nd rfl (Or.inl rfl)) (pss_one (ps_for PassesOwn.never rfl (pi_list (pv 1)) (pg_tup rfl (pgs_cons (pg_name (i := 4) nd rfl (Or.inl rfl)) (pgs_cons (pg_name (i := 5) nd rfl (Or.inl rfl)) pgs_nil))) (pss_cons (ps_set (i := 6) nd rfl (Or.inl rfl) (pe_callB (call_min2 rfl) (by rfl) M.min boot_min1 (pa_cons (pe_ix (r := rIxL K) ix_list (pv 2) (pv 4) (fun _ _ => rfl)) (pa_cons (pe_ix (r := rIxL K) ix_list (pv 2) (pv 5) (fun _ _ => rfl)) pa_nil))))
      (pss_cons (ps_asg (pv 6) (pg_sub (pv 2) (pv 4) set_list))
      (pss_one (ps_asg (pv 6) (pg_sub (pv 2) (pv 5) set_list))))))))
      (pss_one (ps_ret (pe_lc (own := [("_law_first", 7)]) (g := gName 7) rfl nd (pi_range1 rfl M.range (pa_cons (pv 0) pa_nil)) (blkOk_by (own := [("_law_first", 7)]) (N := ["_law_many_here", "_law_joins_here", "_law_names", "_law_turn", "_law_one", "_law_two", "_law_least", "_law_first", "_law_node"]) (sc := defScope s__law_parts) (by decide +kernel)) (fun _ _ _ _ _ => pg_name (i := 7) nd rfl (Or.inr rfl)) (fun _ _ _ _ _ => pts_one (pt_cmpR (show OpR _ _ (rIn K false) from op_in_seq) (pv 7) (pv 2) (by with_unfolding_all rfl))) (fun _ _ _ _ _ => (pe_lc (own := [("_law_node", 8)]) (g := gName 8) rfl nd (pi_range1 rfl M.range (pa_cons (pv 0) pa_nil)) (blkOk_by (own := [("_law_node", 8)]) (N := ["_law_many_here", "_law_joins_here", "_law_names", "_law_turn", "_law_one", "_law_two", "_law_least", "_law_first", "_law_node"]) (by rfl)) (fun _ _ _ _ _ => pg_name (i := 8) nd rfl (Or.inl rfl)) (fun _ _ _ _ _ => pts_one (pt_cmpR op_eq (pe_ix (r := rIxL K) ix_list (pv 2) (pv 8) (fun _ _ => rfl)) (pv 7) (nomark _))) (fun _ _ _ _ _ => (pv 8))))))))), ?_⟩
    refine ⟨_, rfl, n, rfl, ⟨by omega, by omega, by omega, by omega, by omega⟩, fun Na nN => ?_⟩
    rw [rgNat]
    obtain ⟨H1, q1, s1, h1⟩ := newAt (.lst (((List.range n).map fun v : Nat => (v : Int)).map V.int)) nN
    rw [q1]
    have jN : jp ≠ Na := ne_of_none e1 nN
    have tsN : ∀ (k : Nat) (t : Addr), ts[k]? = some t → t ≠ Na := fun k t hk => by
      obtain ⟨x, _, q2⟩ := e2.2 k t hk
      exact ne_of_none q2 nN
    refine ⟨_, rfl, n, rfl, by omega, by omega, for_range (lo := 0) (n := n) (fun i σ H' => ∃ o3 o4 o5 o6 : Option V, σ = [some (.int (n : Int)), some (.ref jp), some (.ref Na), o3, o4, o5, o6, none, none] ∧ Same H H' ∧
      H' Na = some (.lst ((labK es n i).map V.int))) ⟨none, none, none, none, rfl, s1, h1⟩ (fun i σ H' hi h => ?_) (fun σ H' h => ?_)⟩
    · obtain ⟨o3, o4, o5, o6, rfl, sm, eN⟩ := h
      refine ⟨_, rfl, jp, rfl, ⟨_, SqL.of (sm _ _ e1)⟩, for_list (K := K) (a := jp) (xs := ts.map V.ref) (fun j σ H' => ∃ o4 o5 o6 : Option V, σ = [some (.int (n : Int)), some (.ref jp), some (.ref Na), some (.int (0 + i)), o4, o5, o6, none, none] ∧ Same H H' ∧
        H' Na = some (.lst ((relR (es.take j) (labK es n i)).map V.int))) ⟨o4, o5, o6, rfl, sm, eN⟩ (fun j σ H' _ h => ?_) (fun j y σ H' hj h => ?_) (fun σ H' h => ?_)⟩
      · obtain ⟨_, _, _, _, sm, _⟩ := h
        exact SqL.of (sm _ _ e1)
      · obtain ⟨o4, o5, o6, rfl, sm, eN⟩ := h
        obtain ⟨t, ht, rfl⟩ := refAt hj
        obtain ⟨e, he, het⟩ := e2.2 j t ht
        have ge := gi e (List.mem_of_getElem? he)
        have ll : (relR (es.take j) (labK es n i)).length = n := by rw [relR_len, labK_len]
        refine ⟨t, _, rfl, SqT.of (sm _ _ het), rfl, _, _, rfl, _, _, rfl, rfl, ?_⟩
        refine ⟨_, rfl, _, rfl, Na, _, _, _, rfl, rfl, SqL.of eN, atInt (by omega) (by omega), _, rfl, _, rfl, Na, _, _, _, rfl, rfl, SqL.of eN, atInt (by omega) (by omega), _, _, rfl, ?_⟩
        refine ⟨_, rfl, _, rfl, _, rfl, Na, _, _, _, rfl, rfl, eN, ixInt (by omega) (by omega), ?_⟩
        rw [mapSet]
        refine ⟨_, rfl, _, rfl, _, rfl, Na, _, _, _, rfl, rfl, upd_same, ixInt (by omega) (by rw [List.length_set]; omega), ?_⟩
        rw [mapSet]
        refine ⟨_, _, _, rfl, fun b o z => ?_, ?_⟩
        · rw [upd_ne (ne_of_none z nN), upd_ne (ne_of_none z nN)]
          exact sm _ _ z
        · rw [upd_same, relR_more he]
          unfold rel1
          have em : ∀ a b : Int, (if b < a then b else a) = min a b := fun a b => by split <;> omega
          rw [em]
      · obtain ⟨o4, o5, o6, rfl, sm, eN⟩ := h
        rw [List.length_map, e2.1, List.take_length] at eN
        exact ⟨_, _, _, _, rfl, sm, eN⟩
    obtain ⟨o3, o4, o5, o6, rfl, sm, eN⟩ := h
    refine ⟨_, rfl, n, rfl, by omega, by omega, fun D nD => ?_⟩
    have nD0 := sm.free nD
    refine lc_range (lo := 0) (n := n) (fun i H4 => Same H' H4 ∧ ∃ rs : List Addr, H4 D = some (.lst (rs.map V.ref)) ∧ rs.length = (partsTo es n i).length ∧ ∀ (k : Nat) (r : Addr), rs[k]? = some r → r ≠ D ∧ H4 r = some (.lst (((partsTo es n i).getD k []).map V.int)))
      ⟨same_upd nD, [], upd_same, rfl, fun k r e => by simp at e⟩ (fun i H4 hi h => ?_) (fun H4 h => ?_)
    · obtain ⟨s4, rs, eD, ln, all⟩ := h
      rw [Int.zero_add]
      have hi' : i < n := hi
      refine ⟨rfl, ?_⟩
      refine ⟨_, rfl, _, rfl, Na, _, rfl, .inl (SqL.of (s4 _ _ eN)), rfl, flatInts _, _, rfl, ?_⟩
      rw [if_neg Bool.false_ne_true, inInts]
      by_cases c : lab es n i = (i : Int)
      case neg =>
        rw [decide_eq_false (fun z => c ((labIn gi hi').mp z))]
        exact iteF ⟨s4, rs, eD, by rw [partsTo_no c]; exact ln, fun k r hk => by rw [partsTo_no c]; exact all k r hk⟩
      rw [decide_eq_true ((labIn gi hi').mpr c)]
      refine iteT ⟨_, rfl, n, rfl, by omega, by omega, fun Z nZ => ?_⟩
      refine lc_range (lo := 0) (n := n) (fun j H5 => Same H4 H5 ∧ H5 Z = some (.lst ((((List.range j).filter fun w => decide (lab es n w = (i : Int))).map fun w : Nat => (w : Int)).map V.int))) ⟨same_upd nZ, upd_same⟩ (fun j H5 hj h => ?_) (fun H5 h => ?_)
      · obtain ⟨s5, eZ⟩ := h
        rw [Int.zero_add]
        have hj' : j < n := hj
        refine ⟨rfl, ?_⟩
        refine ⟨_, rfl, _, rfl, Na, _, _, _, rfl, rfl, SqL.of (s5 _ _ (s4 _ _ eN)), atInt (by omega) (by rw [labK_len]; omega), _, rfl, rfl, _, rfl, ?_⟩
        rw [Int.toNat_natCast]
        have more := filtMore (fun w => decide (lab es n w = (i : Int))) j
        by_cases cj : lab es n j = (i : Int)
        · rw [decide_eq_true cj] at more
          rw [if_pos rfl] at more
          rw [show (labK es n n).getD j 0 = (i : Int) from cj, decide_eq_true rfl]
          refine iteT ⟨_, rfl, _, eZ, ?_, fun b u z => ?_, ?_⟩
          · rw [List.length_map, List.length_map]
            have z := List.length_filter_le (fun w => decide (lab es n w = (i : Int))) (List.range j)
            rw [List.length_range] at z
            rw [sizeLine_eq]
            omega
          · rw [upd_ne (ne_of_none z nZ)]
            exact s5 _ _ z
          · rw [upd_same, more, List.map_append, List.map_append]
            rfl
        · rw [decide_eq_false cj] at more
          rw [if_neg Bool.false_ne_true, List.append_nil] at more
          rw [decide_eq_false (fun z => by injection z with z; exact cj z)]
          refine iteF ⟨s5, ?_⟩
          rw [more]
          exact eZ
      obtain ⟨s5, eZ⟩ := h
      have ZD : D ≠ Z := ne_of_none eD nZ
      have le := partsTo_le es n i
      refine ⟨_, s5 _ _ eD, by rw [List.length_map, ln, sizeLine_eq]; omega, fun b u z => ?_, rs ++ [Z], by rw [upd_same, List.map_append]; rfl, ?_, fun k r' hk => ?_⟩
      · rw [upd_ne (ne_of_none z nD)]
        exact s5 _ _ (s4 _ _ z)
      · rw [partsTo_yes c, List.length_append, List.length_append, ln]
        rfl
      · rw [partsTo_yes c]
        by_cases hl : k < rs.length
        · rw [List.getElem?_append_left hl] at hk
          obtain ⟨z2, z3⟩ := all k r' hk
          rw [getDl (by omega), upd_ne z2]
          exact ⟨z2, s5 _ _ z3⟩
        · rw [List.getElem?_append_right (by omega)] at hk
          have hk' : k = rs.length := by
            have := (List.getElem?_eq_some_iff.mp hk).1
            simp at this
            omega
          subst hk'
          rw [Nat.sub_self] at hk
          obtain rfl : Z = r' := Option.some.inj hk
          rw [getDe (by omega), upd_ne ZD.symm]
          exact ⟨ZD.symm, eZ⟩
    · obtain ⟨s4, rs, eD, ln, all⟩ := h
      exact k D H4 rs nD0 (sm.trans s4) eD ln fun k r hk => (all k r hk).2
end

end K01

set_option Elab.async false
set_option linter.all false
set_option maxRecDepth 100000
set_option maxHeartbeats 8000000
namespace K01
open PySem PySem.Spec PyProof.Rows L2 FNX
/-! ## _law_error -/
theorem sc_error : FnScope ["_law_door", "_law_kept", "e"] ["_law_door"] (defScope s__law_error) := ⟨rfl, rfl, rfl, by decide +kernel, rfl, by decide +kernel, by decide +kernel⟩
abbrev cl01 (C0 C1 C2 C3 : Addr) : List (Addr × MkC) := [(C0, mkR "size"), (C1, mkR "edge"), (C2, mkR "node"), (C3, mkR "many")]
theorem err_gives {X : Cx} {g C0 C1 C2 C3 : Addr} {cdg : Value} {q : Str} (hgd : X.A.guards = some []) (hr : Room 2 X.A) (mR : X.mg "repr" = none)
    (E0 : Ex X.prog X.w X.K X.mg X.base "InvalidSize" C0) (E1 : Ex X.prog X.w X.K X.mg X.base "InvalidEdge" C1) (E2 : Ex X.prog X.w X.K X.mg X.base "InvalidNode" C2) (E3 : Ex X.prog X.w X.K X.mg X.base "TooMany" C3) :
    LamX.GivesTo X ["_law_door", "_law_kept", "e"] "_law_error" (defScope s__law_error) g cdg (defBody s__law_error) "_law_door" q (TErrU X.K (cl01 C0 C1 C2 C3)) := by
  intro f c' s H Q tl act hc h
  have nd := sc_error.nd
  have hu : X.A.units + 3 + 64 < cLine := (hr.deeper X.env).units
  refine ⟨_, pss_cons (ps_set (i := 1) nd rfl (Or.inl rfl) pe_non) (pss_cons (ps_try_mas (i := 2) (tb := tDoor f c' q tl) rfl rfl nd rfl rfl takes0
      (fun W pn xe tk _ => ⟨fun pins s' σ H' D I h' => by
        obtain ⟨Ech, hW, h1, h2, h3⟩ := h'
        exact (pss_one (ps_expr (act _ pn xe Ech _ _ (takes_len tk) (fun cls d σ' H' e l => hW cls d H' σ' e l)))).run pins s' σ H' D I ⟨h1, h2, h3⟩⟩)
      (.cons ⟨rfl, by decide, .inl E0.mgC⟩ (fun z oz cls d pn hz hf => pss_one (ps_set (i := 1) nd rfl (Or.inl rfl) (pe_lst (pa_cons pe_str (pa_cons (pe_callB (show CallR _ (.builtin "repr") (rReprU X.K) from call_reprU hgd hu) (by rfl) mR boot_repr1 (pa_cons (pe_byX E0.xc hz hf (pv 2)) pa_nil)) pa_nil)))))
      (.cons ⟨rfl, by decide, .inl E1.mgC⟩ (fun z oz cls d pn hz hf => pss_one (ps_set (i := 1) nd rfl (Or.inl rfl) (pe_lst (pa_cons pe_str (pa_cons (pe_callB (show CallR _ (.builtin "repr") (rReprU X.K) from call_reprU hgd hu) (by rfl) mR boot_repr1 (pa_cons (pe_byX E1.xc hz hf (pv 2)) pa_nil)) pa_nil)))))
      (.cons ⟨rfl, by decide, .inl E2.mgC⟩ (fun z oz cls d pn hz hf => pss_one (ps_set (i := 1) nd rfl (Or.inl rfl) (pe_lst (pa_cons pe_str (pa_cons (pe_callB (show CallR _ (.builtin "repr") (rReprU X.K) from call_reprU hgd hu) (by rfl) mR boot_repr1 (pa_cons (pe_byX E2.xc hz hf (pv 2)) pa_nil)) pa_nil)))))
      (.cons ⟨rfl, by decide, .inl E3.mgC⟩ (fun z oz cls d pn hz hf => pss_one (ps_set (i := 1) nd rfl (Or.inl rfl) (pe_lst (pa_cons pe_str (pa_cons (pe_callB (show CallR _ (.builtin "repr") (rReprU X.K) from call_reprU hgd hu) (by rfl) mR boot_repr1 (pa_cons (pe_byX E3.xc hz hf (pv 2)) pa_nil)) pa_nil)))))
      .nil))))) (pss_one (ps_ret (pv 1)))), ?_⟩
  refine ⟨wErrU X.K Q (cl01 C0 C1 C2 C3), fun cls d H' σ' w l => ?_, rfl, hc, h⟩
  obtain ⟨a, b, c, rfl⟩ := len3 l
  obtain ⟨b0, e0, yes0, no0⟩ := w
  refine ⟨b0, e0, fun t0 z nz => ?_, fun n0 => ?_⟩
  · obtain ⟨rfl, dd, v, dt, rfl, hd, hv, sh1, sh2, sh3, m⟩ := yes0 t0
    exact ⟨_, rfl, rfl, rfl, dd, _, rfl, hd, v, dt, rfl, hv, sh1, sh2, sh3, by show 2 ≤ sizeLine; decide, fun p np => ⟨_, rfl, m p np⟩⟩
  obtain ⟨b1, e1, yes1, no1⟩ := no0 n0
  refine ⟨b1, e1, fun t1 z nz => ?_, fun n1 => ?_⟩
  · obtain ⟨rfl, dd, v, dt, rfl, hd, hv, sh1, sh2, sh3, m⟩ := yes1 t1
    exact ⟨_, rfl, rfl, rfl, dd, _, rfl, hd, v, dt, rfl, hv, sh1, sh2, sh3, by show 2 ≤ sizeLine; decide, fun p np => ⟨_, rfl, m p np⟩⟩
  obtain ⟨b2, e2, yes2, no2⟩ := no1 n1
  refine ⟨b2, e2, fun t2 z nz => ?_, fun n2 => ?_⟩
  · obtain ⟨rfl, dd, v, dt, rfl, hd, hv, sh1, sh2, sh3, m⟩ := yes2 t2
    exact ⟨_, rfl, rfl, rfl, dd, _, rfl, hd, v, dt, rfl, hv, sh1, sh2, sh3, by show 2 ≤ sizeLine; decide, fun p np => ⟨_, rfl, m p np⟩⟩
  obtain ⟨b3, e3, yes3, no3⟩ := no2 n2
  refine ⟨b3, e3, fun t3 z nz => ?_, fun n3 => ?_⟩
  · obtain ⟨rfl, dd, v, dt, rfl, hd, hv, sh1, sh2, sh3, m⟩ := yes3 t3
    exact ⟨_, rfl, rfl, rfl, dd, _, rfl, hd, v, dt, rfl, hv, sh1, sh2, sh3, by show 2 ≤ sizeLine; decide, fun p np => ⟨_, rfl, m p np⟩⟩
  exact (no3 n3).elim

theorem toldHeadU {K : PySem.W.Frag} {C : Addr} {word : Str} {r : List (Addr × MkC)} {v : V} {d : PyData} {H : Hp} {Q : VK} (x : PySem.W.exmOne K (.ref C) (.ref C) = some true) (hd : ∀ H', Same H H' → RdU K H' v d)
    (sh : d.showable = true ∧ d.depth ≤ 60 ∧ d.shown.length ≤ sizeLine) (k : ∀ H' p, Same H H' → H' p = none → Q (.ref p) (upd H' p (.lst [.str word, .str d.shown]))) : told C v H (wErrU K Q ((C, mkR word) :: r)) :=
  fun H' dd s _ hx => ⟨true, x, fun _ => ⟨rfl, dd, v, d, rfl, hx, hd H' s, sh.1, sh.2.1, sh.2.2, fun p np => k H' p s np⟩, (fun z => nomatch z)⟩
theorem toldTailU {K : PySem.W.Frag} {C C0 : Addr} {m : MkC} {r : List (Addr × MkC)} {v : V} {H : Hp} {Q : VK} (x : PySem.W.exmOne K (.ref C) (.ref C0) = some false) (t : told C v H (wErrU K Q r)) : told C v H (wErrU K Q ((C0, m) :: r)) :=
  fun H' dd s nd hx => ⟨false, x, (fun z => nomatch z), fun _ => t H' dd s nd hx⟩

end K01

set_option Elab.async false
set_option linter.all false
set_option maxRecDepth 100000
set_option maxHeartbeats 8000000
namespace K01
open PySem PySem.Spec PyProof.Rows L2 FNX
/-! ## Around the doors of k01 -/
def PairsTo (H' : Hp) (Z : Addr) (es : List (Int × Int)) (F : Int × Int → Int × Int) (i : Nat) (H2 : Hp) : Prop := Same H' H2 ∧ ∃ us : List Addr, H2 Z = some (.lst (us.map V.ref)) ∧ TupsAt H2 us ((es.take i).map F)
theorem pairsZero {H' : Hp} {Z : Addr} {es : List (Int × Int)} {F : Int × Int → Int × Int} (nZ : H' Z = none) : PairsTo H' Z es F 0 (upd H' Z (.lst [])) := ⟨same_upd nZ, [], upd_same, ⟨rfl, fun k t e => by simp at e⟩⟩
theorem pairsStep {H' H2 : Hp} {Z T : Addr} {es : List (Int × Int)} {F : Int × Int → Int × Int} {i : Nat} {e : Int × Int} (nZ : H' Z = none) (h : PairsTo H' Z es F i H2) (hei : es[i]? = some e) (l : es.length ≤ 1000) (nT : H2 T = none) :
    ∃ xs, (upd H2 T (.tup [V.int (F e).1, V.int (F e).2])) Z = some (.lst xs) ∧ xs.length < sizeLine ∧ PairsTo H' Z es F (i + 1) (upd (upd H2 T (.tup [V.int (F e).1, V.int (F e).2])) Z (.lst (xs ++ [V.ref T]))) := by
  obtain ⟨sm, us, f1, f2⟩ := h
  have s3 := same_upd nT (o := .tup [V.int (F e).1, V.int (F e).2])
  have lus : us.length ≤ 1000 := by
    rw [f2.1, List.length_map, List.length_take]
    omega
  have tp := (f2.same s3).push (t := T) (e := F e) upd_same
  refine ⟨_, s3 _ _ f1, by rw [List.length_map, sizeLine_eq]; omega, fun b o z => ?_, us ++ [T], by rw [upd_same, List.map_append]; rfl, ?_⟩
  · rw [upd_ne (ne_of_none z nZ)]
    exact s3 _ _ (sm _ _ z)
  · rw [takeMore hei, List.map_append]
    refine ⟨tp.1, fun k t hk => ?_⟩
    obtain ⟨z, z1, z2⟩ := tp.2 k t hk
    exact ⟨z, z1, by rw [upd_ne (ne_of z2 (s3 _ _ f1) (by intro y; cases y))]; exact z2⟩
theorem pairsDone {H' H2 : Hp} {Z : Addr} {ts : List Addr} {es : List (Int × Int)} {F : Int × Int → Int × Int} (l : ts.length = es.length) (h : PairsTo H' Z es F (ts.map V.ref).length H2) : Same H' H2 ∧ EdgesAt H2 Z (es.map F) := by
  obtain ⟨sm, us, f1, f2⟩ := h
  rw [List.length_map, l, List.take_length] at f2
  exact ⟨sm, us, f1, f2⟩
theorem cutRef (ts : List Addr) (k : Nat) (h : k ≤ ts.length) : cutV (ts.map V.ref) none (some (k : Int)) = (ts.take k).map V.ref := by
  unfold cutV
  rw [HT.sIx_none, List.drop_zero, Nat.sub_zero, HT.sIx_nat, List.length_map, Nat.min_eq_left h, List.map_take]
theorem TupsAt.take {H : Hp} {ts : List Addr} {es : List (Int × Int)} (h : TupsAt H ts es) (k : Nat) : TupsAt H (ts.take k) (es.take k) := ⟨by rw [List.length_take, List.length_take, h.1], fun i t e => by
  have hi : i < k := by
    have := (List.getElem?_eq_some_iff.mp e).1
    rw [List.length_take] at this
    omega
  rw [List.getElem?_take, if_pos hi] at e
  obtain ⟨z, z1, z2⟩ := h.2 i t e
  exact ⟨z, by rw [List.getElem?_take, if_pos hi]; exact z1, z2⟩⟩
theorem poolExt {p : Addr} {H H' : Hp} (h : PoolAt H p) (s : LamX.ExtN H H') : PoolAt H' p := by
  obtain ⟨c1, c2, z, y⟩ := h
  exact ⟨c1, c2, s _ _ z (fun _ q => by cases q), y⟩
theorem tabsX {T : List (Addr × Str)} {p : Addr} {H H' : Hp} (t : LamX.Tabs T H) (hp : PoolAt H p) (s : SameX p H H') : LamX.Tabs T H' := fun q hq => by
  obtain ⟨ps, h1, h2, h3⟩ := t q hq
  obtain ⟨c1, c2, z, _⟩ := hp
  refine ⟨ps, s _ _ (ne_of h1 z (by intro y; cases y)) h1, h2, fun pos cv hc => ?_⟩
  obtain ⟨c, e1, e2⟩ := h3 pos cv hc
  exact ⟨c, e1, s _ _ (ne_of e2 z (by intro y; unfold LamX.CodeO at y; cases y)) e2⟩
theorem cut1 (ts : List Addr) : cutV (ts.map V.ref) none (some 1) = (ts.take 1).map V.ref := by
  cases ts with
  | nil => rfl
  | cons t r => exact cutRef (t :: r) 1 (by rw [List.length_cons]; omega)
abbrev lam3 (Pl Pm Pr : Addr) : List (Addr × Str) := [(Pl, (("law" : Str) ++ ".<locals>.") ++ "<lambda>"), (Pm, (("_law_many" : Str) ++ ".<locals>.") ++ "<lambda>"), (Pr, (("_law_refused" : Str) ++ ".<locals>.") ++ "<lambda>")]
theorem lam3l {Pl Pm Pr : Addr} (h1 : Pl ≠ Pm) (h2 : Pl ≠ Pr) : ∀ p ∈ lam3 Pl Pm Pr, p.1 = Pl → p.2 = (("law" : Str) ++ ".<locals>.") ++ "<lambda>" := fun p hp e => by
  rcases List.mem_cons.mp hp with rfl | hp
  · rfl
  rcases List.mem_cons.mp hp with rfl | hp
  · exact absurd e.symm h1
  · rw [List.mem_singleton.mp hp] at e
    exact absurd e.symm h2
theorem lam3m {Pl Pm Pr : Addr} (h1 : Pl ≠ Pm) (h3 : Pm ≠ Pr) : ∀ p ∈ lam3 Pl Pm Pr, p.1 = Pm → p.2 = (("_law_many" : Str) ++ ".<locals>.") ++ "<lambda>" := fun p hp e => by
  rcases List.mem_cons.mp hp with rfl | hp
  · exact absurd e h1
  rcases List.mem_cons.mp hp with rfl | hp
  · rfl
  · rw [List.mem_singleton.mp hp] at e
    exact absurd e.symm h3
theorem lam3r {Pl Pm Pr : Addr} (h2 : Pl ≠ Pr) (h3 : Pm ≠ Pr) : ∀ p ∈ lam3 Pl Pm Pr, p.1 = Pr → p.2 = (("_law_refused" : Str) ++ ".<locals>.") ++ "<lambda>" := fun p hp e => by
  rcases List.mem_cons.mp hp with rfl | hp
  · exact absurd e h2
  rcases List.mem_cons.mp hp with rfl | hp
  · exact absurd e h3
  · rw [List.mem_singleton.mp hp]
theorem mem3m {Pl Pm Pr : Addr} : (Pm, (("_law_many" : Str) ++ ".<locals>.") ++ "<lambda>") ∈ lam3 Pl Pm Pr := List.mem_cons_of_mem _ List.mem_cons_self
theorem mem3r {Pl Pm Pr : Addr} : (Pr, (("_law_refused" : Str) ++ ".<locals>.") ++ "<lambda>") ∈ lam3 Pl Pm Pr := List.mem_cons_of_mem _ (List.mem_cons_of_mem _ List.mem_cons_self)
theorem tabs3 {H : Hp} {cl Pl cm Pm cr Pr : Addr} (h : ∀ p ∈ [(cl, Pl), (cm, Pm), (cr, Pr)], H p.2 = some (.tbl #[])) : LamX.Tabs (lam3 Pl Pm Pr) H := fun p hp => by
  rcases List.mem_cons.mp hp with rfl | hp
  · exact .nil (h (cl, Pl) List.mem_cons_self)
  rcases List.mem_cons.mp hp with rfl | hp
  · exact .nil (h (cm, Pm) (List.mem_cons_of_mem _ List.mem_cons_self))
  · rw [List.mem_singleton.mp hp]
    exact .nil (h (cr, Pr) (List.mem_cons_of_mem _ (List.mem_cons_of_mem _ List.mem_cons_self)))
/-- all stays but p and the tables -/
def ExtP (p : Addr) (H H' : Hp) : Prop := ∀ b o, b ≠ p → H b = some o → (∀ ps, o ≠ .tbl ps) → H' b = some o
theorem ExtP.trans {p : Addr} {H H1 H2 : Hp} (a : ExtP p H H1) (b : ExtP p H1 H2) : ExtP p H H2 := fun c o n e t => b c o n (a c o n e t) t
theorem extNp {p : Addr} {H H' : Hp} (a : LamX.ExtN H H') : ExtP p H H' := fun b o _ e t => a b o e t
theorem sameXp {p : Addr} {H H' : Hp} (a : SameX p H H') : ExtP p H H' := fun b o n e _ => a b o n e
theorem gex_ge {CG : Addr} {H H' : Hp} {g : Addr} {n : Nat} {es : List (Int × Int)} (h : GE CG H g n es) (s : LamX.ExtN H H') : GE CG H' g n es := by
  obtain ⟨⟨dx, j, nr, N, h1, h2, h3, h4⟩, a, b, c, d⟩ := h
  exact ⟨⟨dx, j, nr, N, s _ _ h1 (fun _ z => by cases z), edExt h2 s, naExt h3 s, h4⟩, a, b, c, d⟩
theorem isEdge2 {n : Nat} {a b : PyData} (h : (isNode n a && isNode n b && !PyData.eqv a b) = false) : isEdgeD n (.tuple [a, b]) = false := h
theorem eqvZ : PyData.eqv (.int 0) (.int 0) = true := by decide +kernel
def swapE (e : Int × Int) : Int × Int := (e.2, e.1)
theorem ordSwap (e : Int × Int) : ordP (swapE e) = ordP e := by
  unfold ordP swapE
  exact Prod.ext (show min e.2 e.1 = min e.1 e.2 by omega) (show max e.2 e.1 = max e.1 e.2 by omega)
def spRF01 (K : PySem.W.Frag) (Pl Pm Pr : Addr) : Sp := fun vs H Q _ => ∃ (p jp : Addr) (n : Nat) (es : List (Int × Int)), vs = [.ref p, .int (n : Int), .ref jp] ∧ PoolAt H p ∧ EdgesAt H jp es ∧ jp ≠ p ∧ GoodE n es ∧ 1 ≤ n ∧ n ≤ 16 ∧ LamX.Tabs (lam3 Pl Pm Pr) H ∧
  ∀ H', ExtP p H H' → LamX.Tabs (lam3 Pl Pm Pr) H' → Q (.bl true) H'
section
variable {P : Program} {w : World} {K : PySem.W.Frag} {mg : Str → Option Value} {base : Heap} {CG CS CE CN CM : Addr}
theorem sc_rf : FnScope ["_law_pool_here", "_law_many_here", "_law_joins_here", "_law_bad", "_law_some", "_law_rows", "_law_one"] ["_law_pool_here", "_law_many_here", "_law_joins_here"] (defScope s__law_refused) := ⟨rfl, rfl, rfl, by decide +kernel, rfl, by decide +kernel, by decide +kernel⟩
theorem ok_rf {f fE fI c Pl Pm Pr : Addr} {fd fdE fdI : FuncData} (F : FunC K "_law_refused" "_law_refused" s__law_refused f fd c) (M : Nms mg) (T : GTxt K mg CG) (h2 : Pl ≠ Pr) (h3 : Pm ≠ Pr) (TBr : LamX.TabB base mg c Pr)
    (FE : Fun K "_law_error" "_law_error" s__law_error fE fdE) (mE : mg "_law_error" = some (.ref fE)) (bE : L2.Binds K fdE ["_law_door"] [])
    (E0 : Ex P w K mg base "InvalidSize" CS) (E1 : Ex P w K mg base "InvalidEdge" CE) (E2 : Ex P w K mg base "InvalidNode" CN) (E3 : Ex P w K mg base "TooMany" CM)
    (x00 : PySem.W.exmOne K (.ref CS) (.ref CS) = some true) (x10 : PySem.W.exmOne K (.ref CE) (.ref CS) = some false) (x11 : PySem.W.exmOne K (.ref CE) (.ref CE) = some true)
    (GT : At P w K mg base CX0 1 "_law_take" ["_law_pool_here", "_law_sides"] spTake) (MK : Mk K CG fI) (GI : FnOk P w K mg base (L2.CX P w) 6 fI fdI ["self", "size", "edges"] (spGI01 K CG CS CM CE)) (bI : L2.Binds K fdI ["self", "size", "edges"] []) :
    GOk P w K mg base 11 f fd ["_law_pool_here", "_law_many_here", "_law_joins_here"] (spRF01 K Pl Pm Pr) := by
  obtain ⟨fT, fdT, GT, mT, kT, bT⟩ := GT
  refine okGC F sc_rf (fun vs H Q E h => ?_) (fun A outer s H vs Q E hgd hr9 h => ?_)
  · obtain ⟨p, jp, n, es, rfl, _⟩ := h
    rfl
  · obtain ⟨p, jp, n, es, rfl, hp, hE, jpp, good, n1, n16, hTab, k⟩ := h
    have nd := sc_rf.nd
    have hr := hr9
    have hr1 : Room 1 _ := hr.mono (by decide)
    have hr2 : Room 2 _ := hr.mono (by decide)
    have mI := T.mgC
    have hu64 : A.units + 3 + 64 < cLine := hr.units
    refine ⟨_, (pss_cons (ps_for PassesOwn.never rfl (pi_list (pe_lst (pa_cons pe_int (pa_cons pe_int (pa_cons (pe_un un_neg pe_int) (pa_cons pe_non (pa_cons pe_bl (pa_cons pe_str (pa_cons (pe_lst (pa_cons pe_int pa_nil)) (pa_cons (pe_op op_pow pe_int pe_int) pa_nil)))))))))) (pg_name (i := 3) nd rfl (Or.inr rfl)) (pss_one (ps_if (pt_cmpR (op_neS hu64) (pe_doorN (x := "_law_error") (T := lam3 Pl Pm Pr) (TT := TErrU K (cl01 CS CE CN CM)) (by rfl) mE FE bE sc_error (Or.inl rfl) (fun cdg => err_gives hgd hr2 M.repr E0 E1 E2 E3) TBr rfl mem3r
              (lam3r h2 h3) hr9 (show LamX.LamS (defScope s__law_refused) _ from LamX.lamS_by (by decide +kernel)) rfl (fun _ _ _ _ _ => rfl)
              (fun A outer s H E f c' hr => (pe_make MK GI (hr.mono (by decide)) (by rfl) mI bI .nil (passes_call (E := E) (takes_of rfl rfl rfl rfl) (fun _ _ _ _ h => h)) (pa_cons (pv 3) (pa_cons pe_non pa_nil))))) (pe_lst (pa_cons pe_str (pa_cons (pe_callB (show CallR _ (.builtin "repr") (rReprU K) from call_reprU hgd hr.units) (by rfl) M.repr boot_repr1 (pa_cons (pv 3) pa_nil)) pa_nil))) (nomark _)) (pss_one (ps_ret pe_bl)) pss_nil)))
      (pss_cons (ps_for PassesOwn.never rfl (pi_list (pe_lst (pa_cons pe_non (pa_cons pe_int (pa_cons pe_dnewK (pa_cons pe_str (pa_cons (pe_disp1T (hu_of hr) (pe_tup (pa_cons pe_int (pa_cons pe_int pa_nil))) pe_int) pa_nil))))))) (pg_name (i := 3) nd rfl (Or.inr rfl)) (pss_one (ps_if (pt_cmpR (op_neS hu64) (pe_doorN (x := "_law_error") (T := lam3 Pl Pm Pr) (TT := TErrU K (cl01 CS CE CN CM)) (by rfl) mE FE bE sc_error (Or.inl rfl) (fun cdg => err_gives hgd hr2 M.repr E0 E1 E2 E3) TBr rfl mem3r
              (lam3r h2 h3) hr9 (show LamX.LamS (defScope s__law_refused) _ from LamX.lamS_by (by decide +kernel)) rfl (fun _ _ _ _ _ => rfl)
              (fun A outer s H E f c' hr => (pe_make MK GI (hr.mono (by decide)) (by rfl) mI bI .nil (passes_call (E := E) (takes_of rfl rfl rfl rfl) (fun _ _ _ _ h => h)) (pa_cons (pv 1) (pa_cons (pv 3) pa_nil))))) (pe_lst (pa_cons pe_str (pa_cons (pe_callB (show CallR _ (.builtin "repr") (rReprU K) from call_reprU hgd hr.units) (by rfl) M.repr boot_repr1 (pa_cons (pv 3) pa_nil)) pa_nil))) (nomark _)) (pss_one (ps_ret pe_bl)) pss_nil)))
      (pss_cons (ps_set (i := 4) nd rfl (Or.inl rfl) (pe_lst (pa_cons pe_non (pa_cons pe_int (pa_cons (pe_tup (pa_cons pe_int pa_nil)) (pa_cons (pe_tup (pa_cons pe_int (pa_cons pe_int pa_nil))) (pa_cons (pe_tup (pa_cons pe_int (pa_cons pe_int (pa_cons pe_int pa_nil)))) (pa_cons (pe_lst (pa_cons pe_int (pa_cons pe_int pa_nil))) (pa_cons (pe_tup (pa_cons pe_int (pa_cons (pv 1) pa_nil))) (pa_cons (pe_tup (pa_cons (pe_un un_neg pe_int) (pa_cons pe_int pa_nil))) (pa_cons (pe_tup (pa_cons pe_bl (pa_cons pe_int pa_nil))) (pa_cons (pe_tup (pa_cons pe_int (pa_cons pe_str pa_nil))) (pa_cons (pe_tup (pa_cons pe_int (pa_cons pe_non pa_nil))) pa_nil)))))))))))))
      (pss_cons (ps_set (i := 4) nd rfl (Or.inl rfl) (pe_op op_cat (pe_op op_cat (pv 4) (pe_lc (own := [("_law_one", 6)]) (g := gName 6) (tt := tYes) rfl nd (pi_list (pe_slice sl_list (pv 2) po_none (po_some pe_int))) (blkOk_by (own := [("_law_one", 6)]) (N := ["_law_pool_here", "_law_many_here", "_law_joins_here", "_law_bad", "_law_some", "_law_rows", "_law_one"]) (sc := defScope s__law_refused) (by decide +kernel)) (fun _ _ _ _ _ => pg_name (i := 6) nd rfl (Or.inl rfl)) (fun _ _ _ _ _ => pts_nil) (fun _ _ _ _ _ => (show PE _ _ (tStepP K (tVar 6) _) from pe_stepP (pv 6) (pe_un un_neg pe_int))))) (pe_slice sl_list (pv 2) po_none (po_some pe_int))))
      (pss_cons (ps_set (i := 3) nd rfl (Or.inr rfl) (pe_ix (r := rIxL K) ix_list (pv 4) (pe_call GT hr1 (by rfl) mT kT bT .nil pass0 (pa_cons (pv 0) (pa_cons (pe_callB call_len_seq (by rfl) M.len boot_len1 (pa_cons (pv 4) pa_nil)) pa_nil))) (fun _ _ => rfl)))
      (pss_cons (ps_set (i := 5) nd rfl (Or.inr rfl) (pe_op op_cat (pv 2) (pe_lst (pa_cons (pv 3) (pa_cons pe_non pa_nil)))))
      (pss_one (ps_ret (pe_cmpR (op_eqS hu64) (pe_doorN (x := "_law_error") (T := lam3 Pl Pm Pr) (TT := TErrU K (cl01 CS CE CN CM)) (by rfl) mE FE bE sc_error (Or.inl rfl) (fun cdg => err_gives hgd hr2 M.repr E0 E1 E2 E3) TBr rfl mem3r
              (lam3r h2 h3) hr9 (show LamX.LamS (defScope s__law_refused) _ from LamX.lamS_by (by decide +kernel)) rfl (fun _ _ _ _ _ => rfl)
              (fun A outer s H E f c' hr => (pe_make MK GI (hr.mono (by decide)) (by rfl) mI bI .nil (passes_call (E := E) (takes_of rfl rfl rfl rfl) (fun _ _ _ _ h => h)) (pa_cons (pv 1) (pa_cons (pv 5) pa_nil))))) (pe_lst (pa_cons pe_str (pa_cons (pe_callB (show CallR _ (.builtin "repr") (rReprU K) from call_reprU hgd hr.units) (by rfl) M.repr boot_repr1 (pa_cons (pv 3) pa_nil)) pa_nil))) (nomark _)))))))))), ?_⟩
    obtain ⟨ts, e1, e2⟩ := id hE
    have lts : ts.length ≤ 40 := by rw [e2.1]; exact good.few
    refine ⟨(1 : Int), rfl, by show 1 ≤ sizeLine; decide, fun R1 nR1 => ?_⟩
    obtain ⟨A1, q1, s1, u1⟩ := newAt (.lst [V.int 3]) nR1
    rw [q1]
    refine ⟨_, _, rfl, rfl, ⟨by decide, by decide, by decide⟩, by show 8 ≤ sizeLine; decide, fun L nL => ?_⟩
    obtain ⟨D0, q2, s2, hL⟩ := newAt (.lst [V.int 0, V.int 17, V.int (-1), V.non, V.bl true, V.str "3", V.ref R1, V.int (10 ^ 20)]) nL
    have q2' : upd A1 L (.lst [V.int 0, V.int 17, V.int (-1), V.non, V.bl true, V.str "3", V.ref R1, V.int (10 ^ (20 : Int).toNat)]) = D0 := q2
    rw [q2']
    have sD := s1.trans s2
    have r1 := s2 _ _ u1
    have hTD := Same.tabs sD hTab
    have nx : ∀ {o : HO} (vs : List V), o = .lst vs → ∀ ps, o ≠ .tbl ps := fun vs e ps z => by rw [e] at z; cases z
    refine ⟨L, rfl, ⟨_, SqL.of hL⟩, for_list (K := K) (a := L) (xs := [V.int 0, V.int 17, V.int (-1), V.non, V.bl true, V.str "3", V.ref R1, V.int (10 ^ 20)]) (fun i σ G => ∃ o3 : Option V, σ = [some (.ref p), some (.int (n : Int)), some (.ref jp), o3, none, none, none] ∧ LamX.ExtN D0 G ∧ LamX.Tabs (lam3 Pl Pm Pr) G)
      ⟨none, rfl, LamX.ExtN.refl D0, hTD⟩ (fun i σ G _ h => ?_) (fun i y σ G hi h => ?_) (fun σ G h => ?_)⟩
    · obtain ⟨_, _, xt, _⟩ := h
      exact sqLExt (SqL.of hL) xt
    · obtain ⟨o3, rfl, xt, tb⟩ := h
      obtain ⟨d, hd, hw, hsh⟩ : ∃ d, (∀ H4, LamX.ExtN D0 H4 → Rd K H4 y d) ∧ within 1 16 d = false ∧ Shw 3 30000 d := by
        have hlt : i < 8 := (List.getElem?_eq_some_iff.mp hi).1
        obtain rfl | rfl | rfl | rfl | rfl | rfl | rfl | rfl : i = 0 ∨ i = 1 ∨ i = 2 ∨ i = 3 ∨ i = 4 ∨ i = 5 ∨ i = 6 ∨ i = 7 := by omega
        · obtain rfl := Option.some.inj hi
          exact ⟨.int 0, fun _ _ => .dat (.int _), rfl, by decide +kernel, by decide +kernel, by decide +kernel⟩
        · obtain rfl := Option.some.inj hi
          exact ⟨.int 17, fun _ _ => .dat (.int _), rfl, by decide +kernel, by decide +kernel, by decide +kernel⟩
        · obtain rfl := Option.some.inj hi
          exact ⟨.int (-1), fun _ _ => .dat (.int _), rfl, by decide +kernel, by decide +kernel, by decide +kernel⟩
        · obtain rfl := Option.some.inj hi
          exact ⟨.none, fun _ _ => .dat .non, rfl, by decide +kernel, by decide +kernel, by decide +kernel⟩
        · obtain rfl := Option.some.inj hi
          exact ⟨.bool true, fun _ _ => .dat (.bl _), rfl, by decide +kernel, by decide +kernel, by decide +kernel⟩
        · obtain rfl := Option.some.inj hi
          exact ⟨.str "3", fun _ _ => .dat (.str _), rfl, by decide +kernel, by decide +kernel, by decide +kernel⟩
        · obtain rfl := Option.some.inj hi
          exact ⟨.list [.int 3], fun H4 z => .dat (.lst (SqL.of (z _ _ r1 (fun _ c => by cases c))) (.cons (.int _) .nil)), rfl, by decide +kernel, by decide +kernel, by decide +kernel⟩
        · obtain rfl := Option.some.inj hi
          exact ⟨.int (10 ^ 20), fun _ _ => .dat (.int _), by decide +kernel, by decide +kernel, by decide +kernel, by decide +kernel⟩
      obtain ⟨sY1, sY2, sY3⟩ := shwLine hsh (by decide) (by decide)
      refine ⟨tb, fun D1 xt1 tb1 => ?_⟩
      have xt2 := xt.trans xt1
      refine ⟨_, rfl, fun gx dx nx ndx ne => ?_⟩
      have sx0 := preS (CG := CG) nx ndx ne
      refine ⟨gx, dx, y, .non, rfl, upd_same, .inl ⟨d, hd _ (xt2.trans (Same.ext sx0)), hw, toldHeadU (d := d) x00 (fun H3 s3 => .inl (hd _ (xt2.trans (Same.ext (sx0.trans s3))))) ⟨sY1, sY2, sY3⟩ (fun D2 pa sp2 npa => ?_)⟩⟩
      obtain ⟨D3, qa, sa, ha⟩ := newAt (.lst [V.str "size", V.str d.shown]) npa
      rw [qa]
      have s13 := sx0.trans (sp2.trans sa)
      have xt3 := xt2.trans (Same.ext s13)
      have tb3 := Same.tabs s13 tb1
      refine ⟨_, rfl, y, d, rfl, .inl (hd _ xt3), sY1, sY2, sY3, by show 2 ≤ sizeLine; decide, fun pb npb => ?_⟩
      obtain ⟨D4, qb, sb, hb⟩ := newAt (.lst [V.str "size", V.str d.shown]) npb
      rw [qb]
      refine ⟨pa, pb, ["size", d.shown], rfl, rfl, SqL.of (sb _ _ ha), SqL.of hb, _, rfl, iteF ?_⟩
      exact ⟨_, rfl, xt3.trans (Same.ext sb), Same.tabs sb tb3⟩
    obtain ⟨o3, rfl, xtA, tbA⟩ := h
    have xG := (Same.ext sD).trans xtA
    clear xtA hL r1 hTD s1 s2 u1 q1 q2 q2' sD
    intro R2 nR2
    obtain ⟨A1, q1, s1, u1⟩ := newAt (.dK []) nR2
    rw [q1]
    intro R3 nR3
    obtain ⟨A2, q2, s2, u2⟩ := newAt (.dT []) nR3
    rw [q2]
    refine ⟨by show 2 ≤ sizeLine; decide, fun R4 nR4 => ?_⟩
    obtain ⟨A3, q3, s3, u3⟩ := newAt (.tup [V.int 0, V.int 1]) nR4
    rw [q3]
    have R23 : R2 ≠ R3 := ne_of_none u1 nR3
    refine ⟨[.inl 0, .inl 1], R4, rfl, u3, s3 _ _ u2, ?_⟩
    obtain ⟨A4, q4⟩ : ∃ A4, upd A3 R3 (.dT [([Sum.inl 0, Sum.inl 1], V.int 1)]) = A4 := ⟨_, rfl⟩
    have u4 : A4 R3 = some (.dT [([Sum.inl 0, Sum.inl 1], V.int 1)]) := by rw [← q4, upd_same]
    have nG3 := s1.free nR3
    have s4 : Same G A4 := fun b o e => by rw [← q4, upd_ne (ne_of_none e nG3)]; exact s3 _ _ (s2 _ _ (s1 _ _ e))
    have u5 : A4 R2 = some (.dK []) := by rw [← q4, upd_ne R23]; exact s3 _ _ (s2 _ _ u1)
    rw [q4]
    refine ⟨by show 5 ≤ sizeLine; decide, fun L nL => ?_⟩
    obtain ⟨D0, q5, s5, hL⟩ := newAt (.lst [V.non, V.int 5, V.ref R2, V.str "edges", V.ref R3]) nL
    rw [q5]
    have sD := s4.trans s5
    have r2 := s5 _ _ u5
    have r3 := s5 _ _ u4
    have hTD := Same.tabs sD tbA
    refine ⟨L, rfl, ⟨_, SqL.of hL⟩, for_list (K := K) (a := L) (xs := [V.non, V.int 5, V.ref R2, V.str "edges", V.ref R3]) (fun i σ G => ∃ o3 : Option V, σ = [some (.ref p), some (.int (n : Int)), some (.ref jp), o3, none, none, none] ∧ LamX.ExtN D0 G ∧ LamX.Tabs (lam3 Pl Pm Pr) G)
      ⟨o3, rfl, LamX.ExtN.refl D0, hTD⟩ (fun i σ G _ h => ?_) (fun i y σ G hi h => ?_) (fun σ G h => ?_)⟩
    · obtain ⟨_, _, xt, _⟩ := h
      exact sqLExt (SqL.of hL) xt
    · obtain ⟨o3, rfl, xt, tb⟩ := h
      obtain ⟨d, hd, hw, hsh⟩ : ∃ d, (∀ H4, LamX.ExtN D0 H4 → RdU K H4 y d) ∧ (∀ H4, LamX.ExtN D0 H4 → NoSeq K H4 y) ∧ Shw 3 30000 d := by
        have hlt : i < 5 := (List.getElem?_eq_some_iff.mp hi).1
        have kit : ∀ t : String, PySem.W.kitOne K (.type t) (.type "list") = some false → PySem.W.kitOne K (.type t) (.type "tuple") = some false → PySem.W.kitAny K (.type t) [.type "list", .type "tuple"] = some false := fun t h1 h2 =>
          kitAny_cons (b := false) h1 (fun _ => kitAny_cons (b := false) h2 (fun _ => rfl) (fun h => by cases h)) (fun h => by cases h)
        obtain rfl | rfl | rfl | rfl | rfl : i = 0 ∨ i = 1 ∨ i = 2 ∨ i = 3 ∨ i = 4 := by omega
        · obtain rfl := Option.some.inj hi
          exact ⟨.none, fun _ _ => .inl (.dat .non), fun _ _ => ⟨_, .base .non, kit _ (kit_ty (by decide +kernel)) (kit_ty (by decide +kernel))⟩, by decide +kernel, by decide +kernel, by decide +kernel⟩
        · obtain rfl := Option.some.inj hi
          exact ⟨.int 5, fun _ _ => .inl (.dat (.int _)), fun _ _ => ⟨_, .base (.int _), kit _ (kit_ty (by decide +kernel)) (kit_ty (by decide +kernel))⟩, by decide +kernel, by decide +kernel, by decide +kernel⟩
        · obtain rfl := Option.some.inj hi
          exact ⟨.dict [], fun H4 z => .inl (.dct [] (z _ _ r2 (fun _ c => by cases c))), fun H4 z => ⟨_, .base (.dK (z _ _ r2 (fun _ c => by cases c))), kit _ (kit_ty (by decide +kernel)) (kit_ty (by decide +kernel))⟩, by simp only [PyData.showable, PyData.showableKv], by decide +kernel, by decide +kernel⟩
        · obtain rfl := Option.some.inj hi
          exact ⟨.str "edges", fun _ _ => .inl (.dat (.str _)), fun _ _ => ⟨_, .base (.str _), kit _ (kit_ty (by decide +kernel)) (kit_ty (by decide +kernel))⟩, by decide +kernel, by decide +kernel, by decide +kernel⟩
        · obtain rfl := Option.some.inj hi
          exact ⟨.dict [(.tuple [.int 0, .int 1], .int 1)], fun H4 z => .inr ⟨R3, 0, 1, 1, rfl, z _ _ r3 (fun _ c => by cases c), rfl⟩, fun H4 z => ⟨_, .base (.dT (z _ _ r3 (fun _ c => by cases c))), kit _ (kit_ty (by decide +kernel)) (kit_ty (by decide +kernel))⟩, by decide +kernel, by decide +kernel, by decide +kernel⟩
      obtain ⟨sY1, sY2, sY3⟩ := shwLine hsh (by decide) (by decide)
      refine ⟨tb, fun D1 xt1 tb1 => ?_⟩
      have xt2 := xt.trans xt1
      refine ⟨_, rfl, _, rfl, fun gx dx nx ndx ne => ?_⟩
      have sx0 := preS (CG := CG) nx ndx ne
      refine ⟨gx, dx, .int (n : Int), y, rfl, upd_same, .inr ⟨n, rfl, n1, n16, .inl ⟨hw _ (xt2.trans (Same.ext sx0)), toldTailU x10 (toldHeadU (d := d) x11 (fun H3 s3 => hd _ (xt2.trans (Same.ext (sx0.trans s3)))) ⟨sY1, sY2, sY3⟩ (fun D2 pa sp2 npa => ?_))⟩⟩⟩
      obtain ⟨D3, qa, sa, ha⟩ := newAt (.lst [V.str "edge", V.str d.shown]) npa
      rw [qa]
      have s13 := sx0.trans (sp2.trans sa)
      have xt3 := xt2.trans (Same.ext s13)
      have tb3 := Same.tabs s13 tb1
      refine ⟨_, rfl, y, d, rfl, hd _ xt3, sY1, sY2, sY3, by show 2 ≤ sizeLine; decide, fun pb npb => ?_⟩
      obtain ⟨D4, qb, sb, hb⟩ := newAt (.lst [V.str "edge", V.str d.shown]) npb
      rw [qb]
      refine ⟨pa, pb, ["edge", d.shown], rfl, rfl, SqL.of (sb _ _ ha), SqL.of hb, _, rfl, iteF ?_⟩
      exact ⟨_, rfl, xt3.trans (Same.ext sb), Same.tabs sb tb3⟩
    obtain ⟨o3, rfl, xtB, tbB⟩ := h
    have xB := (xG.trans (Same.ext sD)).trans xtB
    clear xtB xG hL r2 r3 hTD s1 s2 s3 s4 s5 u1 u2 u3 u4 u5 q1 q2 q3 q4 q5 sD tbA hTab
    have hpB := poolExt hp xB
    have hEB := edExt hE xB
    obtain ⟨tsB, e1, e2⟩ := id hEB
    have lts : tsB.length ≤ 40 := by rw [e2.1]; exact good.few
    clear hE hp
    refine ⟨by show 1 ≤ sizeLine; decide, fun T1 nT1 => ?_⟩
    obtain ⟨B1, q1, s1, u1⟩ := newAt (.tup [V.int 0]) nT1
    rw [q1]
    refine ⟨by show 2 ≤ sizeLine; decide, fun T2 nT2 => ?_⟩
    obtain ⟨B2, q2, s2, u2⟩ := newAt (.tup [V.int 0, V.int 0]) nT2
    rw [q2]
    refine ⟨by show 3 ≤ sizeLine; decide, fun T3 nT3 => ?_⟩
    obtain ⟨B3, q3, s3, u3⟩ := newAt (.tup [V.int 0, V.int 0, V.int 1]) nT3
    rw [q3]
    refine ⟨by show 2 ≤ sizeLine; decide, fun T4 nT4 => ?_⟩
    obtain ⟨B4, q4, s4, u4⟩ := newAt (.lst [V.int 0, V.int 1]) nT4
    rw [q4]
    refine ⟨_, rfl, by show 2 ≤ sizeLine; decide, fun T5 nT5 => ?_⟩
    obtain ⟨B5, q5, s5, u5⟩ := newAt (.tup [V.int 0, V.int (n : Int)]) nT5
    rw [q5]
    refine ⟨(1 : Int), rfl, by show 2 ≤ sizeLine; decide, fun T6 nT6 => ?_⟩
    obtain ⟨B6, q6, s6, u6⟩ := newAt (.tup [V.int (-1), V.int 0]) nT6
    rw [q6]
    refine ⟨by show 2 ≤ sizeLine; decide, fun T7 nT7 => ?_⟩
    obtain ⟨B7, q7, s7, u7⟩ := newAt (.tup [V.bl true, V.int 0]) nT7
    rw [q7]
    refine ⟨by show 2 ≤ sizeLine; decide, fun T8 nT8 => ?_⟩
    obtain ⟨B8, q8, s8, u8⟩ := newAt (.tup [V.int 0, V.str "1"]) nT8
    rw [q8]
    refine ⟨by show 2 ≤ sizeLine; decide, fun T9 nT9 => ?_⟩
    obtain ⟨B9, q9, s9, u9⟩ := newAt (.tup [V.int 0, V.non]) nT9
    rw [q9]
    refine ⟨by show 11 ≤ sizeLine; decide, fun S nS => ?_⟩
    obtain ⟨B10, q10, s10, u10⟩ := newAt (.lst [V.non, V.int 5, V.ref T1, V.ref T2, V.ref T3, V.ref T4, V.ref T5, V.ref T6, V.ref T7, V.ref T8, V.ref T9]) nS
    rw [q10]
    have np4 : T4 ≠ p := ((hpB.same (s1.trans (s2.trans s3))).ne nT4).symm
    have m9 := s10
    have m8 := s9.trans m9
    have m7 := s8.trans m8
    have m6 := s7.trans m7
    have m5 := s6.trans m6
    have m4 := s5.trans m5
    have m3 := s4.trans m4
    have m2 := s3.trans m3
    have m1 := s2.trans m2
    have m0 := s1.trans m1
    have w1 := m1 _ _ u1
    have w2 := m2 _ _ u2
    have w3 := m3 _ _ u3
    have w4 := m4 _ _ u4
    have w5 := m5 _ _ u5
    have w6 := m6 _ _ u6
    have w7 := m7 _ _ u7
    have w8 := m8 _ _ u8
    have w9 := m9 _ _ u9
    have e1' := m0 _ _ e1
    have e2' := e2.same m0
    clear s1 s2 s3 s4 s5 s6 s7 s8 s9 s10 q1 q2 q3 q4 q5 q6 q7 q8 q9 q10 u1 u2 u3 u4 u5 u6 u7 u8 u9 m1 m2 m3 m4 m5 m6 m7 m8 m9
    refine ⟨_, rfl, _, rfl, (1 : Int), rfl, jp, _, rfl, SqL.of e1', fun C nC => ?_⟩
    rw [cut1]
    obtain ⟨B11, q11, s11, hC⟩ := newAt (.lst ((tsB.take 1).map V.ref)) nC
    rw [q11]
    have eC := (e2'.same s11).take 1
    refine ⟨C, rfl, ⟨_, SqL.of hC⟩, fun Z nZ => ?_⟩
    refine lc_list (K := K) (a := C) (xs := (tsB.take 1).map V.ref) (PairsTo B11 Z (es.take 1) swapE) (pairsZero nZ) (fun i H3 _ hP => SqL.of (hP.1 _ _ hC)) (fun i v H3 hv hP => ?_) (fun B12 hP => ?_)
    · obtain ⟨t, ht, rfl⟩ := refAt hv
      obtain ⟨e, hei, het⟩ := eC.2 i t ht
      refine ⟨rfl, ?_⟩
      refine ⟨_, rfl, (1 : Int), rfl, _, rfl, t, _, _, _, rfl, rfl, .inr rfl, SqT.of (hP.1 _ _ het), (fun h => absurd h (by decide)), fun _ T nT => ?_⟩
      exact pairsStep nZ hP hei (by rw [List.length_take]; omega) nT
    obtain ⟨s12, hZ⟩ := pairsDone eC.1 hP
    clear hP
    obtain ⟨tz, z1, z2⟩ := id hZ
    have ltz : tz.length ≤ 1 := by rw [z2.1, List.length_map, List.length_take]; omega
    have s02 := s11.trans s12
    refine ⟨S, Z, _, _, rfl, rfl, s02 _ _ u10, z1, by rw [List.length_map, sizeLine_eq]; show 11 + tz.length ≤ _; omega, fun R nR => ?_⟩
    obtain ⟨B13, q13, s13, hR⟩ := newAt (.lst ([V.non, V.int 5, V.ref T1, V.ref T2, V.ref T3, V.ref T4, V.ref T5, V.ref T6, V.ref T7, V.ref T8, V.ref T9] ++ tz.map V.ref)) nR
    rw [q13]
    have s03 := s02.trans s13
    refine ⟨_, rfl, (1 : Int), rfl, jp, _, rfl, SqL.of (s03 _ _ e1'), fun C2 nC2 => ?_⟩
    rw [cut1]
    obtain ⟨B14, q14, s14, hC2⟩ := newAt (.lst ((tsB.take 1).map V.ref)) nC2
    rw [q14]
    refine ⟨R, C2, _, _, rfl, rfl, s14 _ _ hR, hC2, by rw [List.length_append, List.length_map, List.length_map, List.length_take, sizeLine_eq]; show 11 + tz.length + _ ≤ _; omega, fun S2 nS2 => ?_⟩
    obtain ⟨xs, hxs⟩ : ∃ xs : List V, xs = [V.non, V.int 5, V.ref T1, V.ref T2, V.ref T3, V.ref T4, V.ref T5, V.ref T6, V.ref T7, V.ref T8, V.ref T9] ++ tz.map V.ref ++ (tsB.take 1).map V.ref := ⟨_, rfl⟩
    rw [← hxs]
    obtain ⟨B15, q15, s15, hS2⟩ := newAt (.lst xs) nS2
    rw [q15]
    have s05 := s03.trans (s14.trans s15)
    have lxs : xs.length = 11 + tz.length + (tsB.take 1).length := by
      rw [hxs, List.length_append, List.length_append, List.length_map, List.length_map]
      rfl
    have ltk : (tsB.take 1).length ≤ 1 := by rw [List.length_take]; omega
    have hp5 := hpB.same (m0.trans s05)
    refine ⟨_, rfl, _, rfl, _, rfl, S2, _, rfl, .inl (SqL.of hS2), p, _, rfl, hp5, by omega, by omega, fun r B16 r0 r1 hp6 t6 => ?_⟩
    have sx6 := sameX_take t6
    have S2p : S2 ≠ p := by
      obtain ⟨_, _, z, _⟩ := hp5
      refine ne_of hS2 z (fun y => ?_)
      injection y with y
      have := congrArg List.length y
      rw [lxs] at this
      simp at this
      omega
    have hS6 := sx6 _ _ S2p hS2
    obtain ⟨y, hy⟩ : ∃ y, xs[r.toNat]? = some y := ⟨_, List.getElem?_eq_getElem (by omega)⟩
    have hat := atI_nat hy
    rw [show ((r.toNat : Nat) : Int) = r by omega] at hat
    refine ⟨S2, _, r, y, rfl, rfl, SqL.of hS6, hat, ?_⟩
    have tup6 : ∀ (t : Addr) (vs : List V), B10 t = some (.tup vs) → B16 t = some (.tup vs) := fun t vs e => by
      have e := s05 _ _ e
      obtain ⟨_, _, z, _⟩ := hp5
      exact sx6 _ _ (ne_of e z (by intro y; cases y)) e
    have w4' : B16 T4 = some (.lst [V.int 0, V.int 1]) := by
      have e := s05 _ _ w4
      exact sx6 _ _ np4 e
    have e16 : B16 jp = some (.lst (tsB.map V.ref)) := sx6 _ _ jpp (s05 _ _ e1')
    have e26 := (e2'.same s05).sameX hp5 sx6
    have sB6 : SameX p G B16 := (Same.x (m0.trans s05)).trans sx6
    have tb6 := tabsX tbB hpB sB6
    have good2 := good.toU
    obtain ⟨d, hd, hsh, hbad⟩ : ∃ d, (∀ H4, LamX.ExtN B16 H4 → Rd K H4 y d) ∧ Shw 3 30000 d ∧ (isEdgeD n d = false ∨ ∃ (t : Addr) (e : Int × Int), y = .ref t ∧ B16 t = some (.tup [.int e.1, .int e.2]) ∧ (0 ≤ e.1 ∧ e.1 < n ∧ 0 ≤ e.2 ∧ e.2 < n ∧ e.1 ≠ e.2) ∧ ordP e ∈ es.map ordP) := by
      have tupD : ∀ (t : Addr) (vs : List V) (ds : List PyData), B16 t = some (.tup vs) → (∀ H4, DpAll K H4 vs ds) → ∀ H4, LamX.ExtN B16 H4 → Rd K H4 (.ref t) (.tuple ds) := fun t vs ds e h H4 z => .dat (.tup (SqT.of (z _ _ e (fun _ c => by cases c))) (h H4))
      have big : ∀ ds : List PyData, (∀ e ∈ ds, Shw 0 13 e) → ds.length ≤ 3 → Shw 3 30000 (.tuple ds) := fun ds h l => (shwTup (k := 0) (L := 13) (m := 3) h l).mono (by decide) (by decide)
      have sI : ∀ i : Int, i.natAbs ≤ 16 → Shw 0 13 (.int i) := fun i h => shwInt (Nat.lt_of_le_of_lt h (by decide +kernel))
      have sO : ∀ e : PyData, Shw 0 13 e → Shw 0 13 e := fun _ h => h
      by_cases c11 : r.toNat < 11
      · rw [hxs, List.append_assoc, List.getElem?_append_left (by exact c11)] at hy
        obtain c | c | c | c | c | c | c | c | c | c | c : r.toNat = 0 ∨ r.toNat = 1 ∨ r.toNat = 2 ∨ r.toNat = 3 ∨ r.toNat = 4 ∨ r.toNat = 5 ∨ r.toNat = 6 ∨ r.toNat = 7 ∨ r.toNat = 8 ∨ r.toNat = 9 ∨ r.toNat = 10 := by omega
        all_goals rw [c] at hy; obtain rfl := Option.some.inj hy
        · exact ⟨.none, fun _ _ => .dat .non, ⟨by decide +kernel, by decide +kernel, by decide +kernel⟩, .inl rfl⟩
        · exact ⟨.int 5, fun _ _ => .dat (.int _), ⟨by decide +kernel, by decide +kernel, by decide +kernel⟩, .inl rfl⟩
        · exact ⟨.tuple [.int 0], tupD _ _ _ (tup6 _ _ w1) (fun _ => .cons (.int _) .nil), ⟨by decide +kernel, by decide +kernel, by decide +kernel⟩, .inl rfl⟩
        · exact ⟨.tuple [.int 0, .int 0], tupD _ _ _ (tup6 _ _ w2) (fun _ => .cons (.int _) (.cons (.int _) .nil)), ⟨by decide +kernel, by decide +kernel, by decide +kernel⟩, .inl (isEdge2 (by rw [eqvZ]; exact Bool.and_false _))⟩
        · exact ⟨.tuple [.int 0, .int 0, .int 1], tupD _ _ _ (tup6 _ _ w3) (fun _ => .cons (.int _) (.cons (.int _) (.cons (.int _) .nil))), ⟨by decide +kernel, by decide +kernel, by decide +kernel⟩, .inl rfl⟩
        · exact ⟨.list [.int 0, .int 1], fun H4 z => .dat (.lst (SqL.of (z _ _ w4' (fun _ c => by cases c))) (.cons (.int _) (.cons (.int _) .nil))), ⟨by decide +kernel, by decide +kernel, by decide +kernel⟩, .inl rfl⟩
        · refine ⟨.tuple [.int 0, .int (n : Int)], tupD _ _ _ (tup6 _ _ w5) (fun _ => .cons (.int _) (.cons (.int _) .nil)), big _ (fun e he => ?_) (by show 2 ≤ 3; decide), .inl (isEdge2 ?_)⟩
          · rcases List.mem_cons.mp he with rfl | he
            · exact sI 0 (by decide)
            · rw [List.mem_singleton.mp he]
              exact sI _ (by omega)
          · have z : isNode n (.int (n : Int)) = false := by
              show (decide ((0 : Int) ≤ (n : Int)) && decide ((n : Int) ≤ (n : Int) - 1)) = false
              rw [decide_eq_false (show ¬ ((n : Int) ≤ (n : Int) - 1) by omega), Bool.and_false]
            rw [z, Bool.and_false, Bool.false_and]
        · exact ⟨.tuple [.int (-1), .int 0], tupD _ _ _ (tup6 _ _ w6) (fun _ => .cons (.int _) (.cons (.int _) .nil)), ⟨by decide +kernel, by decide +kernel, by decide +kernel⟩, .inl (isEdge2 (by rw [show isNode n (.int (-1)) = false from rfl]; rfl))⟩
        · exact ⟨.tuple [.bool true, .int 0], tupD _ _ _ (tup6 _ _ w7) (fun _ => .cons (.bl _) (.cons (.int _) .nil)), ⟨by decide +kernel, by decide +kernel, by decide +kernel⟩, .inl (isEdge2 (by rw [show isNode n (.bool true) = false from rfl]; rfl))⟩
        · exact ⟨.tuple [.int 0, .str "1"], tupD _ _ _ (tup6 _ _ w8) (fun _ => .cons (.int _) (.cons (.str _) .nil)), ⟨by decide +kernel, by decide +kernel, by decide +kernel⟩, .inl (isEdge2 (by rw [show isNode n (.str "1") = false from rfl, Bool.and_false, Bool.false_and]))⟩
        · exact ⟨.tuple [.int 0, .none], tupD _ _ _ (tup6 _ _ w9) (fun _ => .cons (.int _) (.cons .non .nil)), ⟨by decide +kernel, by decide +kernel, by decide +kernel⟩, .inl (isEdge2 (by rw [show isNode n .none = false from rfl, Bool.and_false, Bool.false_and]))⟩
      · have fin : ∀ (t : Addr) (e : Int × Int), B16 t = some (.tup [.int e.1, .int e.2]) → (0 ≤ e.1 ∧ e.1 < n ∧ 0 ≤ e.2 ∧ e.2 < n ∧ e.1 ≠ e.2) → ordP e ∈ es.map ordP → y = .ref t → ∃ d, (∀ H4, LamX.ExtN B16 H4 → Rd K H4 y d) ∧ Shw 3 30000 d ∧ (isEdgeD n d = false ∨ ∃ (t : Addr) (e : Int × Int), y = .ref t ∧ B16 t = some (.tup [.int e.1, .int e.2]) ∧ (0 ≤ e.1 ∧ e.1 < n ∧ 0 ≤ e.2 ∧ e.2 < n ∧ e.1 ≠ e.2) ∧ ordP e ∈ es.map ordP) := fun t e h1 h2 h3 h4 => by
          subst h4
          refine ⟨.tuple [.int e.1, .int e.2], tupD _ _ _ h1 (fun _ => .cons (.int _) (.cons (.int _) .nil)), big _ (fun d hd => ?_) (by show 2 ≤ 3; decide), .inr ⟨t, e, rfl, h1, h2, h3⟩⟩
          rcases List.mem_cons.mp hd with rfl | hd
          · exact sI _ (by omega)
          · rw [List.mem_singleton.mp hd]
            exact sI _ (by omega)
        cases es with
        | nil =>
          have := z2.1
          have := e2.1
          simp only [List.take_nil, List.map_nil, List.length_nil] at *
          rw [List.length_take] at lxs
          omega
        | cons e0 er =>
          cases tsB with
          | nil => cases e2.1
          | cons t0 tr =>
            cases tz with
            | nil => cases z2.1
            | cons tz0 tzr =>
              have g0 := good2.node e0 List.mem_cons_self
              obtain ⟨e0', q1, q2⟩ := e26.2 0 t0 rfl
              obtain rfl := Option.some.inj q1
              obtain ⟨f0, q3, q4⟩ := z2.2 0 tz0 rfl
              obtain rfl := Option.some.inj q3
              rw [List.length_cons] at ltz
              obtain rfl : tzr = [] := List.eq_nil_of_length_eq_zero (by omega)
              have mem0 : ordP e0 ∈ (e0 :: er).map ordP := List.mem_map.mpr ⟨e0, List.mem_cons_self, rfl⟩
              by_cases c12 : r.toNat = 11
              · rw [c12, hxs] at hy
                refine fin tz0 (swapE e0) ?_ ⟨g0.2.2.1, g0.2.2.2.1, g0.1, g0.2.1, g0.2.2.2.2.symm⟩ (by rw [ordSwap]; exact mem0) (Option.some.inj hy).symm
                have q5 := (s13.trans (s14.trans s15)) _ _ q4
                obtain ⟨_, _, z, _⟩ := hp5
                exact sx6 _ _ (ne_of q5 z (by intro y; cases y)) q5
              · have c13 : r.toNat = 12 := by
                  rw [lxs] at r1
                  simp only [List.take, List.length_cons, List.length_nil] at r1
                  omega
                rw [c13, hxs] at hy
                exact fin t0 e0 q2 g0 mem0 (Option.some.inj hy).symm
    obtain ⟨sY1, sY2, sY3⟩ := shwLine hsh (by decide) (by decide)
    refine ⟨_, rfl, _, rfl, by show 2 ≤ sizeLine; decide, fun Y nY => ?_⟩
    obtain ⟨B17, q17, s17, hY⟩ := newAt (.lst [y, V.non]) nY
    rw [q17]
    refine ⟨jp, Y, _, _, rfl, rfl, s17 _ _ e16, hY, by rw [List.length_map, sizeLine_eq]; show tsB.length + 2 ≤ _; omega, fun W nW => ?_⟩
    obtain ⟨B18, q18, s18, hW⟩ := newAt (.lst (tsB.map V.ref ++ [y, V.non])) nW
    rw [q18]
    have s68 := s17.trans s18
    refine ⟨Same.tabs s68 tb6, fun D1 xt1 tb1 => ?_⟩
    have xt2 := (Same.ext s68).trans xt1
    refine ⟨_, rfl, _, rfl, fun gx dx nx ndx ne => ?_⟩
    have sx0 := preS (CG := CG) nx ndx ne
    have xt20 := xt2.trans (Same.ext sx0)
    have e2p : TupsAt (upd (upd D1 dx (.own gx)) gx (.ins CG dx [])) tsB es := ⟨e26.1, fun k t hk => by
      obtain ⟨x, a, b⟩ := e26.2 k t hk
      exact ⟨x, a, xt20 _ _ b (fun _ z => by cases z)⟩⟩
    refine ⟨gx, dx, .int (n : Int), .ref W, rfl, upd_same, .inr ⟨n, rfl, n1, n16, .inr (.inl ⟨y, ⟨W, tsB, es, [V.non], rfl, (xt1.trans (Same.ext sx0)) _ _ hW (fun _ z => by cases z), e2p, good2, ?_⟩, toldTailU x10 (toldHeadU (d := d) x11 (fun H3 s3 => .inl (hd _ (xt20.trans (Same.ext s3)))) ⟨sY1, sY2, sY3⟩ (fun D2 pa sp2 npa => ?_))⟩)⟩⟩
    · rcases hbad with hb | ⟨t, e, rfl, ht, he, hm⟩
      · exact .inl ⟨d, hd _ xt20, hb⟩
      · exact .inr ⟨t, e, rfl, xt20 _ _ ht (fun _ z => by cases z), he, hm⟩
    obtain ⟨D3, qa, sa, ha⟩ := newAt (.lst [V.str "edge", V.str d.shown]) npa
    rw [qa]
    have s13' := sx0.trans (sp2.trans sa)
    have xt3 := xt2.trans (Same.ext s13')
    have tb3 := Same.tabs s13' tb1
    refine ⟨_, rfl, y, d, rfl, .inl (hd _ xt3), sY1, sY2, sY3, by show 2 ≤ sizeLine; decide, fun pb npb => ?_⟩
    obtain ⟨D4, qb, sb, hb⟩ := newAt (.lst [V.str "edge", V.str d.shown]) npb
    rw [qb]
    exact ⟨pa, pb, ["edge", d.shown], rfl, rfl, SqL.of (sb _ _ ha), SqL.of hb, k _ (((extNp xB).trans (sameXp sB6)).trans (extNp (xt3.trans (Same.ext sb)))) (Same.tabs sb tb3)⟩
end

end K01

set_option Elab.async false
set_option linter.all false
set_option maxRecDepth 100000
set_option maxHeartbeats 8000000
namespace K01
open PySem PySem.Spec PyProof.Rows L2 FNX
/-! ## _law_many -/
theorem GoodU.take {n : Nat} {es : List (Int × Int)} (h : GoodU n es) (k : Nat) : GoodU n (es.take k) := ⟨fun e he => h.node e (List.mem_of_mem_take he), by
  rw [List.map_take]
  exact h.once.sublist (List.take_sublist _ _), by
  have := h.few
  rw [List.length_take]
  omega⟩
def denseE (j : Nat) : List (Int × Int) := (List.range j).flatMap fun a : Nat => (List.range a).map fun b : Nat => ((a : Int), (b : Int))
theorem denseSucc (j : Nat) : denseE (j + 1) = denseE j ++ (List.range j).map fun b : Nat => ((j : Int), (b : Int)) := by
  unfold denseE
  rw [List.range_succ, List.flatMap_append]
  simp
theorem edApp {H : Hp} {p : Addr} {ta tz : List Addr} {es fs : List (Int × Int)} (q1 : TupsAt H ta es) (q2 : TupsAt H tz fs) (h : H p = some (.lst ((ta ++ tz).map V.ref))) : EdgesAt H p (es ++ fs) := by
  refine ⟨ta ++ tz, h, by rw [List.length_append, List.length_append, q1.1, q2.1], fun k t hk => ?_⟩
  by_cases c : k < ta.length
  · rw [List.getElem?_append_left c] at hk
    obtain ⟨e, w1, w2⟩ := q1.2 k t hk
    exact ⟨e, by rw [List.getElem?_append_left (by rw [← q1.1]; exact c)]; exact w1, w2⟩
  · rw [List.getElem?_append_right (by omega)] at hk
    obtain ⟨e, w1, w2⟩ := q2.2 _ t hk
    exact ⟨e, by rw [List.getElem?_append_right (by rw [← q1.1]; omega), ← q1.1]; exact w1, w2⟩
theorem denseLe10 : ∀ j, j ≤ 10 → (denseE j).length ≤ 45 := by decide +kernel
theorem denseGood10 : GoodU 10 (denseE 10) := ⟨by decide +kernel, by decide +kernel, by decide +kernel⟩
theorem dense10 : (denseE 10).length = 45 := by decide +kernel
theorem shown41 : (PyData.int 41).shown = "41" := by decide +kernel
theorem shown45 : (PyData.int 45).shown = "45" := by decide +kernel
def spMany (K : PySem.W.Frag) (Pl Pm Pr : Addr) : Sp := fun vs H Q _ => vs = [] ∧ LamX.Tabs (lam3 Pl Pm Pr) H ∧ ∀ H', LamX.ExtN H H' → LamX.Tabs (lam3 Pl Pm Pr) H' → Q (.bl true) H'
section
variable {P : Program} {w : World} {K : PySem.W.Frag} {mg : Str → Option Value} {base : Heap} {CG CS CE CN CM : Addr}
theorem sc_many : FnScope ["_law_full", "_law_one", "_law_two"] [] (defScope s__law_many) := ⟨rfl, rfl, rfl, by decide +kernel, rfl, by decide +kernel, by decide +kernel⟩
theorem ok_many {f fE fI c Pl Pm Pr : Addr} {fd fdE fdI : FuncData} (F : FunC K "_law_many" "_law_many" s__law_many f fd c) (M : Nms mg) (T : GTxt K mg CG) (h1 : Pl ≠ Pm) (h3 : Pm ≠ Pr) (TBm : LamX.TabB base mg c Pm)
    (FE : Fun K "_law_error" "_law_error" s__law_error fE fdE) (mE : mg "_law_error" = some (.ref fE)) (bE : L2.Binds K fdE ["_law_door"] [])
    (E0 : Ex P w K mg base "InvalidSize" CS) (E1 : Ex P w K mg base "InvalidEdge" CE) (E2 : Ex P w K mg base "InvalidNode" CN) (E3 : Ex P w K mg base "TooMany" CM)
    (x30 : PySem.W.exmOne K (.ref CM) (.ref CS) = some false) (x31 : PySem.W.exmOne K (.ref CM) (.ref CE) = some false) (x32 : PySem.W.exmOne K (.ref CM) (.ref CN) = some false) (x33 : PySem.W.exmOne K (.ref CM) (.ref CM) = some true)
    (GLn : MAt P w K mg base CG CX0 1 "__len__" ["self"] (spLenE CG)) (MK : Mk K CG fI) (GI : FnOk P w K mg base (L2.CX P w) 6 fI fdI ["self", "size", "edges"] (spGI01 K CG CS CM CE)) (bI : L2.Binds K fdI ["self", "size", "edges"] []) :
    GOk P w K mg base 11 f fd [] (spMany K Pl Pm Pr) := by
  obtain ⟨fLn, fdLn, GLn, mLn, bLn⟩ := GLn
  refine okGC F sc_many (fun vs H Q E h => ?_) (fun A outer s H vs Q E hgd hr9 h => ?_)
  · obtain ⟨rfl, _⟩ := h
    rfl
  · obtain ⟨rfl, hTab, k⟩ := h
    have nd := sc_many.nd
    have hr := hr9
    have hr1 : Room 1 _ := hr.mono (by decide)
    have hr2 : Room 2 _ := hr.mono (by decide)
    have hr7 : Room 7 _ := hr.mono (by decide)
    have mI := T.mgC
    have hu64 : A.units + 3 + 64 < cLine := hr.units
    refine ⟨_, (pss_cons (ps_set (i := 0) nd rfl (Or.inr rfl) (pe_lst pa_nil))
      (pss_cons (ps_for PassesOwn.never rfl (pi_range1 rfl M.range (pa_cons pe_int pa_nil)) (pg_name (i := 1) nd rfl (Or.inr rfl)) (pss_one (ps_set (i := 0) nd rfl (Or.inr rfl) (pe_op op_cat (pv 0) (pe_lc (own := [("_law_two", 2)]) (g := gName 2) (tt := tYes) rfl nd (pi_range1 rfl M.range (pa_cons (pv 1) pa_nil)) (blkOk_by (own := [("_law_two", 2)]) (N := ["_law_full", "_law_one", "_law_two"]) (sc := defScope s__law_many) (by decide +kernel)) (fun _ _ _ _ _ => pg_name (i := 2) nd rfl (Or.inl rfl)) (fun _ _ _ _ _ => pts_nil) (fun _ _ _ _ _ => (pe_tup (pa_cons (pv 1) (pa_cons (pv 2) pa_nil)))))))))
      (pss_cons (ps_if (PW.pt (pw_or (pt_cmpR op_ne (pe_callB (show CallR _ (.builtin "len") (rLenI CG (spLenE CG) E) from call_lenI GLn mLn.1 mLn.fn bLn pass0 hr2) (by rfl) M.len boot_len1 (pa_cons (pe_make MK GI hr7 (by rfl) mI bI .nil passL (pa_cons pe_int (pa_cons (pe_slice sl_list (pv 0) po_none (po_some pe_int)) pa_nil))) pa_nil)) pe_int (nomark _)) (pw_or1 (pt_cmpR (op_neS hu64) (pe_doorN (x := "_law_error") (T := lam3 Pl Pm Pr) (TT := TErrU K (cl01 CS CE CN CM)) (by rfl) mE FE bE sc_error (Or.inl rfl) (fun cdg => err_gives hgd hr2 M.repr E0 E1 E2 E3) TBm rfl mem3m
              (lam3m h1 h3) hr9 (show LamX.LamS (defScope s__law_many) _ from LamX.lamS_by (by decide +kernel)) rfl (fun _ _ _ _ _ => rfl)
              (fun A outer s H E f c' hr => (pe_make MK GI (hr.mono (by decide)) (by rfl) mI bI .nil (passes_call (E := E) (takes_of rfl rfl rfl rfl) (fun _ _ _ _ h => h)) (pa_cons pe_int (pa_cons (pe_slice (show SlR _ (rSlL K) from sl_list) (pv 0) po_none (po_some pe_int)) pa_nil))))) (pe_lst (pa_cons pe_str (pa_cons pe_str pa_nil))) (nomark _))))) (pss_one (ps_ret pe_bl)) pss_nil)
      (pss_one (ps_ret (pe_cmpR (op_eqS hu64) (pe_doorN (x := "_law_error") (T := lam3 Pl Pm Pr) (TT := TErrU K (cl01 CS CE CN CM)) (by rfl) mE FE bE sc_error (Or.inl rfl) (fun cdg => err_gives hgd hr2 M.repr E0 E1 E2 E3) TBm rfl mem3m
              (lam3m h1 h3) hr9 (show LamX.LamS (defScope s__law_many) _ from LamX.lamS_by (by decide +kernel)) rfl (fun _ _ _ _ _ => rfl)
              (fun A outer s H E f c' hr => (pe_make MK GI (hr.mono (by decide)) (by rfl) mI bI .nil (passes_call (E := E) (takes_of rfl rfl rfl rfl) (fun _ _ _ _ h => h)) (pa_cons pe_int (pa_cons (pv 0) pa_nil))))) (pe_lst (pa_cons pe_str (pa_cons pe_str pa_nil))) (nomark _))))))), ?_⟩
    refine ⟨by show 0 ≤ sizeLine; decide, fun d0 nd0 => ?_⟩
    obtain ⟨J0, w0, j0, u0⟩ := newAt (.lst []) nd0
    rw [w0]
    refine ⟨10, rfl, by decide, by decide, for_range (lo := 0) (fun j σ H' => ∃ (D : Addr) (o1 : Option V), σ = [some (.ref D), o1, none] ∧ Same H H' ∧ EdgesAt H' D (denseE j))
      ⟨d0, none, rfl, j0, ⟨[], u0, rfl, fun k t e => by simp at e⟩⟩ ?_ ?_⟩
    · rintro j σ H' hj ⟨D, o1, rfl, sm, hD⟩
      have hj8 : j < 10 := hj
      obtain ⟨td, d1, d2⟩ := id hD
      rw [Int.zero_add]
      refine ⟨_, rfl, _, rfl, (j : Int), rfl, by omega, by omega, fun Z nZ => ?_⟩
      refine lc_range (lo := 0) (n := j) (PairsTo H' Z ((List.range j).map fun b : Nat => ((j : Int), (b : Int))) id) (pairsZero nZ) (fun k H4 hk hP => ?_) (fun H4 hP => ?_)
      · rw [Int.zero_add]
        have hk' : k < j := by omega
        refine ⟨rfl, ?_⟩
        refine ⟨_, rfl, _, rfl, by show 2 ≤ sizeLine; decide, fun T nT => ?_⟩
        exact pairsStep (e := ((j : Int), (k : Int))) nZ hP (by rw [List.getElem?_map, List.getElem?_range hk']; rfl) (by rw [List.length_map, List.length_range]; omega) nT
      obtain ⟨s4, us, f1, f2⟩ := hP
      rw [List.take_of_length_le (by rw [List.length_map, List.length_range]; omega), List.map_id] at f2
      have lus : us.length = j := by rw [f2.1, List.length_map, List.length_range]
      have ltd : td.length ≤ 45 := by rw [d2.1]; exact denseLe10 j (by omega)
      refine ⟨D, Z, _, _, rfl, rfl, s4 _ _ d1, f1, by rw [List.length_map, List.length_map, sizeLine_eq]; omega, fun R nR => ?_⟩
      have sR := same_upd nR (o := .lst (td.map V.ref ++ us.map V.ref))
      have hR := edApp (p := R) ((d2.same s4).same sR) (f2.same sR) (by rw [upd_same, List.map_append])
      exact ⟨R, some (.int (j : Int)), rfl, sm.trans (s4.trans sR), by rw [denseSucc]; exact hR⟩
    rintro σ H4 ⟨D, o1, rfl, s34, hD⟩
    have hD : EdgesAt H4 D (denseE 10) := hD
    have hT4 := Same.tabs s34 hTab
    obtain ⟨td, d1, d2⟩ := id hD
    have ltd : td.length = 45 := by rw [d2.1]; exact dense10
    refine ⟨_, rfl, (40 : Int), rfl, D, _, rfl, SqL.of d1, fun C nC => ?_⟩
    rw [show cutV (td.map V.ref) none (some (40 : Int)) = (td.take 40).map V.ref from cutRef td 40 (by omega)]
    obtain ⟨H5, q5, s5, hC⟩ := newAt (.lst ((td.take 40).map V.ref)) nC
    rw [q5]
    have hC : EdgesAt H5 C ((denseE 10).take 40) := ⟨_, hC, (d2.take 40).same s5⟩
    intro g0 dx nx ndx ne
    have sx0 := preS (CG := CG) nx ndx ne
    obtain ⟨tc, c1, c2⟩ := id (hC.same sx0)
    have l40 : ((denseE 10).take 40).length = 40 := by rw [List.length_take, dense10]; decide
    refine ⟨g0, dx, .int ((10 : Nat) : Int), .ref C, rfl, upd_same, .inr ⟨10, rfl, by decide, by decide, .inr (.inr ⟨(denseE 10).take 40, ⟨C, tc, rfl, .inl c1, c2, denseGood10.take 40⟩, fun h => by omega, fun _ H6 j6 nr6 N6 es6 up6 hx6 hj6 hN6 near6 pe6 sE6 _ _ => ⟨rfl, ?_⟩⟩)⟩⟩
    obtain ⟨s56, hG⟩ := made nx ndx ne (denseGood10.take 40) (by decide) (by decide) (by omega) up6 hx6 hj6 hN6 near6 pe6 sE6
    obtain ⟨dxg, jg, nrg, Ng, og, _⟩ := hG.obj
    have l6 : es6.length = 40 := by rw [pe6.length_eq, List.length_map, l40]
    refine ⟨g0, dxg, _, rfl, og, ⟨g0, 10, es6, rfl, hG, ⟨_, rfl, by omega, by rw [l6]; decide, ?_⟩⟩⟩
    refine ⟨rfl, _, rfl, ?_⟩
    rw [l6, decide_eq_true (show V.int ((40 : Nat) : Int) = V.int 40 from rfl)]
    refine iteF ⟨Same.tabs (s5.trans s56) hT4, fun D1 xt1 tb1 => ?_⟩
    have xt2 := (Same.ext (s5.trans s56)).trans xt1
    have d1x := xt2 _ _ d1 (fun _ z => by cases z)
    refine ⟨_, rfl, (41 : Int), rfl, D, _, rfl, SqL.of d1x, fun C2 nC2 => ?_⟩
    rw [show cutV (td.map V.ref) none (some (41 : Int)) = (td.take 41).map V.ref from cutRef td 41 (by omega)]
    obtain ⟨E5, q5', s5', hC2⟩ := newAt (.lst ((td.take 41).map V.ref)) nC2
    rw [q5']
    have d2x : TupsAt D1 td (denseE 10) := ⟨d2.1, fun k t hk => by
      obtain ⟨x, a, b⟩ := d2.2 k t hk
      exact ⟨x, a, xt2 _ _ b (fun _ z => by cases z)⟩⟩
    have hC2 : EdgesAt E5 C2 ((denseE 10).take 41) := ⟨_, hC2, (d2x.take 41).same s5'⟩
    have l41 : ((denseE 10).take 41).length = 41 := by rw [List.length_take, dense10]; decide
    intro g1 dx1 nx1 ndx1 ne1
    have sx1' := preS (CG := CG) nx1 ndx1 ne1
    have sx1 := s5'.trans sx1'
    obtain ⟨tc2, c3, c4⟩ := id (hC2.same sx1')
    refine ⟨g1, dx1, .int ((10 : Nat) : Int), .ref C2, rfl, upd_same, .inr ⟨10, rfl, by decide, by decide, .inr (.inr ⟨(denseE 10).take 41, ⟨C2, tc2, rfl, .inl c3, c4, denseGood10.take 41⟩, fun _ => ?_, fun h => absurd h (by omega)⟩)⟩⟩
    rw [l41]
    refine toldTailU x30 (toldTailU x31 (toldTailU x32 (toldHeadU (d := .int 41) x33 (fun H3 s3 => .inl (.dat (.int _))) ⟨by decide +kernel, by decide +kernel, by decide +kernel⟩ (fun D2 pa sp2 npa => ?_))))
    obtain ⟨D3, qa, sa, ha⟩ := newAt (.lst [V.str "many", V.str (PyData.int 41).shown]) npa
    rw [qa]
    have s13 := sx1.trans (sp2.trans sa)
    have xt3 := xt2.trans (Same.ext s13)
    have tb3 := Same.tabs s13 tb1
    refine ⟨by show 2 ≤ sizeLine; decide, fun pb npb => ?_⟩
    obtain ⟨D4, qb, sb, hb⟩ := newAt (.lst [V.str "many", V.str "41"]) npb
    rw [qb]
    rw [shown41] at ha
    refine ⟨pa, pb, ["many", "41"], rfl, rfl, SqL.of (sb _ _ ha), SqL.of hb, _, rfl, iteF ?_⟩
    have xtB := xt3.trans (Same.ext sb)
    have tbB := Same.tabs sb tb3
    clear xt3 tb3 ha hb sa sb sp2 sx1 sx1' s13 c3 c4 hC2 s5' d1x d2x xt1 tb1
    refine ⟨tbB, fun D1 xt1 tb1 => ?_⟩
    have xt2 := xtB.trans xt1
    have d1x := xt2 _ _ d1 (fun _ z => by cases z)
    have d2x : TupsAt D1 td (denseE 10) := ⟨d2.1, fun k t hk => by
      obtain ⟨x, a, b⟩ := d2.2 k t hk
      exact ⟨x, a, xt2 _ _ b (fun _ z => by cases z)⟩⟩
    refine ⟨_, rfl, ?_⟩
    intro g1 dx1 nx1 ndx1 ne1
    have sx1 := preS (CG := CG) nx1 ndx1 ne1
    refine ⟨g1, dx1, .int ((10 : Nat) : Int), .ref D, rfl, upd_same, .inr ⟨10, rfl, by decide, by decide, .inr (.inr ⟨denseE 10, ⟨D, td, rfl, .inl (sx1 _ _ d1x), d2x.same sx1, denseGood10⟩, fun _ => ?_, fun h => absurd h (by rw [dense10]; decide)⟩)⟩⟩
    rw [dense10]
    refine toldTailU x30 (toldTailU x31 (toldTailU x32 (toldHeadU (d := .int 45) x33 (fun H3 s3 => .inl (.dat (.int _))) ⟨by decide +kernel, by decide +kernel, by decide +kernel⟩ (fun D2 pa sp2 npa => ?_))))
    obtain ⟨D3, qa, sa, ha⟩ := newAt (.lst [V.str "many", V.str (PyData.int 45).shown]) npa
    rw [qa]
    have s13 := sx1.trans (sp2.trans sa)
    have xt3 := xt2.trans (Same.ext s13)
    have tb3 := Same.tabs s13 tb1
    refine ⟨by show 2 ≤ sizeLine; decide, fun pb npb => ?_⟩
    obtain ⟨D4, qb, sb, hb⟩ := newAt (.lst [V.str "many", V.str "45"]) npb
    rw [qb]
    rw [shown45] at ha
    exact ⟨pa, pb, ["many", "45"], rfl, rfl, SqL.of (sb _ _ ha), SqL.of hb, k _ ((Same.ext s34).trans (xt3.trans (Same.ext sb))) (Same.tabs sb tb3)⟩
end

end K01

set_option Elab.async false
set_option linter.all false
set_option maxRecDepth 100000
set_option maxHeartbeats 8000000
namespace K01
open PySem PySem.Spec PyProof.Rows L2 FNX
/-! ## Graph.__repr__, Graph.__eq__ -/
def pairsD (es : List (Int × Int)) : PyData := .list (es.map pairD)
def textG (n : Nat) (es : List (Int × Int)) : Str := (("Graph(" : Str) ++ toString (n : Int)) ++ (", " : Str) ++ (pairsD es).shown ++ (")" : Str)
theorem shwPairs {es : List (Int × Int)} (h : ∀ e ∈ es, e.1.natAbs ≤ 16 ∧ e.2.natAbs ≤ 16) (hl : es.length ≤ 41) : Shw 2 2000 (pairsD es) :=
  (shwList (k := 1) (L := 33) (m := 41) (fun d hd => by
    obtain ⟨e, he, rfl⟩ := List.mem_map.mp hd
    exact (shwTup (k := 0) (L := 13) (m := 2) (fun z hz => by
      rcases List.mem_cons.mp hz with rfl | hz
      · exact shwInt (Nat.lt_of_le_of_lt (h e he).1 (by decide +kernel))
      · rw [List.mem_singleton.mp hz]
        exact shwInt (Nat.lt_of_le_of_lt (h e he).2 (by decide +kernel))) (by show 2 ≤ 2; decide)).mono (by decide) (by decide)) (by rw [List.length_map]; exact hl)).mono (by decide) (by decide)
theorem GoodE.small {n : Nat} {es : List (Int × Int)} (g : GoodE n es) (h : n ≤ 16) : ∀ e ∈ es, e.1.natAbs ≤ 16 ∧ e.2.natAbs ≤ 16 := fun e he => by
  have := g.node e he
  omega
theorem emptyApp (x : Str) : Str.empty ++ x = x := by
  cases x
  show Str.mk (#[] ++ _) = _
  rw [Array.empty_append]
theorem appLen (x y : Str) : (x ++ y).length = x.length + y.length := by
  cases x; cases y
  exact Array.size_append
theorem natText {n : Nat} (h : n ≤ 17) : (toString (n : Int) : Str).length ≤ 3 := by
  obtain ⟨k, rfl⟩ : ∃ k : Fin 18, n = k.val := ⟨⟨n, by omega⟩, rfl⟩
  revert k
  decide +kernel
def spReprG (CG : Addr) : Sp := fun vs H Q _ => ∃ g n es, vs = [.ref g] ∧ GE CG H g n es ∧ Q (.str (textG n es)) H
def spEqB (CG : Addr) : Sp := fun vs H Q _ => ∃ a y n es, vs = [.ref a, y] ∧ GE CG H a n es ∧ ((∃ b m fs, y = .ref b ∧ GE CG H b m fs ∧ Q (.bl (decide (n = m ∧ es = fs))) H) ∨ (∃ b ys, y = .ref b ∧ H b = some (.lst ys) ∧ Q (.bl false) H))
section
variable {P : Program} {w : World} {K : PySem.W.Frag} {mg : Str → Option Value} {base : Heap} {CG CS CE CN CM : Addr}
theorem sc_grepr : FnScope ["self"] ["self"] (defScope s_Graph_repr) := ⟨rfl, rfl, rfl, by decide +kernel, rfl, by decide +kernel, by decide +kernel⟩
theorem ok_grepr {f : Addr} {fd : FuncData} (F : Fun K "__repr__" "Graph.__repr__" s_Graph_repr f fd) (T : GTxt K mg CG) : GOk P w K mg base 4 f fd ["self"] (spReprG CG) := by
  refine okG F sc_grepr (fun vs H Q E h => ?_) (fun cdv A outer s H vs Q E hgd hr h => ?_)
  · obtain ⟨g, n, es, rfl, _⟩ := h
    rfl
  · obtain ⟨g, n, es, rfl, ⟨⟨dx, j, nr, N, h1, ⟨ts, h2, h3⟩, _, _⟩, good, _, n1, n16⟩, k⟩ := h
    refine ⟨_, pss_one (ps_ret (pe_joined (.cons pe_str (.cons (pe_fmt (pe_fld (pv 0) rfl)) (.cons pe_str (.cons (pe_fmtD hgd hr.units (pe_fld (pv 0) rfl)) (.cons pe_str .nil))))))), ?_⟩
    obtain ⟨sh1, sh2, sh3⟩ := shwPairs (good.small n16) (by have := good.few; omega)
    obtain ⟨l1, l2, l3⟩ := shwLine (shwPairs (good.small n16) (by have := good.few; omega)) (by decide) (by decide)
    have nt := natText (n := n) (by omega)
    have e1 : ("Graph(" : Str).length = 6 := by decide +kernel
    have e2 : (", " : Str).length = 2 := by decide +kernel
    have e3 : (")" : Str).length = 1 := by decide +kernel
    have big : (100000 : Nat) ≤ sizeLine := by rw [sizeLine_eq]; decide
    refine ⟨_, rfl, by rw [emptyApp]; omega, _, rfl, g, CG, dx, _, _, rfl, h1, T.cl, T.n1, gl_n _ _ _, .inr ⟨_, rfl, ?_, _, rfl, by rw [emptyApp, appLen]; omega, ?_⟩⟩
    · by_cases c : ((n : Int)).natAbs = 0
      · rw [c]
        decide
      · have z : ((n : Int)).natAbs < 2 ^ 5 := by omega
        exact Nat.lt_trans ((Nat.log2_lt c).mpr z) (by decide)
    refine ⟨_, rfl, by rw [emptyApp, appLen, appLen]; omega, ?_⟩
    refine ⟨_, rfl, g, CG, dx, _, _, rfl, h1, T.cl, T.n2, gl_j _ _ _, j, pairsD es, rfl, .dat (.lst (SqL.of h2) (dpTups h3)), l1, l2, l3, _, rfl, by rw [emptyApp, appLen, appLen, appLen]; omega, ?_⟩
    refine ⟨_, rfl, by rw [emptyApp, appLen, appLen, appLen, appLen]; omega, ?_⟩
    rw [emptyApp]
    exact k
theorem sc_geq : FnScope ["self", "other"] ["self", "other"] (defScope s_Graph_eq) := ⟨rfl, rfl, rfl, by decide +kernel, rfl, by decide +kernel, by decide +kernel⟩
theorem eqvAllPairs : ∀ x y : List (Int × Int), PyData.eqvAll (x.map pairD) (y.map pairD) = decide (x = y)
  | [], [] => rfl
  | [], _ :: _ => rfl
  | _ :: _, [] => rfl
  | a :: x, b :: y => by
    have e : PyData.eqvAll ((a :: x).map pairD) ((b :: y).map pairD) = (PyData.eqv (pairD a) (pairD b) && PyData.eqvAll (x.map pairD) (y.map pairD)) := by
      first
        | rfl
        | simp [PyData.eqvAll]
    rw [e, eqvAllPairs x y, eqvPair]
    by_cases c : a = b
    · subst c
      by_cases d : x = y
      · subst d
        simp
      · rw [decide_eq_true rfl, Bool.true_and, decide_eq_false d, decide_eq_false (fun z => d (List.cons.inj z).2)]
    · rw [decide_eq_false c, Bool.false_and, decide_eq_false (fun z => c (List.cons.inj z).1)]
theorem eqvPairs (es fs : List (Int × Int)) : PyData.eqv (.list (es.map pairD)) (.list (fs.map pairD)) = decide (es = fs) := by
  rw [← eqvAllPairs]
  first
    | rfl
    | simp [PyData.eqv]
theorem ok_geqB {f : Addr} {fd : FuncData} (F : Fun K "__eq__" "Graph.__eq__" s_Graph_eq f fd) (T : GTxt K mg CG) (M : Nms mg) (IC : C8.InsC K CG) (kl : PySem.W.kitOne K (.type "list") (.ref CG) = some false) : FnOk P w K mg base CX0 1 f fd ["self", "other"] (spEqB CG) := by
  refine F.ok sc_geq (fun vs H Q E h => ?_) (fun cdv A outer s H vs Q E hr h => ?_)
  · obtain ⟨a, y, n, es, rfl, _⟩ := h
    rfl
  · obtain ⟨a, y, n, es, rfl, ⟨⟨dx, j, nr, N, h1, ⟨ts, h2, h3⟩, _, _⟩, _, _, _, _⟩, h⟩ := h
    have hu64 : A.units + 3 + 64 < cLine := hr.units
    refine ⟨_, pss_one (ps_ret (pe_and (pe_callB call_isi (by rfl) M.isi boot_isi (pa_cons (pv 1) (pa_cons (pe_glob (v := .ref CG) (by rfl) T.mgC rfl) pa_nil)))
      (pe_and (pe_cmpR op_eq (pe_fld (pv 0) rfl) (pe_fld (pv 1) rfl) (nomark _)) (pe_one (pe_cmpR (op_eqD hu64) (pe_fld (pv 0) rfl) (pe_fld (pv 1) rfl) (nomark _)))))), ?_⟩
    rcases h with ⟨b, m, fs, rfl, ⟨⟨dx', j', nr', N', h1', ⟨ts', h2', h3'⟩, _, _⟩, _, _, _, _⟩, k⟩ | ⟨b, ys, rfl, hb, k⟩
    · refine ⟨_, rfl, .ref b, .ref CG, _, _, _, rfl, .own CG, .base (.ins h1' IC.cl IC.ha IC.hn IC.htk IC.hm), IC.me, _, rfl, iteT ?_⟩
      refine ⟨_, rfl, a, CG, dx, _, _, rfl, h1, T.cl, T.n1, gl_n _ _ _, _, rfl, b, CG, dx', _, _, rfl, h1', T.cl, T.n1, gl_n _ _ _, rfl, _, rfl, ?_⟩
      by_cases c : n = m
      case neg =>
        rw [decide_eq_false (show ¬ (V.int (n : Int) = V.int (m : Int)) from fun z => by injection z with z; omega)]
        rw [decide_eq_false (fun z => c z.1)] at k
        exact iteF k
      subst c
      rw [decide_eq_true rfl]
      refine iteT ?_
      refine ⟨_, rfl, a, CG, dx, _, _, rfl, h1, T.cl, T.n2, gl_j _ _ _, _, rfl, b, CG, dx', _, _, rfl, h1', T.cl, T.n2, gl_j _ _ _, .list (es.map pairD), .list (fs.map pairD), .lst (SqL.of h2) (dpTups h3), .lst (SqL.of h2') (dpTups h3'), shapedPairs _, shapedPairs _, ?_⟩
      rw [eqvPairs]
      rw [show decide (n = n ∧ es = fs) = decide (es = fs) from by simp] at k
      exact k
    · refine ⟨_, rfl, .ref b, .ref CG, _, _, _, rfl, .own CG, .base (.lst hb), kl, _, rfl, iteF k⟩
end

end K01

set_option Elab.async false
set_option linter.all false
set_option maxRecDepth 100000
set_option maxHeartbeats 8000000
namespace K01
open PySem PySem.Spec PyProof.Rows L2 FNX
/-! ## law -/
theorem ordGood {n : Nat} {es gs : List (Int × Int)} (g : GoodE n es) (h : gs.map ordP = es) : GoodU n gs := ⟨fun e he => by
  have := g.node (ordP e) (by rw [← h]; exact List.mem_map.mpr ⟨e, he, rfl⟩)
  unfold ordP at this
  dsimp only at this
  omega, by rw [h]; exact g.once, by
  have := congrArg List.length h
  rw [List.length_map] at this
  have := g.few
  omega⟩
def triD (n : Nat) (es : List (Int × Int)) : PyData := .list [.int (n : Int), pairsD es, .int (es.length : Int)]
theorem shapedTri (n : Nat) (es : List (Int × Int)) : SeqAt.shaped (triD n es) = true := by
  have sp := shapedPairs es
  unfold SeqAt.shaped at sp ⊢
  rw [Bool.and_eq_true] at sp
  have e1 : PyData.canLay0 (pairsD es) = true := sp.1
  have e2 : (pairsD es).depth ≤ 2 := by
    show PyData.depthAll (es.map pairD) + 1 ≤ 2
    have := depPairs es
    omega
  have e3 : PyData.canLay0 (triD n es) = true := by
    show (true && (PyData.canLay0 (pairsD es) && (true && true))) = true
    rw [e1]
    rfl
  rw [e3, decide_eq_true (by
    show max 0 (max (pairsD es).depth (max 0 0)) + 1 ≤ 64
    omega)]
  rfl
theorem GoodU.up {n : Nat} {es : List (Int × Int)} (h : GoodU n es) : GoodU (n + 1) es := ⟨fun e he => by have := h.node e he; omega, h.once, h.few⟩
theorem GoodU.tail {n : Nat} {es : List (Int × Int)} (h : GoodU n es) : GoodU n (es.drop 1) := ⟨fun e he => h.node e (List.mem_of_mem_drop he), by
  rw [List.map_drop]
  exact h.once.sublist (List.drop_sublist _ _), by
  have := h.few
  rw [List.length_drop]
  omega⟩
theorem cutTail (ts : List Addr) : cutV (ts.map V.ref) (some 1) none = (ts.drop 1).map V.ref := by
  cases ts with
  | nil => rfl
  | cons t r =>
    unfold cutV
    rw [HT.sIx_none]
    have e : HT.sIx ((t :: r).map V.ref).length 0 (some 1) = 1 := by
      have := HT.sIx_nat ((t :: r).map V.ref).length 0 1
      rw [show ((1 : Nat) : Int) = 1 from rfl] at this
      rw [this, List.length_map, List.length_cons]
      omega
    rw [e, List.take_of_length_le (by simp), List.map_drop]
theorem TupsAt.tail {H : Hp} {ts : List Addr} {es : List (Int × Int)} (h : TupsAt H ts es) : TupsAt H (ts.drop 1) (es.drop 1) := ⟨by rw [List.length_drop, List.length_drop, h.1], fun k t e => by
  rw [List.getElem?_drop] at e
  obtain ⟨x, a, b⟩ := h.2 _ t e
  exact ⟨x, by rw [List.getElem?_drop]; exact a, b⟩⟩
theorem fromExt {H H' : Hp} (e : L2.Ext H H') : Same H H' := fun b o h => e b o h
theorem layNN : ∀ N : List (List Int), PyData.canLayAll0 (N.map posD) = true
  | [] => rfl
  | x :: N => by
    show (PyData.canLayAll0 (x.map PyData.int) && PyData.canLayAll0 (N.map posD)) = true
    rw [layInts x, layNN N]
    rfl
theorem depNN : ∀ N : List (List Int), PyData.depthAll (N.map posD) ≤ 1
  | [] => by decide
  | x :: N => by
    show max (PyData.depthAll (x.map PyData.int) + 1) (PyData.depthAll (N.map posD)) ≤ 1
    have h1 := depInts x
    have := depNN N
    omega
theorem shapedNN (N : List (List Int)) : SeqAt.shaped (.list (N.map posD)) = true := by
  unfold SeqAt.shaped
  have e1 : PyData.canLay0 (.list (N.map posD)) = true := layNN N
  have e2 : PyData.depth (.list (N.map posD)) ≤ 64 := by
    show PyData.depthAll (N.map posD) + 1 ≤ 64
    have z := depNN N
    omega
  rw [e1, decide_eq_true e2]
  rfl
theorem dpRows {K : PySem.W.Frag} {H : Hp} : ∀ {rs : List Addr} {N : List (List Int)}, rs.length = N.length → (∀ (k : Nat) (r : Addr), rs[k]? = some r → H r = some (.lst ((N.getD k []).map V.int))) → DpAll K H (rs.map V.ref) (N.map posD)
  | [], [], _, _ => .nil
  | [], _ :: _, h, _ => by cases h
  | _ :: _, [], h, _ => by cases h
  | r :: rs, x :: N, h, hr => .cons (.lst (SqL.of (hr 0 r rfl)) (dpInts x)) (dpRows (by simpa using h) fun k r' e => hr (k + 1) r' e)
theorem partsNe {es : List (Int × Int)} {n : Nat} (g : InE n es) (h : 1 ≤ n) : 0 < (partsL es n).length := by
  obtain ⟨m, e1, l1, l2⟩ := lab_lt g (v := 0) (by omega)
  have : m = 0 := by omega
  subst this
  have mem : compL es n ((0 : Nat) : Int) ∈ partsL es n := by
    unfold partsL
    exact List.mem_map.mpr ⟨0, List.mem_filter.mpr ⟨List.mem_range.mpr (by omega), decide_eq_true l2⟩, rfl⟩
  exact List.length_pos_of_mem mem
def RGraph (CG : Addr) (a b : Addr) (H : Hp) : Prop := ∃ n es, GE CG H a n es ∧ GE CG H b n es
section
variable {P : Program} {w : World} {K : PySem.W.Frag} {mg : Str → Option Value} {base : Heap} {CG CS CE CN CM : Addr}
theorem sc_law : FnScope ["_law_script", "_law_k", "_law_pool_here", "_law_many_here", "_law_joins_here", "_law_given", "_law_kept", "_law_graph", "_law_due", "_law_near_here", "_law_again", "_law_bad", "_law_one", "_law_node"] ["_law_script"] (defScope s_law) := ⟨rfl, rfl, rfl, by decide +kernel, rfl, by decide +kernel, by decide +kernel⟩
theorem ok_law {f fI fE cl Pl cm Pm cr Pr : Addr} {fd fdI fdE : FuncData} (F : FunC K "law" "law" s_law f fd cl) (M : Nms mg) (n_str : mg "str" = none) (T : GTxt K mg CG) (h1 : Pl ≠ Pm) (h2 : Pl ≠ Pr) (TBl : LamX.TabB base mg cl Pl)
    (FE : Fun K "_law_error" "_law_error" s__law_error fE fdE) (mE : mg "_law_error" = some (.ref fE)) (bE : L2.Binds K fdE ["_law_door"] [])
    (E0 : Ex P w K mg base "InvalidSize" CS) (E1 : Ex P w K mg base "InvalidEdge" CE) (E2 : Ex P w K mg base "InvalidNode" CN) (E3 : Ex P w K mg base "TooMany" CM)
    (x20 : PySem.W.exmOne K (.ref CN) (.ref CS) = some false) (x21 : PySem.W.exmOne K (.ref CN) (.ref CE) = some false) (x22 : PySem.W.exmOne K (.ref CN) (.ref CN) = some true)
    (hne1 : PySem.W.findIn K (.ref CG) "__ne__" = some (some (.builtin "object.__ne__"))) (hmO : PySem.W.mroIn K CG (.type "object") = some true) (hl1 : PySem.W.notFirst K CG (.type "list") = true)
    (GS : MAt P w K mg base CG CX0 1 "size" ["self"] (spSizeE CG)) (GE' : MAt P w K mg base CG CX0 1 "edges" ["self"] (spEdgesOf CG)) (GLn : MAt P w K mg base CG CX0 1 "__len__" ["self"] (spLenE CG))
    (GQ : MAt P w K mg base CG CX0 1 "__eq__" ["self", "other"] (spEqB CG)) (GCo : MAt P w K mg base CG CX0 2 "components" ["self"] (spParts K CG)) (GNb : MAt P w K mg base CG (L2.CX P w) 5 "neighbours" ["self", "node"] (spNb K CG CN))
    (GRp : MAtG P w K mg base CG 4 "__repr__" ["self"] (spReprG CG))
    (GP : At P w K mg base CX0 1 "_law_pool" ["_law_script", "_law_k"] (spPool K)) (GT : At P w K mg base CX0 1 "_law_take" ["_law_pool_here", "_law_sides"] spTake)
    (GJ' : At P w K mg base CX0 2 "_law_joins" ["_law_pool_here", "_law_many_here", "_law_limit"] spJoins) (GNe : At P w K mg base CX0 1 "_law_near" ["_law_many_here", "_law_joins_here"] (spNear K))
    (GPa : At P w K mg base CX0 1 "_law_parts" ["_law_many_here", "_law_joins_here"] (spLParts K))
    (GMy : AtG P w K mg base 11 "_law_many" [] (spMany K Pl Pm Pr)) (GRF : AtG P w K mg base 11 "_law_refused" ["_law_pool_here", "_law_many_here", "_law_joins_here"] (spRF01 K Pl Pm Pr))
    (MK : Mk K CG fI) (GI : FnOk P w K mg base (L2.CX P w) 6 fI fdI ["self", "size", "edges"] (spGI01 K CG CS CM CE)) (bI : L2.Binds K fdI ["self", "size", "edges"] []) :
    GOk P w K mg base 12 f fd ["_law_script"] (spLawT K [(cl, Pl), (cm, Pm), (cr, Pr)]) := by
  obtain ⟨fS, fdS, GS, mS, bS⟩ := GS
  obtain ⟨fE', fdE', GE', mEd, bEd⟩ := GE'
  obtain ⟨fLn, fdLn, GLn, mLn, bLn⟩ := GLn
  obtain ⟨fQ, fdQ, GQ, mQ, bQ⟩ := GQ
  obtain ⟨fCo, fdCo, GCo, mCo, bCo⟩ := GCo
  obtain ⟨fNb, fdNb, GNb, mNb, bNb⟩ := GNb
  obtain ⟨fRp, fdRp, GRp, sRp, fnRp, bRp⟩ := GRp
  obtain ⟨fP, fdP, GP, mP, kP, bP⟩ := GP
  obtain ⟨fT, fdT, GT, mT, kT, bT⟩ := GT
  obtain ⟨fJ, fdJ, GJ', mJ, kJ, bJ⟩ := GJ'
  obtain ⟨fNe, fdNe, GNe, mNe, kNe, bNe⟩ := GNe
  obtain ⟨fPa, fdPa, GPa, mPa, kPa, bPa⟩ := GPa
  obtain ⟨fMy, fdMy, GMy, mMy, kMy, bMy⟩ := GMy
  obtain ⟨fRF, fdRF, GRF, mRF, kRF, bRF⟩ := GRF
  have GQR : FnOk P w K mg base CX0 1 fQ fdQ ["self", "other"] (spEq (RGraph CG)) := GQ.imp fun vs H Q E h => by
    obtain ⟨a, b, rfl, ⟨n, es, g1, g2⟩, k⟩ := h
    exact ⟨a, .ref b, n, es, rfl, g1, .inl ⟨b, n, es, rfl, g2, by rw [decide_eq_true ⟨rfl, rfl⟩]; exact k H (fun _ _ e => e)⟩⟩
  refine okGC F sc_law (fun vs H Q E h => ?_) (fun A outer s H vs Q E hgd hr11 h => ?_)
  · obtain ⟨a, ns, rfl, _⟩ := h
    rfl
  · obtain ⟨a, ns, rfl, hS, hlen, hT0, kont⟩ := h
    have nd := sc_law.nd
    have hr := hr11
    have hr9 := hr11
    have hr1 : Room 1 _ := hr.mono (by decide)
    have hr2 : Room 2 _ := hr.mono (by decide)
    have hr5 : Room 5 _ := hr.mono (by decide)
    have hr7 : Room 7 _ := hr.mono (by decide)
    have hu64 : A.units + 3 + 64 < cLine := hr.units
    have mI := T.mgC
    refine ⟨_, (pss_cons (ps_if (pt_not (pt_val (pe_callG0 hgd GMy hr11 (by rfl) mMy kMy bMy pass0))) (pss_one (ps_ret pe_bl)) pss_nil)
      (pss_cons (ps_for PassesOwn.never rfl (pi_range1 rfl M.range (pa_cons (pe_callB (call_max2 rfl) (by rfl) M.max boot_max1 (pa_cons pe_int (pa_cons (pe_callB (call_min2 rfl) (by rfl) M.min boot_min1 (pa_cons (pe_callB call_len_seq (by rfl) M.len boot_len1 (pa_cons (pv 0) pa_nil)) (pa_cons pe_int pa_nil))) pa_nil))) pa_nil)) (pg_name (i := 1) nd rfl (Or.inl rfl)) (pss_cons (ps_set (i := 2) nd rfl (Or.inr rfl) (pe_call GP hr1 (by rfl) mP kP bP .nil pass0 (pa_cons (pv 0) (pa_cons (pv 1) pa_nil))))
      (pss_cons (ps_set (i := 3) nd rfl (Or.inl rfl) (pe_op op_add pe_int (pe_call GT hr1 (by rfl) mT kT bT .nil pass0 (pa_cons (pv 2) (pa_cons pe_int pa_nil)))))
      (pss_cons (ps_set (i := 4) nd rfl (Or.inl rfl) (pe_call GJ' hr2 (by rfl) mJ kJ bJ .nil pass0 (pa_cons (pv 2) (pa_cons (pv 3) (pa_cons pe_int pa_nil)))))
      (pss_cons (ps_setLc (i := 5) (own := [("_law_one", 12)]) (g := gName 12) (tt := tYes) (by rfl) nd rfl rfl (sw_true rfl rfl rfl (by decide +kernel)) (pi_list (pv 4)) (blkOk_by (own := [("_law_one", 12)]) (N := ["_law_script", "_law_k", "_law_pool_here", "_law_many_here", "_law_joins_here", "_law_given", "_law_kept", "_law_graph", "_law_due", "_law_near_here", "_law_again", "_law_bad", "_law_one", "_law_node"]) (sc := defScope s_law) (by decide +kernel)) (fun _ _ _ _ _ => pg_name (i := 12) nd rfl (Or.inl rfl)) (fun _ _ _ _ _ => pts_nil) (fun _ _ _ _ _ => (show PE _ _ (tStepP K (tVar 12) _) from pe_stepP (pv 12) (pe_ix (r := rIxL K) ix_list (pe_lst (pa_cons pe_int (pa_cons (pe_un un_neg pe_int) pa_nil))) (pe_call GT hr1 (by rfl) mT kT bT .nil pass0 (pa_cons (pv 2) (pa_cons pe_int pa_nil))) (fun _ _ => rfl)))))
      (pss_cons (ps_set (i := 6) nd rfl (Or.inl rfl) (pe_callTy call_list_of (by rfl) M.list (by decide +kernel) (pa_cons (pv 5) pa_nil)))
      (pss_cons (ps_set (i := 7) nd rfl (Or.inr rfl) (pe_make MK GI hr7 (by rfl) mI bI .nil passL (pa_cons (pv 3) (pa_cons (pv 5) pa_nil))))
      (pss_cons (ps_expr (pe_bm PySem.F.plainAttrs_list PySem.F.slot_list_append PySem.F.type_list_append mt_append (pv 5) (pa_cons (pe_tup (pa_cons pe_int (pa_cons pe_int pa_nil))) pa_nil)))
      (pss_cons (ps_set (i := 8) nd rfl (Or.inl rfl) (pe_callB (show CallR _ (.builtin "sorted") (rSortedPO K) from cr_sortedPO) (by rfl) M.sorted boot_sorted1 (pa_cons (pv 4) pa_nil)))
      (pss_cons (ps_if (pt_cmpR (op_neD hu64) (pe_lst (pa_cons (pe_meth0 (pv 7) T.cl mS GS hr1 bS .nil pass0) (pa_cons (pe_meth0 (pv 7) T.cl mEd GE' hr1 bEd .nil pass0) (pa_cons (pe_callB (show CallR _ (.builtin "len") (rLenI CG (spLenE CG) E) from call_lenI GLn mLn.1 mLn.fn bLn pass0 hr2) (by rfl) M.len boot_len1 (pa_cons (pv 7) pa_nil)) pa_nil)))) (pe_lst (pa_cons (pv 3) (pa_cons (pv 8) (pa_cons (pe_callB call_len_seq (by rfl) M.len boot_len1 (pa_cons (pv 4) pa_nil)) pa_nil)))) (nomark _)) (pss_one (ps_ret pe_bl)) pss_nil)
      (pss_cons (ps_if (pt_cmpR op_ne (pe_callB (show CallR _ (.builtin "repr") (rReprI CG (spReprG CG)) from call_reprI GRp hgd sRp fnRp bRp hr5) (by rfl) M.repr boot_repr1 (pa_cons (pv 7) pa_nil)) (pe_op op_add_str (pe_op op_add_str (pe_op op_add_str (pe_op op_add_str pe_str (pe_callTy call_str_int (by rfl) n_str (by decide +kernel) (pa_cons (pv 3) pa_nil))) pe_str) (pe_callB (show CallR _ (.builtin "repr") (rRepr K) from call_repr hgd hr.units) (by rfl) M.repr boot_repr1 (pa_cons (pv 8) pa_nil))) pe_str) (nomark _)) (pss_one (ps_ret pe_bl)) pss_nil)
      (pss_cons (ps_set (i := 9) nd rfl (Or.inl rfl) (pe_call GNe hr1 (by rfl) mNe kNe bNe .nil pass0 (pa_cons (pv 3) (pa_cons (pv 4) pa_nil))))
      (pss_cons (ps_for PassesOwn.never rfl (pi_range1 rfl M.range (pa_cons pe_int pa_nil)) (pg_name (i := 10) nd rfl (Or.inl rfl)) (pss_cons (ps_if (pt_cmpR (op_neD hu64) (pe_lc (own := [("_law_node", 13)]) (g := gName 13) (tt := tYes) rfl nd (pi_range1 rfl M.range (pa_cons (pv 3) pa_nil)) (blkOk_by (own := [("_law_node", 13)]) (N := ["_law_script", "_law_k", "_law_pool_here", "_law_many_here", "_law_joins_here", "_law_given", "_law_kept", "_law_graph", "_law_due", "_law_near_here", "_law_again", "_law_bad", "_law_one", "_law_node"]) (sc := defScope s_law) (by decide +kernel)) (fun _ _ _ _ _ => pg_name (i := 13) nd rfl (Or.inl rfl)) (fun _ _ _ _ _ => pts_nil) (fun _ _ _ _ _ => (pe_meth (pv 7) T.cl mNb GNb hr5 bNb .nil passL (pa_cons (pv 13) pa_nil)))) (pv 9) (nomark _)) (pss_one (ps_ret pe_bl)) pss_nil)
      (pss_cons (ps_if (pt_cmpR (op_neD hu64) (pe_meth0 (pv 7) T.cl mCo GCo hr2 bCo .nil pass0) (pe_call GPa hr1 (by rfl) mPa kPa bPa .nil pass0 (pa_cons (pv 3) (pa_cons (pv 4) pa_nil))) (nomark _)) (pss_one (ps_ret pe_bl)) pss_nil)
      (pss_cons (ps_expr (pe_bm PySem.F.plainAttrs_list PySem.F.slot_list_append PySem.F.type_list_append mt_append (pe_meth (pv 7) T.cl mNb GNb hr5 bNb .nil passL (pa_cons (pe_op op_sub (pv 3) pe_int) pa_nil)) (pa_cons pe_int pa_nil)))
      (pss_cons (ps_expr (pe_bm PySem.F.plainAttrs_list PySem.F.slot_list_append PySem.F.type_list_append mt_append (pe_meth0 (pv 7) T.cl mEd GE' hr1 bEd .nil pass0) (pa_cons pe_int pa_nil)))
      (pss_one (ps_expr (pe_bm0 PySem.F.plainAttrs_list PySem.F.slot_list_clear PySem.F.type_list_clear mt_clear (pe_ix (r := rIxL K) ix_list (pe_meth0 (pv 7) T.cl mCo GCo hr2 bCo .nil pass0) pe_int (fun _ _ => rfl))))))))))
      (C8.pss_cut (ps_if (PW.pt (pw_or (pt_cmpR (show OpR _ (compareOp .NotEq) (rNeG (DIns CG (RGraph CG))) from op_neG (rcNG_ins (E := L2.E0) GQR mQ.1 hne1 hmO mQ.fn bQ pass0) hr2) (pv 7) (pe_make MK GI hr7 (by rfl) mI bI .nil passL (pa_cons (pv 3) (pa_cons (pe_callTy call_tuple_of (by rfl) M.tuple (by decide +kernel) (pa_cons (pv 6) pa_nil)) pa_nil))) (nomark _)) (pw_or (pt_cmpR (show OpR _ (compareOp .Eq) (rEqO CG (spEqB CG) L2.E0) from op_eqO GQ mQ.1 mQ.fn hl1 bQ pass0 hr1) (pv 7) (pv 4) (nomark _)) (pw_or1 (PW.pt (pw_and (pt_cmpR op_lt (pv 3) pe_int (nomark _)) (pw_and1 (pt_cmpR (show OpR _ (compareOp .Eq) (rEqO CG (spEqB CG) L2.E0) from op_eqO GQ mQ.1 mQ.fn hl1 bQ pass0 hr1) (pv 7) (pe_make MK GI hr7 (by rfl) mI bI .nil passL (pa_cons (pe_op op_add (pv 3) pe_int) (pa_cons (pv 4) pa_nil))) (nomark _))))))))) (pss_one (ps_ret pe_bl)) pss_nil)
      (C8.pss_cut (ps_if (PW.pt (pw_and (pt_cmpR (op_neD hu64) (pv 4) (pe_lst pa_nil) (nomark _)) (pw_and1 (pt_cmpR (show OpR _ (compareOp .Eq) (rEqO CG (spEqB CG) L2.E0) from op_eqO GQ mQ.1 mQ.fn hl1 bQ pass0 hr1) (pe_make MK GI hr7 (by rfl) mI bI .nil passL (pa_cons (pv 3) (pa_cons (pe_slice sl_list (pv 4) (po_some pe_int) po_none) pa_nil))) (pv 7) (nomark _))))) (pss_one (ps_ret pe_bl)) pss_nil)
      (pss_cons (ps_for PassesOwn.never rfl (pi_list (pe_lst (pa_cons (pe_un un_neg pe_int) (pa_cons (pv 3) (pa_cons pe_non (pa_cons pe_bl (pa_cons pe_str (pa_cons (pe_tup (pa_cons pe_int pa_nil)) (pa_cons (pe_op op_pow pe_int pe_int) pa_nil))))))))) (pg_name (i := 11) nd rfl (Or.inr rfl)) (pss_one (ps_if (pt_cmpR (op_neS hu64) (pe_doorN (x := "_law_error") (T := lam3 Pl Pm Pr) (TT := TErrU K (cl01 CS CE CN CM)) (by rfl) mE FE bE sc_error (Or.inl rfl) (fun cdg => err_gives hgd hr2 M.repr E0 E1 E2 E3) TBl rfl List.mem_cons_self
              (lam3l h1 h2) hr9 (show LamX.LamS (defScope s_law) _ from LamX.lamS_by (by decide +kernel)) rfl (fun _ _ _ _ _ => rfl)
              (fun A outer s H E f c' hr => pe_meth (pv 7) T.cl mNb GNb (hr.mono (by decide)) bNb .nil (passes_call (E := E) (takes_of rfl rfl rfl rfl) (fun _ _ _ _ h => h)) (pa_cons (pv 11) pa_nil))) (pe_lst (pa_cons pe_str (pa_cons (pe_callB (show CallR _ (.builtin "repr") (rRepr K) from call_repr hgd hr.units) (by rfl) M.repr boot_repr1 (pa_cons (pv 11) pa_nil)) pa_nil))) (nomark _)) (pss_one (ps_ret pe_bl)) pss_nil)))
      (pss_one (ps_if (pt_not (pt_val (pe_callG hgd GRF hr11 (by rfl) mRF kRF bRF pass0 (pa_cons (pv 2) (pa_cons (pv 3) (pa_cons (pv 4) pa_nil)))))) (pss_one (ps_ret pe_bl)) pss_nil))))))))))))))))))
      (pss_one (ps_ret pe_bl)))), ?_⟩
    refine ⟨rfl, tabs3 hT0, fun H0 xt0 tb0 => ?_⟩
    have hS0 := sqLExt hS xt0
    have bnd : ∀ l : Nat, 1 ≤ (if (if (6 : Int) < (l : Int) then (6 : Int) else (l : Int)) > 1 then (if (6 : Int) < (l : Int) then (6 : Int) else (l : Int)) else 1) ∧
        (if (if (6 : Int) < (l : Int) then (6 : Int) else (l : Int)) > 1 then (if (6 : Int) < (l : Int) then (6 : Int) else (l : Int)) else 1) ≤ 6 := fun l => by
      split <;> split <;> omega
    have bl := bnd (ns.map V.int).length
    refine ⟨_, rfl, iteF ?_⟩
    refine ⟨_, rfl, a, _, rfl, .inl hS0, _, _, rfl, _, _, rfl, _, rfl, by omega, by omega, for_range (lo := 0) (fun i σ H' => ∃ v1 v2 v3 v4 v5 v6 v7 v8 v9 v10 v11 : Option V,
      σ = [some (.ref a), v1, v2, v3, v4, v5, v6, v7, v8, v9, v10, v11, none, none] ∧ SqL K H' a (ns.map V.int) ∧ LamX.Tabs (lam3 Pl Pm Pr) H') ⟨none, none, none, none, none, none, none, none, none, none, none, rfl, hS0, tb0⟩ ?_ ?_⟩
    case refine_2 =>
      rintro σ H' ⟨v1, v2, v3, v4, v5, v6, v7, v8, v9, v10, v11, rfl, _⟩
      exact kont H'
    clear hS hS0 hT0 tb0 xt0 kont bl bnd
    rintro i σ H0 hi ⟨v1, v2, v3, v4, v5, v6, v7, v8, v9, v10, v11, rfl, hS0, hTab⟩
    refine ⟨_, rfl, _, rfl, a, ns, (0 : Int) + i, rfl, hS0, by omega, by omega, fun p H1 np s1 hp1 => ?_⟩
    refine ⟨_, rfl, p, 16, rfl, hp1, by decide, by decide, fun r H2 r0 r1 hp2 t2 => ⟨_, _, rfl, rfl, ?_⟩⟩
    obtain ⟨n, hn⟩ : ∃ n : Nat, (1 : Int) + r = (n : Int) := ⟨(1 + r).toNat, by omega⟩
    rw [show ((fun i j : Int => V.int (i + j)) 1 r) = V.int (n : Int) from congrArg V.int hn]
    have n1 : 1 ≤ n := by omega
    have n16 : n ≤ 16 := by omega
    refine ⟨_, rfl, _, rfl, p, n, 40, rfl, hp2, n1, by omega, by omega, fun q H3 es nq sx3 hp3 hE good => ?_⟩
    obtain ⟨ts, e1, e2⟩ := id hE
    have few := good.few
    have lts : ts.length ≤ 40 := by rw [e2.1]; exact few
    have qp : q ≠ p := (hp2.ne nq).symm
    have sx13 : SameX p H1 H3 := (sameX_take t2).trans sx3
    clear t2 sx3 hn r0 r1
    refine ⟨_, rfl, q, rfl, ⟨_, SqL.of e1⟩, fun D nD => ?_⟩
    have Dp : D ≠ p := (hp3.ne nD).symm
    have Dq : q ≠ D := ne_of_none e1 nD
    refine lc_list (K := K) (a := q) (xs := ts.map V.ref) (fun i H' => SameX p H3 H' ∧ PoolAt H' p ∧ ∃ (us : List Addr) (gs : List (Int × Int)), H' D = some (.lst (us.map V.ref)) ∧ TupsAt H' us gs ∧ gs.map ordP = es.take i)
      ⟨Same.x (same_upd nD), hp3.same (same_upd nD), [], [], upd_same, ⟨rfl, fun k t e => by simp at e⟩, rfl⟩ (fun i H' _ h => SqL.of (h.1 _ _ qp e1)) (fun i v H' hv h => ?_) (fun H4 h => ?_)
    · obtain ⟨sx, hpp, us, gs, hD, hu, hg⟩ := h
      obtain ⟨t, ht, rfl⟩ := refAt hv
      obtain ⟨e, hei, het⟩ := e2.2 i t ht
      refine ⟨rfl, ?_⟩
      refine ⟨_, rfl, (1 : Int), rfl, by show 2 ≤ sizeLine; decide, fun Y nY => ?_⟩
      obtain ⟨G1, q1, g1, k1⟩ := newAt (.lst [V.int 1, V.int (-1)]) nY
      rw [q1]
      have Yp : Y ≠ p := (hpp.ne nY).symm
      refine ⟨_, rfl, p, 2, rfl, hpp.same g1, by decide, by decide, fun r G2 r0 r1 hp2' t2 => ?_⟩
      have sxG : SameX p H' G2 := (Same.x g1).trans (sameX_take t2)
      have hY := (sameX_take t2) _ _ Yp k1
      have het2 := sxG t _ (by
        obtain ⟨_, _, z, _⟩ := hp3
        exact ne_of het z (by intro y; cases y)) (sx t _ (by
        obtain ⟨_, _, z, _⟩ := hp3
        exact ne_of het z (by intro y; cases y)) het)
      have hD2 := sxG _ _ Dp hD
      have hu2 := hu.sameX hpp sxG
      have lus : us.length ≤ 40 := by
        have := congrArg List.length hg
        rw [List.length_map, List.length_take] at this
        rw [hu.1]
        omega
      have sx2 := sx.trans sxG
      have bd : us.length < sizeLine := by rw [sizeLine_eq]; omega
      have fin : ∀ (T : Addr) (f : Int × Int) (G3 : Hp), Same G2 G3 → G3 T = some (.tup [.int f.1, .int f.2]) → ordP f = e → ∃ acc, G3 D = some (.lst acc) ∧ acc.length < sizeLine ∧ (SameX p H3 (upd G3 D (.lst (acc ++ [V.ref T]))) ∧ PoolAt (upd G3 D (.lst (acc ++ [V.ref T]))) p ∧ ∃ (us : List Addr) (gs : List (Int × Int)), (upd G3 D (.lst (acc ++ [V.ref T]))) D = some (.lst (us.map V.ref)) ∧ TupsAt (upd G3 D (.lst (acc ++ [V.ref T]))) us gs ∧ gs.map ordP = es.take (i + 1)) := fun T f G3 s hT hf => by
        have hp3' := hp2'.same s
        refine ⟨_, s _ _ hD2, by rw [List.length_map]; exact bd, fun b o hb z => ?_, ?_, us ++ [T], gs ++ [f], by rw [upd_same, List.map_append]; rfl, ?_, ?_⟩
        · rw [upd_ne (ne_of_none z nD)]
          exact s _ _ (sx2 b o hb z)
        · obtain ⟨c1, c2, z, w⟩ := hp3'
          exact ⟨c1, c2, by rw [upd_ne Dp.symm]; exact z, w⟩
        · have tp := (hu2.same s).push (t := T) (e := f) hT
          refine ⟨tp.1, fun k t hk => ?_⟩
          obtain ⟨z, z1, z2⟩ := tp.2 k t hk
          exact ⟨z, z1, by rw [upd_ne (ne_of z2 (s _ _ hD2) (by intro y; cases y))]; exact z2⟩
        · rw [takeMore hei, List.map_append, hg]
          show _ ++ [ordP f] = _
          rw [hf]
      have ge := good.node e (List.mem_of_getElem? hei)
      by_cases c : r = 0
      · subst c
        refine ⟨Y, _, (0 : Int), .int 1, rfl, rfl, SqL.of hY, atI_nat (j := 0) rfl, _, rfl, t, _, _, 1, rfl, rfl, .inl rfl, SqT.of het2, fun _ => fin t e G2 (Same.refl G2) het2 (ordId ge.2.1), fun h => absurd h (by decide)⟩
      · obtain rfl : r = 1 := by omega
        refine ⟨Y, _, (1 : Int), .int (-1), rfl, rfl, SqL.of hY, atI_nat (j := 1) rfl, _, rfl, t, _, _, -1, rfl, rfl, .inr rfl, SqT.of het2, (fun h => absurd h (by decide)), fun _ T nT => fin T (swapE e) _ (same_upd nT) upd_same (by rw [ordSwap]; exact ordId ge.2.1)⟩
    obtain ⟨sx34, hp4, us, gs, hD4, hu4, hgs⟩ := h
    rw [List.length_map, e2.1, List.take_length] at hgs
    have gU := ordGood good hgs
    have lgs : gs.length = es.length := by rw [← hgs, List.length_map]
    have lus : us.length = es.length := by rw [hu4.1, lgs]
    refine ⟨_, rfl, D, _, rfl, .inl (SqL.of hD4), fun Kp nKp => ?_⟩
    obtain ⟨H5, q5, s45, hK5⟩ := newAt (.lst (us.map V.ref)) nKp
    rw [q5]
    have hD5 := s45 _ _ hD4
    have hu5 := hu4.same s45
    have hp5 := hp4.same s45
    have Kpp : Kp ≠ p := (hp4.ne nKp).symm
    have KpD : D ≠ Kp := ne_of_none hD4 nKp
    have e15 : H5 q = some (.lst (ts.map V.ref)) := s45 _ _ (sx34 _ _ qp e1)
    have e25 : TupsAt H5 ts es := (e2.sameX hp3 sx34).same s45
    have sx15 : SameX p H1 H5 := (sx13.trans sx34).trans (Same.x s45)
    have nD0 : H0 D = none := by
      cases e : H0 D with
      | none => rfl
      | some o =>
        have := sx13 D o Dp (s1 _ _ e)
        rw [this] at nD
        cases nD
    clear sx34 hp4 hu4 sx13 hE e1 e2 hp3 s45 q5
    refine ⟨_, rfl, _, rfl, fun g dx nx ndx ne => ?_⟩
    have sx0 := preS (CG := CG) nx ndx ne
    refine ⟨g, dx, .int (n : Int), .ref D, rfl, upd_same, .inr ⟨n, rfl, n1, n16, .inr (.inr ⟨gs, ⟨D, us, rfl, .inl (sx0 _ _ hD5), hu5.same sx0, gU⟩, fun h => by omega, fun _ H6 j nr N es' up hx' hj hN near pe sE nj nn => ⟨rfl, ?_⟩⟩)⟩⟩
    rw [hgs] at pe
    have s56 : Same H5 H6 := fun b o e => up b o (ne_of_none e nx) (sx0 _ _ e)
    have goodS : GoodE n es' := good.perm pe
    have lS : es'.length = es.length := pe.length_eq
    refine ⟨_, rfl, .inl ⟨rfl, _, SqL.of (s56 _ _ hD5)⟩, by show 2 ≤ sizeLine; decide, fun T0 nT0 => ?_⟩
    obtain ⟨H7, q7, s67, hT0'⟩ := newAt (.tup [V.int 0, V.int 0]) nT0
    rw [q7]
    have s57 := s56.trans s67
    refine ⟨D, _, _, rfl, rfl, s57 _ _ hD5, by rw [List.length_map, sizeLine_eq]; omega, ?_⟩
    obtain ⟨H8, q8⟩ : ∃ H8, upd H7 D (.lst (us.map V.ref ++ [V.ref T0])) = H8 := ⟨_, rfl⟩
    rw [q8]
    have at8 : ∀ b o, b ≠ D → H7 b = some o → H8 b = some o := fun b o hb e => by rw [← q8, upd_ne hb]; exact e
    have Dpre := sx0 _ _ hD5
    have gD : g ≠ D := fun z => by
      rw [← z, nx] at hD5
      cases hD5
    have jD : j ≠ D := fun z => by
      rw [z, Dpre] at nj
      cases nj
    have hg : GE CG H8 g n es' := by
      obtain ⟨tj, j1, j2⟩ := id hj
      refine ⟨⟨dx, j, nr, N, at8 _ _ gD (s67 _ _ hx'), ⟨tj, at8 _ _ jD (s67 _ _ j1), j2.1, fun k t hk => ?_⟩, nn H8 (fun b o hb e => at8 b o (fun z => ?_) (s67 _ _ e)), near⟩, goodS, sE, n1, n16⟩
      · obtain ⟨z, z1, z2⟩ := j2.2 k t hk
        have z3 := s67 _ _ z2
        exact ⟨z, z1, at8 _ _ (ne_of z3 (s57 _ _ hD5) (by intro y; cases y)) z3⟩
      · rw [z, Dpre] at hb
        cases hb
    have f8 : ∀ b o, b ≠ D → H5 b = some o → H8 b = some o := fun b o hb e => at8 b o hb (s57 _ _ e)
    have hK8 := f8 _ _ KpD.symm hK5
    have hu8 : TupsAt H8 us gs := ⟨hu5.1, fun k t hk => by
      obtain ⟨z, z1, z2⟩ := hu5.2 k t hk
      exact ⟨z, z1, f8 _ _ (ne_of z2 hD5 (by intro y; cases y)) z2⟩⟩
    have e18 : H8 q = some (.lst (ts.map V.ref)) := f8 _ _ Dq e15
    have e28 : TupsAt H8 ts es := ⟨e25.1, fun k t hk => by
      obtain ⟨z, z1, z2⟩ := e25.2 k t hk
      exact ⟨z, z1, f8 _ _ (ne_of z2 hD5 (by intro y; cases y)) z2⟩⟩
    have hp8 : PoolAt H8 p := by
      obtain ⟨c1, c2, z, w⟩ := hp5
      exact ⟨c1, c2, f8 _ _ Dp.symm z, w⟩
    have xp8 : ∀ b o, H0 b = some o → H8 b = some o := fun b o e => by
      have e1 := s1 _ _ e
      exact f8 b o (ne_of_none e nD0) (sx15 _ _ (ne_of_none e np) e1)
    have hT8 := Same.tabs xp8 hTab
    have scr : ∀ H', ExtP p H8 H' → SqL K H' a (ns.map V.int) := fun H' x => by
      rcases hS0 with (h | ⟨o, h⟩) | h
      · exact .inl (.inl (x _ _ (ne_of_none h np) (xp8 _ _ h) (fun _ z => by cases z)))
      · exact .inl (.inr ⟨o, x _ _ (ne_of_none h np) (xp8 _ _ h) (fun _ z => by cases z)⟩)
      · exact .inr h
    obtain ⟨dxg, jg, nrg, Ng, og, _⟩ := hg.obj
    clear xp8 f8 at8 q8 s57 s67 s56 hT0' q7 nn up hx' hj hN near sx0 hD5 hu5 hK5 e15 e25 hp5 sx15 Dpre nj gD jD nD0 hTab hS0
    refine ⟨_, rfl, q, ts.map V.ref, keyE H8, rfl, SqL.of e18, fun y hy => ?_, fun ys Dq' hsrt hstb nDq => ?_⟩
    · obtain ⟨t, ht, rfl⟩ := List.mem_map.mp hy
      obtain ⟨k', hk', he'⟩ := List.mem_iff_getElem.mp ht
      obtain ⟨x, w1, w2⟩ := e28.2 k' t (by rw [List.getElem?_eq_getElem hk', he'])
      exact ⟨t, rfl, by rw [keyE_at w2]; exact w2⟩
    obtain ⟨td, es2, rfl, hd0, pe2⟩ := permTups e28 hstb.perm
    obtain ⟨H9, q9, s89, hd1⟩ := newAt (.lst (td.map V.ref)) nDq
    rw [q9]
    have srt2 : SrtE es2 := by
      have ek : (td.map V.ref).map (keyE H8) = es2 := by
        apply List.ext_getElem
        · rw [List.length_map, List.length_map, hd0.1]
        · intro k h1 h2
          rw [List.length_map, List.length_map] at h1
          obtain ⟨e, w1, w2⟩ := hd0.2 k td[k] (List.getElem?_eq_getElem h1)
          rw [List.getElem_map, List.getElem_map, keyE_at w2]
          rw [List.getElem?_eq_getElem h2] at w1
          exact (Option.some.inj w1).symm
      unfold SrtE
      rw [← ek]
      refine List.pairwise_map.mpr (hsrt.imp fun {a b} h => ?_)
      have := SrtO.lexB_no.mp h
      omega
    obtain rfl : es2 = es' := SrtE.uniq (pe2.trans pe.symm) srt2 sE
    clear srt2 pe2 hsrt hstb
    have hd9 : TupsAt H9 td es2 := hd0.same s89
    have ltd : td.length = es.length := by rw [hd0.1, lS]
    have hg9 := hg.same s89
    have og9 := s89 _ _ og
    refine ⟨_, rfl, g, dxg, _, rfl, og9, rfl, g, n, es2, rfl, hg9, ?_⟩
    refine ⟨_, rfl, g, dxg, _, rfl, og9, rfl, g, n, es2, rfl, hg9, fun A1 J1 nA1 sA1 hA1 => ?_⟩
    refine ⟨_, rfl, g, dxg, _, rfl, sA1 _ _ og9, ⟨g, n, es2, rfl, hg9.same sA1, ⟨_, rfl, by omega, by omega, by show 3 ≤ sizeLine; decide, fun L1 nL1 => ?_⟩⟩⟩
    obtain ⟨J2, w2, sJ2, hL1⟩ := newAt (.lst [V.int (n : Int), V.ref A1, V.int (es2.length : Int)]) nL1
    rw [w2]
    have s9J := sA1.trans sJ2
    refine ⟨_, rfl, _, rfl, _, rfl, q, _, rfl, .inl (SqL.of ((s89.trans s9J) _ _ e18)), by show 3 ≤ sizeLine; decide, fun L2 nL2 => ?_⟩
    obtain ⟨J3, w3, sJ3, hL2⟩ := newAt (.lst [V.int (n : Int), V.ref Dq', V.int ((ts.map V.ref).length : Int)]) nL2
    rw [w3]
    have s9K := s9J.trans sJ3
    obtain ⟨tA, a1, a2⟩ := id hA1
    have lts' : ((ts.map V.ref).length : Int) = (es2.length : Int) := by rw [List.length_map, e28.1, lS]
    rw [lts'] at hL2
    refine ⟨triD n es2, triD n es2, .lst (SqL.of (sJ3 _ _ hL1)) (.cons (.int _) (.cons (.lst (SqL.of ((sJ2.trans sJ3) _ _ a1)) (dpTups (a2.same (sJ2.trans sJ3)))) (.cons (.int _) .nil))),
      .lst (SqL.of hL2) (.cons (.int _) (.cons (.lst (SqL.of (s9K _ _ hd1)) (dpTups (hd9.same s9K))) (.cons (.int _) .nil))), shapedTri _ _, shapedTri _ _, _, rfl, ?_⟩
    rw [eqvSame (shapedTri _ _)]
    refine iteF ?_
    obtain ⟨sh1, sh2, sh3⟩ := shwPairs (goodS.small n16) (by have := goodS.few; omega)
    obtain ⟨l1, l2, l3⟩ := shwLine (shwPairs (goodS.small n16) (by have := goodS.few; omega)) (by decide) (by decide)
    have nt := natText (n := n) (by omega)
    have b1 : ("Graph(" : Str).length = 6 := by decide +kernel
    have b2 : (", " : Str).length = 2 := by decide +kernel
    have b3 : (")" : Str).length = 1 := by decide +kernel
    have big : (100000 : Nat) ≤ sizeLine := by rw [sizeLine_eq]; decide
    refine ⟨_, rfl, g, dxg, _, rfl, s9K _ _ og9, ⟨g, n, es2, rfl, hg9.same s9K, ⟨_, rfl, ?_⟩⟩⟩
    refine ⟨_, rfl, _, rfl, ?_, _, _, rfl, rfl, by first | omega | (simp only [appLen]; omega), _, _, rfl, rfl, by first | omega | (simp only [appLen]; omega), ?_⟩
    · by_cases c : ((n : Int)).natAbs = 0
      · rw [c]
        decide
      · have z : ((n : Int)).natAbs < 2 ^ 5 := by omega
        exact Nat.lt_trans ((Nat.log2_lt c).mpr z) (by decide)
    refine ⟨_, rfl, .ref Dq', pairsD es2, rfl, .dat (.lst (SqL.of (s9K _ _ hd1)) (dpTups (hd9.same s9K))), l1, l2, l3, _, _, rfl, rfl, by first | omega | (simp only [appLen]; omega), _, _, rfl, rfl, by first | omega | (simp only [appLen]; omega), ?_⟩
    refine ⟨rfl, _, rfl, ?_⟩
    have eText : ∀ X Y : Str, X = Y → (!decide (V.str X = V.str Y)) = false := fun X Y h => by
      rw [h, decide_eq_true rfl]
      rfl
    rw [eText]
    case a => rfl
    refine iteF ?_
    clear eText b1 b2 b3 nt sh1 sh2 sh3 l1 l2 l3 a1 a2 hA1 hL1 hL2 w2 w3 sA1 sJ2 sJ3 s9J
    have s8K := s89.trans s9K
    have eq0 : EdgesAt J3 q es := ⟨ts, s8K _ _ e18, e28.same s8K⟩
    refine ⟨_, rfl, _, rfl, n, q, es, rfl, eq0, good, by omega, fun nrL G0 NL nnr sKG hNN nearL => ?_⟩
    have s8G := s8K.trans sKG
    have hg0 := hg.same s8G
    have og0 := s8G _ _ og
    have eqG := eq0.same sKG
    have hK0 := s8G _ _ hK8
    have hu0 := hu8.same s8G
    have hp0 := hp8.same s8G
    have x8 : ExtP p H8 G0 := sameXp (Same.x s8G)
    have hT00 := Same.tabs s8G hT8
    have hNL := hNN.at
    obtain ⟨tq, eq1, eq2⟩ := id eqG
    have nearS : IsNear n es2 NL := nearL.perm pe.symm
    clear s8K s8G sKG eq0 hNN hg og hK8 hu8 hp8 hT8 s89 hd0 hd1 hd9 hg9 og9 s9K e18 e28 q9 nearL nnr nDq
    refine ⟨2, rfl, by decide, by decide, for_range (lo := 0) (fun i2 σ G => ∃ o10 : Option V, σ = [some (.ref a), some (.int (0 + i)), some (.ref p), some (.int (n : Int)), some (.ref q), some (.ref D), some (.ref Kp), some (.ref g), some (.ref Dq'), some (.ref nrL), o10, v11, none, none] ∧ Same G0 G)
      ⟨v10, rfl, Same.refl G0⟩ ?_ ?_⟩
    · rintro i2 σ G1 hi2 ⟨o10, rfl, sG⟩
      have hg1 := hg0.same sG
      have og1 := sG _ _ og0
      refine ⟨_, rfl, n, rfl, by omega, by omega, fun Z nZ => ?_⟩
      refine lc_range (lo := 0) (n := n) (fun k H' => Same G1 H' ∧ ∃ rs : List Addr, H' Z = some (.lst (rs.map V.ref)) ∧ rs.length = k ∧ ∀ (m : Nat) (r : Addr), rs[m]? = some r → r ≠ Z ∧ H' r = some (.lst ((NL.getD m []).map V.int))) ⟨same_upd nZ, [], upd_same, rfl, fun m r e => by simp at e⟩ (fun k H' hk h' => ?_) (fun G2 h' => ?_)
      · obtain ⟨sm, rs, hl, ll, hall⟩ := h'
        rw [Int.zero_add]
        have hk' : k < n := hk
        refine ⟨rfl, ?_⟩
        refine ⟨_, rfl, g, dxg, _, rfl, sm _ _ og1, rfl, _, rfl, g, n, es2, .int (k : Int), .int (k : Int), rfl, hg1.same sm, .dat (.int _), (fun h => by rw [nodeIn (by omega) (by omega)] at h; cases h), fun a' ea ha N' q' H2 near' nq' sq' eq' => ?_⟩
        obtain rfl : a' = k := by
          injection ea with ea
          omega
        obtain rfl : N' = NL := near'.uniq nearS
        have Zq : Z ≠ q' := ne_of_none hl nq'
        refine ⟨_, sq' _ _ hl, by rw [List.length_map, ll, sizeLine_eq]; omega, fun b u z => ?_, rs ++ [q'], by rw [upd_same, List.map_append]; rfl, by rw [List.length_append, ll]; rfl, fun m r hm => ?_⟩
        · rw [upd_ne (ne_of_none z nZ)]
          exact sq' _ _ (sm _ _ z)
        · by_cases c : m < rs.length
          · rw [List.getElem?_append_left c] at hm
            obtain ⟨z1, z2⟩ := hall m r hm
            exact ⟨z1, by rw [upd_ne z1]; exact sq' _ _ z2⟩
          · rw [List.getElem?_append_right (by omega)] at hm
            have hm' : m = rs.length := by
              have := (List.getElem?_eq_some_iff.mp hm).1
              simp at this
              omega
            subst hm'
            rw [Nat.sub_self] at hm
            obtain rfl : q' = r := Option.some.inj hm
            exact ⟨Zq.symm, by rw [upd_ne Zq.symm, ll]; exact eq'⟩
      obtain ⟨s12, rs, hZ, lrs, hall⟩ := h'
      have hN2 := hNL.same (sG.trans s12)
      obtain ⟨rowsL, hr1', hr2', hr3'⟩ := hN2
      refine ⟨_, rfl, .list (NL.map posD), .list (NL.map posD), .lst (SqL.of hZ) (dpRows (by rw [lrs, nearS.len]) fun k r e => (hall k r e).2), .lst (SqL.of hr1') (dpRows hr2' hr3'), shapedNN _, shapedNN _, _, rfl, ?_⟩
      rw [eqvSame (shapedNN _)]
      refine iteF ?_
      have hg2 := hg1.same s12
      have og2 := s12 _ _ og1
      have hpp := partsNe (es := es2) (n := n) goodS.node n1
      refine ⟨_, rfl, g, dxg, _, rfl, og2, rfl, g, n, es2, rfl, hg2, fun C1 G3 rc nC1 s23 hC1 lrc allc => ?_⟩
      have eq3 := eqG.same (sG.trans (s12.trans s23))
      refine ⟨_, rfl, _, rfl, q, n, es, rfl, eq3, good, n16, fun C2 G4 rd nC2 s34 hC2 lrd alld => ?_⟩
      have ePP : partsL es n = partsL es2 n := partsL_perm pe.symm good.node
      rw [ePP] at lrd alld
      refine ⟨.list ((partsL es2 n).map posD), .list ((partsL es2 n).map posD), .lst (SqL.of (s34 _ _ hC1)) (dpRows lrc fun k r e => s34 _ _ (allc k r e).2.2), .lst (SqL.of hC2) (dpRows lrd alld), shapedNN _, shapedNN _, _, rfl, ?_⟩
      rw [eqvSame (shapedNN _)]
      refine iteF ?_
      have s14 := s12.trans (s23.trans s34)
      have hg4 := hg1.same s14
      have og4 := s14 _ _ og1
      clear hC1 hC2 allc alld lrc lrd hall hZ lrs hr1' hr2' hr3' s12 s23 s34 hg2 og2 eq3
      refine ⟨_, rfl, g, dxg, _, rfl, og4, rfl, _, rfl, _, _, rfl, rfl, g, n, es2, .int ((n : Int) - 1), .int ((n : Int) - 1), rfl, hg4, .dat (.int _), (fun h => by rw [nodeIn (by omega) (by omega)] at h; cases h), fun a' ea ha N' q' G5 near' nq' s45 eq' => ?_⟩
      refine ⟨.inl ⟨rfl, _, SqL.of eq'⟩, q', _, _, rfl, rfl, eq', ?_, ?_⟩
      · rw [List.length_map, sizeLine_eq]
        have := (near'.row a' ha).length_eq
        have := rowOf_len es2 (a' : Int)
        have := goodS.few
        omega
      obtain ⟨G6, w6⟩ : ∃ G6, upd G5 q' (.lst ((N'.getD a' []).map V.int ++ [V.int 0])) = G6 := ⟨_, rfl⟩
      have s46 : Same G4 G6 := fun b o e => by rw [← w6, upd_ne (ne_of_none e nq')]; exact s45 _ _ e
      rw [w6]
      have hg6 := hg4.same s46
      have og6 := s46 _ _ og4
      refine ⟨_, rfl, g, dxg, _, rfl, og6, rfl, g, n, es2, rfl, hg6, fun A1 G7 nA1 s67 hA1 => ?_⟩
      obtain ⟨tA, a1, a2⟩ := id hA1
      refine ⟨.inl ⟨rfl, _, SqL.of a1⟩, A1, _, _, rfl, rfl, a1, by rw [List.length_map, a2.1, sizeLine_eq]; have := goodS.few; omega, ?_⟩
      obtain ⟨G8, w8⟩ : ∃ G8, upd G7 A1 (.lst (tA.map V.ref ++ [V.int 0])) = G8 := ⟨_, rfl⟩
      have s68 : Same G6 G8 := fun b o e => by rw [← w8, upd_ne (ne_of_none e nA1)]; exact s67 _ _ e
      rw [w8]
      have hg8 := hg6.same s68
      have og8 := s68 _ _ og6
      refine ⟨_, rfl, g, dxg, _, rfl, og8, rfl, g, n, es2, rfl, hg8, fun C3 G9 re nC3 s89' hC3 lre alle => ?_⟩
      obtain ⟨r0, hr0⟩ : ∃ r0, re[0]? = some r0 := ⟨_, List.getElem?_eq_getElem (by omega)⟩
      obtain ⟨nr0, r0C, hr0'⟩ := alle 0 r0 hr0
      refine ⟨C3, _, (0 : Int), .ref r0, rfl, rfl, SqL.of hC3, atI_nat (j := 0) (by rw [List.getElem?_map, hr0]; rfl), .inl ⟨rfl, _, SqL.of hr0'⟩, r0, _, rfl, rfl, hr0', ?_⟩
      exact ⟨_, rfl, fun b o e => by
        have e4 := s14 _ _ (sG _ _ e)
        have e8 := s68 _ _ (s46 _ _ e4)
        rw [upd_ne (ne_of_none e8 nr0)]
        exact s89' _ _ e8⟩
    rintro σ G1 ⟨o10, rfl, sG⟩
    have hg1 := hg0.same sG
    have og1 := sG _ _ og0
    have hK1 := sG _ _ hK0
    refine ⟨fun σ' H' => σ' = [some (.ref a), some (.int (0 + i)), some (.ref p), some (.int (n : Int)), some (.ref q), some (.ref D), some (.ref Kp), some (.ref g), some (.ref Dq'), some (.ref nrL), o10, v11, none, none] ∧ Same G1 H', ?_, ?_⟩
    case' refine_1 =>
      refine ⟨_, rfl, _, rfl, _, rfl, Kp, _, rfl, .inl ⟨SqL.of hK1, fun Tp nTp => ?_⟩⟩
      obtain ⟨G2, w2, s12, hTp⟩ := newAt (.tup (us.map V.ref)) nTp
      rw [w2]
      have s02 := sG.trans s12
      have hu2 := hu0.same s02
      have eq12 := s02 _ _ eq1
      have eq22 := eq2.same s02
      have hg2 := hg1.same s12
      clear w2 hK0 hK1 hu0
      intro g2 dx2 nx2 ndx2 ne2
      have sx2 := preS (CG := CG) nx2 ndx2 ne2
      refine ⟨g2, dx2, .int (n : Int), .ref Tp, rfl, upd_same, .inr ⟨n, rfl, n1, n16, .inr (.inr ⟨gs, ⟨Tp, us, rfl, .inr (sx2 _ _ hTp), hu2.same sx2, gU⟩, fun h => by omega, fun _ G3 j3 nr3 N3 es3 up3 hx3 hj3 hN3 near3 pe3 sE3 _ _ => ⟨rfl, ?_⟩⟩)⟩⟩
      rw [← hgs] at pe
      obtain ⟨s23, hg3⟩ := made nx2 ndx2 ne2 gU n1 n16 (by rw [lgs]; exact few) up3 hx3 hj3 hN3 near3 pe3 sE3
      obtain rfl := SrtE.uniq (pe3.trans pe.symm) hg3.asc hg2.asc
      rw [hgs] at pe
      have hg23 := hg2.same s23
      obtain ⟨dxa, ja, nra, Na, oa, _⟩ := hg23.obj
      obtain ⟨dxb, jb, nrb, Nb, ob, _⟩ := hg3.obj
      refine ⟨⟨g, g2, dxa, dxb, _, _, rfl, rfl, oa, ob, n, es3, hg23, hg3⟩, fun G4 x34 => ⟨_, rfl, iteF ?_⟩⟩
      have s24 := s23.trans (fromExt x34)
      have hg4 := hg2.same s24
      have oa4 := x34 _ _ oa
      have e14 := s24 _ _ eq12
      have e24 := eq22.same s24
      clear hg3 hg23 ob hx3 hj3 hN3 near3 up3 sx2 nx2 ndx2 ne2 hTp s23 x34
      refine ⟨_, rfl, _, rfl, g, dxa, _, rfl, oa4, .inr ⟨q, _, rfl, e14⟩, ⟨g, .ref q, n, es3, rfl, hg4, .inr ⟨q, _, rfl, e14, ⟨_, rfl, _, rfl, iteF ?_⟩⟩⟩⟩
      refine ⟨_, rfl, _, _, rfl, rfl, _, rfl, ?_⟩
      by_cases c16 : (n : Int) < 16
      case neg =>
        rw [decide_eq_false c16]
        exact iteF ⟨rfl, s12.trans s24⟩
      rw [decide_eq_true c16]
      refine iteT ⟨_, rfl, _, rfl, _, _, rfl, rfl, _, rfl, ?_⟩
      intro g5 dx5 nx5 ndx5 ne5
      have sx5 := preS (CG := CG) nx5 ndx5 ne5
      refine ⟨g5, dx5, _, .ref q, rfl, upd_same, .inr ⟨n + 1, congrArg V.int (by omega), by omega, by omega, .inr (.inr ⟨es, ⟨q, tq, rfl, .inl (sx5 _ _ e14), e24.same sx5, good.toU.up⟩, fun h => by omega, fun _ G6 j6 nr6 N6 es6 up6 hx6 hj6 hN6 near6 pe6 sE6 _ _ => ⟨rfl, ?_⟩⟩)⟩⟩
      obtain ⟨s46, hg6⟩ := made nx5 ndx5 ne5 good.toU.up (by omega) (by omega) few up6 hx6 hj6 hN6 near6 pe6 sE6
      obtain ⟨dxc, jc, nrc, Nc, oc, _⟩ := hg6.obj
      refine ⟨g, dxa, _, rfl, s46 _ _ oa4, .inl ⟨g5, dxc, _, rfl, oc⟩, ⟨g, .ref g5, n, es3, rfl, hg4.same s46, .inl ⟨g5, n + 1, es6, rfl, hg6, ⟨_, rfl, ?_⟩⟩⟩⟩
      rw [decide_eq_false (fun z => by omega)]
      exact ⟨_, rfl, iteF ⟨rfl, s12.trans (s24.trans s46)⟩⟩
    rintro σ G2 ⟨rfl, s12⟩
    have hg2 := hg1.same s12
    have og2 := s12 _ _ og1
    have s02 := sG.trans s12
    have eq12 := s02 _ _ eq1
    have eq22 := eq2.same s02
    refine ⟨fun σ' H' => σ' = [some (.ref a), some (.int (0 + i)), some (.ref p), some (.int (n : Int)), some (.ref q), some (.ref D), some (.ref Kp), some (.ref g), some (.ref Dq'), some (.ref nrL), o10, v11, none, none] ∧ Same G2 H', ?_, ?_⟩
    case' refine_1 =>
      refine ⟨_, rfl, by show 0 ≤ sizeLine; decide, fun Em nEm => ?_⟩
      obtain ⟨G3, w3, s23, hEm⟩ := newAt (.lst []) nEm
      rw [w3]
      refine ⟨pairsD es, .list [], .lst (SqL.of (s23 _ _ eq12)) (dpTups (eq22.same s23)), .lst (SqL.of hEm) .nil, shapedPairs _, rfl, _, rfl, ?_⟩
      rw [show PyData.eqv (pairsD es) (.list []) = decide (es = []) from eqvPairs es []]
      by_cases c0 : es = []
      case pos =>
        rw [decide_eq_true c0]
        exact iteF ⟨rfl, s23⟩
      rw [decide_eq_false c0]
      refine iteT ⟨_, rfl, _, rfl, (1 : Int), rfl, q, _, rfl, SqL.of (s23 _ _ eq12), fun C nC => ?_⟩
      rw [cutTail]
      obtain ⟨G4, w4, s34, hC⟩ := newAt (.lst ((tq.drop 1).map V.ref)) nC
      rw [w4]
      have tC := ((eq22.same s23).same s34).tail
      intro g5 dx5 nx5 ndx5 ne5
      have sx5 := preS (CG := CG) nx5 ndx5 ne5
      have ld : (es.drop 1).length ≤ 40 := by rw [List.length_drop]; omega
      refine ⟨g5, dx5, .int (n : Int), .ref C, rfl, upd_same, .inr ⟨n, rfl, n1, n16, .inr (.inr ⟨es.drop 1, ⟨C, tq.drop 1, rfl, .inl (sx5 _ _ hC), tC.same sx5, good.toU.tail⟩, fun h => by omega, fun _ G6 j6 nr6 N6 es6 up6 hx6 hj6 hN6 near6 pe6 sE6 _ _ => ⟨rfl, ?_⟩⟩)⟩⟩
      obtain ⟨s46, hg6⟩ := made nx5 ndx5 ne5 good.toU.tail n1 n16 ld up6 hx6 hj6 hN6 near6 pe6 sE6
      obtain ⟨dxc, jc, nrc, Nc, oc, _⟩ := hg6.obj
      have s26 := s23.trans (s34.trans s46)
      refine ⟨_, rfl, g5, dxc, _, rfl, oc, .inl ⟨g, dxg, _, rfl, s26 _ _ og2⟩, ⟨g5, .ref g, n, es6, rfl, hg6, .inl ⟨g, n, es2, rfl, hg2.same s26, ⟨_, rfl, ?_⟩⟩⟩⟩
      have l6 := pe6.length_eq
      rw [List.length_map, List.length_drop] at l6
      have l0 : es.length ≠ 0 := fun z => c0 (List.eq_nil_of_length_eq_zero z)
      rw [decide_eq_false (fun z => by
        have := congrArg List.length z.2
        rw [l6, lS] at this
        omega)]
      exact ⟨_, rfl, iteF ⟨rfl, s26⟩⟩
    rintro σ G3 ⟨rfl, s23⟩
    have s03 := s02.trans s23
    have hg3 := hg0.same s03
    have og3 := s03 _ _ og0
    have hp3 := hp0.same s03
    have eq13 := s03 _ _ eq1
    have eq23 := eq2.same s03
    have x83 := x8.trans (sameXp (Same.x s03))
    have hT3 := Same.tabs s03 hT00
    clear hg0 hg1 hg2 og0 og1 og2 hp0 eq1 eq2 eq12 eq22 hT00 sG s12 s02 s23 hK0 hu0 hNL nearS eqG hK1
    refine ⟨(1 : Int), rfl, _, rfl, by show 1 ≤ sizeLine; decide, fun T nT => ?_⟩
    obtain ⟨J1, w1, j1, k1⟩ := newAt (.tup [V.int 0]) nT
    rw [w1]
    refine ⟨_, _, rfl, rfl, ⟨by decide, by decide, by decide⟩, by show 7 ≤ sizeLine; decide, fun L nL => ?_⟩
    obtain ⟨J2, w2, j2, hL⟩ := newAt (.lst [V.int (-1), V.int (n : Int), V.non, V.bl true, V.str "0", V.ref T, V.int (10 ^ 20)]) nL
    have w2' : upd J1 L (.lst [V.int (-1), V.int (n : Int), V.non, V.bl true, V.str "0", V.ref T, V.int (10 ^ (20 : Int).toNat)]) = J2 := w2
    rw [w2']
    have s3J := j1.trans j2
    have k2 := j2 _ _ k1
    have hgJ := hg3.same s3J
    have ogJ := s3J _ _ og3
    have hpJ := hp3.same s3J
    have eqJ := s3J _ _ eq13
    have eqJ2 := eq23.same s3J
    have x8J := x83.trans (sameXp (Same.x s3J))
    have hTJ := Same.tabs s3J hT3
    refine ⟨L, rfl, ⟨_, SqL.of hL⟩, for_list (K := K) (a := L) (xs := [V.int (-1), V.int (n : Int), V.non, V.bl true, V.str "0", V.ref T, V.int (10 ^ 20)]) (fun i7 σ G => ∃ o11 : Option V, σ = [some (.ref a), some (.int (0 + i)), some (.ref p), some (.int (n : Int)), some (.ref q), some (.ref D), some (.ref Kp), some (.ref g), some (.ref Dq'), some (.ref nrL), o10, o11, none, none] ∧ LamX.ExtN J2 G ∧ LamX.Tabs (lam3 Pl Pm Pr) G)
      ⟨v11, rfl, LamX.ExtN.refl J2, hTJ⟩ (fun i7 σ G _ h7 => ?_) (fun i7 y σ G hi7 h7 => ?_) (fun σ G h7 => ?_)⟩
    · obtain ⟨_, _, xt, _⟩ := h7
      exact sqLExt (SqL.of hL) xt
    · obtain ⟨o11, rfl, xt, tb⟩ := h7
      obtain ⟨d, hd, hw, hsh⟩ : ∃ d, (∀ H4, LamX.ExtN J2 H4 → Rd K H4 y d) ∧ isNode n d = false ∧ Shw 3 30000 d := by
        have hlt : i7 < 7 := (List.getElem?_eq_some_iff.mp hi7).1
        have notIn : ∀ z : Int, z < 0 ∨ (n : Int) ≤ z → isNode n (.int z) = false := fun z hz => by
          show (decide ((0 : Int) ≤ z) && decide (z ≤ (n : Int) - 1)) = false
          rcases hz with h | h
          · rw [decide_eq_false (show ¬ (0 : Int) ≤ z by omega), Bool.false_and]
          · rw [decide_eq_false (show ¬ z ≤ (n : Int) - 1 by omega), Bool.and_false]
        obtain rfl | rfl | rfl | rfl | rfl | rfl | rfl : i7 = 0 ∨ i7 = 1 ∨ i7 = 2 ∨ i7 = 3 ∨ i7 = 4 ∨ i7 = 5 ∨ i7 = 6 := by omega
        · obtain rfl := Option.some.inj hi7
          exact ⟨.int (-1), fun _ _ => .dat (.int _), notIn _ (by omega), by decide +kernel, by decide +kernel, by decide +kernel⟩
        · obtain rfl := Option.some.inj hi7
          exact ⟨.int (n : Int), fun _ _ => .dat (.int _), notIn _ (by omega), (shwInt (Nat.lt_of_le_of_lt (show (n : Int).natAbs ≤ 16 by omega) (by decide +kernel))).mono (by decide) (by decide)⟩
        · obtain rfl := Option.some.inj hi7
          exact ⟨.none, fun _ _ => .dat .non, rfl, by decide +kernel, by decide +kernel, by decide +kernel⟩
        · obtain rfl := Option.some.inj hi7
          exact ⟨.bool true, fun _ _ => .dat (.bl _), rfl, by decide +kernel, by decide +kernel, by decide +kernel⟩
        · obtain rfl := Option.some.inj hi7
          exact ⟨.str "0", fun _ _ => .dat (.str _), rfl, by decide +kernel, by decide +kernel, by decide +kernel⟩
        · obtain rfl := Option.some.inj hi7
          exact ⟨.tuple [.int 0], fun H4 z => .dat (.tup (SqT.of (z _ _ k2 (fun _ c => by cases c))) (.cons (.int _) .nil)), rfl, by decide +kernel, by decide +kernel, by decide +kernel⟩
        · obtain rfl := Option.some.inj hi7
          exact ⟨.int (10 ^ 20), fun _ _ => .dat (.int _), notIn _ (.inr (Int.le_trans (show (n : Int) ≤ 16 by omega) (by decide +kernel))), by decide +kernel, by decide +kernel, by decide +kernel⟩
      obtain ⟨sY1, sY2, sY3⟩ := shwLine hsh (by decide) (by decide)
      refine ⟨tb, fun D1 xt1 tb1 => ?_⟩
      have xt2 := xt.trans xt1
      refine ⟨_, rfl, g, dxg, _, rfl, xt2 _ _ ogJ (fun _ z => by cases z), rfl, _, rfl, g, n, es2, y, d, rfl, gex_ge hgJ xt2, hd _ xt2, fun _ => toldTailU x20 (toldTailU x21 (toldHeadU (d := d) x22 (fun H3 s3 => .inl (hd _ (xt2.trans (Same.ext s3)))) ⟨sY1, sY2, sY3⟩ (fun D2 pa sp2 npa => ?_))), fun a' ea ha => ?_⟩
      case refine_2 =>
        rw [ea, nodeIn (by omega) (by omega)] at hw
        cases hw
      obtain ⟨D3, qa, sa, ha⟩ := newAt (.lst [V.str "node", V.str d.shown]) npa
      rw [qa]
      have s13 := sp2.trans sa
      have xt3 := xt2.trans (Same.ext s13)
      have tb3 := Same.tabs s13 tb1
      refine ⟨_, rfl, y, d, rfl, hd _ xt3, sY1, sY2, sY3, by show 2 ≤ sizeLine; decide, fun pb npb => ?_⟩
      obtain ⟨D4, qb, sb, hb⟩ := newAt (.lst [V.str "node", V.str d.shown]) npb
      rw [qb]
      refine ⟨pa, pb, ["node", d.shown], rfl, rfl, SqL.of (sb _ _ ha), SqL.of hb, _, rfl, iteF ?_⟩
      exact ⟨_, rfl, xt3.trans (Same.ext sb), Same.tabs sb tb3⟩
    obtain ⟨o11, rfl, xtG, tbG⟩ := h7
    have e2G : TupsAt G tq es := ⟨eqJ2.1, fun k t hk => by
      obtain ⟨x, a, b⟩ := eqJ2.2 k t hk
      exact ⟨x, a, xtG _ _ b (fun _ z => by cases z)⟩⟩
    refine ⟨_, rfl, _, rfl, _, rfl, p, q, n, es, rfl, poolExt hpJ xtG, ⟨tq, xtG _ _ eqJ (fun _ z => by cases z), e2G⟩, qp, good, n1, n16, tbG, fun Hf xpf tbf => ⟨_, rfl, iteF ?_⟩⟩
    exact ⟨_, _, _, _, _, _, _, _, _, _, _, rfl, scr Hf (x8J.trans ((extNp xtG).trans xpf)), tbf⟩
end

end K01

set_option Elab.async false
set_option linter.all false
set_option maxRecDepth 100000
set_option maxHeartbeats 8000000
namespace K01
open PySem PySem.Spec PyProof.Rows L2 FNX
section
variable {P : Program} {w : World} {K : PySem.W.Frag} {mg : Str → Option Value} {base : Heap} {CG : Addr} {CX : CXT} {k : Nat} {x qual : Str} {st : Stmt} {f : Addr} {ps : List Str} {sp : Sp}
theorem at_of (F : FnF K mg x st f) (ok : ∀ fd, Fun K x x st f fd → FnOk P w K mg base CX k f fd ps sp)
    (b : ∀ (kV doc pm : Value) (an : Option Addr) (cdv ct : Value) (us : List Value), us.length = ps.length → bindArgs (PySem.W.fnOf x x (defArgs st) (defBody st) (defScope st) .none kV doc pm an cdv ct) ⟨us, []⟩ = pure (ps.zip us)) : At P w K mg base CX k x ps sp := by
  obtain ⟨g, fd, F⟩ := F
  exact ⟨f, fd, ok fd F, g, F.kp, F.binds b⟩
theorem atG_of (F : FnF K mg x st f) (ok : ∀ fd, Fun K x x st f fd → GOk P w K mg base k f fd ps sp)
    (b : ∀ (kV doc pm : Value) (an : Option Addr) (cdv ct : Value) (us : List Value), us.length = ps.length → bindArgs (PySem.W.fnOf x x (defArgs st) (defBody st) (defScope st) .none kV doc pm an cdv ct) ⟨us, []⟩ = pure (ps.zip us)) : AtG P w K mg base k x ps sp := by
  obtain ⟨g, fd, F⟩ := F
  exact ⟨f, fd, ok fd F, g, F.kp, F.binds b⟩
theorem mat_of (F : MtF K CG x qual st f) (ok : ∀ fd, Fun K x qual st f fd → FnOk P w K mg base CX k f fd ps sp)
    (b : ∀ (kV doc pm : Value) (an : Option Addr) (cdv ct : Value) (us : List Value), us.length = ps.length → bindArgs (PySem.W.fnOf x qual (defArgs st) (defBody st) (defScope st) .none kV doc pm an cdv ct) ⟨us, []⟩ = pure (ps.zip us)) : MAt P w K mg base CG CX k x ps sp := by
  obtain ⟨m, fd, F⟩ := F
  exact ⟨f, fd, ok fd F, m, F.binds b⟩
theorem matG_of (F : MtF K CG x qual st f) (ok : ∀ fd, Fun K x qual st f fd → GOk P w K mg base k f fd ps sp)
    (b : ∀ (kV doc pm : Value) (an : Option Addr) (cdv ct : Value) (us : List Value), us.length = ps.length → bindArgs (PySem.W.fnOf x qual (defArgs st) (defBody st) (defScope st) .none kV doc pm an cdv ct) ⟨us, []⟩ = pure (ps.zip us)) : MAtG P w K mg base CG k x ps sp := by
  obtain ⟨m, fd, F⟩ := F
  exact ⟨f, fd, ok fd F, m.1, m.fn, F.binds b⟩
end
theorem tInvalidSize : InitTxt s_InvalidSize_init := ⟨⟨rfl, rfl, rfl, by decide +kernel, rfl, by decide +kernel, by decide +kernel⟩, ⟨_, _, _, _, rfl⟩, fun _ _ _ _ _ _ _ us hl => match us, hl with | [_, _], _ => rfl, fun _ _ _ _ _ _ _ _ _ => rfl⟩
theorem tInvalidEdge : InitTxt s_InvalidEdge_init := ⟨⟨rfl, rfl, rfl, by decide +kernel, rfl, by decide +kernel, by decide +kernel⟩, ⟨_, _, _, _, rfl⟩, fun _ _ _ _ _ _ _ us hl => match us, hl with | [_, _], _ => rfl, fun _ _ _ _ _ _ _ _ _ => rfl⟩
theorem tInvalidNode : InitTxt s_InvalidNode_init := ⟨⟨rfl, rfl, rfl, by decide +kernel, rfl, by decide +kernel, by decide +kernel⟩, ⟨_, _, _, _, rfl⟩, fun _ _ _ _ _ _ _ us hl => match us, hl with | [_, _], _ => rfl, fun _ _ _ _ _ _ _ _ _ => rfl⟩
theorem tTooMany : InitTxt s_TooMany_init := ⟨⟨rfl, rfl, rfl, by decide +kernel, rfl, by decide +kernel, by decide +kernel⟩, ⟨_, _, _, _, rfl⟩, fun _ _ _ _ _ _ _ us hl => match us, hl with | [_, _], _ => rfl, fun _ _ _ _ _ _ _ _ _ => rfl⟩
theorem all_mk {l : PySem.W.OpenLaw} {w : World} {K : PySem.W.Frag} {h : Heap} {mg : Str → Option Value} {fa fL cL tL fE fD0 cD0 tD0 fD1 cD1 tD1 f0 f1 f2 f3 f4 f5 f6 f7 f8 f9 f10 f11 f12 f13 f14 f15 f16 f17 f18 f19 c0 c1 c2 c3 CG fI eT : Addr} {t0 t1 : Tok} (X : K.In h) (G : h.Ns mainGlobals mg) (hfa : mg "law" = some (.ref fa))
    (C0 : Cl K mg "InvalidSize" c0) (ty0 : PySem.W.typeIn K (.ref c0) = some (.type "type"))
    (C1 : Cl K mg "InvalidEdge" c1) (ty1 : PySem.W.typeIn K (.ref c1) = some (.type "type"))
    (C2 : Cl K mg "InvalidNode" c2) (ty2 : PySem.W.typeIn K (.ref c2) = some (.type "type"))
    (C3 : Cl K mg "TooMany" c3) (ty3 : PySem.W.typeIn K (.ref c3) = some (.type "type"))
    (gG : PySem.W.nsIn K mainGlobals "Graph" = some (some (.ref CG)))
    (cl : Cls K CG) (n1 : PySem.W.findIn K (.ref CG) "node_count" = some none) (n2 : PySem.W.findIn K (.ref CG) "joined" = some none) (n3 : PySem.W.findIn K (.ref CG) "near" = some none) (FI : InF K CG "Graph.__init__" s_Graph_init fI eT)
    (g0 : PySem.W.findIn K (.ref CG) "__class__" = some (some (.builtin "object.__class__")))
    (g1 : PySem.W.specialIn K (.builtin "object.__class__") "__get__" = some (some (.builtin "getset_descriptor.__get__")))
    (g2 : PySem.W.takesIn K (.builtin "object.__class__") = some true)
    (g3 : PySem.W.mroIn K CG (.type "object") = some true)
    (g4 : PySem.W.kitOne K (.ref CG) (.ref CG) = some true)
    (g5 : PySem.W.findIn K (.ref CG) "__ne__" = some (some (.builtin "object.__ne__")))
    (g6 : PySem.W.notFirst K CG (.type "list") = true)
    (g7 : PySem.W.kitOne K (.type "list") (.ref CG) = some false)
    (F0 : FnF K mg "is_integer" s_is_integer f0)
    (F1 : FnF K mg "is_integer_within" s_is_integer_within f1)
    (F2 : FnF K mg "is_node" s_is_node f2)
    (F3 : FnF K mg "check_node" s_check_node f3)
    (F4 : FnF K mg "is_edge" s_is_edge f4)
    (F5 : FnF K mg "checked_edges" s_checked_edges f5)
    (F6 : FnF K mg "neighbour_lists" s_neighbour_lists f6)
    (F7 : FnF K mg "component_of" s_component_of f7)
    (F8 : MtF K CG "size" "Graph.size" s_Graph_size f8)
    (F9 : MtF K CG "edges" "Graph.edges" s_Graph_edges f9)
    (F10 : MtF K CG "__len__" "Graph.__len__" s_Graph_len f10)
    (F11 : MtF K CG "__eq__" "Graph.__eq__" s_Graph_eq f11)
    (F12 : MtF K CG "components" "Graph.components" s_Graph_components f12)
    (F13 : MtF K CG "neighbours" "Graph.neighbours" s_Graph_neighbours f13)
    (F14 : MtF K CG "__repr__" "Graph.__repr__" s_Graph_repr f14)
    (F15 : FnF K mg "_law_pool" s__law_pool f15)
    (F16 : FnF K mg "_law_take" s__law_take f16)
    (F17 : FnF K mg "_law_joins" s__law_joins f17)
    (F18 : FnF K mg "_law_near" s__law_near f18)
    (F19 : FnF K mg "_law_parts" s__law_parts f19)
    (FE : FnF K mg "_law_error" s__law_error fE)
    (FD0 : FnC K mg "_law_many" s__law_many fD0 cD0 tD0)
    (FD1 : FnC K mg "_law_refused" s__law_refused fD1 cD1 tD1)
    (hne0 : tL ≠ tD0)
    (hne1 : tL ≠ tD1)
    (hne : tD0 ≠ tD1)
    (FL : FnC K mg "law" s_law fL cL tL)
    (i0 : PySem.W.nsIn K mainGlobals "MOST_NODES" = some (some (.int 16 t0)))
    (i1 : PySem.W.nsIn K mainGlobals "MOST_EDGES" = some (some (.int 40 t1)))
    (z0 : PySem.W.nsIn K mainGlobals "isinstance" = some none)
    (z1 : PySem.W.nsIn K mainGlobals "int" = some none)
    (z2 : PySem.W.nsIn K mainGlobals "bool" = some none)
    (z3 : PySem.W.nsIn K mainGlobals "list" = some none)
    (z4 : PySem.W.nsIn K mainGlobals "tuple" = some none)
    (z5 : PySem.W.nsIn K mainGlobals "len" = some none)
    (z6 : PySem.W.nsIn K mainGlobals "all" = some none)
    (z7 : PySem.W.nsIn K mainGlobals "range" = some none)
    (z8 : PySem.W.nsIn K mainGlobals "enumerate" = some none)
    (z9 : PySem.W.nsIn K mainGlobals "min" = some none)
    (z10 : PySem.W.nsIn K mainGlobals "max" = some none)
    (z11 : PySem.W.nsIn K mainGlobals "sorted" = some none)
    (z12 : PySem.W.nsIn K mainGlobals "repr" = some none)
    (z13 : PySem.W.nsIn K mainGlobals "str" = some none)
    (x0 : PySem.W.exmOne K (.ref c0) (.ref c0) = some true)
    (x1 : PySem.W.exmOne K (.ref c1) (.ref c0) = some false)
    (x2 : PySem.W.exmOne K (.ref c1) (.ref c1) = some true)
    (x3 : PySem.W.exmOne K (.ref c3) (.ref c0) = some false)
    (x4 : PySem.W.exmOne K (.ref c3) (.ref c1) = some false)
    (x5 : PySem.W.exmOne K (.ref c3) (.ref c2) = some false)
    (x6 : PySem.W.exmOne K (.ref c3) (.ref c3) = some true)
    (x7 : PySem.W.exmOne K (.ref c2) (.ref c0) = some false)
    (x8 : PySem.W.exmOne K (.ref c2) (.ref c1) = some false)
    (x9 : PySem.W.exmOne K (.ref c2) (.ref c2) = some true)
    : ∃ (fd : FuncData) (cs : List (Addr × Addr)), (∀ p ∈ cs, ∃ y, Door K mg ["law", "_law_many", "_law_refused"] y p.1 p.2) ∧ (∀ (s : Shared) (v : Value), BindsTo s fd ⟨[v], []⟩ [("_law_script", v)]) ∧
        (∀ (H : Hp) (a : Addr) (ns : List Int), ns.length ≤ 63 → (∀ p ∈ cs, H p.2 = some (.tbl #[])) → SqL K H a (ns.map V.int) → spLawT K cs [.ref a] H (fun v _ => v = .bl true) fun _ _ _ => False) ∧
        ∀ base : Heap, K.In base → base.Ns mainGlobals mg → (∀ p ∈ cs, LamX.TabB base mg p.1 p.2) → GOk l.prog w K mg base 12 fa fd ["_law_script"] (spLawT K cs) := by
  obtain ⟨gL, ⟨fdL, FL⟩, DL⟩ := FL
  have e := hfa.symm.trans gL
  cases e
  obtain ⟨gE, fdE, FE⟩ := FE
  obtain ⟨gD0, ⟨fdD0, FD0⟩, DD0⟩ := FD0
  obtain ⟨gD1, ⟨fdD1, FD1⟩, DD1⟩ := FD1
  refine ⟨fdL, [(cL, tL), (cD0, tD0), (cD1, tD1)], fun p hp => by rcases List.mem_cons.mp hp with rfl | hp; exact ⟨_, DL.more List.mem_cons_self⟩; rcases List.mem_cons.mp hp with rfl | hp; exact ⟨_, DD0.more (List.mem_cons_of_mem _ List.mem_cons_self)⟩; rw [List.mem_singleton.mp hp]; exact ⟨_, DD1.more (List.mem_cons_of_mem _ (List.mem_cons_of_mem _ List.mem_cons_self))⟩, fun s v => ?_, fun H a ns hl hT hS => ⟨a, ns, rfl, hS, hl, hT, fun _ => rfl⟩, fun base KB NB TBs => ?_⟩
  · obtain ⟨oc, od, kV, doc, pm, an, ct, osl, rfl, _, _⟩ := FL.ex
    exact .of_eq rfl
  have TB := TBs (cL, tL) List.mem_cons_self
  have TD0 := TBs (cD0, tD0) (List.mem_cons_of_mem _ List.mem_cons_self)
  have TD1 := TBs (cD1, tD1) (List.mem_cons_of_mem _ (List.mem_cons_of_mem _ List.mem_cons_self))
  have bE : L2.Binds K fdE ["_law_door"] [] := FE.binds (fun _ _ _ _ _ _ us hl => match us, hl with | [_], _ => rfl)
  have no : ∀ {x : Str}, PySem.W.nsIn K mainGlobals x = some none → mg x = none := fun z => PySem.W.mg_none_of X G z
  have M : Nms mg := {isi := no z0, int := no z1, bool := no z2, list := no z3, tuple := no z4, len := no z5, all := no z6, range := no z7, enumerate := no z8, min := no z9, max := no z10, sorted := no z11, repr := no z12 }
  have n_str : mg "str" = none := no z13
  have i_MOST_NODES := PySem.W.mg_of X G i0
  have i_MOST_EDGES := PySem.W.mg_of X G i1
  have T : GTxt K mg CG := ⟨cl, n1, n2, n3, PySem.W.mg_of X G gG⟩
  have ES : Ex l.prog w K mg base "InvalidSize" c0 := C0.ex
  have EE : Ex l.prog w K mg base "InvalidEdge" c1 := C1.ex
  have EN : Ex l.prog w K mg base "InvalidNode" c2 := C2.ex
  have EM : Ex l.prog w K mg base "TooMany" c3 := C3.ex

  have a_is_integer : At l.prog w K mg base CX0 1 "is_integer" ["thing"] (spIsInteger K) := at_of F0 (fun fd F => ok_is_integer F M) (fun _ _ _ _ _ _ us hl => match us, hl with | [_], _ => rfl)
  have a_is_integer_within : At l.prog w K mg base CX0 2 "is_integer_within" ["thing", "low", "high"] (spWithin K) := at_of F1 (fun fd F => ok_within F a_is_integer) (fun _ _ _ _ _ _ us hl => match us, hl with | [_, _, _], _ => rfl)
  have a_is_node : At l.prog w K mg base CX0 3 "is_node" ["size", "thing"] (spIsNode K) := at_of F2 (fun fd F => ok_is_node F a_is_integer_within) (fun _ _ _ _ _ _ us hl => match us, hl with | [_, _], _ => rfl)
  have a_check_node : At l.prog w K mg base (L2.CX l.prog w) 4 "check_node" ["size", "node"] (spCheckNodeY K c2) := at_of F3 (fun fd F => ok_check_nodeY F EN ty2 a_is_node) (fun _ _ _ _ _ _ us hl => match us, hl with | [_, _], _ => rfl)
  have a_is_edge : At l.prog w K mg base CX0 4 "is_edge" ["size", "thing"] (spIsEdgeD K) := at_of F4 (fun fd F => ok_is_edgeD F M a_is_node) (fun _ _ _ _ _ _ us hl => match us, hl with | [_, _], _ => rfl)
  have a_checked_edges : At l.prog w K mg base (L2.CX l.prog w) 5 "checked_edges" ["size", "edges"] (spEdges01 K c1) := at_of F5 (fun fd F => ok_checked01 F M EE ty1 a_is_edge) (fun _ _ _ _ _ _ us hl => match us, hl with | [_, _], _ => rfl)
  have a_neighbour_lists : At l.prog w K mg base CX0 1 "neighbour_lists" ["size", "edges"] (spNear K) := at_of F6 (fun fd F => ok_near F M) (fun _ _ _ _ _ _ us hl => match us, hl with | [_, _], _ => rfl)
  have a_component_of : At l.prog w K mg base CX0 1 "component_of" ["near", "start"] (spComp K) := at_of F7 (fun fd F => ok_comp F M) (fun _ _ _ _ _ _ us hl => match us, hl with | [_, _], _ => rfl)
  have a_size : MAt l.prog w K mg base CG CX0 1 "size" ["self"] (spSizeE CG) := mat_of F8 (fun fd F => ok_gsizeE F T) (fun _ _ _ _ _ _ us hl => match us, hl with | [_], _ => rfl)
  have a_edges : MAt l.prog w K mg base CG CX0 1 "edges" ["self"] (spEdgesOf CG) := mat_of F9 (fun fd F => ok_gedges F T M) (fun _ _ _ _ _ _ us hl => match us, hl with | [_], _ => rfl)
  have a___len__ : MAt l.prog w K mg base CG CX0 1 "__len__" ["self"] (spLenE CG) := mat_of F10 (fun fd F => ok_glen F T M) (fun _ _ _ _ _ _ us hl => match us, hl with | [_], _ => rfl)
  have a___eq__ : MAt l.prog w K mg base CG CX0 1 "__eq__" ["self", "other"] (spEqB CG) := mat_of F11 (fun fd F => ok_geqB F T M ⟨cl, g0, g1, g2, g3, g4⟩ g7) (fun _ _ _ _ _ _ us hl => match us, hl with | [_, _], _ => rfl)
  have a_components : MAt l.prog w K mg base CG CX0 2 "components" ["self"] (spParts K CG) := mat_of F12 (fun fd F => ok_parts F T M a_component_of) (fun _ _ _ _ _ _ us hl => match us, hl with | [_], _ => rfl)
  have a_neighbours : MAt l.prog w K mg base CG (L2.CX l.prog w) 5 "neighbours" ["self", "node"] (spNb K CG c2) := mat_of F13 (fun fd F => ok_nbY F T M a_check_node) (fun _ _ _ _ _ _ us hl => match us, hl with | [_, _], _ => rfl)
  have a___repr__ : MAtG l.prog w K mg base CG 4 "__repr__" ["self"] (spReprG CG) := matG_of F14 (fun fd F => ok_grepr F T) (fun _ _ _ _ _ _ us hl => match us, hl with | [_], _ => rfl)
  obtain ⟨MK, fdI, FI⟩ := FI
  have GI := ok_gi01 (P := l.prog) (w := w) (base := base) FI T M i_MOST_NODES i_MOST_EDGES ES ty0 EM ty3 a_is_integer_within a_checked_edges a_neighbour_lists
  have bI : L2.Binds K fdI ["self", "size", "edges"] [] := by
    obtain ⟨ds, hd, hb⟩ := FI.binds1 (ps := ["self", "size", "edges"]) 3 1 (by simp) rfl (fun T kV doc pm an cdv ct us its h1 h2 => match us, its, h1, h2 with | [_, _, _], [_], _, _ => ⟨_, rfl, rfl⟩)
    cases hd
    exact hb
  have a__law_pool : At l.prog w K mg base CX0 1 "_law_pool" ["_law_script", "_law_k"] (spPool K) := at_of F15 (fun fd F => ok_pool F M.len) (fun _ _ _ _ _ _ us hl => match us, hl with | [_, _], _ => rfl)
  have a__law_take : At l.prog w K mg base CX0 1 "_law_take" ["_law_pool_here", "_law_sides"] spTake := at_of F16 (fun fd F => ok_take F) (fun _ _ _ _ _ _ us hl => match us, hl with | [_, _], _ => rfl)
  have a__law_joins : At l.prog w K mg base CX0 2 "_law_joins" ["_law_pool_here", "_law_many_here", "_law_limit"] spJoins := at_of F17 (fun fd F => ok_joins F M a__law_take) (fun _ _ _ _ _ _ us hl => match us, hl with | [_, _, _], _ => rfl)
  have a__law_near : At l.prog w K mg base CX0 1 "_law_near" ["_law_many_here", "_law_joins_here"] (spNear K) := at_of F18 (fun fd F => ok_lnear F M) (fun _ _ _ _ _ _ us hl => match us, hl with | [_, _], _ => rfl)
  have a__law_parts : At l.prog w K mg base CX0 1 "_law_parts" ["_law_many_here", "_law_joins_here"] (spLParts K) := at_of F19 (fun fd F => ok_lparts F M) (fun _ _ _ _ _ _ us hl => match us, hl with | [_, _], _ => rfl)
  have a__law_many : AtG l.prog w K mg base 11 "_law_many" [] (spMany K tL tD0 tD1) := ⟨fD0, fdD0, ok_many FD0 M T hne0 hne TD0 FE gE bE ES EE EN EM x3 x4 x5 x6 a___len__ MK GI bI, gD0, FD0.kp, FD0.fn.binds (fun _ _ _ _ _ _ us hl => match us, hl with | [], _ => rfl)⟩
  have a__law_refused : AtG l.prog w K mg base 11 "_law_refused" ["_law_pool_here", "_law_many_here", "_law_joins_here"] (spRF01 K tL tD0 tD1) := ⟨fD1, fdD1, ok_rf FD1 M T hne1 hne TD1 FE gE bE ES EE EN EM x0 x1 x2 a__law_take MK GI bI, gD1, FD1.kp, FD1.fn.binds (fun _ _ _ _ _ _ us hl => match us, hl with | [_, _, _], _ => rfl)⟩
  exact ok_law FL M n_str T hne0 hne1 TB FE gE bE ES EE EN EM x7 x8 x9 g5 g3 g6 a_size a_edges a___len__ a___eq__ a_components a_neighbours a___repr__ a__law_pool a__law_take a__law_joins a__law_near a__law_parts a__law_many a__law_refused MK GI bI
end K01

set_option Elab.async false
set_option linter.all false
open PySem PySem.W PyProof.Rows
set_option maxRecDepth 100000 in
set_option maxHeartbeats 0 in
theorem PySem.Challenge.cw_firenegatives_k01_graphs_made_holds : PySem.Challenge.rw_firenegatives_k01_graphs_made.Holds := by
  w_on; o_law; k_head; (case hw => w_witness2)
  k_fill
  refine FNX.walkGK (l := PySem.Challenge.rw_firenegatives_k01_graphs_made) (n := 63) (k := 12) (x := "_law_script") K01.spLawT ["law", "_law_many", "_law_refused"] rfl (by decide) rfl ⟨rfl, by decide, by decide⟩ (by decide +kernel) (fun w h Y => PySem.W.km_in_of Y) ?F
  case F =>
    intro w mg fa h KX G hmg
    refine' K01.all_mk KX G hmg
      (FNX.mkCl KX G ?_ (FNX.mkXC F.excBase_ValueError FNX.chainVal ?_ ?_ ?_ ?_ ?_ ?_ ?_ ?_ ?_ ?_ ?_) K01.tInvalidSize ?_ ?_ ?_ ?_ ?_) ?_
      (FNX.mkCl KX G ?_ (FNX.mkXC F.excBase_ValueError FNX.chainVal ?_ ?_ ?_ ?_ ?_ ?_ ?_ ?_ ?_ ?_ ?_) K01.tInvalidEdge ?_ ?_ ?_ ?_ ?_) ?_
      (FNX.mkCl KX G ?_ (FNX.mkXC F.excBase_ValueError FNX.chainVal ?_ ?_ ?_ ?_ ?_ ?_ ?_ ?_ ?_ ?_ ?_) K01.tInvalidNode ?_ ?_ ?_ ?_ ?_) ?_
      (FNX.mkCl KX G ?_ (FNX.mkXC F.excBase_OverflowError FNX.chainOver ?_ ?_ ?_ ?_ ?_ ?_ ?_ ?_ ?_ ?_ ?_) K01.tTooMany ?_ ?_ ?_ ?_ ?_) ?_
      ?_ ⟨?_, ?_, ?_, ?_⟩ ?_ ?_ ?_ (FNX.mkIn ?_ ?_ ?_ ?_ ?_ ?_ ?_ ?_)
      ?qgx0 ?qgx1 ?qgx2 ?qgx3 ?qgx4 ?qgx5 ?qgx6 ?qgx7
      (FNX.mkF KX G ?_ ?_ ?_ ?_) (FNX.mkF KX G ?_ ?_ ?_ ?_) (FNX.mkF KX G ?_ ?_ ?_ ?_) (FNX.mkF KX G ?_ ?_ ?_ ?_) (FNX.mkF KX G ?_ ?_ ?_ ?_) (FNX.mkF KX G ?_ ?_ ?_ ?_) (FNX.mkF KX G ?_ ?_ ?_ ?_) (FNX.mkF KX G ?_ ?_ ?_ ?_) (FNX.mkMt ?_ ?_ ?_ ?_ ?_) (FNX.mkMt ?_ ?_ ?_ ?_ ?_) (FNX.mkMt ?_ ?_ ?_ ?_ ?_) (FNX.mkMt ?_ ?_ ?_ ?_ ?_) (FNX.mkMt ?_ ?_ ?_ ?_ ?_) (FNX.mkMt ?_ ?_ ?_ ?_ ?_) (FNX.mkMt ?_ ?_ ?_ ?_ ?_) (FNX.mkF KX G ?_ ?_ ?_ ?_) (FNX.mkF KX G ?_ ?_ ?_ ?_) (FNX.mkF KX G ?_ ?_ ?_ ?_) (FNX.mkF KX G ?_ ?_ ?_ ?_) (FNX.mkF KX G ?_ ?_ ?_ ?_) (FNX.mkF KX G ?_ ?_ ?_ ?_) (FNX.mkFC KX G ?_ ?_ ?_ ?_ ?_ ?uD0 ?hd0 ?no0) (FNX.mkFC KX G ?_ ?_ ?_ ?_ ?_ ?uD1 ?hd1 ?no1) ?ne0 ?ne1 ?qhne (FNX.mkFC KX G ?_ ?_ ?_ ?_ ?_ ?u11 ?hdL ?noL)
      ?_ ?_ ?_ ?_ ?_ ?_ ?_ ?_ ?_ ?_ ?_ ?_ ?_ ?_ ?_ ?_ ?x0 ?x1 ?x2 ?x3 ?x4 ?x5 ?x6 ?x7 ?x8 ?x9
    any_goals k_is
    case uD0 => rfl
    case hd0 => kernel_rfl
    case no0 => kernel_rfl
    case uD1 => rfl
    case hd1 => kernel_rfl
    case no1 => kernel_rfl
    case u11 => rfl
    case hdL => kernel_rfl
    case noL => kernel_rfl
    case ne0 => decide
    case ne1 => decide
    case x0 => kernel_rfl
    case x1 => kernel_rfl
    case x2 => kernel_rfl
    case x3 => kernel_rfl
    case x4 => kernel_rfl
    case x5 => kernel_rfl
    case x6 => kernel_rfl
    case x7 => kernel_rfl
    case x8 => kernel_rfl
    case x9 => kernel_rfl
    all_goals first | decide | kernel_rfl
#print axioms PySem.Challenge.cw_firenegatives_k01_graphs_made_holds
