import PyProof.Rows.All
import Wide.All
import OpenK.AllK
import Wide.FinOn
import HandS.ForExc
import HandS.ExcInit
import HandS.IsInst
import KE.KExcIs
import HandS.ForMost
import KE.DataMinMax
import HandS.Defaults
import HandS.EndTab
import HandS.TryMany
import KE.KNestM
import HandS.Wide
import HandS.Flow
import HandS.Style
import HandS.Deep
import HandS.DeepEq
import HandS.SortRule
import HandS.SortInts
import HandS.Walk
import HandS.Nested
import PyProof.Conv_int_bool
import HandS.OwnEq
import HandS.Conv
import PyProof.Rows.TupDisplay
import HandS.FStr
import HandS.Star
import HandS.CallLocal
import HandS.Codes
import KE.KTryMore
import HandS.More
import KE.KStateDown
import HandS.Head0
import HandS.Head1
import HandS.Head2
import HandS.HeadHook4
import PySem.Challenge.RW_firenegatives_k71_boards_refuse
set_option Elab.async false
set_option linter.all false
set_option maxRecDepth 100000
set_option maxHeartbeats 4000000
namespace FNX
open PySem PySem.F
/-- no class of the chain refuses a store -/
def Pass (l : List Value) : Prop := ∀ self : Value, refuseLoop self "__setattr__" l = pure ()
theorem passRun : Pass [.type "RuntimeError", .type "Exception", .type "BaseException", .type "object"] := fun self => by kernel_rfl
theorem passOver : Pass [.type "OverflowError", .type "ArithmeticError", .type "Exception", .type "BaseException", .type "object"] := fun self => by kernel_rfl
theorem passLook : Pass [.type "LookupError", .type "Exception", .type "BaseException", .type "object"] := fun self => by kernel_rfl
theorem passIndex : Pass [.type "IndexError", .type "LookupError", .type "Exception", .type "BaseException", .type "object"] := fun self => by kernel_rfl
theorem passVal : Pass [.type "ValueError", .type "Exception", .type "BaseException", .type "object"] := fun self => by kernel_rfl
theorem Pass.ref {l : List Value} (h : Pass l) (c : Addr) : Pass (.ref c :: l) := fun self => by
  rw [refuseLoop_ref]
  exact h self
end FNX
namespace FNX
open PySem PySem.W PySem.Calls PyProof.Rows PySem.HandSPX
/-- what the chain of the class behind itself has, and has not -/
structure Chain (B : String) (bm : List Value) : Prop where
  base : bm.contains (.type B) = true
  obj : bm.contains (.type "object") = true
  noA : bm.contains (.type "AttributeError") = false
  noN : bm.contains (.type "NameError") = false
  some1 : bm.isEmpty = false
  pass : Pass bm
section
variable {prog : Program} {w : World} {A : Around} {E : Value → Shared → Prop} {R : Result → Shared → Prop}
variable {h : Heap} {g : Array GenState} {d : Drawn} {t : Nat} {os : OsState} {nm q : Str} {C N : Addr} {bs bm bmB : List Value}
variable {hdct : Bool} {sn : List Str} {sub : List Value} {ab : Bool} {col : Option Bool} {dd : Option Addr}
variable {k0 k1 k2 k3 k5 : Option Value} {B newId initId : String} {us : List Value} {kw : List (Str × Value)}
theorem newChecked {M : Model} {Q : Unit → Shared → Prop} (F : ExcBaseFacts B newId initId bmB) (L : Chain B bm)
    (hC : h.get? C = some (excClassObj nm q C N bs bm hdct sn sub ab col dd k0 k1 k2 k3 k5 newId)) (hq : Q () ⟨h, g, d, t, os⟩) :
    wpAny M A (checkBuiltinCall newId ⟨.ref C :: us, kw⟩) Q E ⟨h, g, d, t, os⟩ := by
  have in1 : (Value.ref C :: bm).contains (.type B) = true := by simp only [List.contains_cons, L.base, Bool.or_true]
  have star := F.noStar
  simp only [checkBuiltinCall, F.newKind, F.newSplit, F.newRow]
  repeat (first
    | refine wpAny_loadPart_at hC ?_
    | (refine wpAny_isSubtype_exc hC ?_; rw [in1])
    | refine wpAny_staticBase_exc hC ?_
    | refine wpAny_madeBy_exc hC ?_
    | simp only [bne_self_eq_false, Bool.false_eq_true, if_false]
    | wp_step)
  exact hq
theorem newMade (F : ExcBaseFacts B newId initId bmB) (L : Chain B bm)
    (hC : h.get? C = some (excClassObj nm q C N bs bm hdct sn sub ab col dd k0 k1 k2 k3 k5 newId)) (hl : us.length ≤ sizeLine)
    (hq : R (.ok (.ret (.ref (h.objs.size + 1)))) ⟨(h.push (kdv_tup us)).push (excO C h.objs.size), g, d, t, os⟩) :
    codeAny (model prog w) A (.builtin newId ⟨.ref C :: us, kw⟩) R ⟨h, g, d, t, os⟩ := by
  have ends := F.ends
  have in1 : (Value.ref C :: bm).contains (.type B) = true := by simp only [List.contains_cons, L.base, Bool.or_true]
  have no1 : (Value.ref C :: bm).contains (.type "AttributeError") = false := by simp only [List.contains_cons, L.noA]; rfl
  have no2 : (Value.ref C :: bm).contains (.type "NameError") = false := by simp only [List.contains_cons, L.noN]; rfl
  refine codeAny_builtinAt F.entry ?_
  unfold Builtin.«BaseException.__new__»
  refine PySem.wpAt_bind ?_
  show PySem.wpAt _ _ _ (stack >>= _) _ _ _
  refine PySem.wpAt_bind (PySem.wpAt_stack fun p below => PySem.wpAt_of_wpAny ?_)
  wp_walk
  refine PySem.wpAt_of_wpAny ?_
  rw [F.owner]
  repeat (first
    | with_reducible refine wpAny_madeHere_exc F.canon hC ?_
    | with_reducible refine wpAny_loadPart_at hC ?_
    | (with_reducible refine wpAny_isSubtype_exc hC ?_; first | rw [in1] | rw [no1] | rw [no2])
    | wp_step)
  show R _ _
  rw [Heap.size_push]
  exact hq
theorem typeCalled {fI : Addr} {Q : Fin → Shared → Prop} (F : ExcBaseFacts B newId initId bmB) (L : Chain B bm)
    (hC : h.get? C = some (excClassObj nm q C N bs bm hdct sn sub ab col dd k0 k1 k2 k3 k5 newId)) (hl : us.length ≤ sizeLine)
    (hi : Looks (model prog w) h (typeLookup (.ref C) "__init__") (some (.ref fI)))
    (hb : ∀ self, Looks (model prog w) h (bindSpecial (.ref fI) self) (.ref fI, [self]))
    (hq : codeAny (model prog w) A (.call (.ref fI) ⟨.ref (h.objs.size + 1) :: us, kw⟩)
      (fun r s' => match r with
        | .ok (.ret v) => v = .none ∧ Q (.done (.ret (.ref (h.objs.size + 1)))) s'
        | .ok _ => False
        | .error e => E e s')
      ⟨(h.push (kdv_tup us)).push (excO C h.objs.size), g, d, t, os⟩) :
    wpAny (model prog w) A (Builtin.«type.__call__» ⟨.ref C :: us, kw⟩) Q E ⟨h, g, d, t, os⟩ := by
  repeat (first | with_reducible refine wpAny_loadPart_at hC ?_ | with_reducible refine wpAny_madeBy_exc hC ?_ | wp_step)
  refine codeAny_call_builtin_code (Code.quiet_builtin _ F.quiet) (newChecked F L hC (newMade F L hC hl ?_))
  show wpAny _ _ _ _ _ _
  have old : ∀ b o, h.get? b = some o → ((h.push (kdv_tup us)).push (excO C h.objs.size)).get? b = some o :=
    fun b o e => Heap.get?_push_of_some _ (Heap.get?_push_of_some _ e)
  have hC2 := old _ _ hC
  have at1 : ((h.push (kdv_tup us)).push (excO C h.objs.size)).get? (h.objs.size + 1) = some (excO C h.objs.size) := by heap_get
  have self1 : (Value.ref C :: bm).contains (.ref C) = true := by simp
  have i2 := hi.keeps old
  have b2 := (hb (.ref (h.objs.size + 1))).keeps old
  unfold isInstance
  repeat (first
    | with_reducible refine wpAny_loadPart_at at1 ?_
    | (with_reducible refine wpAny_isSubtype_exc hC2 ?_; rw [self1])
    | wp_step)
  show wpAny _ _ (typeLookup (.ref C) _) _ _ _
  refine i2.at (wpAny_holding (wpAny_bind (b2.at ?_)))
  refine wpAny_bind (wpAny_call (codeAny_mono hq fun r s' z => ?_))
  rcases r with e | (v | _ | _ | _) <;> first | exact z | exact z.elim | skip
  obtain ⟨rfl, z⟩ := z
  first
    | exact wpAny_pure (wpAny_pure z)
    | (wp_walk; exact z)
theorem called {fI : Addr} (F : ExcBaseFacts B newId initId bmB) (L : Chain B bm)
    (hC : h.get? C = some (excClassObj nm q C N bs bm hdct sn sub ab col dd k0 k1 k2 k3 k5 newId)) (hl : us.length ≤ sizeLine)
    (hi : Looks (model prog w) h (typeLookup (.ref C) "__init__") (some (.ref fI)))
    (hb : ∀ self, Looks (model prog w) h (bindSpecial (.ref fI) self) (.ref fI, [self]))
    (hq : codeAny (model prog w) (A.under (.builtin "type.__call__" ⟨.ref C :: us, kw⟩)) (.call (.ref fI) ⟨.ref (h.objs.size + 1) :: us, kw⟩)
      (InitBack (h.objs.size + 1) R) ⟨(h.push (kdv_tup us)).push (excO C h.objs.size), g, d, t, os⟩) :
    codeAny (model prog w) A (.call (.ref C) ⟨us, kw⟩) R ⟨h, g, d, t, os⟩ := by
  have f1 := tc_lookup
  have f2 := tc_bind (.ref C)
  have ty : (⟨h, g, d, t, os⟩ : Shared).TypeIs (.ref C) "type" := ⟨_, hC, rfl⟩
  refine codeAny_of_tree ?_
  show wpAny _ _ (callAny (.ref C) _) _ _ _
  repeat (any_goals (first | assumption | with_reducible refine wpAny_loadPart_at hC ?_ | wp_step))
  refine ⟨rfl, codeAny_call_builtin_at (Code.quiet_builtin _ (by decide +kernel)) entry_typeCall
    (wpAny_check_type_call_sub hC (typeCalled F L hC hl hi hb (codeAny_mono hq fun r s' z => ?_)))⟩
  rcases r with e | (v | _ | _ | _) <;> exact z
end
section
open PySem.Builtin PySem.Builtin.ObjectAttr
variable {prog : Program} {w : World} {A : Around} {R : Result → Shared → Prop} {hp : Heap} {g : Array GenState} {d : Drawn} {t : Nat} {os : OsState}
theorem stored {K : Frag} {name : Str} {tk : Tok} {v : Value} {x C : Addr} {fv : Array Value} {cd : ClassData}
    (X : K.In hp) (hx : hp.get? x = some { cls := .ref C, data := .fields fv }) (hcd : clsIn K C = some cd)
    (hp1 : Pass cd.mro) (hob : cd.mro.contains (.type "object") = true) (hne : cd.mro.isEmpty = false)
    (hh : cd.hasDict = true) (ha : findIn K (.ref C) name = some none)
    (hq : ∀ h' tk' dx, (∀ b o, b ≠ x → hp.get? b = some o → h'.get? b = some o) → hp.objs.size ≤ dx → dx ≠ x →
      h'.get? x = some { cls := .ref C, dict := some dx, data := .fields fv } → h'.Ns1 dx (fun y => if y = name then some v else none) →
      R (.ok (.ret .none)) ⟨h', g, d, tk', os⟩) :
    codeAny (model prog w) A (.call (.builtin "object.__setattr__") ⟨[.ref x, .str name tk, v], []⟩) R ⟨hp, g, d, t, os⟩ := by
  have I : InstAt hp x { cls := .ref C, data := .fields fv } C none := ⟨hx, rfl, rfl, trivial⟩
  have SF := F.store_object
  have nx : x ≠ hp.objs.size := Nat.ne_of_lt (Heap.lt_size hx)
  have mro : mroIn K C (.type "object") = some true := by
    unfold mroIn
    rw [hcd, Option.bind_some, if_neg (by rw [hne]; decide), hob]
  have isO : Looks (model prog w) hp (isInstance (.ref x) (.type "object")) true := I.type.andThen (looks_mroIn X mro)
  refine codeAny_call_builtin SF.slot.plain SF.entry (@check_slot (model prog w) _ _ ⟨hp, g, d, t, os⟩ "object.__setattr__" "object"
    "__setattr__" (.ref x) [.str name tk, v] [] _ SF.kind SF.split isO (SF.args (.ref x) (.str name tk) v) ?_)
  have m1 : Looks (model prog w) hp (mroOf (.ref C)) cd.mro := (looks_clsIn X hcd).andThen .now
  have m2 : Looks (model prog w) hp (storeTaker? none) none := .now
  have m3 : Looks (model prog w) hp (classData C) cd := looks_clsIn X hcd
  rw [osa_eq, refuse_eq]
  refine wpAny_bind (wpAny_bind (I.type.at (wpAny_bind (m1.at ?_))))
  rw [hp1 _]
  refine wpAny_pure (wpAny_bind (I.type.at (wpAny_bind ((looks_findIn X ha).at (wpAny_bind (m2.at ?_))))))
  show wpAny _ _ (storeInOwnDict (.ref x) (.ref C) (.str name tk) name v false) _ _ _
  obtain ⟨nm, bs, mro, ns, qn, hd, sn, sb, ab, col, del⟩ := cd
  dsimp only at hh
  subst hh
  unfold storeInOwnDict ownDictForStores
  repeat (first
    | with_reducible refine store_in_new ?_ ?_
    | with_reducible refine wpAny_loadPart_at hx ?_
    | with_reducible refine m3.at ?_
    | wp_step)
  · exact ⟨_, #[], _, (Heap.get?_update_ne _ _ _ _ nx.symm).trans (Heap.get?_push_at rfl rfl), rfl, fun e he => absurd he (by simp), fun _ => rfl⟩
  · intro h' tk' hn' hs
    have hx1 : (hp.push { cls := .type "dict", data := .dict #[] }).get? x = some { cls := .ref C, data := .fields fv } :=
      Heap.get?_push_of_some _ hx
    refine hq h' tk' hp.objs.size (fun b o hb ho => ?_) (Nat.le_refl _) nx.symm ?_ hn'
    · refine (hs.2 b (Nat.ne_of_lt (Heap.lt_size ho))).trans ?_
      exact (Heap.get?_update_ne _ _ _ _ hb).trans (Heap.get?_push_of_some _ ho)
    · exact (hs.2 x nx).trans (Heap.get?_update_self _ hx1 rfl)
end
end FNX
set_option Elab.async false
set_option linter.all false
set_option maxRecDepth 100000
set_option maxHeartbeats 4000000
namespace FNX
open PySem PySem.Spec PyProof.Rows L2
/-- what the written part says of an exception class -/
structure XC (K : PySem.W.Frag) (C : Addr) : Prop where
  cls : ∃ nm q N bs bm sn sub ab col dd k0 k1 k2 k3 k5 B newId initId bmB,
    K.lookup C = some (excClassObj nm q C N bs bm true sn sub ab col dd k0 k1 k2 k3 k5 newId) ∧ ExcBaseFacts B newId initId bmB ∧ Chain B bm
  sa : PySem.W.findIn K (.ref C) "__setattr__" = some (some (.builtin "object.__setattr__"))
  ga : PySem.W.findIn K (.ref C) "__getattribute__" = some (some (.builtin "BaseException.__getattribute__"))
  gg : PySem.W.findIn K (.ref C) "__getattr__" = some none
  noV : PySem.W.findIn K (.ref C) "value" = some none
  exC : PySem.W.subIn K (.ref C) (.type "BaseException") = some true
  kC : PySem.W.keepIn K (.ref C) = true
  hdC : PySem.W.hasDictIn K C = true
  ic : PySem.W.isClsIn K C = true
  cC : PySem.W.findIn K (.ref C) "__class__" = some (some (.builtin "object.__class__"))
  mC : PySem.W.mroIn K C (.type "object") = some true
/-- an exception of the class at C with value = v -/
def XAt (H : Hp) (a C : Addr) (v : V) : Prop := ∃ d, H a = some (exo a C (some d)) ∧ H d = some (exd d [("value", v)])
theorem XAt.same {H H' : Hp} {a C : Addr} {v : V} (x : XAt H a C v) (s : Same H H') : XAt H' a C v := by
  obtain ⟨d, h1, h2⟩ := x
  exact ⟨d, s _ _ h1, s _ _ h2⟩
theorem mut_exo {a C : Addr} {d : Option Addr} {H : Hp} (e : H a = some (exo a C d)) : Mut (H a) := by
  rw [e]
  exact True.intro
section
variable {X : Cx} {pins : List (Addr × Obj)} {σ : L2.St} {H : Hp} {s : Shared} {a C : Addr} {y : V} {u : Value}
/-- self.value = y -/
theorem xst_new {Q : Unit → Shared → Prop} {E : Value → Shared → Prop} {A : Around} (T : XC X.K C) (I : Inv X pins σ H s) (e : H a = some (exo a C none)) (ry : RelV y u)
    (h : ∀ dx s', H dx = none → dx ≠ a → Inv X pins σ (upd (upd H dx (exd dx [("value", y)])) a (exo a C (some dx))) s' → Q () s') :
    wpAny (model X.prog X.w) A (setAttr (.ref a) "value" u) Q E s := by
  obtain ⟨nm, q, N, bs, bm, sn, sub, ab, col, dd, k0, k1, k2, k3, k5, B, newId, initId, bmB, hC, F, L⟩ := T.cls
  have hcl : PySem.W.clsIn X.K C = some ⟨nm, bs, .ref C :: bm, N, q, true, sn, sub, ab, col, false⟩ := by
    unfold PySem.W.clsIn
    rw [hC] <;> rfl
  obtain ⟨t1, ho⟩ := exo_at I.hok e
  obtain ⟨hp, g, d, t, os⟩ := s
  refine PySem.W.set_plain I.kIn (ox := { cls := .ref C, dict := none, data := .fields #[.ref t1, .none, .none, .none, .bool false, .none] })
    (od := none) ⟨ho, rfl, rfl, trivial⟩ T.sa ?_
  refine stored I.kIn ho hcl (L.pass.ref C) (by simp only [List.contains_cons, L.obj, Bool.or_true]) rfl rfl T.noV
    (fun h' tk' dx k dn dne hx hn => ?_)
  have fresh : H dx = none := I.hok.fresh dn
  have nd : ∀ {b : Addr} {o : Obj}, hp.get? b = some o → b ≠ dx := fun q => Nat.ne_of_lt (Nat.lt_of_lt_of_le (Heap.lt_size q) dn)
  have na : ∀ {b : Addr}, H b = none → b ≠ a := fun {b} n z => by
    rw [z, e] at n
    cases n
  have U : Un X.fs [] H (upd (upd H dx (exd dx [("value", y)])) a (exo a C (some dx))) hp h' := {
    keep := fun b o q n _ _ => k b o (na n) q
    slot := fun b o q n _ _ => ⟨o.slots, k b o (na n) q⟩
    free := fun b o q n _ => by
      rw [upd_ne (na n), upd_ne (nd q)]
      exact n
    there := fun b o q _ => by
      by_cases hb : b = a
      · exact ⟨_, by rw [hb]; exact hx⟩
      · exact ⟨o, k b o hb q⟩
    tups := fun b xs q => by
      rw [upd_ne (at_ne e q exo_tup), upd_ne (ne_of_none q fresh)]
      exact q
    frzs := fun b o v q => by
      rw [upd_ne (at_ne e q exo_frz), upd_ne (ne_of_none q fresh)]
      exact q
    tbls := fun b ps q => ⟨#[], by
      rw [upd_ne (at_ne e q exo_tbl), upd_ne (ne_of_none q fresh), q]
      simp⟩ }
  refine h dx _ fresh dne (I.un (t' := tk') U fun b o q => ?_)
  by_cases hb : b = a
  · subst hb
    rw [upd_same] at q
    cases q
    exact exo_ok hx
  rw [upd_ne hb] at q
  by_cases hd : b = dx
  · subst hd
    rw [upd_same] at q
    cases q
    exact exd_ok hn (relO_put (fs := []) ry fun g => True.intro)
  rw [upd_ne hd] at q
  refine (I.hok b o q).stay (fun c v hc z => k c v ?_ z) (fun c hc => ?_) (fun c xs hc => ?_)
  · rcases hc with hc | hc
    · rw [hc]
      exact hb
    · exact at_ne e hc exo_own
  · rw [upd_ne (at_ne e hc exo_own), upd_ne (ne_of_none hc fresh)]
    exact hc
  · rw [upd_ne (at_ne e hc exo_tup), upd_ne (ne_of_none hc fresh)]
    exact hc
end
/-- self.value = e, self a new exception -/
def tXst (K : PySem.W.Frag) (to te : TE) : TS := fun D σ H => te σ H fun y H1 => to σ H1 fun x H2 => ∃ a C : Addr, x = .ref a ∧ XC K C ∧
  H2 a = some (exo a C none) ∧ ∀ dx, H2 dx = none → dx ≠ a → D.nx σ (upd (upd H2 dx (exd dx [("value", y)])) a (exo a C (some dx)))
section
variable {X : Cx} {o e : Expr} {to te : TE} {p' pos : Pos}
theorem ps_xst (ho : PE X o to) (he : PE X e te) (hs : swapsWith e (some (.Attribute o "value" p')) pos.line X.env = pure false := by rfl) :
    PS X (.Assign [.Attribute o "value" p'] e pos) (tXst X.K to te) := by
  refine ⟨fun pins s σ H D I h => ?_⟩
  refine plainObj_wpAny_Assign_Attribute (thn (he.run pins s σ H _ I h) fun v s1 hv => ?_) hs
  obtain ⟨y, H1, I1, r1, q1⟩ := hv
  refine thn (ho.run pins s1 σ H1 _ I1 q1) fun u s2 hu => ?_
  obtain ⟨x, H2, I2, r2, a, C, rfl, T, ea, q⟩ := hu
  obtain rfl : u = Value.ref a := r2
  exact xst_new T I2 ea r1 fun dx s' n ne J => ⟨σ, _, J, q dx n ne⟩
end
/-- what `__init__` promises -/
def spX (C : Addr) : Sp := fun vs H Q _ => ∃ (a : Addr) (v : V), vs = [.ref a, v] ∧ H a = some (exo a C none) ∧
  ∀ dx, H dx = none → dx ≠ a → Q .non (upd (upd H dx (exd dx [("value", v)])) a (exo a C (some dx)))
section
variable {P : Program} {w : World} {K : PySem.W.Frag} {mg : Str → Option Value} {base : Heap}
theorem xinit_ok {st : Stmt} {qual : Str} {f C : Addr} {fd : FuncData} (F : Fun K "__init__" qual st f fd)
    (S : FnScope ["self", "value"] ["self", "value"] (defScope st))
    (hb : ∃ q1 q2 q3 q4, defBody st = [.Assign [.Attribute (.Name "self" q1) "value" q2] (.Name "value" q3) q4]) (T : XC K C) :
    FnOk P w K mg base CX0 1 f fd ["self", "value"] (spX C) := by
  obtain ⟨q1, q2, q3, q4, hb⟩ := hb
  have vis : ∀ x ∈ (["self", "value"] : List Str), Vis (defScope st) x := fun x hx => by
    rcases S.par x hx with z | z
    · exact .inl z
    · exact .inr (.inl z)
  refine F.ok S (fun vs H Q E h => ?_) (fun cdv A outer s H vs Q E hr h => ?_)
  · obtain ⟨a, v, rfl, _⟩ := h
    rfl
  · obtain ⟨a, v, rfl, ha, k⟩ := h
    rw [hb]
    refine ⟨_, pss_one (ps_xst (pv 0 rfl (vis _ (by simp))) (pv 1 rfl (vis _ (by simp)))), ?_⟩
    exact ⟨_, rfl, _, rfl, a, C, rfl, T, ha, fun dx n ne => k dx n ne⟩
end
/-- the class x of the program stands at C; its `__init__` keeps its promise -/
structure Ex (P : Program) (w : World) (K : PySem.W.Frag) (mg : Str → Option Value) (base : Heap) (x : Str) (C : Addr) : Prop where
  xc : XC K C
  mgC : mg x = some (.ref C)
  mkd : ∃ fI fd, PySem.W.findIn K (.ref C) "__init__" = some (some (.ref fI)) ∧ PySem.W.typeIn K (.ref fI) = some (.type "function") ∧
    FnOk P w K mg base CX0 1 fI fd ["self", "value"] (spX C) ∧ Binds K fd ["self", "value"] [] ∧
    ∀ (s : Shared) (u v : Value), BindsTo s fd ⟨[u], [(("value" : Str), v)]⟩ ((["self", "value"] : List Str).zip [u, v])
end FNX
set_option Elab.async false
set_option linter.all false
set_option maxRecDepth 100000
set_option maxHeartbeats 4000000
namespace FNX
open PySem PySem.Spec PyProof.Rows L2
abbrev ixTail : List Value := [.type "IndexError", .type "LookupError", .type "Exception", .type "BaseException", .type "object"]
def sp0 (C : Addr) : Sp := fun vs H Q _ => ∃ (a : Addr), vs = [.ref a] ∧ H a = some (exo a C none) ∧ Q .non H
structure XC0 (K : PySem.W.Frag) (C : Addr) : Prop where
  xc : XC K C
  cls : ∃ nm q N bs sn sub ab col dd k0 k1 k2 k3 k5, K.lookup C = some (excClassObj nm q C N bs ixTail true sn sub ab col dd k0 k1 k2 k3 k5 "IndexError.__new__")
  vI : PySem.W.findCls K (.type "IndexError") (.type "type") "__init__" = some (.val (.builtin "IndexError.__init__"))
structure Ex0 (P : Program) (w : World) (K : PySem.W.Frag) (mg : Str → Option Value) (base : Heap) (x : Str) (C : Addr) : Prop where
  x0 : XC0 K C
  mgC : mg x = some (.ref C)
  mkd : ∃ fI fd, PySem.W.findIn K (.ref C) "__init__" = some (some (.ref fI)) ∧ PySem.W.typeIn K (.ref fI) = some (.type "function") ∧
    FnOk P w K mg base CX0 1 fI fd ["self"] (sp0 C) ∧ Binds K fd ["self"] []
theorem typIx : typeOf (.type "IndexError") = pure (.type "type") := by kernel_rfl
def tIxI (K : PySem.W.Frag) (ta : TA) : TE := fun σ H Q => ta σ H fun vs H1 => ∃ (a C : Addr), vs = [.ref a] ∧ XC0 K C ∧ H1 a = some (exo a C none) ∧ Q .non H1
section
variable {X : Cx} {e : Expr} {ta : TA} {p1 p2 pos : Pos}
theorem pe_ixinit {pl : Sem Bool} (hg : Gl X "IndexError") (hm : X.mg "IndexError" = none)
    (vI : PySem.W.findCls X.K (.type "IndexError") (.type "type") "__init__" = some (.val (.builtin "IndexError.__init__"))) (ha : PA X [e] ta)
    (hc : eval (.Call (.Attribute (.Name "IndexError" p1) "__init__" p2) [e] [] pos) X.env = (do
      let ov ← eval (.Name "IndexError" p1) X.env
      standAt p2.atName
      let (f, first) ← holding [ov] (getMethod ov "__init__" pl)
      callWith pos f first (backTo pos (starEach [e] X.env)) (backToKw pos (keywordEach [] X.env))) := by rfl)
    (he : starEach [e] X.env = (false, eval e X.env) :: starEach [] X.env := by rfl) (hpl : (backTo pos (starEach [] X.env)).any (·.1) = false := by rfl) :
    PE X (.Call (.Attribute (.Name "IndexError" p1) "__init__" p2) [e] [] pos) (tIxI X.K ta) := by
  refine ⟨fun pins s σ H Q I h => ?_⟩
  refine PySem.W.methodCall_KW (ld_blt I hg hm PyProof.Rows.Boot.«IndexError» ?_ (by decide) (by decide)) hc
  obtain ⟨m, fr⟩ := I.fr
  refine PySem.W.method_type fr I.ok.mod.kin typIx (by decide +kernel) vI (by decide +kernel) ?_
  show wpAny _ _ (callWith pos (Value.builtin "IndexError.__init__") [] (backTo pos (starEach [e] X.env)) []) _ _ _
  refine PyProof.Rows.callWith_method1 (thn (ha.run pos pins _ σ H _ (I.tok _) h) fun us s1 hu => ?_) he hpl
  obtain ⟨vs, H1, I1, r1, a, C, rfl, T, ea, q⟩ := hu
  obtain ⟨nm, qn, N, bs, sn, sub, ab, col, dd, k0, k1, k2, k3, k5, hC⟩ := T.cls
  obtain ⟨t1, ho⟩ := exo_at I1.hok ea
  cases r1 with
  | @cons _ u0 _ ur ra rw' =>
    cases rw'
    obtain rfl : u0 = Value.ref a := ra
    obtain ⟨hp, g, d, t, os⟩ := s1
    refine wpAny_call (PySem.HandSPX.init_base F.excBase_IndexError (fun Y => rfl) (I1.kIn _ _ hC) ho (by rw [sizeLine_eq]; exact (by decide : 0 ≤ 16777216)) fun h' t2 k hx => ?_)
    have J := I1.write (t' := t) (x := a) (e := a) (o := exo a C none) (mut_exo ea) (.inl rfl) k ⟨_, hx⟩ (exo_ok hx)
    have eu : upd H1 a (exo a C none) = H1 := by
      funext b
      by_cases hb : b = a
      · rw [hb, upd_same, ea]
      · rw [upd_ne hb]
    rw [eu] at J
    exact ⟨.non, H1, J, rfl, q⟩
end
end FNX
set_option Elab.async false
set_option linter.all false
set_option maxRecDepth 100000
set_option maxHeartbeats 4000000
namespace FNX
open PySem PySem.Spec PyProof.Rows L2
/-- what stands at a value, as data: HandS's, and a dict of texts and ints -/
inductive Rd (K : PySem.W.Frag) (H : Hp) : V → PyData → Prop
  | dat {v : V} {d : PyData} (h : Dp K H v d) : Rd K H v d
  | dct {a : Addr} (kvs : List (Str × Int)) (h : H a = some (.dK (kvs.map fun p => (Sum.inr p.1, V.int p.2)))) :
      Rd K H (.ref a) (.dict (kvs.map fun p => (.str p.1, .int p.2)))
mutual
theorem dpNoDict {K : PySem.W.Frag} {H : Hp} : ∀ (d : PyData) (v : V), Dp K H v d → d.hasDict = false
  | .none, _, _ => by simp only [PyData.hasDict]
  | .bool _, _, _ => by simp only [PyData.hasDict]
  | .int _, _, _ => by simp only [PyData.hasDict]
  | .str _, _, _ => by simp only [PyData.hasDict]
  | .list xs, _, h => by
    cases h with
    | lst _ hs =>
      simp only [PyData.hasDict]
      exact dpNoDictAll xs _ hs
  | .tuple xs, _, h => by
    cases h with
    | tup _ hs =>
      simp only [PyData.hasDict]
      exact dpNoDictAll xs _ hs
  | .dict _, _, h => by cases h
theorem dpNoDictAll {K : PySem.W.Frag} {H : Hp} : ∀ (ds : List PyData) (vs : List V), DpAll K H vs ds → PyData.hasDictAll ds = false
  | [], _, _ => by simp only [PyData.hasDictAll]
  | d :: ds, _, h => by
    cases h with
    | cons h1 h2 => simp only [PyData.hasDictAll, dpNoDict d _ h1, dpNoDictAll ds _ h2, Bool.or_self]
end
theorem readsKeys {P : Program} {w : World} {h : Heap} : ∀ (kvs : List (Str × Int)) (vs : List (Key × Value)) (es : List DictEntry),
    KV (kvs.map fun p => ((Sum.inr p.1 : Key), V.int p.2)) vs → Pairs (mixKind P w) es vs →
    ReadsAll h (es.map (·.key)) ((kvs.map fun p => ((PyData.str p.1, PyData.int p.2) : PyData × PyData)).map (·.1)) [] ∧
    ReadsAll h (es.map (·.val)) ((kvs.map fun p => ((PyData.str p.1, PyData.int p.2) : PyData × PyData)).map (·.2)) []
  | [], _, _, r, p => by
    cases r
    cases p
    exact ⟨.nil, .nil⟩
  | (x, i) :: kvs, _, _, r, p => by
    cases r with
    | cons r1 r2 =>
      rename_i q vs
      obtain ⟨k, u⟩ := q
      obtain ⟨rfl, t, rfl⟩ := r1
      cases p with
      | @cons e _ es _ p1 p3 p2 =>
        obtain ⟨h1, h2⟩ := readsKeys (h := h) kvs vs _ r2 p2
        have p1 : keyIs (Sum.inr x) _ = true := p1
        rcases keyIs_shape p1 with ⟨j, t', e1, e2⟩ | ⟨y, t', e1, e2⟩
        · cases e1
        · injection e1 with e1
          subst e1
          constructor
          · show ReadsAll h (e.key :: _) _ []
            rw [e2]
            exact ReadsAll.cons (as := []) (.str x t') h1
          · show ReadsAll h (e.val :: _) _ []
            rw [p3]
            exact ReadsAll.cons (as := []) (.int i t) h2
section
variable {X : Cx} {pins : List (Addr × Obj)} {σ : L2.St} {H : Hp} {s : Shared}
theorem rdReads (I : Inv X pins σ H s) {v : V} {d : PyData} {u : Value} (h : Rd X.K H v d) (r : RelV v u) :
    ∃ as, Reads s.heap u d as ∧ (d.hasDict = true → sysModules ∉ as) := by
  cases h with
  | dat h =>
    obtain ⟨as, q⟩ := Dp.reads I d v u h r
    exact ⟨as, q, PyData.noDict_hsm (dpNoDict d v h)⟩
  | @dct a kvs h =>
    obtain rfl : u = Value.ref a := r
    obtain ⟨_, hs, vs, rv, o, es, ep, ho, hx, hd, _, hp, _⟩ := (show ObjOk X.prog X.w H s.heap a (.dK _) from I.hok a _ h)
    obtain ⟨h1, h2⟩ := readsKeys (h := s.heap) kvs vs es.toList rv hp
    refine ⟨_, Reads.dict ho hx.1 hd h1 h2, fun _ z => ?_⟩
    have z : sysModules ∈ [a] := by simpa using z
    have z := List.mem_singleton.mp z
    rw [← z] at hs
    simp at hs
/-- repr(x) -/
def rRepr (K : PySem.W.Frag) : List V → Hp → VK → Prop := fun xs H Q => ∃ v d, xs = [v] ∧ Rd K H v d ∧ d.showable = true ∧ d.depth ≤ 60 ∧
  d.shown.length ≤ sizeLine ∧ Q (.str d.shown) H
theorem call_repr (hg : X.A.guards = some []) (hu : X.A.units + 64 < cLine) : CallR X (.builtin "repr") (rRepr X.K) := by
  intro pins s σ H xs us Q I r h
  obtain ⟨v, d, rfl, hd, h1, h2, h3, q⟩ := h
  cases r with
  | cons r1 r2 =>
    cases r2
    rename_i u
    obtain ⟨as, hr, hsm⟩ := rdReads I hd r1
    have done : ∀ h' u' tk, (∀ b o, s.heap.get? b = some o → h'.get? b = some o) → EP X pins σ Q (.str d.shown u') { s with heap := h', toks := tk } :=
      fun h' u' tk k => ⟨.str d.shown, H, I.un (t' := tk) (Un.kept k) (I.hok.kept k), ⟨u', rfl⟩, q⟩
    have fin : ∀ {x : Str} {u' : Tok}, x = d.shown → EP X pins σ Q (.str x u') { s with toks := s.toks + 1 } := fun {x u'} e => by
      rw [e]
      exact done s.heap u' (s.toks + 1) fun _ _ z => z
    cases hr with
    | none => exact PySem.P.repr_of_none (fin (by simp only [PyData.shown]))
    | bool b => exact PySem.P.repr_of_bool (fin (by simp only [PyData.shown]))
    | int i t => exact PySem.P.repr_of_int (by simpa [PyData.showable] using h1) (fin (by simp only [PyData.shown]))
    | str x t => exact PySem.P.repr_of_str (fin (by simp only [PyData.shown])) (by simpa only [PyData.shown] using h3)
    | list a1 a2 a3 a4 => exact repr_of_reads' (.list a1 a2 a3 a4) h1 hsm hg (by omega) (fun _ _ e => e) (fun h' u tk k => done h' u tk k) h3
    | tuple a1 a2 a3 a4 => exact repr_of_reads' (.tuple a1 a2 a3 a4) h1 hsm hg (by omega) (fun _ _ e => e) (fun h' u tk k => done h' u tk k) h3
    | dict a1 a2 a3 a4 a5 => exact repr_of_reads' (.dict a1 a2 a3 a4 a5) h1 hsm hg (by omega) (fun _ _ e => e) (fun h' u tk k => done h' u tk k) h3
end
structure GOk (P : Program) (w : World) (K : PySem.W.Frag) (mg : Str → Option Value) (base : Heap) (k : Nat) (f : Addr) (fd : FuncData) (ps : List Str) (sp : Sp) : Prop where
  len : ∀ vs H Q E, sp vs H Q E → vs.length = ps.length
  run : ∀ (A : Around) (outer : List Env) (s : Shared) (H : Hp) (args : Args) (us : List Value) (vs : List V) (Q : VK) (E : XK), A.guards = some [] → Room k A →
    Env0 P w K mg base A outer s H → BindsTo s fd args (ps.zip us) → Vals vs us → sp vs H Q E → codeAny (model P w) A (.call (.ref f) args) (CR CX0 outer P w H s Q E) s
end FNX
set_option Elab.async false
set_option linter.all false
set_option maxRecDepth 100000
set_option maxHeartbeats 4000000
namespace FNX
open PySem PySem.Spec PyProof.Rows L2
section
variable {P : Program} {w : World} {K : PySem.W.Frag} {mg mb : Str → Option Value} {k : Nat} {fa a : Addr} {fd : FuncData} {x : Str} {sp : Sp} {s : Shared} {vs : List Value} {ns : List Int}
abbrev LawEnd (s : Shared) (r : Result) (s' : Shared) : Prop := r = .ok (.ret (.bool true)) ∧ OldK s.heap s'.heap ∧ s'.os = s.os ∧ AllBare s'.gens
end
end FNX
set_option Elab.async false
set_option linter.all false
set_option maxRecDepth 100000
set_option maxHeartbeats 4000000
namespace FNX
open PySem PySem.Spec PyProof.Rows L2
theorem range_more {α : Type} (n : Nat) (f : Nat → α) : (List.range (n + 1)).map f = (List.range n).map f ++ [f n] := by
  rw [List.range_succ, List.map_append]
  rfl
theorem same_upd {H : Hp} {p : Addr} {o : HO} (h : H p = none) : Same H (upd H p o) := fun b u e => by
  rw [upd_ne (ne_of_none e h)]
  exact e
/-- a turn's end: the element y, the heap behind it -/
def LcT (B : Hp) (D : Addr) (f : Nat → V) (i : Nat) (y : V) (H : Hp) : Prop := ∃ acc, H D = some (.lst acc) ∧ acc.length < sizeLine ∧
  (Same B (upd H D (.lst (acc ++ [y]))) ∧ upd H D (.lst (acc ++ [y])) D = some (.lst ((List.range (i + 1)).map f)))
theorem lcT {B H H' : Hp} {D : Addr} {f : Nat → V} {i : Nat} {y : V} (hD : B D = none) (hi : i < 1000000) (sB : Same B H) (hd : H D = some (.lst ((List.range i).map f)))
    (s : Same H H') (e : y = f i) : LcT B D f i y H' := by
  refine ⟨_, s _ _ hd, ?_, fun b o z => ?_, ?_⟩
  · rw [List.length_map, List.length_range]
    exact Nat.lt_trans hi (by rw [sizeLine_eq]; decide)
  · rw [upd_ne (ne_of_none z hD)]
    exact s _ _ (sB _ _ z)
  · rw [upd_same, range_more, e]
section
variable {K : PySem.W.Frag} {te : TE} {vs : List Nat} {σ : L2.St} {B : Hp} {D : Addr} {Qd : Hp → Prop}
theorem lc_map {a : Addr} {xs : List V} {j : Nat} (f : Nat → V) (hD : B D = none) (hl : SqL K B a xs)
    (hw : ∀ x, wipe ((wipe σ vs).set j (some x)) vs = wipe σ vs)
    (hs : ∀ i x H, xs[i]? = some x → Same B H → H D = some (.lst ((List.range i).map f)) → te ((wipe σ vs).set j (some x)) H (LcT B D f i))
    (hd : ∀ H, Same B H → H D = some (.lst ((List.range xs.length).map f)) → Qd H) :
    ∃ W : Nat → Nat → Hp → Prop, (∃ m, W 0 m (upd B D (.lst []))) ∧ ∀ i m H, W i m H →
      ((Itl K a).stop i H ∧ Qd H) ∨ ((Itl K a).go i H ∧ ∃ Nx : Hp → Prop, (∀ H', Nx H' → ∃ m', m' < m ∧ W (i + 1) m' H') ∧
        ∀ x H', (Itl K a).yld i H x H' → gName j x (wipe σ vs) H' fun σ2 H2 => wipe σ2 vs = wipe σ vs ∧ tYes σ2 H2 fun b H3 =>
          if b = true then te σ2 H3 fun y H4 => ∃ acc, H4 D = some (.lst acc) ∧ acc.length < sizeLine ∧ Nx (upd H4 D (.lst (acc ++ [y]))) else Nx H3) :=
  lc_list (K := K) (a := a) (xs := xs) (fun i H => Same B H ∧ H D = some (.lst ((List.range i).map f))) ⟨same_upd hD, upd_same⟩
    (fun i H _ h => h.1.seq hl) (fun i x H hx h => ⟨hw x, hs i x H hx h.1 h.2⟩) fun H h => hd H h.1 h.2
end
end FNX
set_option Elab.async false
set_option linter.all false
set_option maxRecDepth 100000
set_option maxHeartbeats 4000000
namespace FNX
open PySem PySem.Spec PyProof.Rows L2
section
variable {X : Cx} {x : Str} {C : Addr} {e : Expr} {ta : TA} {p pos : Pos}
/-- C(e), to be raised: its own dict d is new and holds the value -/
def tMkX (C : Addr) (ta : TA) : L2.St → Hp → XK → Prop := fun σ H Q => ta σ H fun vs H1 => ∃ v, vs = [v] ∧
  ∀ d H', H1 d = none → Same H1 H' → H' d = some (.xd [(("value" : Str), v)]) → Q (.ref C) (some d) H'
theorem pmk_x (T : Ex X.prog X.w X.K X.mg X.base x C) (tyC : PySem.W.typeIn X.K (.ref C) = some (.type "type")) (hr : Room 2 X.A) (hg : Gl X x) (ha : PA X (e :: []) ta)
    (hdb : (x == ("__debug__" : Str)) = false := by decide) (he : starEach (e :: []) X.env = (false, eval e X.env) :: starEach [] X.env := by rfl)
    (hpl : (backTo pos (starEach [] X.env)).any (·.1) = false := by rfl) : PMk X (.Call (.Name x p) [e] [] pos) (tMkX C ta) := by
  intro pins s σ H Q I h
  refine wpAny_Call_Name_kw (ld_glob I hg T.mgC ?_ hdb)
  refine PySem.W.callWith_K (h₀ := X.base) I.ok.mod.kin T.xc.kC (thn (ha.run pos pins s σ H _ I h) fun us s1 hu => ?_) he hpl
  obtain ⟨vs, H1, I1, r1, v, rfl, q⟩ := hu
  refine ⟨I1.kIn, ?_⟩
  obtain ⟨fI, fd, iC, tI, F1, hb, hk⟩ := T.mkd
  obtain ⟨nm, qn, N, bs, bm, sn, sub, ab, col, dd, k0, k1, k2, k3, k5, B, newId, initId, bmB, hC, F, L⟩ := T.xc.cls
  cases r1 with
  | cons rv rn =>
    cases rn
    rename_i u
    show wpAny _ _ (call (.ref C) [u]) _ _ _
    obtain ⟨hp, g, dr, tk, os⟩ := s1
    have sz : hp.objs.size ≤ hp.objs.size + 1 := Nat.le_succ _
    have hn : H1 (hp.objs.size + 1) = none := I1.hok.fresh sz
    have old : ∀ b o, hp.get? b = some o → ((hp.push (PySem.W.kdv_tup [u])).push (PySem.HandSPX.excO C hp.objs.size)).get? b = some o :=
      fun b o z => Heap.get?_push_of_some _ (Heap.get?_push_of_some _ z)
    have at1 : ((hp.push (PySem.W.kdv_tup [u])).push (PySem.HandSPX.excO C hp.objs.size)).get? (hp.objs.size + 1) =
        some (PySem.HandSPX.excO C hp.objs.size) := by heap_get
    have I2 : Inv X pins σ (upd H1 (hp.objs.size + 1) (exo (hp.objs.size + 1) C none))
        ⟨(hp.push (PySem.W.kdv_tup [u])).push (PySem.HandSPX.excO C hp.objs.size), g, dr, tk, os⟩ :=
      I1.laid (t' := tk) (o := exo (hp.objs.size + 1) C none) old sz (exo_ok at1)
    have r2 : Vals [V.ref (hp.objs.size + 1), v] [Value.ref (hp.objs.size + 1), u] := .cons rfl (.cons rv .nil)
    have hsp : spX C [V.ref (hp.objs.size + 1), v] (upd H1 (hp.objs.size + 1) (exo (hp.objs.size + 1) C none))
        (fun z H2 => z = .non ∧ ∃ d : Addr, H2 (hp.objs.size + 1) = some (exo (hp.objs.size + 1) C (some d)) ∧ H2 d = some (exd d [("value", v)]) ∧ H1 d = none ∧
          Q (.ref C) (some d) (upd (del H2 (hp.objs.size + 1)) d (.xd [("value", v)]))) (fun _ _ _ => False) := by
      refine ⟨_, _, rfl, upd_same, fun dx n ne => ⟨rfl, dx, upd_same, by rw [upd_ne ne, upd_same], ?_, ?_⟩⟩
      · rw [upd_ne ne] at n
        exact n
      rw [upd_ne ne] at n
      refine q dx _ n (fun b o z => ?_) upd_same
      have h1 : b ≠ dx := ne_of_none z n
      have h2 : b ≠ hp.objs.size + 1 := ne_of_none z hn
      rw [upd_ne h1, del_ne h2, upd_ne h2, upd_ne h1, upd_ne h2]
      exact z
    refine wpAny_call (called F L (I1.kIn _ _ hC) (by rw [sizeLine_eq]; exact (by decide : 1 ≤ 16777216)) (PySem.W.looks_findIn I1.kIn iC) (fun self => PySem.W.bind_fn I1.kIn self tI)
      (codeAny_mono (F1.run _ X.stack _ _ ⟨[Value.ref (hp.objs.size + 1), u], []⟩ [Value.ref (hp.objs.size + 1), u] _ _ (fun _ _ _ => False) (hr.make C [u] [])
        (I2.env0.make C [u] []) (hb _ [Value.ref (hp.objs.size + 1), u] I2.kIn rfl) r2 hsp) fun r s' hq' => ?_))
    cases r with
    | error er => exact False.elim hq'
    | ok fl =>
      cases fl with
      | ret u' =>
        obtain ⟨z, H2, os2, bare2, un2, hok2, rz, ez, d, ea, ed, hd1, q2⟩ := hq'
        subst ez
        obtain ⟨h2, g2, d2, t2, os'⟩ := s'
        exact ⟨rz, mk_end (raises_own T.xc.exC tyC) I1 sz old un2 hok2 os2 bare2 ea ed hd1 q2⟩
      | next => exact False.elim hq'
      | brk => exact False.elim hq'
      | cont => exact False.elim hq'
/-- raise C(e) -/
def tRaiseX (C : Addr) (W : WX) (ta : TA) : TS := fun _ σ H => tMkX C ta σ H fun cls d H' => W cls d σ H'
theorem ps_raiseX {W : WX} {pos2 : Pos} (hc : X.calm = true) (T : Ex X.prog X.w X.K X.mg X.base x C) (tyC : PySem.W.typeIn X.K (.ref C) = some (.type "type")) (hr : Room 2 X.A) (tk : Takes X W)
    (hg : Gl X x) (ha : PA X (e :: []) ta) (hdb : (x == ("__debug__" : Str)) = false := by decide)
    (he : starEach (e :: []) X.env = (false, eval e X.env) :: starEach [] X.env := by rfl) (hpl : (backTo pos (starEach [] X.env)).any (·.1) = false := by rfl) :
    PS X (.Raise (some (.Call (.Name x p) [e] [] pos)) none pos2) (tRaiseX C W ta) := ps_raise hc tk (pmk_x T tyC hr hg ha hdb he hpl)
/-- e.value, e the exception that the suite holds at a -/
def tByX (C : Addr) (a : Addr) (cls : Value) (d : Option Addr) (te : TE) : TE := fun σ H Q => te σ H fun y H1 => y = .ref a ∧ cls = .ref C ∧ ∃ (dd : Addr) (v : V), d = some dd ∧
  H1 dd = some (.xd [(("value" : Str), v)]) ∧ Q v H1
theorem pe_byX {a : Addr} {oe : Obj} {cls : Value} {d : Option Addr} {pn : List (Addr × Obj)} {te : TE} (T : XC X.K C) (hz : Zc cls d oe) (hf : ∃ vs, oe.data = .fields vs) (he : PE (X.suite a ((a, oe) :: pn)) e te)
    (hb : attributeBase e "value" X.env (eval e X.env) = eval e X.env := by rfl) : PE (X.suite a ((a, oe) :: pn)) (.Attribute e "value" pos) (tByX C a cls d te) := by
  refine ⟨fun pins s σ H Q I h => ?_⟩
  refine attr_of hb (thn (he.run pins s σ H _ I h) fun u s1 hh => ?_)
  obtain ⟨y, H1, I1, rx, rfl, rfl, dd, v, rfl, ea, q⟩ := hh
  obtain rfl : u = Value.ref a := rx
  obtain ⟨ha, _⟩ := I1.pin (a, oe) (List.mem_append_left _ List.mem_cons_self)
  obtain ⟨vs, hd⟩ := hf
  obtain ⟨mA, hns, hr⟩ := (show ObjOk X.prog X.w H1 s1.heap dd (.xd [(("value" : Str), v)]) from I1.hok dd _ ea)
  obtain ⟨od, ho, hl⟩ := lookIn_ns hns
  have l : List.lookup ("value" : Str) [(("value" : Str), v)] = some v := by simp [List.lookup]
  obtain ⟨u, hu, ru⟩ := RelO.some_of (v := v) (o := mA "value") (by rw [← l]; exact hr "value")
  have J : PySem.W.InstAt s1.heap a oe C (some od) := ⟨ha, hz.1, by unfold PySem.W.notCls; rw [hd] <;> rfl, by rw [hz.2]; exact ho⟩
  exact HandSPX.exc_get I1.kIn J T.ga T.gg T.exC (PySem.W.findObj_own T.hdC T.noV rfl (by rw [hl, hu])) (handed_of ru) ⟨v, H1, I1.tok _, ru, q⟩
end
end FNX
set_option Elab.async false
set_option linter.all false
set_option maxRecDepth 100000
set_option maxHeartbeats 4000000
namespace FNX
open PySem PySem.Spec PyProof.Rows L2
open PySem.W (AlikeAll min_tuple_data max_tuple_data minD maxD minD_ints maxD_ints)
section
variable {X : Cx}
theorem pget_list : PGet X (fun o i H Q => rIxL X.K o i H Q) := by
  intro pins s σ H o i ov iv Q I ro ri h
  obtain ⟨p, xs, k, z, rfl, rfl, hq, he, q⟩ := h
  obtain rfl : ov = Value.ref p := ro
  obtain ⟨t, rfl⟩ := ri
  obtain ⟨its, r, pl, hz⟩ := I.list hq
  obtain ⟨j, h1, h2, h3, h4, h5⟩ := atI_get he
  obtain ⟨w, ew, rw'⟩ := r.get h2
  have hl := r.length
  have hn := line63
  have fin : EP X pins σ Q w s := ⟨z, H, I, rw', q⟩
  by_cases h0 : 0 ≤ k
  · have hj : k.toNat = j := by
      rw [seqIndex_of h0 h5] at h1
      exact Option.some.inj h1
    exact wpAny_getItem_list pl.isList h0 (by omega) (by rw [hj]; simpa using ew) fin
  · have hj : (k + (its.toArray.size : Int)).toNat = j := by
      rw [seqIndex_neg (by omega) h4] at h1
      rw [List.size_toArray, ← hl]
      exact Option.some.inj h1
    exact wpAny_getItem_list_neg pl.isList (by omega) (by rw [List.size_toArray] <;> omega) (by omega) (by rw [hj]; simpa using ew) fin
theorem pairReads {h : Heap} {i j : Int} {us : List Value} (r : Vals [V.int i, V.int j] us) : ReadsAll h us [.int i, .int j] [] := by
  cases r with
  | cons r1 r2 =>
    cases r2 with
    | cons r2 r3 =>
      cases r3
      obtain ⟨t1, rfl⟩ := r1
      obtain ⟨t2, rfl⟩ := r2
      exact ReadsAll.cons (as := []) (.int i t1) (ReadsAll.cons (as := []) (.int j t2) .nil)
theorem pairAlike (i j : Int) : AlikeAll [.int i, .int j] := by
  refine ⟨fun x hx y hy => ?_, fun x hx => ?_⟩
  · simp only [List.mem_cons, List.not_mem_nil, or_false] at hx hy
    rcases hx with rfl | rfl <;> rcases hy with rfl | rfl <;> rfl
  · simp only [List.mem_cons, List.not_mem_nil, or_false] at hx
    rcases hx with rfl | rfl <;> exact PyData.noConfusion
theorem intOfReads {h : Heap} {v : Value} {k : Int} {bs : List Addr} (r : Reads h v (.int k) bs) : RelV (.int k) v := by
  cases r
  exact ⟨_, rfl⟩
/-- min(t), max(t) of a pair of ints -/
def rMinT (f : Int → Int → Int) : List V → Hp → VK → Prop := fun vs H Q => ∃ (a : Addr) (i j : Int), vs = [V.ref a] ∧ H a = some (.tup [.int i, .int j]) ∧ Q (.int (f i j)) H
theorem cr_minT (hc : X.calm = true) (hu : X.A.units + 64 < cLine) : CallR X (.builtin "min") (rMinT min) := by
  intro pins s σ H vs us Q I r h
  obtain ⟨a, i, j, rfl, hs, q⟩ := h
  obtain ⟨its, rv, ht, _⟩ := I.tuple (SqT.of hs)
  rw [Vals.ref1 r]
  obtain ⟨o, h1, h2, n, h3⟩ := ht
  refine min_tuple_data (x := .int i) (xs := [.int j]) (I.ok.hd hc) ⟨o, h1, h2, n, h3⟩ (pairReads rv) (pairAlike i j) (by show X.A.units + 1 + 0 < cLine; omega) (fun k v h' tk bs e r2 kp => ?_)
  have e2 : minD (.int i) [.int j] = .int (min i j) := minD_ints i [j]
  rw [e2] at r2
  exact ⟨.int (min i j), H, I.kept kp, intOfReads r2, q⟩
theorem cr_maxT (hc : X.calm = true) (hu : X.A.units + 64 < cLine) : CallR X (.builtin "max") (rMinT max) := by
  intro pins s σ H vs us Q I r h
  obtain ⟨a, i, j, rfl, hs, q⟩ := h
  obtain ⟨its, rv, ht, _⟩ := I.tuple (SqT.of hs)
  rw [Vals.ref1 r]
  obtain ⟨o, h1, h2, n, h3⟩ := ht
  refine max_tuple_data (x := .int i) (xs := [.int j]) (I.ok.hd hc) ⟨o, h1, h2, n, h3⟩ (pairReads rv) (pairAlike i j) (by show X.A.units + 1 + 0 < cLine; omega) (fun k v h' tk bs e r2 kp => ?_)
  have e2 : maxD (.int i) [.int j] = .int (max i j) := maxD_ints i [j]
  rw [e2] at r2
  exact ⟨.int (max i j), H, I.kept kp, intOfReads r2, q⟩
end
def tyD : PyData → String
  | .none => "NoneType"
  | .bool _ => "bool"
  | .int _ => "int"
  | .str _ => "str"
  | .list _ => "list"
  | .tuple _ => "tuple"
  | .dict _ => "dict"
theorem rdTy {K : PySem.W.Frag} {H : Hp} {v : V} {d : PyData} (h : Rd K H v d) : TyX K H v (.type (tyD d)) := by
  cases h with
  | dat h =>
    cases h with
    | non => exact .base .non
    | bl b => exact .base (.bl b)
    | int i => exact .base (.int i)
    | str x => exact .base (.str x)
    | lst s _ =>
      rcases s with (s | ⟨o, s⟩) | ⟨o, its, n, e, c, _⟩
      · exact .base (.lst s)
      · exact .base (.frz s)
      · exact .kList e c
    | tup s _ =>
      rcases s with (s | ⟨o, s⟩) | s
      · exact .base (.tup s)
      · exact .fTuple s
      · obtain ⟨o, its, n, e, c, _⟩ := s
        exact .kTuple e c
  | dct kvs h => exact .base (.dK h)
def isI : PyData → Bool
  | .int _ => true
  | _ => false
def isLst : PyData → Bool
  | .list _ => true
  | _ => false
def within (lo hi : Int) : PyData → Bool
  | .int i => decide (lo ≤ i) && decide (i ≤ hi)
  | _ => false
def isB : PyData → Bool
  | .bool _ => true
  | _ => false
def isIB : PyData → Bool
  | .int _ => true
  | .bool _ => true
  | _ => false
theorem kitI (K : PySem.W.Frag) : ∀ d : PyData, PySem.W.kitOne K (.type (tyD d)) (.type "int") = some (isIB d)
  | .none => (kit_ty (by decide +kernel) : PySem.W.kitOne K (.type "NoneType") (.type "int") = some false)
  | .bool _ => (kit_ty (by decide +kernel) : PySem.W.kitOne K (.type "bool") (.type "int") = some true)
  | .int _ => (kit_ty (by decide +kernel) : PySem.W.kitOne K (.type "int") (.type "int") = some true)
  | .str _ => (kit_ty (by decide +kernel) : PySem.W.kitOne K (.type "str") (.type "int") = some false)
  | .list _ => (kit_ty (by decide +kernel) : PySem.W.kitOne K (.type "list") (.type "int") = some false)
  | .tuple _ => (kit_ty (by decide +kernel) : PySem.W.kitOne K (.type "tuple") (.type "int") = some false)
  | .dict _ => (kit_ty (by decide +kernel) : PySem.W.kitOne K (.type "dict") (.type "int") = some false)
theorem kitBo (K : PySem.W.Frag) : ∀ d : PyData, PySem.W.kitOne K (.type (tyD d)) (.type "bool") = some (isB d)
  | .none => (kit_ty (by decide +kernel) : PySem.W.kitOne K (.type "NoneType") (.type "bool") = some false)
  | .bool _ => (kit_ty (by decide +kernel) : PySem.W.kitOne K (.type "bool") (.type "bool") = some true)
  | .int _ => (kit_ty (by decide +kernel) : PySem.W.kitOne K (.type "int") (.type "bool") = some false)
  | .str _ => (kit_ty (by decide +kernel) : PySem.W.kitOne K (.type "str") (.type "bool") = some false)
  | .list _ => (kit_ty (by decide +kernel) : PySem.W.kitOne K (.type "list") (.type "bool") = some false)
  | .tuple _ => (kit_ty (by decide +kernel) : PySem.W.kitOne K (.type "tuple") (.type "bool") = some false)
  | .dict _ => (kit_ty (by decide +kernel) : PySem.W.kitOne K (.type "dict") (.type "bool") = some false)
theorem kitL (K : PySem.W.Frag) : ∀ d : PyData, PySem.W.kitOne K (.type (tyD d)) (.type "list") = some (isLst d)
  | .none => (kit_ty (by decide +kernel) : PySem.W.kitOne K (.type "NoneType") (.type "list") = some false)
  | .bool _ => (kit_ty (by decide +kernel) : PySem.W.kitOne K (.type "bool") (.type "list") = some false)
  | .int _ => (kit_ty (by decide +kernel) : PySem.W.kitOne K (.type "int") (.type "list") = some false)
  | .str _ => (kit_ty (by decide +kernel) : PySem.W.kitOne K (.type "str") (.type "list") = some false)
  | .list _ => (kit_ty (by decide +kernel) : PySem.W.kitOne K (.type "list") (.type "list") = some true)
  | .tuple _ => (kit_ty (by decide +kernel) : PySem.W.kitOne K (.type "tuple") (.type "list") = some false)
  | .dict _ => (kit_ty (by decide +kernel) : PySem.W.kitOne K (.type "dict") (.type "list") = some false)
mutual
theorem dpSame {K : PySem.W.Frag} {H H' : Hp} (s : Same H H') : ∀ (d : PyData) (v : V), Dp K H v d → Dp K H' v d
  | .none, _, h => by cases h; exact .non
  | .bool _, _, h => by cases h; exact .bl _
  | .int _, _, h => by cases h; exact .int _
  | .str _, _, h => by cases h; exact .str _
  | .list ds, _, h => by
    cases h with
    | lst h1 h2 => exact .lst (s.seq h1) (dpSameAll s ds _ h2)
  | .tuple ds, _, h => by
    cases h with
    | tup h1 h2 =>
      refine .tup ?_ (dpSameAll s ds _ h2)
      rcases h1 with (h1 | ⟨o, h1⟩) | h1
      · exact .inl (.inl (s _ _ h1))
      · exact .inl (.inr ⟨o, s _ _ h1⟩)
      · exact .inr h1
  | .dict _, _, h => by cases h
theorem dpSameAll {K : PySem.W.Frag} {H H' : Hp} (s : Same H H') : ∀ (ds : List PyData) (vs : List V), DpAll K H vs ds → DpAll K H' vs ds
  | [], _, h => by cases h; exact .nil
  | d :: ds, _, h => by
    cases h with
    | cons h1 h2 => exact .cons (dpSame s d _ h1) (dpSameAll s ds _ h2)
end
theorem rdSame {K : PySem.W.Frag} {H H' : Hp} (s : Same H H') {v : V} {d : PyData} (h : Rd K H v d) : Rd K H' v d := by
  cases h with
  | dat h => exact .dat (dpSame s d v h)
  | dct kvs h => exact .dct kvs (s _ _ h)
end FNX
set_option Elab.async false
set_option linter.all false
set_option maxRecDepth 100000
set_option maxHeartbeats 4000000
namespace FNX
open PySem PySem.Spec PyProof.Rows L2
section
variable {X : Cx} {k : Nat} {f : Addr} {fd : FuncData} {ps : List Str} {sp : Sp} {E : XK} {x : Str} {p pos : Pos} {e : Expr} {es : List Expr} {t : TA}
theorem pe_callG (hgd : X.A.guards = some []) (F : GOk X.prog X.w X.K X.mg X.base k f fd ps sp) (hr : Room k X.A) (hg : Gl X x) (hm : X.mg x = some (.ref f)) (hk : PySem.W.keepIn X.K (.ref f) = true) (hb : L2.Binds X.K fd ps []) (hx : Passes CX0 X E)
    (ha : PA X (e :: es) t) (hdb : (x == ("__debug__" : Str)) = false := by decide) (he : starEach (e :: es) X.env = (false, eval e X.env) :: starEach es X.env := by rfl) (hpl : (backTo pos (starEach es X.env)).any (·.1) = false := by rfl) :
    PE X (.Call (.Name x p) (e :: es) [] pos) (tCall sp [] E t) := by
  refine ⟨fun pins s σ H Q I h => ?_⟩
  refine wpAny_Call_Name_kw (ld_glob I hg hm ?_ hdb)
  refine PySem.W.callWith_K (h₀ := X.base) I.ok.mod.kin hk (thn (ha.run pos pins s σ H _ I h) fun us s1 ⟨vs, H1, I1, r, q⟩ => ⟨I1.kIn, ?_⟩) he hpl
  have r2 : Vals (vs ++ []) (us ++ []) := r.append .nil
  have hl : (us ++ ([] : List Value)).length = ps.length := by rw [← r2.length]; exact F.len _ _ _ _ q
  refine wpAny_call (codeAny_mono (F.run X.A X.stack s1 H1 ⟨us, []⟩ (us ++ []) (vs ++ []) Q E hgd hr I1.env0 (hb s1 us I1.kIn hl) r2 q) fun r s' hq => ?_)
  cases r with
  | error e => exact hx pins σ H1 s1 e s' I1 hq
  | ok fl =>
    cases fl with
    | ret u => exact I1.after hq
    | next => exact False.elim hq
    | brk => exact False.elim hq
    | cont => exact False.elim hq
/-- where a def stands that is walked so -/
def AtG (P : Program) (w : World) (K : PySem.W.Frag) (mg : Str → Option Value) (base : Heap) (k : Nat) (x : Str) (ps : List Str) (sp : Sp) : Prop :=
  ∃ f fd, GOk P w K mg base k f fd ps sp ∧ mg x = some (.ref f) ∧ PySem.W.keepIn K (.ref f) = true ∧ L2.Binds K fd ps []
end
end FNX
set_option Elab.async false
set_option linter.all false
set_option maxRecDepth 100000
set_option maxHeartbeats 4000000
namespace FNX
open PySem PySem.Spec PyProof.Rows L2
end FNX
set_option Elab.async false
set_option linter.all false
set_option maxRecDepth 100000
set_option maxHeartbeats 8000000
namespace FNX
open PySem PySem.Spec PyProof.Rows L2
/-- the text of an `__init__` that stores its value -/
structure InitTxt (st : Stmt) : Prop where
  sc : FnScope ["self", "value"] ["self", "value"] (defScope st)
  body : ∃ q1 q2 q3 q4, defBody st = [.Assign [.Attribute (.Name "self" q1) "value" q2] (.Name "value" q3) q4]
  bind : ∀ (qual : Str) (kV doc pm : Value) (an : Option Addr) (cdv ct : Value) (us : List Value), us.length = (["self", "value"] : List Str).length →
    bindArgs (PySem.W.fnOf "__init__" qual (defArgs st) (defBody st) (defScope st) .none kV doc pm an cdv ct) ⟨us, []⟩ = pure ((["self", "value"] : List Str).zip us)
  bindK : ∀ (qual : Str) (kV doc pm : Value) (an : Option Addr) (cdv ct : Value) (u v : Value),
    bindArgs (PySem.W.fnOf "__init__" qual (defArgs st) (defBody st) (defScope st) .none kV doc pm an cdv ct) ⟨[u], [(("value" : Str), v)]⟩ = pure ((["self", "value"] : List Str).zip [u, v])
/-- a class of the program, as the top has left it -/
structure Cl (K : PySem.W.Frag) (mg : Str → Option Value) (x : Str) (C : Addr) : Prop where
  xc : XC K C
  mgC : mg x = some (.ref C)
  mkd : ∃ st qual f fd, InitTxt st ∧ PySem.W.findIn K (.ref C) "__init__" = some (some (.ref f)) ∧ PySem.W.typeIn K (.ref f) = some (.type "function") ∧ Fun K "__init__" qual st f fd
theorem Cl.ex {P : Program} {w : World} {K : PySem.W.Frag} {mg : Str → Option Value} {base : Heap} {x : Str} {C : Addr} (c : Cl K mg x C) : Ex P w K mg base x C := by
  obtain ⟨st, qual, f, fd, t, h1, h2, F⟩ := c.mkd
  refine ⟨c.xc, c.mgC, f, fd, h1, h2, xinit_ok F t.sc t.body c.xc, F.binds (t.bind qual), fun s u v => ?_⟩
  obtain ⟨oc, od, kV, doc, pm, an, cdv, ct, osl, rfl, _, _⟩ := F.ex
  exact .of_eq (t.bindK qual kV doc pm an cdv ct u v)
theorem chainVal {g : Addr} : Chain "ValueError" [.ref g, .type "ValueError", .type "Exception", .type "BaseException", .type "object"] := ⟨rfl, rfl, rfl, rfl, rfl, passVal.ref g⟩
theorem chainLook : Chain "LookupError" [.type "LookupError", .type "Exception", .type "BaseException", .type "object"] := ⟨by decide +kernel, by decide +kernel, by decide +kernel, by decide +kernel, rfl, passLook⟩
theorem chainRun : Chain "RuntimeError" [.type "RuntimeError", .type "Exception", .type "BaseException", .type "object"] := ⟨by decide +kernel, by decide +kernel, by decide +kernel, by decide +kernel, rfl, passRun⟩
theorem chainOver : Chain "OverflowError" [.type "OverflowError", .type "ArithmeticError", .type "Exception", .type "BaseException", .type "object"] := ⟨by decide +kernel, by decide +kernel, by decide +kernel, by decide +kernel, rfl, passOver⟩
section
variable {K : PySem.W.Frag} {h : Heap} {mg : Str → Option Value} {x qual : Str} {C f N T e : Addr} {st : Stmt} {B newId initId : String} {bm bmB bs sub : List Value} {nm q : Str} {sn : List Str} {ab : Bool} {col : Option Bool}
  {dd od an odT : Option Addr} {k0 k1 k2 k3 k5 : Option Value} {oc kV doc pm cd ct ocT : Value} {sl slT : Array (Option Value)} {nT : Nat}
theorem mkXC (F : ExcBaseFacts B newId initId bmB) (L : Chain B bm)
    (xC : K.lookup C = some (excClassObj nm q C N bs bm true sn sub ab col dd k0 k1 k2 k3 k5 newId))
    (sa : PySem.W.findIn K (.ref C) "__setattr__" = some (some (.builtin "object.__setattr__")))
    (ga : PySem.W.findIn K (.ref C) "__getattribute__" = some (some (.builtin "BaseException.__getattribute__"))) (gg : PySem.W.findIn K (.ref C) "__getattr__" = some none)
    (nv : PySem.W.findIn K (.ref C) "value" = some none) (eC : PySem.W.subIn K (.ref C) (.type "BaseException") = some true) (kC : PySem.W.keepIn K (.ref C) = true)
    (hd : PySem.W.hasDictIn K C = true) (ic : PySem.W.isClsIn K C = true) (cC : PySem.W.findIn K (.ref C) "__class__" = some (some (.builtin "object.__class__")))
    (mC : PySem.W.mroIn K C (.type "object") = some true) : XC K C :=
  ⟨⟨nm, q, N, bs, bm, sn, sub, ab, col, dd, k0, k1, k2, k3, k5, B, newId, initId, bmB, xC, F, L⟩, sa, ga, gg, nv, eC, kC, hd, ic, cC, mC⟩
/-- a def -/
def FnF (K : PySem.W.Frag) (mg : Str → Option Value) (x : Str) (st : Stmt) (f : Addr) : Prop := mg x = some (.ref f) ∧ ∃ fd, Fun K x x st f fd
/-- a method of the class at C -/
def MtF (K : PySem.W.Frag) (C : Addr) (x qual : Str) (st : Stmt) (f : Addr) : Prop := Meth K C x f ∧ ∃ fd, Fun K x qual st f fd
/-- an `__init__` with one default -/
def InF (K : PySem.W.Frag) (C : Addr) (qual : Str) (st : Stmt) (f e : Addr) : Prop := Mk K C f ∧ ∃ fd, FunD K "__init__" qual (defArgs st) (defBody st) (defScope st) [.ref e] [] f fd
end
end FNX
set_option Elab.async false
set_option linter.all false
set_option maxRecDepth 100000
set_option maxHeartbeats 4000000
namespace FNX
open PySem PySem.Spec PyProof.Rows L2
abbrev SuiteOk (X : Cx) (l : List Stmt) (ts : Addr → Value → Option Addr → TS) : Prop :=
  ∀ (z : Addr) (oz : Obj) (cls : Value) (d : Option Addr) (pn : List (Addr × Obj)), Zc cls d oz → (∃ us, oz.data = .fields us) → PSs (X.suite z ((z, oz) :: pn)) l (ts z cls d)
section
variable {X : Cx} {n : Str} {i : Nat} {body : List Stmt} {h1 : ExceptHandler} {hs : List ExceptHandler} {cl : List (Value × (Addr → Value → Option Addr → TS))} {pos : Pos} {tb : WX → TS} {Wout : WX}
/-- what the clauses are asked, once the exception is caught -/
abbrev caught (X : Cx) (pins : List (Addr × Obj)) (D : Ends) (l : List ExceptHandler) : Value → Shared → Prop := fun e s1 =>
  wpAny (model X.prog X.w) X.A (noteFrame e X.env) (fun _ s2 => wpAny (model X.prog X.w) X.A (setFlight e none)
    (fun _ s3 => wpAny (model X.prog X.w) X.A (handleBy e X.env l) (SP X pins D) X.xe s3) X.xe s2) X.xe s1
end
structure FunC (K : PySem.W.Frag) (x qual : Str) (st : Stmt) (f : Addr) (fd : FuncData) (c : Addr) : Prop where
  ex : ∃ (oc : Value) (od : Option Addr) (kV doc pm : Value) (an : Option Addr) (ct : Value) (osl : Array (Option Value)),
    fd = PySem.W.fnOf x qual (defArgs st) (defBody st) (defScope st) .none kV doc pm an (.ref c) ct ∧ K.lookup f = some ⟨oc, od, .func fd, osl⟩ ∧ PySem.W.codeIn K (.ref c) qual = true
  kp : PySem.W.keepIn K (.ref f) = true
section
variable {P : Program} {w : World} {K : PySem.W.Frag} {mg : Str → Option Value} {base : Heap}
theorem okGC {x qual : Str} {st : Stmt} {f c : Addr} {fd : FuncData} {N ps : List Str} {k : Nat} {sp : Sp} (F : FunC K x qual st f fd c) (S : FnScope N ps (defScope st))
    (len : ∀ vs H Q E, sp vs H Q E → vs.length = ps.length)
    (hbody : ∀ (A : Around) (outer : List Env) (s : Shared) (H : Hp) (vs : List V) (Q : VK) (E : XK), A.guards = some [] →
      Room k (A.deeper (envOfC qual (defScope st) s.heap.objs.size f (.ref c))) → sp vs H Q E →
      ∃ t, PSs (cxOf CX0 P w K mg base N qual (defScope st) f (.ref c) A outer s H E).nox (defBody st) t ∧ t { nx := fun _ H' => Q .non H', rt := Q } (start N vs) H) :
    GOk P w K mg base (k + 1) f fd ps sp := by
  refine ⟨len, fun A outer s H args us vs Q E hg hr e0 hb r hs => ?_⟩
  obtain ⟨oc, od, kV, doc, pm, an, ct, osl, rfl, lk, hcd⟩ := F.ex
  refine LamX.run_ofS (CX := CX0) lk hcd S hr e0 hb r (len _ _ _ _ hs) fun hr' => ?_
  obtain ⟨t, ht, q⟩ := hbody A outer s H vs Q E hg hr' hs
  exact ⟨t, ht.nox, q⟩
end
section
variable {P : Program} {w : World} {K : PySem.W.Frag} {mg mb : Str → Option Value} {k : Nat} {fa a : Addr} {fd : FuncData} {x : Str} {sp : Sp} {s : Shared} {vs : List Value} {ns : List Int} {cs : List (Addr × Addr)}
/-- the module's own dict of built-ins, as the top has left it -/
abbrev BMain (mg : Str → Option Value) (h : Heap) : Prop :=
  ∃ (bm : Addr) (ob : Obj), mg "__builtins__" = some (.ref bm) ∧ bm ≠ builtinsNs ∧ h.get? bm = some ob ∧ ob.cls = .type "module" ∧ ob.dict = some builtinsNs ∧ ob.data = .plain
theorem lawFromT {H : Hp} (KX : K.In s.heap) (hns : s.heap.Ns mainGlobals mg) (hb : s.heap.Ns builtinsNs mb) (hbb : ∀ x : Str, x ≠ "__name__" → mb x = bootBuiltins x)
    (hlim : s.heap.NoLimit) (hg : s.gens = #[]) (hr : Room k callerA)
    (hT : ∀ q ∈ cs, s.heap.get? q.2 = some (PySem.W.tabObj #[])) (hC : ∀ q ∈ cs, PySem.W.CodeHd s.heap q.1 q.2) (hbm : BMain mg s.heap)
    (F : ∀ base : Heap, K.In base → base.Ns mainGlobals mg → (∀ q ∈ cs, LamX.TabB base mg q.1 q.2) → GOk P w K mg base k fa fd [x] sp) (hbind : ∀ (s : Shared) (u : Value), BindsTo s fd ⟨[u], []⟩ [(x, u)])
    (hsp : sp [.ref a] H (fun v _ => v = .bl true) fun _ _ _ => False) (hok : HOk P w H s.heap) (hH : ∀ q ∈ cs, H q.2 = some (.tbl #[]))
    (hall : ∀ b u, H b = some u → K.lookup b = none ∧ ((∃ q ∈ cs, b = q.2) ∨ ((∃ o xs, u = .frz o (.lst xs)) ∧ ∃ o us m, s.heap.get? b = some o ∧ o.data = .seq us m))) :
    codeAny (model P w) callerA (.call (.ref fa) ⟨[.ref a], []⟩) (LawEnd s) s := by
  have seen : ∀ {b : Addr} {o : Obj}, s.heap.get? b = some o → H b = none → (hidT s.heap H).get? b = some o := fun e n => hidT_get e n
  have away : ∀ {b : Addr} {o : Obj}, s.heap.get? b = some o → (∀ us m, o.data ≠ .seq us m) → o.data ≠ .fields #[] → H b = none := fun {b o} e n1 n2 => by
    cases q : H b with
    | none => rfl
    | some u =>
      rcases (hall b u q).2 with ⟨t, ht, rfl⟩ | ⟨_, o2, us, m, e2, d2⟩
      · obtain rfl := Option.some.inj (e.symm.trans (hT t ht))
        exact absurd rfl n2
      · obtain rfl := Option.some.inj (e.symm.trans e2)
        exact absurd d2 (n1 us m)
  have dicts : ∀ {b : Addr} {o : Obj} {es : Array DictEntry} {ep : Nat}, s.heap.get? b = some o → o.data = .dict es ep → H b = none := fun e d =>
    away e (fun us m z => by rw [d] at z; cases z) (fun z => by rw [d] at z; cases z)
  have keep : ∀ {b : Addr} {m : Str → Option Value}, s.heap.Ns b m → (hidT s.heap H).Ns b m := fun n => by
    obtain ⟨o, es, ep, e, d, r⟩ := n
    exact ⟨o, es, ep, seen e (dicts e d), d, r⟩
  have kin : K.In (hidT s.heap H) := fun b o e => seen (KX b o e) (by
    cases q : H b with
    | none => rfl
    | some u =>
      rw [(hall b u q).1] at e
      cases e)
  have mod : Mod K mg (hidT s.heap H) := ⟨kin, keep hns, ⟨mb, keep hb, hbb⟩, by
    obtain ⟨mc, h1, h2⟩ := hlim
    exact ⟨mc, keep h1, h2⟩⟩
  have tabs : ∀ q ∈ cs, LamX.TabB (hidT s.heap H) mg q.1 q.2 := fun q hq => by
    have tq := hT q hq
    refine ⟨?_, ?_, fun z => ?_⟩
    · obtain ⟨o, us, file, tf, fl, tg, inF, tx, tt, e1, r1, r2, r3, rest⟩ := hC q hq
      refine ⟨o, us, file, tf, fl, tg, inF, tx, tt, seen e1 (away e1 (fun us' m z => ?_) fun z => ?_), r1, r2, r3, rest⟩
      · rw [r2] at z
        cases z
      · rw [r2] at z
        injection z with z
        rw [z] at r3
        simp at r3
    · obtain ⟨bm, ob, m1, m2, m3, m4, m5, m6⟩ := hbm
      refine ⟨bm, ob, m1, m2, fun z => ?_, fun z => ?_, seen m3 (away m3 (fun us' m z => ?_) fun z => ?_), m4, m5, m6⟩
      · obtain ⟨o, es, ep, e, d, _⟩ := hns
        rw [z, e] at m3
        obtain rfl := Option.some.inj m3
        rw [d] at m6
        cases m6
      · rw [z, tq] at m3
        obtain rfl := Option.some.inj m3
        cases m6
      · rw [m6] at z
        cases z
      · rw [m6] at z
        cases z
    · obtain ⟨o, es, ep, e, d, _⟩ := hns
      rw [z, tq] at e
      obtain rfl := Option.some.inj e
      cases d
  have e0 : Env0 P w K mg (hidT s.heap H) callerA [] s H :=
    ⟨rfl, mod, fun b o e => of_hidT e, Nat.le_of_eq (hidT_size _ _), trivial, fun b hb => absurd (show b ∈ ([] : List Addr) from hb) (by simp), hok, .of_eq hg⟩
  refine codeAny_mono ((F _ kin (keep hns) tabs).run callerA [] s H ⟨[.ref a], []⟩ [.ref a] [.ref a] _ _ rfl hr e0 (hbind s (.ref a)) (.cons rfl .nil) hsp) fun r s' z => ?_
  cases r with
  | error e => exact False.elim z
  | ok fl =>
    cases fl with
    | next => exact False.elim z
    | brk => exact False.elim z
    | cont => exact False.elim z
    | ret u =>
      obtain ⟨v, H', os, bare, un, hok', rv', q⟩ := z
      obtain rfl : v = .bl true := q
      obtain rfl : u = Value.bool true := rv'
      have grown : ∀ t ∈ cs, ∃ more : Array Value, s'.heap.get? t.2 = some { cls := .none, data := .fields more } := fun t ht => by
        obtain ⟨more, z⟩ := un.tbls t.2 #[] (hH t ht)
        exact ⟨_, hok' t.2 _ z⟩
      have same : ∀ b o, s.heap.get? b = some o → (∀ t ∈ cs, b ≠ t.2) → s'.heap.get? b = some o := fun b o e nt => by
        cases q : H b with
        | none => exact un.keep b o e q (fun z => absurd (show b ∈ ([] : List Addr) from z) (by simp)) (by simp)
        | some u =>
          rcases (hall b u q).2 with ⟨t, ht, z⟩ | ⟨⟨ob, xs, rfl⟩, _⟩
          · exact absurd z (nt t ht)
          obtain ⟨e1, _⟩ := hok b _ q
          obtain ⟨e2, _⟩ := hok' b _ (un.frzs b ob _ q)
          obtain rfl := Option.some.inj (e.symm.trans e1)
          exact e2
      have way : ∀ b : Addr, (∃ t ∈ cs, b = t.2) ∨ ∀ t ∈ cs, b ≠ t.2 := fun b => by
        by_cases c : ∃ t ∈ cs, b = t.2
        · exact .inl c
        · exact .inr fun t ht z => c ⟨t, ht, z⟩
      refine ⟨rfl, ⟨fun b o e => ?_, fun b o e => ?_⟩, os, bare⟩
      · rcases way b with ⟨t, ht, rfl⟩ | nt
        · obtain ⟨more, hm⟩ := grown t ht
          obtain rfl := Option.some.inj (e.symm.trans (hT t ht))
          exact .inr (.inl ⟨((hC t ht).tab (hT t ht)).isCodeTable, rfl, #[], more, rfl, by rw [Array.empty_append]; exact hm⟩)
        · exact .inl (same b o e nt)
      · rcases way b with ⟨t, ht, rfl⟩ | nt
        · obtain ⟨more, hm⟩ := grown t ht
          exact ⟨_, hm⟩
        · exact ⟨o, same b o e nt⟩
theorem lawCalledT (KX : K.In s.heap) (hns : s.heap.Ns mainGlobals mg) (hb : s.heap.Ns builtinsNs mb) (hbb : ∀ x : Str, x ≠ "__name__" → mb x = bootBuiltins x)
    (hlim : s.heap.NoLimit) (hg : s.gens = #[]) (hT : ∀ q ∈ cs, s.heap.get? q.2 = some (PySem.W.tabObj #[])) (nT : ∀ q ∈ cs, K.lookup q.2 = none) (hC : ∀ q ∈ cs, PySem.W.CodeHd s.heap q.1 q.2) (hbm : BMain mg s.heap)
    (ha : s.heap.get? a = some { cls := .type "list", data := .seq vs.toArray }) (hi : IntsAre vs ns) (hl : ns.length ≤ sizeLine)
    (hr : Room k callerA) (F : ∀ base : Heap, K.In base → base.Ns mainGlobals mg → (∀ q ∈ cs, LamX.TabB base mg q.1 q.2) → GOk P w K mg base k fa fd [x] sp)
    (hbind : ∀ (s : Shared) (u : Value), BindsTo s fd ⟨[u], []⟩ [(x, u)])
    (hsp : ∀ H : Hp, (∀ q ∈ cs, H q.2 = some (.tbl #[])) → SqL K H a (ns.map V.int) → sp [.ref a] H (fun v _ => v = .bl true) fun _ _ _ => False) :
    codeAny (model P w) callerA (.call (.ref fa) ⟨[.ref a], []⟩) (LawEnd s) s := by
  have rv := vals_ints hi
  have lenV := hi.length
  have aT : ∀ q ∈ cs, a ≠ q.2 := fun q hq z => by
    have e := hT q hq
    rw [← z, ha] at e
    have d := congrArg Obj.data (Option.some.inj e)
    cases d
  classical
  -- the script, where it isn't written
  let T : Hp := fun b => if ∃ q ∈ cs, b = q.2 then some (.tbl #[]) else none
  have atT : ∀ q ∈ cs, T q.2 = some (.tbl #[]) := fun q hq => if_pos ⟨q, hq, rfl⟩
  have ofT : ∀ {b u}, T b = some u → (∃ q ∈ cs, b = q.2) ∧ u = .tbl #[] := fun {b u} z => by
    by_cases c : ∃ q ∈ cs, b = q.2
    · exact ⟨c, (Option.some.inj ((if_pos c).symm.trans z)).symm⟩
    · cases (if_neg c).symm.trans z
  have okT : ∀ {b u}, T b = some u → ObjOk P w T s.heap b u ∧ ∀ H, ObjOk P w H s.heap b u := fun {b u} z => by
    obtain ⟨⟨q, hq, rfl⟩, rfl⟩ := ofT z
    exact ⟨hT q hq, fun _ => hT q hq⟩
  cases hk : K.lookup a with
  | some o =>
    have e := KX a o hk
    rw [ha] at e
    cases e
    refine lawFromT (H := T) KX hns hb hbb hlim hg hr hT hC hbm F hbind (hsp _ atT (.inr ⟨_, vs.toArray, _, hk, rfl, rfl, rfl, ?_, ?_⟩)) (fun b u z => (okT z).1) atT (fun b u z => ?_)
    · rw [List.size_toArray, lenV]
      exact hl
    · simpa using rv
    · obtain ⟨⟨q, hq, rfl⟩, _⟩ := ofT z
      exact ⟨nT q hq, .inl ⟨q, hq, rfl⟩⟩
  | none =>
    let U : Hp := fun b => if b = a then some (.frz { cls := .type "list", data := .seq vs.toArray } (.lst (ns.map V.int))) else T b
    have atU : ∀ q ∈ cs, U q.2 = some (.tbl #[]) := fun q hq => (if_neg (Ne.symm (aT q hq))).trans (atT q hq)
    have atA : U a = some (.frz { cls := .type "list", data := .seq vs.toArray } (.lst (ns.map V.int))) := if_pos rfl
    have ofU : ∀ {b u}, U b = some u → (b = a ∧ u = .frz { cls := .type "list", data := .seq vs.toArray } (.lst (ns.map V.int))) ∨ T b = some u := fun {b u} z => by
      by_cases c : b = a
      · exact .inl ⟨c, (Option.some.inj ((if_pos c).symm.trans z)).symm⟩
      · exact .inr ((if_neg c).symm.trans z)
    refine lawFromT (H := U) KX hns hb hbb hlim hg hr hT hC hbm F hbind (hsp _ atU (.inl (.inr ⟨_, atA⟩))) (fun b u z => ?_) atU (fun b u z => ?_)
    · rcases ofU z with ⟨rfl, rfl⟩ | z
      · exact ⟨ha, by rw [List.length_map]; exact hl, vs, _, rv, ha⟩
      · exact (okT z).2 _
    · rcases ofU z with ⟨rfl, rfl⟩ | z
      · exact ⟨hk, .inr ⟨⟨_, _, rfl⟩, _, _, _, ha, rfl⟩⟩
      · obtain ⟨⟨q, hq, rfl⟩, _⟩ := ofT z
        exact ⟨nT q hq, .inl ⟨q, hq, rfl⟩⟩
/-- what the head tells of a def with doors: its code object and the table -/
structure Door (K : PySem.W.Frag) (mg : Str → Option Value) (xs : List Str) (x : Str) (c Pt : Addr) : Prop where
  mem : x ∈ xs
  fn : ∃ f o fd e dd us sl, mg x = some (.ref f) ∧ K.lookup f = some o ∧ o.data = .func fd ∧ fd.code = .ref c ∧ K.lookup c = some ⟨e, dd, .fields us, sl⟩ ∧ us[11]? = some (.ref Pt)
  hd : PySem.W.codeHdIn K c Pt = true
  no : K.lookup Pt = none
end
end FNX
set_option Elab.async false
set_option linter.all false
set_option maxRecDepth 100000
set_option maxHeartbeats 8000000
namespace K71
open PySem PySem.Spec PyProof.Rows L2 FNX
def top (i : Nat) : Stmt := PySem.Challenge.pw_firenegatives_k71_boards_refuse.main.body.getD i (.Pass ⟨0, 0, 0, 0⟩)
abbrev s_InvalidSize_init : Stmt := inClass (top 3) 0
abbrev s_InvalidEdge_init : Stmt := inClass (top 4) 0
abbrev s_InvalidNode_init : Stmt := inClass (top 5) 0
abbrev s_InvalidPosition_init : Stmt := inClass (top 6) 0
abbrev s_InvalidLimit_init : Stmt := inClass (top 7) 0
abbrev s_InvalidPlayers_init : Stmt := inClass (top 8) 0
abbrev s_InvalidNumber_init : Stmt := inClass (top 9) 0
abbrev s_InvalidOperation_init : Stmt := inClass (top 10) 0
abbrev s_NoPlayer_init : Stmt := inClass (top 11) 0
abbrev s_NothingToUndo_init : Stmt := inClass (top 12) 0
abbrev s_NotNegative_init : Stmt := inClass (top 13) 0
abbrev s_TooMany_init : Stmt := inClass (top 15) 0
abbrev s_is_integer : Stmt := top 18
abbrev s_is_integer_within : Stmt := top 19
abbrev s_is_integer_list : Stmt := top 20
abbrev s_is_node : Stmt := top 21
abbrev s_check_node : Stmt := top 22
abbrev s_check_position : Stmt := top 23
abbrev s_check_limit : Stmt := top 24
abbrev s_check_number : Stmt := top 25
abbrev s_check_player : Stmt := top 26
abbrev s_flip_in_place : Stmt := top 32
abbrev s_Graph_init : Stmt := inClass (top 38) 0
abbrev s_Graph_size : Stmt := inClass (top 38) 1
abbrev s_Graph_edges : Stmt := inClass (top 38) 2
abbrev s_Graph_neighbours : Stmt := inClass (top 38) 3
abbrev s_Graph_eq : Stmt := inClass (top 38) 6
abbrev s_is_edge : Stmt := top 39
abbrev s_checked_edges : Stmt := top 40
abbrev s_neighbour_lists : Stmt := top 41
abbrev s_State_init : Stmt := inClass (top 45) 0
abbrev s_perform : Stmt := top 47
abbrev s_fire_node : Stmt := top 48
abbrev s_put_number : Stmt := top 50
abbrev s_append_node : Stmt := top 51
abbrev s_join_nodes : Stmt := top 53
abbrev s_part_nodes : Stmt := top 54
abbrev s_checked_edge : Stmt := top 55
abbrev s_outcome : Stmt := top 93
abbrev s_Board_init : Stmt := inClass (top 99) 0
abbrev s_Board_fire : Stmt := inClass (top 99) 1
abbrev s_Board_put : Stmt := inClass (top 99) 2
abbrev s_Board_add_node : Stmt := inClass (top 99) 3
abbrev s_Board_add_edge : Stmt := inClass (top 99) 4
abbrev s_Board_remove_edge : Stmt := inClass (top 99) 5
abbrev s_Board_together : Stmt := inClass (top 99) 6
abbrev s_Board_play_on : Stmt := inClass (top 99) 7
abbrev s_Board_undo : Stmt := inClass (top 99) 8
abbrev s_Board_graph : Stmt := inClass (top 99) 9
abbrev s_Board_position : Stmt := inClass (top 99) 10
abbrev s_Board_scores : Stmt := inClass (top 99) 11
abbrev s_Board_remaining : Stmt := inClass (top 99) 12
abbrev s_Board_log : Stmt := inClass (top 99) 13
abbrev s_Board_carry_out : Stmt := inClass (top 99) 15
abbrev s_written : Stmt := top 100
abbrev s__law_pool : Stmt := top 102
abbrev s__law_take : Stmt := top 103
abbrev s__law_error : Stmt := top 104
abbrev s__law_made_right : Stmt := top 105
abbrev s__law_nodes_right : Stmt := top 106
abbrev s__law_others_right : Stmt := top 107
abbrev s__law_bounds_right : Stmt := top 108
abbrev s_law : Stmt := top 109
def PoolAt (H : Hp) (p : Addr) : Prop := ∃ c s : Int, H p = some (.lst [.int c, .int s]) ∧ 0 ≤ s ∧ s < 2147483648
def spPool (K : PySem.W.Frag) : Sp := fun vs H Q _ => ∃ (a : Addr) (ns : List Int) (k : Int), vs = [.ref a, .int k] ∧ SqL K H a (ns.map V.int) ∧ 0 ≤ k ∧ k < 100 ∧
  ∀ p H', H p = none → Same H H' → PoolAt H' p → Q (.ref p) H'
def spTake : Sp := fun vs H Q _ => ∃ (p : Addr) (n : Int), vs = [.ref p, .int n] ∧ PoolAt H p ∧ 0 < n ∧ n < 10000000000000000000 ∧
  ∀ r H', 0 ≤ r → r < n → PoolAt H' p → (∀ b, b ≠ p → H' b = H b) → Q (.int r) H'
section
variable {P : Program} {w : World} {K : PySem.W.Frag} {mg : Str → Option Value} {base : Heap}
theorem scTake : FnScope ["_law_pool_here", "_law_sides", "_law_found"] ["_law_pool_here", "_law_sides"] (defScope s__law_take) :=
  ⟨rfl, rfl, rfl, by decide +kernel, rfl, by decide +kernel, by decide +kernel⟩
theorem ok_take {f : Addr} {fd : FuncData} (F : Fun K "_law_take" "_law_take" s__law_take f fd) : FnOk P w K mg base CX0 1 f fd ["_law_pool_here", "_law_sides"] spTake := by
  refine F.ok scTake (fun vs H Q E h => ?_) (fun cdv A outer s H vs Q E hr h => ?_)
  · obtain ⟨p, n, rfl, _⟩ := h
    rfl
  · obtain ⟨p, n, rfl, ⟨c, s0, hp, hs1, hs2⟩, hn1, hn2, k⟩ := h
    refine ⟨_, pss_cons (ps_if (pt_cmpR op_gt (pe_ix ix_list (pv 0) pe_int (fun _ _ => rfl)) pe_int (nomark _))
        (pss_cons (ps_set (i := 2) scTake.nd rfl (Or.inl rfl) (pe_op op_mod (pe_ix ix_list (pv 0) pe_int (fun _ _ => rfl)) (pv 1)))
          (pss_cons (ps_asg (pe_op op_fdivW (pe_ix ix_list (pv 0) pe_int (fun _ _ => rfl)) (pv 1)) (pg_sub (pv 0) pe_int set_list))
          (pss_one (ps_ret (pv 2))))) pss_nil)
      (pss_cons (ps_asg (pe_op op_mod (pe_op op_add (pe_op op_mul (pe_ix ix_list (pv 0) pe_int (fun _ _ => rfl)) pe_int) pe_int) pe_int) (pg_sub (pv 0) pe_int set_list))
      (pss_one (ps_ret (pe_op op_mod (pe_op op_fdiv (pe_op op_mod (pe_op op_mul (pe_ix ix_list (pv 0) pe_int (fun _ _ => rfl)) (pe_ix ix_list (pv 0) pe_int (fun _ _ => rfl))) pe_int) pe_int) (pv 1))))), ?_⟩
    refine ⟨_, rfl, p, _, _, _, rfl, rfl, SqL.of hp, atI_nat (j := 0) rfl, _, _, rfl, rfl, _, rfl, ?_⟩
    refine ite2 (fun _ => ?_) (fun _ => ?_)
    · refine ⟨_, rfl, p, _, _, _, rfl, rfl, SqL.of hp, atI_nat (j := 0) rfl, _, rfl, _, _, rfl, rfl, hn1, ?_⟩
      refine ⟨_, rfl, p, _, _, _, rfl, rfl, SqL.of hp, atI_nat (j := 0) rfl, _, rfl, _, _, rfl, rfl, wide_div (b := 64) hn1 (by omega) (by decide) (by decide), _, rfl, p, _, _, 0, rfl, rfl, hp, rfl, _, rfl, ?_⟩
      exact k _ _ (Int.emod_nonneg _ (by omega)) (Int.emod_lt_of_pos _ hn1) ⟨_, _, upd_same, hs1, hs2⟩ fun b hb => upd_ne hb
    · refine ⟨_, rfl, p, _, _, _, rfl, rfl, SqL.of hp, atI_nat (j := 1) rfl, _, _, rfl, rfl, .inr ⟨by decide, by decide⟩, _, _, rfl, rfl, _, _, rfl, rfl, (by show (0 : Int) < 2147483647; decide), _, rfl, p, _, _, 1, rfl, rfl, hp, rfl, ?_⟩
      have e1 : (0 : Int) ≤ (s0 * 48271 + 11) % 2147483647 := Int.emod_nonneg _ (by decide)
      have e2 : (s0 * 48271 + 11) % 2147483647 < 2147483647 := Int.emod_lt_of_pos _ (by decide)
      refine ⟨_, rfl, p, _, _, _, rfl, rfl, SqL.of upd_same, atI_nat (j := 1) rfl, _, rfl, p, _, _, _, rfl, rfl, SqL.of upd_same, atI_nat (j := 1) rfl, _, _, rfl, rfl, .inl ⟨?_, ?_⟩,
        _, _, rfl, rfl, (by show (0 : Int) < 2147483629; decide), _, _, rfl, rfl, ⟨by decide, by decide⟩, _, rfl, _, _, rfl, rfl, hn1, ?_⟩
      · exact Int.lt_of_lt_of_le (by decide) e1
      · exact Int.lt_of_lt_of_le e2 (by decide)
      exact k _ _ (Int.emod_nonneg _ (by omega)) (Int.emod_lt_of_pos _ hn1) ⟨_, _, upd_same, e1, by omega⟩ fun b hb => upd_ne hb
theorem scPool : FnScope ["_law_script", "_law_k", "_law_cell", "_law_seed"] ["_law_script", "_law_k"] (defScope s__law_pool) :=
  ⟨rfl, rfl, rfl, by decide +kernel, rfl, by decide +kernel, by decide +kernel⟩
theorem mod_in (a : Int) {b : Int} (h : 0 < b) : 0 ≤ a % b ∧ a % b < b := ⟨Int.emod_nonneg _ (by omega), Int.emod_lt_of_pos _ h⟩
theorem ok_pool {f : Addr} {fd : FuncData} (F : Fun K "_law_pool" "_law_pool" s__law_pool f fd) (hlen : mg "len" = none) :
    FnOk P w K mg base CX0 1 f fd ["_law_script", "_law_k"] (spPool K) := by
  refine F.ok scPool (fun vs H Q E h => ?_) (fun cdv A outer s H vs Q E hr h => ?_)
  · obtain ⟨a, ns, k, rfl, _⟩ := h
    rfl
  · obtain ⟨a, ns, k, rfl, hS, hk1, hk2, kont⟩ := h
    refine ⟨_, pss_cons (ps_set (i := 2) scPool.nd rfl (Or.inl rfl) pe_int)
      (pss_cons (ps_if (pt_cmpR op_lt (pv 1) (pe_callB call_len_seq (by rfl) hlen PySem.boot_len (pa_cons (pv 0) pa_nil)) (nomark _))
        (pss_one (ps_set (i := 2) scPool.nd rfl (Or.inl rfl) (pe_ix ix_list (pv 0) (pv 1) (fun _ _ => rfl)))) pss_nil)
      (pss_cons (ps_set (i := 3) scPool.nd rfl (Or.inl rfl) (pe_op op_mod (pe_op op_mul (pe_op op_add (pe_op op_add (pe_op op_mod (pv 2) pe_int)
        (pe_op op_mul (pe_op op_mul pe_int (pv 1)) (pv 1))) pe_int) pe_int) pe_int))
      (pss_cons (ps_if (pt_cmpR op_lt (pv 2) (pe_op op_pow pe_int pe_int) (nomark _)) (pss_one (ps_set (i := 2) scPool.nd rfl (Or.inl rfl) pe_int)) pss_nil)
      (pss_one (ps_ret (pe_lst (pa_cons (pv 2) (pa_cons (pe_op op_add (pe_op op_mod (pe_op op_mul (pv 3) (pv 3)) pe_int) pe_int) pa_nil)))))))), ?_⟩
    refine ⟨_, rfl, _, rfl, a, _, rfl, .inl hS, _, _, rfl, rfl, _, rfl, ?_⟩
    -- behind the first if: some cell in slot 2
    have rest : ∀ c : Int, (tSeq (tAsg (tOp (rI (fun _ j => 0 < j) fun i j => .int (i % j)) (tOp (rI CMul fun i j => .int (i * j)) (tOp (rI0 fun i j => .int (i + j))
        (tOp (rI0 fun i j => .int (i + j)) (tOp (rI (fun _ j => 0 < j) fun i j => .int (i % j)) (tVar 2) (tC (.int 2147483629)))
          (tOp (rI CMul fun i j => .int (i * j)) (tOp (rI CMul fun i j => .int (i * j)) (tC (.int 7919)) (tVar 1)) (tVar 1))) (tC (.int 13))) (tC (.int 48271))) (tC (.int 2147483647))) (gName 3)) 
        (tSeq (tIfS (tTest (tOp (rI0 fun i j => .bl (decide (i < j))) (tVar 2) (tOp (rI CPow fun i j => .int (i ^ j.toNat)) (tC (.int 10)) (tC (.int 18))))) (tAsg (tC (.int 0)) (gName 2)) tNext)
          (tRet (tLst (tCons (tVar 2) (tCons (tOp (rI0 fun i j => .int (i + j)) (tOp (rI (fun _ j => 0 < j) fun i j => .int (i % j)) (tOp (rI CMul fun i j => .int (i * j)) (tVar 3) (tVar 3)) (tC (.int 2147483587))) (tC (.int 1))) tNil))))))
        { nx := fun _ H' => Q .non H', rt := Q } [some (.ref a), some (.int k), some (.int c), none] H := fun c => by
      refine ⟨_, rfl, _, _, rfl, rfl, (by show (0 : Int) < 2147483629; decide), _, rfl, _, _, rfl, rfl, .inl ⟨by decide, by decide⟩, _, rfl, _, _, rfl, rfl, .inr ⟨by omega, by omega⟩, _, _, rfl, rfl,
        _, _, rfl, rfl, _, _, rfl, rfl, .inr ⟨by decide, by decide⟩, _, _, rfl, rfl, (by show (0 : Int) < 2147483647; decide), ?_⟩
      have e1 := mod_in ((c % 2147483629 + 7919 * k * k + 13) * 48271) (b := 2147483647) (by decide)
      refine ⟨_, rfl, _, _, rfl, rfl, ⟨by decide, by decide, by decide⟩, _, _, rfl, rfl, _, rfl, ?_⟩
      have fin : ∀ c' : Int, (tRet (tLst (tCons (tVar 2) (tCons (tOp (rI0 fun i j => .int (i + j)) (tOp (rI (fun _ j => 0 < j) fun i j => .int (i % j)) (tOp (rI CMul fun i j => .int (i * j)) (tVar 3) (tVar 3)) (tC (.int 2147483587))) (tC (.int 1))) tNil))))
          { nx := fun _ H' => Q .non H', rt := Q } [some (.ref a), some (.int k), some (.int c'), some (.int ((c % 2147483629 + 7919 * k * k + 13) * 48271 % 2147483647))] H := fun c' => by
        refine ⟨_, rfl, _, rfl, _, rfl, _, _, rfl, rfl, .inl ⟨by omega, by omega⟩, _, _, rfl, rfl, (by show (0 : Int) < 2147483587; decide), _, _, rfl, rfl, (by show 2 ≤ sizeLine; decide), fun p hp => ?_⟩
        have e2 := mod_in ((c % 2147483629 + 7919 * k * k + 13) * 48271 % 2147483647 * ((c % 2147483629 + 7919 * k * k + 13) * 48271 % 2147483647)) (b := 2147483587) (by decide)
        exact kont p _ hp (fun b o e => by rw [upd_ne (ne_of_none e hp)]; exact e) ⟨_, _, upd_same, by omega, by omega⟩
      exact ite2 (fun _ => fin 0) (fun _ => fin c)
    refine ite2 (fun hlt => ?_) (fun _ => rest 0)
    have hkn : k.toNat < (ns.map V.int).length := by
      have hlt := of_decide_eq_true hlt
      rw [List.length_map] at hlt ⊢
      omega
    have hki : (ns.map V.int)[k.toNat]? = some (V.int (ns[k.toNat]'(by rw [List.length_map] at hkn; exact hkn))) := by
      rw [List.getElem?_map, List.getElem?_eq_getElem (by rw [List.length_map] at hkn; exact hkn)]
      rfl
    have hat := atI_nat hki
    rw [show ((k.toNat : Nat) : Int) = k by omega] at hat
    exact ⟨_, rfl, _, rfl, a, _, k, _, rfl, rfl, hS, hat, rest _⟩
end
theorem boot_isi : bootBuiltins "isinstance" = some (.builtin "isinstance") := by decide +kernel
theorem boot_all : bootBuiltins "all" = some (.builtin "all") := by decide +kernel
theorem boot_len1 : bootBuiltins "len" = some (.builtin "len") := by decide +kernel
/-- built-in names that the program leaves as they are -/
structure Nms (mg : Str → Option Value) : Prop where
  isi : mg "isinstance" = none
  int : mg "int" = none
  bool : mg "bool" = none
  list : mg "list" = none
  tuple : mg "tuple" = none
  len : mg "len" = none
  all : mg "all" = none
  range : mg "range" = none
  enumerate : mg "enumerate" = none
  min : mg "min" = none
  max : mg "max" = none
  sorted : mg "sorted" = none
  repr : mg "repr" = none
/-- a def x stands at f and keeps sp -/
def At (P : Program) (w : World) (K : PySem.W.Frag) (mg : Str → Option Value) (base : Heap) (CX : CXT) (k : Nat) (x : Str) (ps : List Str) (sp : Sp) : Prop :=
  ∃ f fd, FnOk P w K mg base CX k f fd ps sp ∧ mg x = some (.ref f) ∧ PySem.W.keepIn K (.ref f) = true ∧ Binds K fd ps []
def spIsInteger (K : PySem.W.Frag) : Sp := fun vs H Q _ => ∃ v d, vs = [v] ∧ Rd K H v d ∧ Q (.bl (isI d)) H
def spWithin (K : PySem.W.Frag) : Sp := fun vs H Q _ => ∃ v d lo hi, vs = [v, .int lo, .int hi] ∧ Rd K H v d ∧ Q (.bl (within lo hi d)) H
def lenD : PyData → Nat
  | .list ds => ds.length
  | _ => 0
def isIL (n : Nat) : PyData → Bool
  | .list ds => decide (ds.length = n) && ds.all isI
  | _ => false
def spIntList (K : PySem.W.Frag) : Sp := fun vs H Q _ => ∃ v d, ∃ n : Nat, vs = [v, .int n] ∧ Rd K H v d ∧ lenD d ≤ 100000 ∧ ∀ H', Same H H' → Q (.bl (isIL n d)) H'
def isNode (n : Nat) (d : PyData) : Bool := within 0 ((n : Int) - 1) d
def spIsNode (K : PySem.W.Frag) : Sp := fun vs H Q _ => ∃ v d, ∃ n : Nat, vs = [.int n, v] ∧ Rd K H v d ∧ Q (.bl (isNode n d)) H
theorem rdInt {K : PySem.W.Frag} {H : Hp} {v : V} {i : Int} (h : Rd K H v (.int i)) : v = .int i := by
  cases h with
  | dat h => cases h; rfl
theorem rdList {K : PySem.W.Frag} {H : Hp} {v : V} {ds : List PyData} (h : Rd K H v (.list ds)) : ∃ a xs, v = .ref a ∧ SqL K H a xs ∧ DpAll K H xs ds := by
  cases h with
  | dat h =>
    cases h with
    | lst h1 h2 => exact ⟨_, _, rfl, h1, h2⟩
theorem dpAllLen {K : PySem.W.Frag} {H : Hp} : ∀ {xs : List V} {ds : List PyData}, DpAll K H xs ds → xs.length = ds.length
  | [], _, h => by cases h; rfl
  | x :: xs, _, h => by
    cases h with
    | cons h1 h2 => rw [List.length_cons, List.length_cons, dpAllLen h2]
theorem dpAllAt {K : PySem.W.Frag} {H : Hp} : ∀ {xs : List V} {ds : List PyData} {i : Nat} {x : V}, DpAll K H xs ds → xs[i]? = some x → Dp K H x (ds.getD i .none)
  | [], _, _, _, _, e => by simp at e
  | y :: xs, _, 0, x, h, e => by
    cases h with
    | cons h1 h2 =>
      have e' : y = x := Option.some.inj e
      subst e'
      exact h1
  | y :: xs, _, i + 1, x, h, e => by
    cases h with
    | cons h1 h2 => exact dpAllAt (i := i) h2 e
theorem allRange (p : PyData → Bool) : ∀ ds : List PyData, ((List.range ds.length).map fun i => p (ds.getD i .none)).all id = ds.all p := by
  intro ds
  have e : (List.range ds.length).map (fun i => p (ds.getD i .none)) = ds.map p := by
    apply List.ext_getElem
    · simp
    · intro i h1 h2
      simp only [List.length_map, List.length_range] at h1
      rw [List.getElem_map, List.getElem_range, List.getElem_map, List.getD_eq_getElem?_getD, List.getElem?_eq_getElem h1]
      rfl
  rw [e, List.all_map]
  rfl
section
variable {P : Program} {w : World} {K : PySem.W.Frag} {mg : Str → Option Value} {base : Heap} {CXa : CXT}
theorem sc_is_integer : FnScope ["thing"] ["thing"] (defScope s_is_integer) := ⟨rfl, rfl, rfl, by decide +kernel, rfl, by decide +kernel, by decide +kernel⟩
theorem ok_is_integer {f : Addr} {fd : FuncData} (F : Fun K "is_integer" "is_integer" s_is_integer f fd) (M : Nms mg) : FnOk P w K mg base CX0 1 f fd ["thing"] (spIsInteger K) := by
  refine F.ok sc_is_integer (fun vs H Q E h => ?_) (fun cdv A outer s H vs Q E hr h => ?_)
  · obtain ⟨v, d, rfl, _⟩ := h
    rfl
  · obtain ⟨v, d, rfl, hd, k⟩ := h
    refine ⟨_, pss_one (ps_ret (pe_and (pe_callB call_isi (by rfl) M.isi boot_isi (pa_cons (pv 0) (pa_cons (pe_bltn (v := V.ty "int") rfl M.int (by decide +kernel) rfl) pa_nil)))
      (pe_one (pe_not (pe_callB call_isi (by rfl) M.isi boot_isi (pa_cons (pv 0) (pa_cons (pe_bltn (v := V.ty "bool") rfl M.bool (by decide +kernel) rfl) pa_nil))))))), ?_⟩
    refine ⟨_, rfl, v, _, _, _, _, rfl, .ty _, rdTy hd, kitI K d, _, rfl, ?_⟩
    cases d with
    | int i => exact iteT ⟨_, rfl, v, _, _, _, _, rfl, .ty _, rdTy hd, kitBo K _, _, rfl, k⟩
    | bool b => exact iteT ⟨_, rfl, v, _, _, _, _, rfl, .ty _, rdTy hd, kitBo K _, _, rfl, k⟩
    | none => exact iteF k
    | str _ => exact iteF k
    | list _ => exact iteF k
    | tuple _ => exact iteF k
    | dict _ => exact iteF k
theorem sc_within : FnScope ["thing", "low", "high"] ["thing", "low", "high"] (defScope s_is_integer_within) := ⟨rfl, rfl, rfl, by decide +kernel, rfl, by decide +kernel, by decide +kernel⟩
theorem ok_within {f : Addr} {fd : FuncData} (F : Fun K "is_integer_within" "is_integer_within" s_is_integer_within f fd) (G : At P w K mg base CX0 1 "is_integer" ["thing"] (spIsInteger K)) :
    FnOk P w K mg base CX0 2 f fd ["thing", "low", "high"] (spWithin K) := by
  obtain ⟨g, gd, G, mG, kG, bG⟩ := G
  refine F.ok sc_within (fun vs H Q E h => ?_) (fun cdv A outer s H vs Q E hr h => ?_)
  · obtain ⟨v, d, lo, hi, rfl, _⟩ := h
    rfl
  · obtain ⟨v, d, lo, hi, rfl, hd, k⟩ := h
    refine ⟨_, pss_one (ps_ret (pe_and (pe_call G hr (by rfl) mG kG bG .nil pass0 (pa_cons (pv 0) pa_nil)) (pe_one (pe_chain op_le op_le (pv 1) (pv 0) (pv 2))))), ?_⟩
    refine ⟨_, rfl, v, d, rfl, hd, _, rfl, ?_⟩
    cases d with
    | int i =>
      have e := rdInt hd
      subst e
      refine iteT ⟨_, rfl, _, rfl, _, _, rfl, rfl, _, rfl, ?_⟩
      by_cases hl : lo ≤ i
      · rw [decide_eq_true hl]
        have k : Q (.bl (decide (lo ≤ i) && decide (i ≤ hi))) H := k
        rw [decide_eq_true hl, Bool.true_and] at k
        exact iteT ⟨_, rfl, _, _, rfl, rfl, k⟩
      · rw [decide_eq_false hl]
        have k : Q (.bl (decide (lo ≤ i) && decide (i ≤ hi))) H := k
        rw [decide_eq_false hl, Bool.false_and] at k
        exact iteF k
    | bool b => exact iteF k
    | none => exact iteF k
    | str _ => exact iteF k
    | list _ => exact iteF k
    | tuple _ => exact iteF k
    | dict _ => exact iteF k
theorem sc_int_list : FnScope ["thing", "length", "entry"] ["thing", "length"] (defScope s_is_integer_list) := ⟨rfl, rfl, rfl, by decide +kernel, rfl, by decide +kernel, by decide +kernel⟩
theorem decLen (i j : Nat) : decide (V.int (i : Int) = V.int (j : Int)) = decide (i = j) := by
  by_cases h : i = j
  · subst h
    rw [decide_eq_true rfl, decide_eq_true rfl]
  · rw [decide_eq_false h, decide_eq_false (fun z => h (by injection z with z; exact Int.ofNat.inj z))]
theorem ok_int_list {f : Addr} {fd : FuncData} (F : Fun K "is_integer_list" "is_integer_list" s_is_integer_list f fd) (M : Nms mg) (G : At P w K mg base CX0 1 "is_integer" ["thing"] (spIsInteger K)) :
    FnOk P w K mg base CX0 2 f fd ["thing", "length"] (spIntList K) := by
  obtain ⟨g, gd, G, mG, kG, bG⟩ := G
  refine F.ok sc_int_list (fun vs H Q E h => ?_) (fun cdv A outer s H vs Q E hr h => ?_)
  · obtain ⟨v, d, n, rfl, _⟩ := h
    rfl
  · obtain ⟨v, d, n, rfl, hd, hl, k⟩ := h
    refine ⟨_, pss_one (ps_ret (pe_and (pe_callB call_isi (by rfl) M.isi boot_isi (pa_cons (pv 0) (pa_cons (pe_bltn (v := V.ty "list") rfl M.list (by decide +kernel) rfl) pa_nil)))
      (pe_and (pe_cmpR op_eq (pe_callB call_len_seq (by rfl) M.len boot_len1 (pa_cons (pv 0) pa_nil)) (pv 1) (nomark _))
      (pe_one (pe_callB (cr_all rfl) (by rfl) M.all boot_all (pa_cons (pe_lc (own := [("entry", 2)]) (g := gName 2) (tt := tYes) rfl sc_int_list.nd (pi_list (pv 0))
        (blkOk_by (own := [("entry", 2)]) (N := ["thing", "length", "entry"]) (sc := defScope s_is_integer_list) (by decide +kernel))
        (fun _ _ _ _ _ => pg_name (i := 2) sc_int_list.nd rfl (Or.inl rfl)) (fun _ _ _ _ _ => pts_nil)
        (fun _ _ _ _ _ => pe_call G hr (by rfl) mG kG bG .nil pass0 (pa_cons (pv 2) pa_nil))) pa_nil)))))), ?_⟩
    refine ⟨_, rfl, v, _, _, _, _, rfl, .ty _, rdTy hd, kitL K d, _, rfl, ?_⟩
    have no : isLst d = false → Q (.bl false) H := fun z => by
      have e : isIL n d = false := by cases d <;> first | rfl | cases z
      have q := k H (Same.refl H)
      rw [e] at q
      exact q
    cases d with
    | bool b => exact iteF (no rfl)
    | none => exact iteF (no rfl)
    | str _ => exact iteF (no rfl)
    | int _ => exact iteF (no rfl)
    | tuple _ => exact iteF (no rfl)
    | dict _ => exact iteF (no rfl)
    | list ds =>
      obtain ⟨a, xs, rfl, hx, hds⟩ := rdList hd
      have hlen := dpAllLen hds
      refine iteT ⟨_, rfl, a, xs, rfl, .inl hx, _, rfl, rfl, _, rfl, ?_⟩
      rw [decLen, hlen]
      by_cases hn : ds.length = n
      · rw [decide_eq_true hn]
        refine iteT ⟨_, rfl, a, rfl, ⟨_, hx⟩, fun D hD => lc_map (K := K) (a := a) (xs := xs) (fun i => V.bl (isI (ds.getD i .none))) hD hx (fun x => rfl) (fun i x H' hi sm hd' => ?_) (fun H' sm hd' => ?_)⟩
        · have hi' : i < xs.length := (List.getElem?_eq_some_iff.mp hi).1
          have hl' : ds.length ≤ 100000 := hl
          exact ⟨_, rfl, x, _, rfl, .dat (dpSame sm _ _ (dpAllAt hds hi)), lcT hD (by omega) sm hd' (Same.refl _) rfl⟩
        · refine ⟨D, (List.range xs.length).map fun i => isI (ds.getD i .none), rfl, SqL.of (by rw [List.map_map]; exact hd'), ?_⟩
          have q := k H' sm
          have e : isIL n (.list ds) = ds.all isI := by
            show (decide (ds.length = n) && ds.all isI) = _
            rw [decide_eq_true hn, Bool.true_and]
          rw [e] at q
          rw [hlen, allRange]
          exact q
      · rw [decide_eq_false hn]
        have q := k H (Same.refl H)
        have e : isIL n (.list ds) = false := by
          show (decide (ds.length = n) && ds.all isI) = _
          rw [decide_eq_false hn, Bool.false_and]
        rw [e] at q
        exact iteF q
theorem sc_is_node : FnScope ["size", "thing"] ["size", "thing"] (defScope s_is_node) := ⟨rfl, rfl, rfl, by decide +kernel, rfl, by decide +kernel, by decide +kernel⟩
theorem ok_is_node {f : Addr} {fd : FuncData} (F : Fun K "is_node" "is_node" s_is_node f fd) (G : At P w K mg base CX0 2 "is_integer_within" ["thing", "low", "high"] (spWithin K)) :
    FnOk P w K mg base CX0 3 f fd ["size", "thing"] (spIsNode K) := by
  obtain ⟨g, gd, G, mG, kG, bG⟩ := G
  refine F.ok sc_is_node (fun vs H Q E h => ?_) (fun cdv A outer s H vs Q E hr h => ?_)
  · obtain ⟨v, d, n, rfl, _⟩ := h
    rfl
  · obtain ⟨v, d, n, rfl, hd, k⟩ := h
    exact ⟨_, pss_one (ps_ret (pe_call G hr (by rfl) mG kG bG .nil pass0 (pa_cons (pv 1) (pa_cons pe_int (pa_cons (pe_op op_sub (pv 0) pe_int) pa_nil))))),
      _, rfl, _, rfl, _, _, rfl, rfl, v, d, _, _, rfl, hd, k⟩
end
def flipL (row x : List Int) (v : Nat) : List Int := (row.foldl (fun y o => y.set o.toNat (y.getD o.toNat 0 + x.getD v 0)) x).set v (-(x.getD v 0))
/-- the neighbours' lists name nodes -/
def WF (N : List (List Int)) : Prop := ∀ i, i < N.length → ∀ o ∈ N.getD i [], 0 ≤ o ∧ o < N.length
theorem foldSetLen (c : Int) : ∀ (row : List Int) (x : List Int), (row.foldl (fun y o => y.set o.toNat (y.getD o.toNat 0 + c)) x).length = x.length
  | [], x => rfl
  | o :: row, x => by
    rw [List.foldl_cons, foldSetLen c row, List.length_set]
theorem flipLen (row x : List Int) (v : Nat) : (flipL row x v).length = x.length := by
  unfold flipL
  rw [List.length_set, foldSetLen]
theorem mapSet {x : List Int} {i : Nat} {z : Int} : (x.map V.int).set i (.int z) = (x.set i z).map V.int := by
  rw [List.map_set]
theorem mapAt {x : List Int} {i : Nat} (h : i < x.length) : (x.map V.int)[i]? = some (V.int (x.getD i 0)) := by
  rw [List.getElem?_map, List.getElem?_eq_getElem h, List.getD_eq_getElem?_getD, List.getElem?_eq_getElem h]
  rfl
theorem atInt {x : List Int} {i : Int} (h0 : 0 ≤ i) (h : i < x.length) : atI (x.map V.int) i = some (V.int (x.getD i.toNat 0)) := by
  have z := atI_nat (mapAt (x := x) (i := i.toNat) (by omega))
  rwa [show ((i.toNat : Nat) : Int) = i by omega] at z
theorem ixInt {x : List Int} {i : Int} (h0 : 0 ≤ i) (h : i < x.length) : ixN (x.map V.int).length i = some i.toNat := by
  unfold ixN
  rw [if_pos h0, List.length_map, if_pos h]
/-- lists of ints at addresses -/
def RowsAt (H : Hp) (rows : List Addr) (N : List (List Int)) : Prop := rows.length = N.length ∧ ∀ (k : Nat) (r : Addr), rows[k]? = some r → H r = some (.lst ((N.getD k []).map V.int))
def NAt (H : Hp) (p : Addr) (N : List (List Int)) : Prop := ∃ rows, H p = some (.lst (rows.map V.ref)) ∧ RowsAt H rows N
theorem RowsAt.same {H H' : Hp} {rows : List Addr} {N : List (List Int)} (h : RowsAt H rows N) (s : Same H H') : RowsAt H' rows N := ⟨h.1, fun k r e => s _ _ (h.2 k r e)⟩
theorem NAt.same {H H' : Hp} {p : Addr} {N : List (List Int)} (h : NAt H p N) (s : Same H H') : NAt H' p N := by
  obtain ⟨rows, h1, h2⟩ := h
  exact ⟨rows, s _ _ h1, h2.same s⟩
theorem NAt.row {H : Hp} {p : Addr} {N : List (List Int)} (h : NAt H p N) {i : Int} (h0 : 0 ≤ i) (hi : i < N.length) :
    ∃ xs r, H p = some (.lst xs) ∧ atI xs i = some (.ref r) ∧ H r = some (.lst ((N.getD i.toNat []).map V.int)) := by
  obtain ⟨rows, h1, h2, h3⟩ := h
  have hl : i.toNat < rows.length := by omega
  refine ⟨_, rows[i.toNat], h1, ?_, h3 i.toNat _ (List.getElem?_eq_getElem hl)⟩
  have z : (rows.map V.ref)[i.toNat]? = some (V.ref rows[i.toNat]) := by
    rw [List.getElem?_map, List.getElem?_eq_getElem hl]
    rfl
  have q := atI_nat z
  rwa [show ((i.toNat : Nat) : Int) = i by omega] at q
end K71
set_option Elab.async false
set_option linter.all false
set_option maxRecDepth 100000
set_option maxHeartbeats 8000000
namespace K71
open PySem PySem.Spec PyProof.Rows L2 FNX
def gflds (n : Int) (j nr : Addr) : List (Str × V) := [("node_count", .int n), ("joined", .ref j), ("near", .ref nr)]
theorem gl_n (n : Int) (j nr : Addr) : (gflds n j nr).lookup ("node_count" : Str) = some (.int n) := by
  unfold gflds
  simp [List.lookup]
theorem gl_j (n : Int) (j nr : Addr) : (gflds n j nr).lookup ("joined" : Str) = some (.ref j) := rfl
theorem gl_r (n : Int) (j nr : Addr) : (gflds n j nr).lookup ("near" : Str) = some (.ref nr) := rfl
def GAt (CG : Addr) (H : Hp) (g : Addr) (N : List (List Int)) : Prop := ∃ dx j nr, H g = some (.ins CG dx (gflds (N.length : Int) j nr)) ∧ NAt H nr N
theorem GAt.same {CG : Addr} {H H' : Hp} {g : Addr} {N : List (List Int)} (h : GAt CG H g N) (s : Same H H') : GAt CG H' g N := by
  obtain ⟨dx, j, nr, h1, h2⟩ := h
  exact ⟨dx, j, nr, s _ _ h1, h2.same s⟩
/-- what the walk asks of the class Graph -/
structure GTxt (K : PySem.W.Frag) (mg : Str → Option Value) (CG : Addr) : Prop where
  cl : Cls K CG
  n1 : NoAttr K CG "node_count"
  n2 : NoAttr K CG "joined"
  n3 : NoAttr K CG "near"
  mgC : mg "Graph" = some (.ref CG)
/-- a method x of Graph keeps sp -/
def MAt (P : Program) (w : World) (K : PySem.W.Frag) (mg : Str → Option Value) (base : Heap) (CG : Addr) (CX : CXT) (k : Nat) (x : Str) (ps : List Str) (sp : Sp) : Prop :=
  ∃ f fd, FnOk P w K mg base CX k f fd ps sp ∧ Meth K CG x f ∧ Binds K fd ps []
def spFlip : Sp := fun vs H Q _ => ∃ p r, ∃ x row : List Int, ∃ v : Int, vs = [.ref p, .int v, .ref r] ∧ H p = some (.lst (x.map V.int)) ∧ H r = some (.lst (row.map V.int)) ∧ p ≠ r ∧
  0 ≤ v ∧ v < x.length ∧ (∀ o ∈ row, 0 ≤ o ∧ o < x.length) ∧ ∀ H', H' p = some (.lst ((flipL row x v.toNat).map V.int)) → (∀ b, b ≠ p → H' b = H b) → Q .non H'
section
variable {P : Program} {w : World} {K : PySem.W.Frag} {mg : Str → Option Value} {base : Heap} {CG : Addr}
theorem sc_gsize : FnScope ["self"] ["self"] (defScope s_Graph_size) := ⟨rfl, rfl, rfl, by decide +kernel, rfl, by decide +kernel, by decide +kernel⟩
theorem sc_check_node : FnScope ["size", "node"] ["size", "node"] (defScope s_check_node) := ⟨rfl, rfl, rfl, by decide +kernel, rfl, by decide +kernel, by decide +kernel⟩
theorem sc_neighbours : FnScope ["self", "node"] ["self", "node"] (defScope s_Graph_neighbours) := ⟨rfl, rfl, rfl, by decide +kernel, rfl, by decide +kernel, by decide +kernel⟩
end
theorem takeMore {α : Type} : ∀ {l : List α} {i : Nat} {x : α}, l[i]? = some x → l.take (i + 1) = l.take i ++ [x]
  | [], _, _, h => by simp at h
  | a :: l, 0, x, h => by
    have e : a = x := Option.some.inj h
    subst e
    rfl
  | a :: l, i + 1, x, h => by
    rw [List.take_succ_cons, List.take_succ_cons, takeMore (l := l) (i := i) h]
    rfl
theorem intsAt {x : List Int} {i : Nat} {y : V} (h : (x.map V.int)[i]? = some y) : ∃ o, x[i]? = some o ∧ y = .int o := by
  rw [List.getElem?_map] at h
  cases e : x[i]? with
  | none =>
    rw [e] at h
    cases h
  | some o =>
    rw [e] at h
    exact ⟨o, rfl, (Option.some.inj h).symm⟩
section
variable {P : Program} {w : World} {K : PySem.W.Frag} {mg : Str → Option Value} {base : Heap} {CG : Addr}
theorem sc_flip : FnScope ["numbers", "node", "near", "number", "other"] ["numbers", "node", "near"] (defScope s_flip_in_place) := ⟨rfl, rfl, rfl, by decide +kernel, rfl, by decide +kernel, by decide +kernel⟩
theorem ok_flip {f : Addr} {fd : FuncData} (F : Fun K "flip_in_place" "flip_in_place" s_flip_in_place f fd) : FnOk P w K mg base CX0 1 f fd ["numbers", "node", "near"] spFlip := by
  refine F.ok sc_flip (fun vs H Q E h => ?_) (fun cdv A outer s H vs Q E hr h => ?_)
  · obtain ⟨p, r, x, row, v, rfl, _⟩ := h
    rfl
  · obtain ⟨p, r, x, row, v, rfl, hp, hrow, hne, h0, h1, hin, k⟩ := h
    refine ⟨_, pss_cons (ps_set (i := 3) sc_flip.nd rfl (Or.inl rfl) (pe_ix ix_list (pv 0) (pv 1) (fun _ _ => rfl)))
      (pss_cons (ps_for PassesOwn.never rfl (pi_list (pv 2)) (pg_name (i := 4) sc_flip.nd rfl (Or.inl rfl)) (pss_one (ps_augS (pv 0) (pv 4) pget_list (pv 3) ip_add set_list)))
      (pss_one (ps_asg (pe_un un_neg (pv 3)) (pg_sub (pv 0) (pv 1) set_list)))), ?_⟩
    refine ⟨_, rfl, _, rfl, p, _, _, _, rfl, rfl, SqL.of hp, atInt h0 h1, ?_⟩
    refine ⟨_, rfl, r, rfl, ⟨_, SqL.of hrow⟩, for_list (K := K) (a := r) (xs := row.map V.int) (fun i σ H' => ∃ o4 : Option V, σ = [some (.ref p), some (.int v), some (.ref r), some (.int (x.getD v.toNat 0)), o4] ∧
      H' p = some (.lst (((row.take i).foldl (fun y o => y.set o.toNat (y.getD o.toNat 0 + x.getD v.toNat 0)) x).map V.int)) ∧ ∀ b, b ≠ p → H' b = H b)
      ⟨none, rfl, hp, fun b _ => rfl⟩ (fun i σ H' _ h => ?_) (fun i y σ H' hi h => ?_) (fun σ H' h => ?_)⟩
    · obtain ⟨o4, _, _, h3⟩ := h
      exact SqL.of ((h3 r hne.symm).trans hrow)
    · obtain ⟨o4, rfl, e1, e2⟩ := h
      obtain ⟨o, ho, rfl⟩ := intsAt hi
      have hb := hin o (List.mem_of_getElem? ho)
      have hl := foldSetLen (x.getD v.toNat 0) (row.take i) x
      have hb' : o < ((row.take i).foldl (fun y o => y.set o.toNat (y.getD o.toNat 0 + x.getD v.toNat 0)) x).length := by
        rw [hl]
        exact hb.2
      refine ⟨_, rfl, _, rfl, p, _, o, _, rfl, rfl, SqL.of e1, atInt hb.1 hb', _, rfl, _, _, rfl, rfl, p, _, o, _, rfl, rfl, e1, ixInt hb.1 hb', ?_⟩
      refine ⟨_, rfl, ?_, fun b hb2 => by rw [upd_ne hb2]; exact e2 b hb2⟩
      rw [upd_same, takeMore ho, List.foldl_append, mapSet]
      rfl
    · obtain ⟨o4, rfl, e1, e2⟩ := h
      rw [List.length_map, List.take_length] at e1
      have hl := foldSetLen (x.getD v.toNat 0) row x
      refine ⟨_, rfl, _, rfl, _, rfl, _, rfl, p, _, v, _, rfl, rfl, e1, ixInt h0 (by rw [hl]; exact h1), ?_⟩
      refine k _ ?_ fun b hb => by rw [upd_ne hb]; exact e2 b hb
      rw [upd_same, mapSet]
      rfl
end
def posD (x : List Int) : PyData := .list (x.map .int)
theorem dpInts {K : PySem.W.Frag} {H : Hp} : ∀ x : List Int, DpAll K H (x.map V.int) (x.map PyData.int)
  | [] => .nil
  | _ :: x => .cons (.int _) (dpInts x)
theorem ilPos {n : Nat} {x : List Int} (h : x.length = n) : isIL n (posD x) = true := by
  show (decide ((x.map PyData.int).length = n) && (x.map PyData.int).all isI) = true
  rw [List.length_map, decide_eq_true h, List.all_map]
  simp [isI]
def spCheckPos (K : PySem.W.Frag) (CP : Addr) : Sp := fun vs H Q E => ∃ v d, ∃ n : Nat, vs = [.int n, v] ∧ Rd K H v d ∧ lenD d ≤ 100000 ∧ (∀ H', Same H H' → isIL n d = true → Q .non H') ∧
  ∀ H' dd, Same H H' → H dd = none → H' dd = some (.xd [(("value" : Str), v)]) → isIL n d = false → E (.ref CP) (some dd) H'
section
variable {P : Program} {w : World} {K : PySem.W.Frag} {mg : Str → Option Value} {base : Heap} {CG CP CL : Addr}
theorem sc_check_position : FnScope ["size", "position"] ["size", "position"] (defScope s_check_position) := ⟨rfl, rfl, rfl, by decide +kernel, rfl, by decide +kernel, by decide +kernel⟩
theorem ok_check_position {f : Addr} {fd : FuncData} (F : Fun K "check_position" "check_position" s_check_position f fd) (T : Ex P w K mg base "InvalidPosition" CP)
    (tyC : PySem.W.typeIn K (.ref CP) = some (.type "type")) (G : At P w K mg base CX0 2 "is_integer_list" ["thing", "length"] (spIntList K)) : FnOk P w K mg base (L2.CX P w) 3 f fd ["size", "position"] (spCheckPos K CP) := by
  obtain ⟨g, gd, G, mG, kG, bG⟩ := G
  refine F.okX sc_check_position (fun vs H Q E h => ?_) (fun cdv A outer s H vs Q E hr h => ?_)
  · obtain ⟨v, d, n, rfl, _⟩ := h
    rfl
  · obtain ⟨v, d, n, rfl, hd, hl, k1, k2⟩ := h
    refine ⟨_, pss_one (ps_if (pt_not (pt_val (pe_call G hr (by rfl) mG kG bG .nil pass0 (pa_cons (pv 1) (pa_cons (pv 0) pa_nil)))))
      (pss_one (ps_raiseX rfl T tyC hr (takes_of rfl rfl rfl rfl) rfl (pa_cons (pv 1) pa_nil))) pss_nil), ?_⟩
    refine ⟨_, rfl, _, rfl, v, d, n, rfl, hd, hl, fun H1 s1 => ⟨_, rfl, ?_⟩⟩
    by_cases e : isIL n d = true
    · rw [e]
      exact iteF (k1 H1 s1 e)
    · have e : isIL n d = false := by simpa using e
      rw [e]
      exact iteT ⟨_, rfl, v, rfl, fun dd H' nd s2 hx => k2 H' dd (s1.trans s2) (s1.free nd) hx e⟩
end
end K71
set_option Elab.async false
set_option linter.all false
set_option maxRecDepth 100000
set_option maxHeartbeats 8000000
namespace K71
open PySem PySem.Spec PyProof.Rows L2 FNX
def pairD (e : Int × Int) : PyData := .tuple [.int e.1, .int e.2]
theorem eqvPair (e f : Int × Int) : PyData.eqv (pairD e) (pairD f) = decide (e = f) := by
  have h : PyData.eqv (pairD e) (pairD f) = ((e.1 == f.1) && ((e.2 == f.2) && true)) := by
    unfold pairD
    first
      | rfl
      | simp [PyData.eqv, PyData.eqvAll]
  rw [h, Bool.and_true]
  by_cases c : e = f
  · subst c
    simp
  · rw [decide_eq_false c]
    by_cases c1 : e.1 = f.1
    · by_cases c2 : e.2 = f.2
      · exact absurd (Prod.ext c1 c2) c
      · have z : (e.2 == f.2) = false := by simpa using c2
        rw [z, Bool.and_false]
    · have z : (e.1 == f.1) = false := by simpa using c1
      rw [z, Bool.false_and]
/-- edges at addresses -/
def TupsAt (H : Hp) (ts : List Addr) (es : List (Int × Int)) : Prop := ts.length = es.length ∧ ∀ (k : Nat) (t : Addr), ts[k]? = some t → ∃ e, es[k]? = some e ∧ H t = some (.tup [.int e.1, .int e.2])
def EdgesAt (H : Hp) (p : Addr) (es : List (Int × Int)) : Prop := ∃ ts, H p = some (.lst (ts.map V.ref)) ∧ TupsAt H ts es
theorem TupsAt.same {H H' : Hp} {ts : List Addr} {es : List (Int × Int)} (h : TupsAt H ts es) (s : Same H H') : TupsAt H' ts es := ⟨h.1, fun k t e => by
  obtain ⟨x, h1, h2⟩ := h.2 k t e
  exact ⟨x, h1, s _ _ h2⟩⟩
theorem EdgesAt.same {H H' : Hp} {p : Addr} {es : List (Int × Int)} (h : EdgesAt H p es) (s : Same H H') : EdgesAt H' p es := by
  obtain ⟨ts, h1, h2⟩ := h
  exact ⟨ts, s _ _ h1, h2.same s⟩
structure GoodE (n : Nat) (es : List (Int × Int)) : Prop where
  node : ∀ e ∈ es, 0 ≤ e.1 ∧ e.1 < e.2 ∧ e.2 < n
  once : es.Nodup
  few : es.length ≤ 40
theorem dpTups {K : PySem.W.Frag} {H : Hp} : ∀ {ts : List Addr} {es : List (Int × Int)}, TupsAt H ts es → DpAll K H (ts.map V.ref) (es.map pairD)
  | [], [], _ => .nil
  | [], _ :: _, h => by
    have z := h.1
    simp at z
  | _ :: _, [], h => by
    have z := h.1
    simp at z
  | t :: ts, e :: es, h => by
    obtain ⟨x, h1, h2⟩ := h.2 0 t rfl
    obtain rfl : e = x := Option.some.inj h1
    refine .cons (.tup (SqT.of h2) (.cons (.int _) (.cons (.int _) .nil))) (dpTups ⟨by simpa using h.1, fun k t' e' => ?_⟩)
    obtain ⟨x, q1, q2⟩ := h.2 (k + 1) t' e'
    exact ⟨x, q1, q2⟩
theorem layPairs : ∀ es : List (Int × Int), PyData.canLayAll0 (es.map pairD) = true
  | [] => rfl
  | _ :: es => by
    show (true && PyData.canLayAll0 (es.map pairD)) = true
    rw [layPairs es]
    rfl
theorem depPairs : ∀ es : List (Int × Int), PyData.depthAll (es.map pairD) ≤ 1
  | [] => by decide
  | _ :: es => by
    show max 1 (PyData.depthAll (es.map pairD)) ≤ 1
    have z := depPairs es
    omega
theorem shapedPairs (es : List (Int × Int)) : SeqAt.shaped (.list (es.map pairD)) = true := by
  unfold SeqAt.shaped
  have e1 : PyData.canLay0 (.list (es.map pairD)) = true := layPairs es
  have e2 : PyData.depth (.list (es.map pairD)) ≤ 64 := by
    show PyData.depthAll (es.map pairD) + 1 ≤ 64
    have z := depPairs es
    omega
  rw [e1, decide_eq_true e2]
  rfl
theorem anyPair {f : Int × Int} : ∀ {es : List (Int × Int)}, f ∉ es → ((es.map pairD).any fun z => PyData.eqv z (pairD f)) = false
  | [], _ => rfl
  | e :: es, h => by
    rw [List.map_cons, List.any_cons, eqvPair, decide_eq_false (fun z => h (by rw [z]; exact List.mem_cons_self)), anyPair (fun z => h (List.mem_cons_of_mem _ z))]
    rfl
theorem anyPairT {f : Int × Int} : ∀ {es : List (Int × Int)}, f ∈ es → ((es.map pairD).any fun z => PyData.eqv z (pairD f)) = true
  | [], h => by simp at h
  | e :: es, h => by
    rw [List.map_cons, List.any_cons, eqvPair]
    by_cases c : e = f
    · rw [decide_eq_true c, Bool.true_or]
    · have h' : f ∈ es := by
        rcases List.mem_cons.mp h with z | z
        · exact absurd z.symm c
        · exact z
      rw [anyPairT h', Bool.or_true]
theorem kitLT (K : PySem.W.Frag) : PySem.W.kitAny K (.type "list") [.type "list", .type "tuple"] = some true :=
  kitAny_cons (b := true) (kit_ty (by decide +kernel)) (fun h => by cases h) (fun _ => rfl)
theorem boot_min1 : bootBuiltins "min" = some (.builtin "min") := by decide +kernel
theorem boot_max1 : bootBuiltins "max" = some (.builtin "max") := by decide +kernel
theorem boot_sorted1 : bootBuiltins "sorted" = some (.builtin "sorted") := by decide +kernel
theorem nodeIn {n : Nat} {i : Int} (h0 : 0 ≤ i) (h1 : i < n) : isNode n (.int i) = true := by
  show (decide ((0 : Int) ≤ i) && decide (i ≤ (n : Int) - 1)) = true
  rw [decide_eq_true h0, decide_eq_true (by omega)]
  rfl
section
variable {P : Program} {w : World} {K : PySem.W.Frag} {mg : Str → Option Value} {base : Heap} {CG : Addr}
theorem sc_is_edge : FnScope ["size", "thing", "one", "two"] ["size", "thing"] (defScope s_is_edge) := ⟨rfl, rfl, rfl, by decide +kernel, rfl, by decide +kernel, by decide +kernel⟩
theorem sc_checked_edges : FnScope ["size", "edges", "found", "entry", "edge"] ["size", "edges"] (defScope s_checked_edges) := ⟨rfl, rfl, rfl, by decide +kernel, rfl, by decide +kernel, by decide +kernel⟩
theorem refAt {α : Type} {f : α → V} {xs : List α} {i : Nat} {y : V} (h : (xs.map f)[i]? = some y) : ∃ t, xs[i]? = some t ∧ y = f t := by
  rw [List.getElem?_map] at h
  cases e : xs[i]? with
  | none =>
    rw [e] at h
    cases h
  | some t =>
    rw [e] at h
    exact ⟨t, rfl, (Option.some.inj h).symm⟩
theorem notTaken {α : Type} {es : List α} (h : es.Nodup) {i : Nat} {e : α} (hi : es[i]? = some e) : e ∉ es.take i := by
  intro hm
  obtain ⟨j, hj, he⟩ := List.mem_iff_getElem.mp hm
  rw [List.length_take] at hj
  rw [List.getElem_take] at he
  obtain ⟨h1, h2⟩ := List.getElem?_eq_some_iff.mp hi
  have z := (List.pairwise_iff_getElem.mp h) j i (by omega) h1 (by omega)
  exact z (by rw [he, h2])
def keyE (H : Hp) : V → Int × Int
  | .ref t => match H t with
    | some (.tup [.int a, .int b]) => (a, b)
    | _ => (0, 0)
  | _ => (0, 0)
def refOf : V → Addr
  | .ref t => t
  | _ => 0
theorem keyE_at {H : Hp} {t : Addr} {e : Int × Int} (h : H t = some (.tup [.int e.1, .int e.2])) : keyE H (.ref t) = e := by
  unfold keyE
  simp only [h]
theorem permTups {H : Hp} {ts : List Addr} {es : List (Int × Int)} (h : TupsAt H ts es) {ys : List V} (hp : ys.Perm (ts.map V.ref)) : ∃ ts' es', ys = ts'.map V.ref ∧ TupsAt H ts' es' ∧ es'.Perm es := by
  have hm : ∀ y ∈ ys, ∃ t, y = V.ref t ∧ ∃ e : Int × Int, H t = some (.tup [.int e.1, .int e.2]) := fun y hy => by
    obtain ⟨t, ht, rfl⟩ := List.mem_map.mp (hp.mem_iff.mp hy)
    obtain ⟨k, hk, he⟩ := List.mem_iff_getElem.mp ht
    obtain ⟨e, h1, h2⟩ := h.2 k t (by rw [List.getElem?_eq_getElem hk, he])
    exact ⟨t, rfl, e, h2⟩
  have e1 : (ts.map V.ref).map (keyE H) = es := by
    apply List.ext_getElem
    · rw [List.length_map, List.length_map, h.1]
    · intro k h1 h2
      rw [List.length_map, List.length_map] at h1
      obtain ⟨e, q1, q2⟩ := h.2 k ts[k] (List.getElem?_eq_getElem h1)
      rw [List.getElem_map, List.getElem_map, keyE_at q2]
      rw [List.getElem?_eq_getElem h2] at q1
      exact (Option.some.inj q1).symm
  refine ⟨ys.map refOf, ys.map (keyE H), ?_, ⟨by rw [List.length_map, List.length_map], fun k t hk => ?_⟩, ?_⟩
  · rw [List.map_map]
    have z : ∀ y ∈ ys, (V.ref ∘ refOf) y = y := fun y hy => by
      obtain ⟨t, rfl, _⟩ := hm y hy
      rfl
    exact (List.map_congr_left z).symm ▸ (List.map_id ys).symm
  · rw [List.getElem?_map] at hk
    cases hy : ys[k]? with
    | none =>
      rw [hy] at hk
      cases hk
    | some y =>
      rw [hy] at hk
      obtain ⟨t', rfl, e, he⟩ := hm y (List.mem_of_getElem? hy)
      obtain rfl : t' = t := Option.some.inj hk
      refine ⟨e, ?_, he⟩
      rw [List.getElem?_map, hy]
      exact congrArg some (keyE_at he)
  · have z := hp.map (keyE H)
    rwa [e1] at z
end
def rowOf (es : List (Int × Int)) (i : Int) : List Int := es.flatMap fun e => (if e.1 = i then [e.2] else []) ++ (if e.2 = i then [e.1] else [])
structure IsNear (n : Nat) (es : List (Int × Int)) (N : List (List Int)) : Prop where
  len : N.length = n
  row : ∀ i, i < n → (N.getD i []).Perm (rowOf es i)
  asc : ∀ i, i < n → (N.getD i []).Pairwise (· ≤ ·)
theorem rowOf_perm {es fs : List (Int × Int)} (h : es.Perm fs) (i : Int) : (rowOf es i).Perm (rowOf fs i) := List.Perm.flatMap_right _ h
theorem IsNear.perm {n : Nat} {es fs : List (Int × Int)} {N : List (List Int)} (h : IsNear n es N) (p : es.Perm fs) : IsNear n fs N := ⟨h.len, fun i hi => (h.row i hi).trans (rowOf_perm p i), h.asc⟩
theorem IsNear.uniq {n : Nat} {es : List (Int × Int)} {N M : List (List Int)} (h : IsNear n es N) (g : IsNear n es M) : N = M := by
  apply List.ext_getElem
  · rw [h.len, g.len]
  · intro i h1 h2
    have hi : i < n := by
      rw [← h.len]
      exact h1
    have a1 := h.row i hi
    have a2 := g.row i hi
    have b1 := h.asc i hi
    have b2 := g.asc i hi
    rw [List.getD_eq_getElem?_getD, List.getElem?_eq_getElem h1] at a1 b1
    rw [List.getD_eq_getElem?_getD, List.getElem?_eq_getElem h2] at a2 b2
    exact List.Perm.eq_of_pairwise (fun a b _ _ => Int.le_antisymm) b1 b2 (a1.trans a2.symm)
theorem rowOf_mem {n : Nat} {es : List (Int × Int)} (g : ∀ e ∈ es, 0 ≤ e.1 ∧ e.1 < e.2 ∧ e.2 < n) {i o : Int} (h : o ∈ rowOf es i) : 0 ≤ o ∧ o < n := by
  obtain ⟨e, he, h⟩ := List.mem_flatMap.mp h
  have z := g e he
  rcases List.mem_append.mp h with h | h
  · by_cases c : e.1 = i
    · rw [if_pos c, List.mem_singleton] at h
      omega
    · rw [if_neg c] at h
      simp at h
  · by_cases c : e.2 = i
    · rw [if_pos c, List.mem_singleton] at h
      omega
    · rw [if_neg c] at h
      simp at h
theorem IsNear.wf {n : Nat} {es : List (Int × Int)} {N : List (List Int)} (h : IsNear n es N) (g : ∀ e ∈ es, 0 ≤ e.1 ∧ e.1 < e.2 ∧ e.2 < n) : WF N := by
  intro i hi o ho
  rw [h.len] at hi ⊢
  exact rowOf_mem g ((h.row i hi).mem_iff.mp ho)
theorem rowOf_len : ∀ (es : List (Int × Int)) (i : Int), (rowOf es i).length ≤ 2 * es.length
  | [], _ => by simp [rowOf]
  | e :: es, i => by
    have z := rowOf_len es i
    have q : rowOf (e :: es) i = ((if e.1 = i then [e.2] else []) ++ (if e.2 = i then [e.1] else [])) ++ rowOf es i := rfl
    have q1 : (if e.1 = i then [e.2] else []).length ≤ 1 := by split <;> simp
    have q2 : (if e.2 = i then [e.1] else []).length ≤ 1 := by split <;> simp
    rw [q, List.length_append, List.length_append, List.length_cons]
    omega
theorem rowOf_more {es : List (Int × Int)} {k : Nat} {e : Int × Int} (h : es[k]? = some e) (i : Int) :
    rowOf (es.take (k + 1)) i = rowOf (es.take k) i ++ ((if e.1 = i then [e.2] else []) ++ (if e.2 = i then [e.1] else [])) := by
  rw [takeMore h]
  unfold rowOf
  rw [List.flatMap_append, List.flatMap_cons, List.flatMap_nil, List.append_nil]
/-- rows that grow -/
def Grow (H : Hp) (rs : List Addr) (n : Nat) (es : List (Int × Int)) : Prop := rs.length = n ∧ rs.Nodup ∧ ∀ (k : Nat) (r : Addr), rs[k]? = some r → H r = some (.lst ((rowOf es (k : Int)).map V.int))
theorem nodupAt {rs : List Addr} (h : rs.Nodup) {i j : Nat} {r s : Addr} (hi : rs[i]? = some r) (hj : rs[j]? = some s) (ne : i ≠ j) : r ≠ s := by
  intro e
  subst e
  obtain ⟨a1, a2⟩ := List.getElem?_eq_some_iff.mp hi
  obtain ⟨b1, b2⟩ := List.getElem?_eq_some_iff.mp hj
  exact ne ((List.getElem_inj h).mp (a2.trans b2.symm))
/-- lists that are new behind H: they stay whatever becomes of H's own objects -/
def NewN (H H' : Hp) (q : Addr) (N : List (List Int)) : Prop := ∀ H'', (∀ b o, H b = none → H' b = some o → H'' b = some o) → NAt H'' q N
theorem NewN.at {H H' : Hp} {q : Addr} {N : List (List Int)} (h : NewN H H' q N) : NAt H' q N := h H' fun _ _ _ e => e
def spNear (K : PySem.W.Frag) : Sp := fun vs H Q _ => ∃ (n : Nat) (p : Addr) (es : List (Int × Int)), vs = [.int n, .ref p] ∧ EdgesAt H p es ∧ GoodE n es ∧ n ≤ 1000 ∧
  ∀ q H' N, H q = none → Same H H' → NewN H H' q N → IsNear n es N → Q (.ref q) H'
theorem Grow.at {H : Hp} {rs : List Addr} {n : Nat} {es : List (Int × Int)} (h : Grow H rs n es) {i : Int} (h0 : 0 ≤ i) (hi : i < n) : ∃ r, rs[i.toNat]? = some r ∧ atI (rs.map V.ref) i = some (.ref r) ∧ H r = some (.lst ((rowOf es i).map V.int)) := by
  have hl : i.toNat < rs.length := by
    rw [h.1]
    omega
  refine ⟨rs[i.toNat], List.getElem?_eq_getElem hl, ?_, ?_⟩
  · have z : (rs.map V.ref)[i.toNat]? = some (V.ref rs[i.toNat]) := by
      rw [List.getElem?_map, List.getElem?_eq_getElem hl]
      rfl
    have q := atI_nat z
    rwa [show ((i.toNat : Nat) : Int) = i by omega] at q
  · have z := h.2.2 i.toNat _ (List.getElem?_eq_getElem hl)
    rwa [show ((i.toNat : Nat) : Int) = i by omega] at z
/-- one edge more -/
theorem Grow.more {H : Hp} {rs : List Addr} {n : Nat} {es : List (Int × Int)} {k : Nat} {e : Int × Int} {r1 r2 : Addr} (h : Grow H rs n (es.take k)) (he : es[k]? = some e) (g : 0 ≤ e.1 ∧ e.1 < e.2 ∧ e.2 < n)
    (h1 : rs[e.1.toNat]? = some r1) (h2 : rs[e.2.toNat]? = some r2) :
    Grow (upd (upd H r1 (.lst ((rowOf (es.take k) e.1).map V.int ++ [V.int e.2]))) r2 (.lst ((rowOf (es.take k) e.2).map V.int ++ [V.int e.1]))) rs n (es.take (k + 1)) := by
  refine ⟨h.1, h.2.1, fun j r hj => ?_⟩
  have hne : e.2.toNat ≠ e.1.toNat := by omega
  rw [rowOf_more he]
  by_cases c2 : j = e.2.toNat
  · subst c2
    obtain rfl : r2 = r := Option.some.inj (h2.symm.trans hj)
    have z1 : ((e.2.toNat : Nat) : Int) = e.2 := by omega
    rw [upd_same, z1, if_neg (by omega), if_pos rfl, List.nil_append, List.map_append]
    rfl
  · rw [upd_ne (nodupAt h.2.1 hj h2 c2)]
    by_cases c1 : j = e.1.toNat
    · subst c1
      obtain rfl : r1 = r := Option.some.inj (h1.symm.trans hj)
      have z1 : ((e.1.toNat : Nat) : Int) = e.1 := by omega
      rw [upd_same, z1, if_pos rfl, if_neg (by omega), List.append_nil, List.map_append]
      rfl
    · rw [upd_ne (nodupAt h.2.1 hj h1 c1), h.2.2 j r hj, if_neg (by omega), if_neg (by omega), List.append_nil, List.append_nil]
theorem getDl {α : Type} {L : List α} {x d : α} {k : Nat} (h : k < L.length) : (L ++ [x]).getD k d = L.getD k d := by
  rw [List.getD_eq_getElem?_getD, List.getD_eq_getElem?_getD, List.getElem?_append_left h]
theorem getDe {α : Type} {L : List α} {x d : α} {k : Nat} (h : k = L.length) : (L ++ [x]).getD k d = x := by
  subst h
  rw [List.getD_eq_getElem?_getD, List.getElem?_append_right (Nat.le_refl _), Nat.sub_self]
  rfl
section
variable {P : Program} {w : World} {K : PySem.W.Frag} {mg : Str → Option Value} {base : Heap} {CG : Addr}
theorem sc_near : FnScope ["size", "edges", "near", "one", "two", "node", "nodes"] ["size", "edges"] (defScope s_neighbour_lists) := ⟨rfl, rfl, rfl, by decide +kernel, rfl, by decide +kernel, by decide +kernel⟩
theorem ok_near {f : Addr} {fd : FuncData} (F : Fun K "neighbour_lists" "neighbour_lists" s_neighbour_lists f fd) (M : Nms mg) : FnOk P w K mg base CX0 1 f fd ["size", "edges"] (spNear K) := by
  refine F.ok sc_near (fun vs H Q E h => ?_) (fun cdv A outer s H vs Q E hr h => ?_)
  · obtain ⟨n, p, es, rfl, _⟩ := h
    rfl
  · obtain ⟨n, p, es, rfl, hp, ge, hn, k⟩ := h
    refine ⟨_, pss_cons (ps_setLc (i := 2) (own := [("node", 5)]) (g := gName 5) (tt := tYes) (by rfl) sc_near.nd rfl rfl (sw_true rfl rfl rfl (by decide +kernel))
      (pi_range1 rfl M.range (pa_cons (pv 0) pa_nil))
      (blkOk_by (own := [("node", 5)]) (N := ["size", "edges", "near", "one", "two", "node", "nodes"]) (sc := defScope s_neighbour_lists) (by decide +kernel))
      (fun _ _ _ _ _ => pg_name (i := 5) sc_near.nd rfl (Or.inl rfl)) (fun _ _ _ _ _ => pts_nil)
      (fun _ _ _ _ _ => pe_lst pa_nil))
      (pss_cons (ps_for PassesOwn.never rfl (pi_list (pv 1)) (pg_tup rfl (pgs_cons (pg_name (i := 3) sc_near.nd rfl (Or.inl rfl)) (pgs_cons (pg_name (i := 4) sc_near.nd rfl (Or.inl rfl)) pgs_nil)))
        (pss_cons (ps_expr (pe_bm PySem.F.plainAttrs_list PySem.F.slot_list_append PySem.F.type_list_append mt_append (pe_ix ix_list (pv 2) (pv 3) (fun _ _ => rfl)) (pa_cons (pv 4) pa_nil)))
        (pss_one (ps_expr (pe_bm PySem.F.plainAttrs_list PySem.F.slot_list_append PySem.F.type_list_append mt_append (pe_ix ix_list (pv 2) (pv 4) (fun _ _ => rfl)) (pa_cons (pv 3) pa_nil))))))
      (pss_one (ps_ret (pe_lc (own := [("nodes", 6)]) (g := gName 6) (tt := tYes) rfl sc_near.nd (pi_list (pv 2))
      (blkOk_by (own := [("nodes", 6)]) (N := ["size", "edges", "near", "one", "two", "node", "nodes"]) (sc := defScope s_neighbour_lists) (by decide +kernel))
      (fun _ _ _ _ _ => pg_name (i := 6) sc_near.nd rfl (Or.inl rfl)) (fun _ _ _ _ _ => pts_nil)
      (fun _ _ _ _ _ => pe_callB (show CallR _ (.builtin "sorted") (rSortedI K) from cr_sortedI) (by rfl) M.sorted boot_sorted1 (pa_cons (pv 6) pa_nil)))))), ?_⟩
    obtain ⟨ts, h1, h2⟩ := id hp
    refine ⟨_, rfl, n, rfl, by omega, by omega, fun D hD => ?_⟩
    refine lc_range (lo := 0) (fun i H' => Same H H' ∧ ∃ rs : List Addr, H' D = some (.lst (rs.map V.ref)) ∧ D ∉ rs ∧ (∀ r ∈ rs, H r = none) ∧ Grow H' rs i []) ⟨same_upd hD, [], upd_same, by simp, by simp, rfl, by simp, fun k r e => by simp at e⟩ (fun i H' hi h => ?_) (fun H' h => ?_)
    · obtain ⟨sm, rs, e1, e2, e3, e4⟩ := h
      refine ⟨rfl, ?_⟩
      refine ⟨by show 0 ≤ sizeLine; decide, fun p np => ?_⟩
      have hpD : D ≠ p := ne_of_none e1 np
      refine ⟨_, by rw [upd_ne hpD]; exact e1, by rw [List.length_map, e4.1, sizeLine_eq]; omega, fun b o z => ?_, rs ++ [p], by rw [upd_same, List.map_append]; rfl, ?_, fun r hr' => ?_, ?_⟩
      · rw [upd_ne (ne_of_none z hD), upd_ne (ne_of_none (sm _ _ z) np)]
        exact sm _ _ z
      · intro z
        rcases List.mem_append.mp z with z | z
        · exact e2 z
        · exact hpD (List.mem_singleton.mp z)
      · rcases List.mem_append.mp hr' with z | z
        · exact e3 r z
        · rw [List.mem_singleton.mp z]
          exact sm.free np
      · refine ⟨by rw [List.length_append, e4.1]; rfl, ?_, fun k r hk => ?_⟩
        · refine List.nodup_append.mpr ⟨e4.2.1, by simp, fun a ha b hb => ?_⟩
          rw [List.mem_singleton] at hb
          subst hb
          obtain ⟨k, hk, he⟩ := List.mem_iff_getElem.mp ha
          intro q
          subst q
          have z := e4.2.2 k _ (by rw [List.getElem?_eq_getElem hk, he])
          rw [np] at z
          cases z
        · by_cases hlt : k < rs.length
          · rw [List.getElem?_append_left hlt] at hk
            have z := e4.2.2 k r hk
            have nD : r ≠ D := fun q => e2 (q ▸ List.mem_of_getElem? hk)
            rw [upd_ne nD, upd_ne (ne_of_none z np)]
            exact z
          · rw [List.getElem?_append_right (by omega)] at hk
            have hk' : k = rs.length := by
              have := (List.getElem?_eq_some_iff.mp hk).1
              simp at this
              omega
            subst hk'
            rw [Nat.sub_self] at hk
            obtain rfl : p = r := Option.some.inj hk
            rw [upd_ne hpD.symm, upd_same]
            rfl
    · obtain ⟨sm, rs, e1, e2, e3, e4⟩ := h
      refine ⟨_, rfl, p, rfl, ⟨_, SqL.of (sm _ _ h1)⟩, for_list (K := K) (a := p) (xs := ts.map V.ref) (fun i σ H' => ∃ (o3 o4 : Option V), σ = [some (.int n), some (.ref p), some (.ref D), o3, o4, none, none] ∧
        Same H H' ∧ H' D = some (.lst (rs.map V.ref)) ∧ Grow H' rs n (es.take i)) ⟨none, none, rfl, sm, e1, e4⟩ (fun i σ H' _ h => ?_) (fun i y σ H' hi h => ?_) (fun σ H' h => ?_)⟩
      · obtain ⟨_, _, _, sm, _, _⟩ := h
        exact SqL.of (sm _ _ h1)
      · obtain ⟨o3, o4, rfl, sm, e1, e4⟩ := h
        obtain ⟨t, ht, rfl⟩ := refAt hi
        obtain ⟨e, he, hte⟩ := h2.2 i t ht
        have good := ge.node e (List.mem_of_getElem? he)
        have few := ge.few
        have hte' := sm _ _ hte
        have lt := (List.getElem?_eq_some_iff.mp he).1
        obtain ⟨r1, q1, a1, b1⟩ := e4.at (i := e.1) good.1 (by omega)
        obtain ⟨r2, q2, a2, b2⟩ := e4.at (i := e.2) (by omega) good.2.2
        have n12 : r2 ≠ r1 := nodupAt e4.2.1 q2 q1 (by omega)
        have l1 := rowOf_len (es.take i) e.1
        have l2 := rowOf_len (es.take i) e.2
        rw [List.length_take] at l1 l2
        have fr1 := e3 r1 (List.mem_of_getElem? q1)
        have fr2 := e3 r2 (List.mem_of_getElem? q2)
        have nD1 : D ≠ r1 := fun q => e2 (q ▸ List.mem_of_getElem? q1)
        have nD2 : D ≠ r2 := fun q => e2 (q ▸ List.mem_of_getElem? q2)
        refine ⟨t, _, rfl, SqT.of hte', rfl, _, _, rfl, _, _, rfl, rfl, ?_⟩
        refine ⟨_, rfl, _, rfl, D, _, e.1, _, rfl, rfl, SqL.of e1, a1, .inl ⟨rfl, _, SqL.of b1⟩, _, rfl, r1, _, _, rfl, rfl, b1, by rw [List.length_map, sizeLine_eq]; omega, ?_⟩
        have e1' : (upd H' r1 (.lst ((rowOf (es.take i) e.1).map V.int ++ [V.int e.2]))) D = some (.lst (rs.map V.ref)) := by
          rw [upd_ne nD1]
          exact e1
        have b2' : (upd H' r1 (.lst ((rowOf (es.take i) e.1).map V.int ++ [V.int e.2]))) r2 = some (.lst ((rowOf (es.take i) e.2).map V.int)) := by
          rw [upd_ne n12]
          exact b2
        refine ⟨_, rfl, _, rfl, D, _, e.2, _, rfl, rfl, SqL.of e1', a2, .inl ⟨rfl, _, SqL.of b2'⟩, _, rfl, r2, _, _, rfl, rfl, b2', by rw [List.length_map, sizeLine_eq]; omega, ?_⟩
        refine ⟨_, _, rfl, fun b o z => ?_, ?_, e4.more he good q1 q2⟩
        · rw [upd_ne (ne_of_none z fr2), upd_ne (ne_of_none z fr1)]
          exact sm _ _ z
        · rw [upd_ne nD2]
          exact e1'
      · obtain ⟨o3, o4, rfl, sm, e1, e4⟩ := h
        rw [List.length_map, h2.1, List.take_length] at e4
        refine ⟨_, rfl, D, rfl, ⟨_, SqL.of e1⟩, fun q nq => ?_⟩
        have qD : D ≠ q := ne_of_none e1 nq
        have fqH : H q = none := sm.free nq
        refine lc_list (K := K) (a := D) (xs := rs.map V.ref) (fun i H'' => Same H' H'' ∧ ∃ (ps : List Addr) (L : List (List Int)), H'' q = some (.lst (ps.map V.ref)) ∧ ps.length = i ∧ L.length = i ∧
          (∀ (k : Nat) (r : Addr), ps[k]? = some r → r ≠ q ∧ H r = none ∧ H'' r = some (.lst ((L.getD k []).map V.int))) ∧ (∀ k : Nat, k < i → (L.getD k []).Perm (rowOf es k)) ∧ ∀ k : Nat, k < i → (L.getD k []).Pairwise (· ≤ ·))
          ⟨same_upd nq, [], [], upd_same, rfl, rfl, fun k r e => by simp at e, fun k e => by omega, fun k e => by omega⟩ (fun i H'' _ h => SqL.of (h.1 _ _ e1)) (fun i x H'' hi h => ?_) (fun H'' h => ?_)
        · obtain ⟨sm2, ps, L, f1, f2, f3, f4, f5, f6⟩ := h
          obtain ⟨r, hr', rfl⟩ := refAt hi
          have hb := e4.2.2 i r hr'
          have hlt : i < n := by
            rw [← e4.1]
            exact (List.getElem?_eq_some_iff.mp hr').1
          refine ⟨rfl, ?_⟩
          refine ⟨_, rfl, r, _, rfl, SqL.of (sm2 _ _ hb), fun ns' t hperm hasc nt => ?_⟩
          have tq : q ≠ t := ne_of_none f1 nt
          refine ⟨_, by rw [upd_ne tq]; exact f1, by rw [List.length_map, f2, sizeLine_eq]; omega, fun b o z => ?_, ps ++ [t], L ++ [ns'], by rw [upd_same, List.map_append]; rfl, by rw [List.length_append, f2]; rfl, by rw [List.length_append, f3]; rfl, fun k r' hk => ?_, fun k hk => ?_, fun k hk => ?_⟩
          · rw [upd_ne (ne_of_none z nq), upd_ne (ne_of_none (sm2 _ _ z) nt)]
            exact sm2 _ _ z
          · by_cases hl : k < ps.length
            · rw [List.getElem?_append_left hl] at hk
              obtain ⟨z1, z0, z2⟩ := f4 k r' hk
              rw [upd_ne z1, upd_ne (ne_of_none z2 nt), getDl (by omega)]
              exact ⟨z1, z0, z2⟩
            · rw [List.getElem?_append_right (by omega)] at hk
              have hk' : k = ps.length := by
                have := (List.getElem?_eq_some_iff.mp hk).1
                simp at this
                omega
              subst hk'
              rw [Nat.sub_self] at hk
              obtain rfl : t = r' := Option.some.inj hk
              rw [upd_ne tq.symm, upd_same, getDe (by omega)]
              exact ⟨tq.symm, sm.free (sm2.free nt), rfl⟩
          · by_cases c : k < i
            · rw [getDl (by omega)]
              exact f5 k c
            · rw [getDe (by omega), show k = i by omega]
              exact hperm
          · by_cases c : k < i
            · rw [getDl (by omega)]
              exact f6 k c
            · rw [getDe (by omega)]
              exact hasc
        · obtain ⟨sm2, ps, L, f1, f2, f3, f4, f5, f6⟩ := h
          rw [List.length_map, e4.1] at f2 f3 f5 f6
          exact k q H'' L fqH (sm.trans sm2) (fun H3 h3 => ⟨ps, h3 q _ fqH f1, by omega, fun k r e => h3 r _ (f4 k r e).2.1 (f4 k r e).2.2⟩) ⟨f3, f5, f6⟩
end
theorem GoodE.perm {n : Nat} {es fs : List (Int × Int)} (h : GoodE n es) (p : fs.Perm es) : GoodE n fs := ⟨fun e he => h.node e (p.mem_iff.mp he), (p.nodup_iff).mpr h.once, by rw [p.length_eq]; exact h.few⟩
section
variable {P : Program} {w : World} {K : PySem.W.Frag} {mg : Str → Option Value} {base : Heap} {CG : Addr}
theorem sc_ginit : FnScope ["self", "size", "edges", "joined"] ["self", "size", "edges"] (defScope s_Graph_init) := ⟨rfl, rfl, rfl, by decide +kernel, rfl, by decide +kernel, by decide +kernel⟩
end
end K71
set_option Elab.async false
set_option linter.all false
set_option maxRecDepth 100000
set_option maxHeartbeats 8000000
namespace K71
open PySem PySem.Spec PyProof.Rows L2 FNX
theorem newAt {H : Hp} {a : Addr} (o : HO) (h : H a = none) : ∃ H1, upd H a o = H1 ∧ Same H H1 ∧ H1 a = some o := ⟨_, rfl, same_upd h, upd_same⟩
theorem eqvSame {d : PyData} (h : SeqAt.shaped d = true) : PyData.eqv d d = true := SeqAt.eqv_refl d (SeqAt.canLay_of_shaped h)
theorem boot_repr1 : bootBuiltins "repr" = some (.builtin "repr") := by decide +kernel
theorem layInts : ∀ es : List Int, PyData.canLayAll0 (es.map PyData.int) = true
  | [] => rfl
  | _ :: es => by
    show (true && PyData.canLayAll0 (es.map PyData.int)) = true
    rw [layInts es]
    rfl
theorem depInts : ∀ es : List Int, PyData.depthAll (es.map PyData.int) ≤ 0
  | [] => by decide
  | _ :: es => by
    show max 0 (PyData.depthAll (es.map PyData.int)) ≤ 0
    have z := depInts es
    omega
/-- all but the object at p stays -/
def SameX (p : Addr) (H H' : Hp) : Prop := ∀ b o, b ≠ p → H b = some o → H' b = some o
theorem SameX.trans {p : Addr} {H H1 H2 : Hp} (a : SameX p H H1) (b : SameX p H1 H2) : SameX p H H2 := fun c o n e => b c o n (a c o n e)
theorem Same.x {p : Addr} {H H1 : Hp} (a : Same H H1) : SameX p H H1 := fun c o _ e => a c o e
theorem SameX.free {p q : Addr} {H H' : Hp} (a : SameX p H H') (h : PoolAt H p) (n : H' q = none) (hp : PoolAt H' p) : H q = none := by
  cases e : H q with
  | none => rfl
  | some o =>
    have z : q ≠ p := fun c => by
      obtain ⟨_, _, z, _⟩ := hp
      rw [← c, n] at z
      cases z
    rw [a q o z e] at n
    cases n
theorem PoolAt.same {p : Addr} {H H' : Hp} (h : PoolAt H p) (s : Same H H') : PoolAt H' p := by
  obtain ⟨c, d, z, r⟩ := h
  exact ⟨c, d, s _ _ z, r⟩
theorem PoolAt.ne {p q : Addr} {H : Hp} (h : PoolAt H p) (n : H q = none) : p ≠ q := by
  obtain ⟨_, _, z, _⟩ := h
  exact ne_of_none z n
theorem TupsAt.push {H : Hp} {ts : List Addr} {es : List (Int × Int)} {t : Addr} {e : Int × Int} (h : TupsAt H ts es) (ht : H t = some (.tup [.int e.1, .int e.2])) : TupsAt H (ts ++ [t]) (es ++ [e]) := by
  refine ⟨by rw [List.length_append, List.length_append, h.1]; rfl, fun k t' hk => ?_⟩
  by_cases hl : k < ts.length
  · rw [List.getElem?_append_left hl] at hk
    obtain ⟨x, q1, q2⟩ := h.2 k t' hk
    exact ⟨x, by rw [List.getElem?_append_left (by rw [← h.1]; exact hl)]; exact q1, q2⟩
  · rw [List.getElem?_append_right (by omega)] at hk
    have hk' : k = ts.length := by
      have z := (List.getElem?_eq_some_iff.mp hk).1
      simp at z
      omega
    subst hk'
    rw [Nat.sub_self] at hk
    obtain rfl : t = t' := Option.some.inj hk
    refine ⟨e, ?_, ht⟩
    rw [h.1, List.getElem?_append_right (Nat.le_refl _), Nat.sub_self]
    rfl
/-- lists that stand still whatever becomes of the object at p -/
def NX (p : Addr) (H : Hp) (q : Addr) (N : List (List Int)) : Prop := ∀ H', SameX p H H' → NAt H' q N
theorem SameX.refl {p : Addr} {H : Hp} : SameX p H H := fun _ _ _ e => e
theorem NX.at {p q : Addr} {H : Hp} {N : List (List Int)} (h : NX p H q N) : NAt H q N := h H SameX.refl
theorem NX.same {p q : Addr} {H H' : Hp} {N : List (List Int)} (h : NX p H q N) (s : SameX p H H') : NX p H' q N := fun H2 s2 => h H2 (s.trans s2)
structure Shw (k L : Nat) (d : PyData) : Prop where
  ok : d.showable = true
  deep : d.depth ≤ k
  len : d.shown.length ≤ L
theorem Shw.mono {k L k' L' : Nat} {d : PyData} (h : Shw k L d) (hk : k ≤ k') (hl : L ≤ L') : Shw k' L' d := ⟨h.ok, Nat.le_trans h.deep hk, Nat.le_trans h.len hl⟩
theorem textFrom_le : ∀ (ts : List Str) (k : Nat) (acc : Str), (textFrom k acc ts).length ≤ acc.length + piled ts
  | [], _, acc => by show acc.length ≤ acc.length + _; omega
  | t :: r, k, acc => by
    have h1 := textFrom_le r (k + 1) (acc ++ (if k > 0 then ", " else "" : String) ++ t)
    have e : (acc ++ (if k > 0 then ", " else "" : String) ++ t).length = acc.length + (if k > 0 then 2 else 0) + t.length := by
      rw [strLen_append, strLen_append]
      split <;> rfl
    have e2 : (if k > 0 then 2 else 0 : Nat) ≤ 2 := by split <;> decide
    rw [e] at h1
    rw [piled_cons]
    show (textFrom (k + 1) (acc ++ (if k > 0 then ", " else "" : String) ++ t) r).length ≤ _
    omega
theorem listText_le (ts : List Str) : (listText ts).length ≤ piled ts + 2 := by
  have h := textFrom_le ts 0 "["
  have e : (listText ts).length = (textFrom 0 "[" ts).length + 1 := by
    unfold listText
    rw [strLen_append]
    rfl
  have e1 : ((("[" : String) : Str)).length = 1 := rfl
  omega
theorem tupleText_le (ts : List Str) : (tupleText ts).length ≤ piled ts + 3 := by
  have e : (tupleText ts).length = 1 + (Str.join ", " ts).length + (((if ts.length == 1 then ",)" else ")" : String) : Str)).length := by
    unfold tupleText
    rw [strLen_append, strLen_append]
    rfl
  have e3 : (((if ts.length == 1 then ",)" else ")" : String) : Str)).length ≤ 2 := by split <;> decide
  cases ts with
  | nil =>
    have z : (Str.join ", " ([] : List Str)).length = 0 := rfl
    omega
  | cons t r =>
    have z := join_length_add (t :: r) (by simp)
    omega
theorem shownAll_map : ∀ es : List PyData, PyData.shownAll es = es.map PyData.shown
  | [] => by simp only [PyData.shownAll, List.map_nil]
  | e :: es => by simp only [PyData.shownAll, List.map_cons, shownAll_map es]
theorem piled_le {L : Nat} : ∀ {es : List PyData}, (∀ e ∈ es, e.shown.length ≤ L) → piled (es.map PyData.shown) ≤ (L + 2) * es.length
  | [], _ => Nat.zero_le _
  | e :: es, h => by
    have h1 := h e List.mem_cons_self
    have h2 := piled_le (es := es) fun x hx => h x (List.mem_cons_of_mem _ hx)
    rw [List.map_cons, piled_cons, List.length_cons, Nat.mul_succ]
    omega
theorem showAll_of : ∀ {es : List PyData}, (∀ e ∈ es, e.showable = true) → PyData.showableAll es = true
  | [], _ => by simp only [PyData.showableAll]
  | e :: es, h => by simp only [PyData.showableAll, h e List.mem_cons_self, showAll_of (es := es) fun x hx => h x (List.mem_cons_of_mem _ hx), Bool.and_self]
theorem deepAll_of {k : Nat} : ∀ {es : List PyData}, (∀ e ∈ es, e.depth ≤ k) → PyData.depthAll es ≤ k
  | [], _ => by simp only [PyData.depthAll]; omega
  | e :: es, h => by
    have h1 := h e List.mem_cons_self
    have h2 := deepAll_of (es := es) fun x hx => h x (List.mem_cons_of_mem _ hx)
    simp only [PyData.depthAll]
    omega
theorem shwList {k L m : Nat} {es : List PyData} (h : ∀ e ∈ es, Shw k L e) (hm : es.length ≤ m) : Shw (k + 1) ((L + 2) * m + 2) (.list es) := by
  refine ⟨?_, ?_, ?_⟩
  · simp only [PyData.showable]
    exact showAll_of fun e he => (h e he).ok
  · have z := deepAll_of (k := k) fun e he => (h e he).deep
    simp only [PyData.depth]
    omega
  · simp only [PyData.shown]
    rw [shownAll_map]
    have z := listText_le (es.map PyData.shown)
    have y := piled_le (L := L) (es := es) fun e he => (h e he).len
    have x := Nat.mul_le_mul_left (L + 2) hm
    omega
theorem shwTup {k L m : Nat} {es : List PyData} (h : ∀ e ∈ es, Shw k L e) (hm : es.length ≤ m) : Shw (k + 1) ((L + 2) * m + 3) (.tuple es) := by
  refine ⟨?_, ?_, ?_⟩
  · simp only [PyData.showable]
    exact showAll_of fun e he => (h e he).ok
  · have z := deepAll_of (k := k) fun e he => (h e he).deep
    simp only [PyData.depth]
    omega
  · simp only [PyData.shown]
    rw [shownAll_map]
    have z := tupleText_le (es.map PyData.shown)
    have y := piled_le (L := L) (es := es) fun e he => (h e he).len
    have x := Nat.mul_le_mul_left (L + 2) hm
    omega
theorem intLen {i : Int} {k : Nat} (hk : 0 < k) (h : i.natAbs < 10 ^ k) : (Str.ofString (toString i)).length ≤ k + 1 := by
  by_cases c : 0 ≤ i
  · have z := toString_length_le (v := i) c hk (by
      have e : i = (i.natAbs : Int) := by omega
      rw [e]
      exact_mod_cast h)
    omega
  · obtain ⟨m, rfl⟩ : ∃ m, i = Int.negSucc m := ⟨(-i - 1).toNat, by omega⟩
    have z := toString_length_le (v := ((m + 1 : Nat) : Int)) (by omega) hk (by exact_mod_cast h)
    have e : toString (Int.negSucc m) = "-" ++ toString (((m + 1 : Nat) : Int)) := rfl
    rw [e]
    have q : ∀ a b : String, (Str.ofString (a ++ b)).length = (Str.ofString a).length + (Str.ofString b).length := fun a b => by
      rw [Str.ofString_eq_toList, Str.ofString_eq_toList, Str.ofString_eq_toList]
      simp [Str.length]
    rw [q]
    have o : (Str.ofString "-").length = 1 := rfl
    omega
theorem shwInt {i : Int} (h : i.natAbs < 10 ^ 12) : Shw 0 13 (.int i) := by
  refine ⟨?_, ?_, ?_⟩
  · simp only [PyData.showable]
    refine decide_eq_true ?_
    have z : i.natAbs.log2 ≤ 40 := by
      by_cases c : i.natAbs = 0
      · rw [c]
        decide
      · exact Nat.le_of_lt_succ ((Nat.log2_lt c).mpr (Nat.lt_of_lt_of_le h (by decide)))
    omega
  · simp only [PyData.depth]
    omega
  · simp only [PyData.shown]
    exact intLen (by decide) h
def Bd (C : Nat) (x : List Int) : Prop := ∀ z ∈ x, z.natAbs ≤ C
theorem Bd.getD {C : Nat} {x : List Int} (h : Bd C x) (i : Nat) : (x.getD i 0).natAbs ≤ C := by
  rw [List.getD_eq_getElem?_getD]
  cases e : x[i]? with
  | none => exact Nat.zero_le _
  | some z => exact h z (List.mem_of_getElem? e)
theorem Bd.mono {C D : Nat} {x : List Int} (h : Bd C x) (d : C ≤ D) : Bd D x := fun z hz => Nat.le_trans (h z hz) d
theorem Bd.set {C : Nat} {x : List Int} (h : Bd C x) {i : Nat} {v : Int} (hv : v.natAbs ≤ C) : Bd C (x.set i v) := fun z hz => by
  rcases List.mem_or_eq_of_mem_set hz with hz | rfl
  · exact h z hz
  · exact hv
def cnt (N : List (List Int)) (i j : Nat) : Int := (((N.getD i []).count (j : Int) : Nat) : Int)
structure Sym (N : List (List Int)) : Prop where
  wf : WF N
  sym : ∀ i j, i < N.length → j < N.length → cnt N i j = cnt N j i
  self : ∀ i, i < N.length → cnt N i i = 0
  one : ∀ i j, i < N.length → cnt N i j = 0 ∨ cnt N i j = 1
theorem oneCount (u v k l : Int) : List.count l (if u = k then [v] else []) = (if u = k ∧ v = l then 1 else 0) := by
  by_cases c : u = k
  · by_cases d : v = l
    · rw [if_pos c, if_pos (And.intro c d), d, List.count_singleton_self]
    · rw [if_pos c, if_neg (fun z => d z.2)]
      exact List.count_eq_zero.mpr (fun z => d (List.mem_singleton.mp z).symm)
  · rw [if_neg c, if_neg (fun z => c z.1)]
    rfl
theorem rowCount : ∀ (es : List (Int × Int)) (i j : Int), ((rowOf es i).count j) = (rowOf es j).count i
  | [], _, _ => rfl
  | e :: es, i, j => by
    have q : ∀ k : Int, rowOf (e :: es) k = ((if e.1 = k then [e.2] else []) ++ (if e.2 = k then [e.1] else [])) ++ rowOf es k := fun _ => rfl
    rw [q i, q j, List.count_append, List.count_append, List.count_append, List.count_append, rowCount es i j]
    rw [oneCount, oneCount, oneCount, oneCount]
    congr 1
    split <;> split <;> split <;> split <;> omega
theorem rowLe : ∀ (es : List (Int × Int)) (i j : Int), es.Nodup → (∀ e ∈ es, e.1 < e.2) → (rowOf es i).count j ≤ 1 ∧ (i = j → (rowOf es i).count j = 0) ∧ ((rowOf es i).count j = 1 ↔ ((min i j, max i j) ∈ es))
  | [], _, _, _, _ => ⟨Nat.zero_le _, fun _ => rfl, ⟨fun z => (by cases z), fun z => (by cases z)⟩⟩
  | e :: es, i, j, hn, ha => by
    have q : rowOf (e :: es) i = ((if e.1 = i then [e.2] else []) ++ (if e.2 = i then [e.1] else [])) ++ rowOf es i := rfl
    obtain ⟨h1, h2⟩ := List.nodup_cons.mp hn
    obtain ⟨r1, r2, r3⟩ := rowLe es i j h2 fun u hu => ha u (List.mem_cons_of_mem _ hu)
    have lt := ha e List.mem_cons_self
    rw [q, List.count_append, List.count_append, oneCount, oneCount]
    by_cases c : e = (min i j, max i j)
    · have hno : (rowOf es i).count j = 0 := by
        rcases Nat.eq_zero_or_pos ((rowOf es i).count j) with z | z
        · exact z
        · exact absurd (r3.mp (by omega)) (c ▸ h1)
      have e1 : e.1 = min i j := by rw [c]
      have e2 : e.2 = max i j := by rw [c]
      have tot : (if e.1 = i ∧ e.2 = j then 1 else 0 : Nat) + (if e.2 = i ∧ e.1 = j then 1 else 0) = 1 := by
        by_cases d : i < j
        · rw [if_pos (by omega), if_neg (by omega)]
        · rw [if_neg (by omega), if_pos (by omega)]
      rw [tot, hno]
      exact ⟨by omega, fun z => by omega, ⟨fun _ => c ▸ List.mem_cons_self, fun _ => rfl⟩⟩
    · have n1 : ¬ (e.1 = i ∧ e.2 = j) := fun z => c (by
        rw [show e = (e.1, e.2) from rfl, z.1, z.2]
        have : min i j = i := by omega
        have : max i j = j := by omega
        rw [‹min i j = i›, ‹max i j = j›])
      have n2 : ¬ (e.2 = i ∧ e.1 = j) := fun z => c (by
        rw [show e = (e.1, e.2) from rfl, z.1, z.2]
        have : min i j = j := by omega
        have : max i j = i := by omega
        rw [‹min i j = j›, ‹max i j = i›])
      rw [if_neg n1, if_neg n2, Nat.zero_add]
      refine ⟨r1, r2, r3.trans ⟨fun z => List.mem_cons_of_mem _ z, fun z => ?_⟩⟩
      rcases List.mem_cons.mp z with z | z
      · exact absurd z.symm c
      · exact z
theorem IsNear.symm {n : Nat} {es : List (Int × Int)} {N : List (List Int)} (h : IsNear n es N) (g : GoodE n es) : Sym N := by
  have c : ∀ i j, i < N.length → cnt N i j = (((rowOf es (i : Int)).count (j : Int) : Nat) : Int) := fun i j hi => by
    unfold cnt
    rw [(h.row i (by rw [← h.len]; exact hi)).count_eq]
  have lt : ∀ e ∈ es, e.1 < e.2 := fun e he => (g.node e he).2.1
  refine ⟨h.wf g.node, fun i j hi hj => ?_, fun i hi => ?_, fun i j hi => ?_⟩
  · rw [c i j hi, c j i hj, rowCount]
  · rw [c i i hi, (rowLe es i i g.once lt).2.1 rfl]
    rfl
  · rw [c i j hi]
    have z := (rowLe es (i : Int) (j : Int) g.once lt).1
    omega
theorem IsNear.edge {n : Nat} {es : List (Int × Int)} {N : List (List Int)} (h : IsNear n es N) (g : GoodE n es) {i j : Nat} (hi : i < N.length) : cnt N i j = 1 ↔ (min (i : Int) j, max (i : Int) j) ∈ es := by
  unfold cnt
  rw [(h.row i (by rw [← h.len]; exact hi)).count_eq, ← (rowLe es (i : Int) (j : Int) g.once fun e he => (g.node e he).2.1).2.2]
  omega
end K71
set_option Elab.async false
set_option linter.all false
set_option maxRecDepth 100000
set_option maxHeartbeats 4000000
namespace FNX
open PySem PySem.Spec PyProof.Rows L2
theorem takes_len {X : Cx} {W : WX} (tk : Takes X W) : Takes X (fun cls d σ H => σ.length = X.N.length → W cls d σ H) := fun e s' x => tk e s' (by
  obtain ⟨a, B, sI, pins, σ, H, cls, d, h1, J, h2, h3, h4, h5, h6, h7, w⟩ := x
  exact ⟨a, B, sI, pins, σ, H, cls, d, h1, J, h2, h3, h4, h5, h6, h7, w J.len⟩)
theorem len3 {α : Type} {l : List α} (h : l.length = 3) : ∃ a b c, l = [a, b, c] := by
  match l, h with
  | [a, b, c], _ => exact ⟨a, b, c, rfl⟩
def tDoor (f c' : Addr) (q : Str) (tl : XK → Hp → VK → Prop) : WX → TS := fun W D σ H =>
  ∃ Ech : XK, (∀ cls d H' σ', Ech cls d H' → σ'.length = 3 → W cls d σ' H') ∧ σ[0]? = some (some (.ref f)) ∧ H c' = some (LamX.CodeO c' q) ∧ tl Ech H (fun _ H' => D.nx σ H')
def SameN (p : Addr) (H H' : Hp) : Prop := ∀ b o, b ≠ p → (∀ ps, o ≠ .tbl ps) → H b = some o → H' b = some o
theorem SameN.refl {p : Addr} {H : Hp} : SameN p H H := fun _ _ _ _ e => e
theorem SameN.trans {p : Addr} {H H1 H2 : Hp} (a : SameN p H H1) (b : SameN p H1 H2) : SameN p H H2 := fun c o n m e => b c o n m (a c o n m e)
theorem Same.n {p : Addr} {H H1 : Hp} (a : Same H H1) : SameN p H H1 := fun c o _ _ e => a c o e
theorem ExtN.n {p : Addr} {H H1 : Hp} (a : LamX.ExtN H H1) : SameN p H H1 := fun c o _ m e => a c o e m
theorem Same.tabs {T : List (Addr × Str)} {H H' : Hp} (s : Same H H') (t : LamX.Tabs T H) : LamX.Tabs T H' := t.ext s
/-- lists of texts, not equal: told apart -/
def rNeS (K : PySem.W.Frag) : R2 := fun x y H Q => ∃ (a b : Addr) (xs : List Str), x = .ref a ∧ y = .ref b ∧ SqL K H a (xs.map V.str) ∧ SqL K H b (xs.map V.str) ∧ Q (.bl false) H
theorem op_neS {X : Cx} (hu : X.A.units + 64 < cLine) : OpR X (compareOp .NotEq) (rNeS X.K) := by
  intro pins s σ H x y v u Q I rx ry h
  obtain ⟨a, b, xs, rfl, rfl, ha, hb, q⟩ := h
  cases (show v = Value.ref a from rx)
  cases (show u = Value.ref b from ry)
  obtain ⟨us, r1, p1, _⟩ := I.list ha
  obtain ⟨ws, r2, p2, _⟩ := I.list hb
  have hsz : us.toArray.size = ws.toArray.size := by
    rw [List.size_toArray, List.size_toArray, ← r1.length, ← r2.length]
  refine (SeqAt.RcNeAt.lists (e := fun _ => true) p1.isList p2.isList hsz (by omega) (fun j h1 h2 => ?_)) _ _ _ _ ?_
  · have l1 := r1.length
    have h1' : j < us.length := by simpa using h1
    have h2' : j < ws.length := by simpa using h2
    obtain ⟨z, hz⟩ : ∃ z, xs[j]? = some z := ⟨xs[j]'(by rw [List.length_map] at l1; omega), List.getElem?_eq_getElem _⟩
    have hj : (xs.map V.str)[j]? = some (V.str z) := by
      rw [List.getElem?_map, hz]
      rfl
    obtain ⟨u1, e1, q1⟩ := r1.get hj
    obtain ⟨u2, e2, q2⟩ := r2.get hj
    obtain ⟨t1, rfl⟩ := q1
    obtain ⟨t2, rfl⟩ := q2
    have f1 : us.toArray[j] = .str z t1 := by
      rw [List.getElem_toArray]
      exact (List.getElem?_eq_some_iff.mp e1).2
    have f2 : ws.toArray[j] = .str z t2 := by
      rw [List.getElem_toArray]
      exact (List.getElem?_eq_some_iff.mp e2).2
    rw [f1, f2]
    have y := SeqAt.EqAt.str_str (A := X.A.in1) (s := s) z t1 z t2
    rwa [beq_self_eq_true] at y
  · rw [show ((List.range us.toArray.size).all fun _ => true) = true from List.all_eq_true.mpr fun _ _ => rfl]
    exact ⟨.bl false, H, I, rfl, q⟩
end FNX
namespace FNX
open PySem PySem.Spec PyProof.Rows L2
/-- a def with doors, as the top has left it -/
def FnC (K : PySem.W.Frag) (mg : Str → Option Value) (x : Str) (st : Stmt) (f c Pt : Addr) : Prop := mg x = some (.ref f) ∧ (∃ fd, FunC K x x st f fd c) ∧ Door K mg [x] x c Pt
end FNX
namespace FNX
open PySem PySem.Spec PyProof.Rows L2
end FNX
namespace FNX
open PySem PySem.Spec PyProof.Rows L2
theorem FunC.fn {K : PySem.W.Frag} {x qual : Str} {st : Stmt} {f c : Addr} {fd : FuncData} (F : FunC K x qual st f fd c) : Fun K x qual st f fd := by
  obtain ⟨oc, od, kV, doc, pm, an, ct, osl, e, lk, hcd⟩ := F.ex
  exact ⟨⟨oc, od, kV, doc, pm, an, .ref c, ct, osl, e, lk, hcd⟩, F.kp⟩
theorem Door.more {K : PySem.W.Frag} {mg : Str → Option Value} {xs ys : List Str} {x : Str} {c Pt : Addr} (D : Door K mg xs x c Pt) (h : x ∈ ys) : Door K mg ys x c Pt := ⟨h, D.fn, D.hd, D.no⟩
end FNX
set_option Elab.async false
set_option linter.all false
set_option maxRecDepth 100000
set_option maxHeartbeats 4000000
namespace FNX
open PySem PySem.Spec PyProof.Rows L2
abbrev MkC := V → PyData → Hp → (V → Hp → Prop) → Prop
/-- [word, repr(e.value)] -/
def mkR (word : Str) : MkC := fun _ d H Q => d.showable = true ∧ d.depth ≤ 60 ∧ d.shown.length ≤ sizeLine ∧ ∀ p, H p = none → Q (.ref p) (upd H p (.lst [.str word, .str d.shown]))
section
variable {X : Cx}
theorem pe_doorN {x : Str} {T : List (Addr × Str)} {TT : (XK → Hp → VK → Prop) → Hp → VK → Prop} {st : Stmt} {g c Pt : Addr} {fd : FuncData} {k : Nat} {params : Arguments} {body : Expr} {scope : Scope} {t : XK → TE} {p lpos pos : Pos}
    (hg : Gl X x) (hm : X.mg x = some (.ref g)) (F : Fun X.K x x st g fd) (hb : L2.Binds X.K fd ["_law_door"] []) (Sg : FnScope ["_law_door", "_law_kept", "e"] ["_law_door"] (defScope st))
    (hva : Vis (defScope st) "_law_door") (hG : ∀ cdg, LamX.GivesTo X ["_law_door", "_law_kept", "e"] x (defScope st) g cdg (defBody st) "_law_door" (X.env.qual ++ "<lambda>") TT)
    (TB : LamX.TabB X.base X.mg c Pt) (hcode : X.env.code = .ref c) (hmT : (Pt, X.env.qual ++ "<lambda>") ∈ T) (hu : ∀ p ∈ T, p.1 = Pt → p.2 = X.env.qual ++ "<lambda>") (hr : Room (k + 2) X.A)
    (L : LamX.LamS X.env.scope scope) (hdef : defaultsOf params X.env = ([], []))
    (hbind : ∀ (q : Str) (cl : List (Str × Addr)) (pm cv ctv : Value), bindArgs (PySem.W.kla_fn "<lambda>" q params body scope cl pm cv ctv) ⟨[], []⟩ = pure [])
    (hbody : ∀ (A : Around) (outer : List Env) (s : Shared) (H : Hp) (E : XK) (f c' : Addr), Room k (A.deeper (LamX.lamEnv X scope s.heap.objs.size f c')) → PE (LamX.lamCx X A outer s H E scope f c') body (t E))
    (hdb : (x == ("__debug__" : Str)) = false := by decide) :
    PE X (.Call (.Name x p) [.Lambda params body scope lpos] [] pos) (LamX.tLam T TT t) := by
  obtain ⟨oc, od, kV, doc, pm, an, cdv, ct, osl, rfl, lk, hcd⟩ := F.ex
  exact LamX.pe_lamcall hg hm F.kp lk hcd hb Sg rfl hva (hG cdv) TB hcode hmT hu hr L hdef hbind hbody hdb
end
end FNX
set_option Elab.async false
set_option linter.all false
set_option maxRecDepth 100000
set_option maxHeartbeats 4000000
namespace FNX
open PySem PySem.Spec PyProof.Rows L2
end FNX
set_option Elab.async false
set_option linter.all false
set_option maxRecDepth 100000
set_option maxHeartbeats 4000000
namespace FNX
open PySem PySem.Spec PyProof.Rows L2
section
variable {M : Model} {prog : Program} {w : World} {A : Around} {E : Value → Shared → Prop} {s : Shared} {K : PySem.W.Frag} {x C f : Addr} {ox : Obj} {od : Option Obj} {b tb : Value}
theorem ifBound_objNe {args : List Value} {Q : Option Value → Shared → Prop} (X : K.In s.heap) (I : PySem.W.InstAt s.heap x ox C od) (hs : PySem.W.findIn K (.ref C) "__ne__" = some (some (.builtin "object.__ne__")))
    (h : wpAny M A (call (.builtin "object.__ne__") (.ref x :: args)) (fun v => Q (some v)) E s) : wpAny M A (callSpecialIfBound? (.ref x) "__ne__" args) Q E s := by
  simp only [callSpecialIfBound?, bindSpecialIfBound?]
  refine wpAny_holding (wpAny_bind (wpAny_bind (wpAny_bind (I.type.here ((PySem.W.looks_findIn X hs).here ?_)))))
  refine wpAny_bind (wpAny_askSetting (wpAny_ite ?_))
  have fin : wpAny M A (call (.builtin "object.__ne__") ([.ref x] ++ args) >>= fun v => pure (some v)) Q E s := wpAny_bind (wpAny_mono h (fun v s' h' => wpAny_pure h') fun _ _ h' => h')
  split
  · exact wpAny_bind (wpAny_of_eq (F.cmp_object.ne.bind _) (wpAny_pure (by exact fin)))
  · exact wpAny_tryCatch (wpAny_bind (wpAny_of_eq (F.cmp_object.ne.bind _) (wpAny_pure (by exact fin))))
theorem objNe_own {Q : Fin → Shared → Prop} (hu : A.units < cLine) (X : K.In s.heap) (I : PySem.W.InstAt s.heap x ox C od) (hs : PySem.W.findIn K (.ref C) "__eq__" = some (some (.ref f))) (hf : PySem.W.isFn K (.ref f) = true)
    (h : wpAny (model prog w) A (call (.ref f) [.ref x, b]) (fun v s' => ∃ r, v = .bool r ∧ Q (.done (.ret (.bool (!r)))) s') E s) :
    wpAny (model prog w) A (Builtin.«object.__ne__» ⟨[.ref x, b], []⟩) Q E s := by
  unfold Builtin.«object.__ne__»
  repeat (first | with_reducible refine PySem.W.ifBound_K X I hs hf (wpAny_mono h (fun v s' hv => ?_) fun _ _ e => e) | with_reducible refine wpAny_cRoomFor hu ?_ | wp_step)
  obtain ⟨r, rfl, q⟩ := hv
  refine wpAny_bind (wpAny_truthy_bool ?_)
  exact wpAny_pure q
theorem ne_own {Q : Value → Shared → Prop} (hu : A.in1.units < cLine) (X : K.In s.heap) (I : PySem.W.InstAt s.heap x ox C od) (hb : PySem.W.Looks (model prog w) s.heap (typeOf b) tb) (hn : PySem.W.notFirst K C tb = true)
    (hm : PySem.W.mroIn K C (.type "object") = some true) (h1 : PySem.W.findIn K (.ref C) "__ne__" = some (some (.builtin "object.__ne__"))) (hs : PySem.W.findIn K (.ref C) "__eq__" = some (some (.ref f))) (hf : PySem.W.isFn K (.ref f) = true)
    (h : wpAny (model prog w) A.in1 (call (.ref f) [.ref x, b]) (fun v s' => ∃ r, v = .bool r ∧ Q (.bool (!r)) s') E s) : wpAny (model prog w) A (richCompare .NotEq (.ref x) b) Q E s := by
  have one : wpAny (model prog w) A (tryCompare (.ref x) (cmpInfo .NotEq).2.1 b) (fun r s' => ∃ v, r = some v ∧ Q v s') E s := by
    unfold tryCompare
    refine wpAny_bind (ifBound_objNe X I h1 ?_)
    refine wpAny_call (codeAny_call_builtin PySem.F.cmp_object.ne.plain PySem.F.cmpEntry_ne (PySem.W.check_slot PySem.F.cmpKind_ne PySem.F.cmpSplit_ne (I.type.andThen (PySem.W.looks_mroIn X hm)) (PySem.F.cmpArgs_ne _ _)
      (objNe_own hu X I hs hf (wpAny_mono h (fun v s' hv => ?_) fun _ _ e => e))))
    obtain ⟨r, rfl, q⟩ := hv
    refine ⟨r, rfl, ?_⟩
    exact wpAny_pure ⟨_, rfl, q⟩
  have hu0 : A.units < cLine := Nat.lt_of_le_of_lt (Nat.le_succ _) hu
  unfold richCompare
  simp only [oneThing_ref]
  refine wpAny_holding (wpAny_bind (wpAny_cRoomFor hu0 ?_))
  refine wpAny_bind (I.type.here (wpAny_bind (hb.here ?_)))
  split
  · rename_i q
    have e : PySem.W.subIn K tb (.ref C) = some false := by
      rcases Bool.or_eq_true_iff.mp hn with e | e
      · rw [beq_iff_eq.mp e] at q; simp at q
      · exact beq_iff_eq.mp e
    refine wpAny_bind ((PySem.W.looks_subIn X e).here ?_)
    simp only [Bool.false_eq_true, if_false]
    refine wpAny_bind (wpAny_mono one (fun r s' z => ?_) fun _ _ e => e)
    obtain ⟨v, rfl, hq⟩ := z
    exact wpAny_pure hq
  · refine wpAny_bind (wpAny_pure ?_)
    simp only [Bool.false_eq_true, if_false]
    refine wpAny_bind (wpAny_mono one (fun r s' z => ?_) fun _ _ e => e)
    obtain ⟨v, rfl, hq⟩ := z
    exact wpAny_pure hq
end
section
variable {X : Cx} {n : Nat} {D : Eqv}
def RcNG (X : Cx) (n : Nat) (D : Eqv) : Prop :=
  ∀ (A : Around) (pins : List (Addr × Obj)) (s : Shared) (σ : L2.St) (H : Hp) (x y : V) (u v : Value), Sub X n A → Inv X pins σ H s → RelV x u → RelV y v → D x y H →
    wpAny (model X.prog X.w) A (richCompare .NotEq u v) (fun r s' => r = .bool false ∧ ∃ H', Inv X pins σ H' s' ∧ Ext H H') X.xe s
theorem rcNG_ins {CX : CXT} {C f : Addr} {fd : FuncData} {ps : List Str} {R : Addr → Addr → Hp → Prop} {E : XK} (F : FnOk X.prog X.w X.K X.mg X.base CX n f fd ps (spEq R))
    (hs : PySem.W.findIn X.K (.ref C) "__eq__" = some (some (.ref f))) (h1 : PySem.W.findIn X.K (.ref C) "__ne__" = some (some (.builtin "object.__ne__"))) (hm : PySem.W.mroIn X.K C (.type "object") = some true)
    (hf : PySem.W.isFn X.K (.ref f) = true) (hb : L2.Binds X.K fd ps []) (hx : Passes CX X E) : RcNG X (n + 1) (DIns C R) := by
  intro A pins s σ H x y u v sb I rx ry d
  obtain ⟨a, b, dx, dy, fs, gs, rfl, rfl, ha, hb', hr⟩ := d
  cases rx
  cases ry
  obtain ⟨mA, J, _⟩ := ins_get I.hok ha
  obtain ⟨mB, J', _⟩ := ins_get I.hok hb'
  obtain ⟨od, J, _⟩ := J.look
  obtain ⟨od', J', _⟩ := J'.look
  have s1 := sb.in1
  refine ne_own (tb := .ref C) s1.room.units0 I.kIn J J'.type (by simp [PySem.W.notFirst]) hm h1 hs hf ?_
  have hsp : spEq R [.ref a, .ref b] H (fun v H' => v = .bl true ∧ Ext H H') E := ⟨a, b, rfl, hr, fun H' e => ⟨rfl, e⟩⟩
  have e0 : Env0 X.prog X.w X.K X.mg X.base A.in1 X.stack s H := by
    have e := I.env0
    exact ⟨by rw [s1.fr]; exact e.frames, e.mod, e.bs, e.bsz, e.funs, e.frf, e.hok, e.bare⟩
  have hl := F.len _ _ _ _ hsp
  have r2 : Vals [V.ref a, V.ref b] [Value.ref a, Value.ref b] := .cons rfl (.cons rfl .nil)
  refine wpAny_call (codeAny_mono (F.run A.in1 X.stack s H ⟨[.ref a, .ref b], []⟩ [.ref a, .ref b] [.ref a, .ref b] _ E s1.room e0 (by
    have := hb s [.ref a, .ref b] I.kIn (by simpa using hl)
    simpa using this) r2 hsp) fun r s' hq => ?_)
  cases r with
  | error e => exact hx pins σ H s e s' I hq
  | ok fl =>
    cases fl with
    | ret w =>
      obtain ⟨z, H', I', rz, ez, ex⟩ := I.after hq
      subst ez
      cases rz
      exact ⟨true, rfl, rfl, H', I', ex⟩
    | next => exact False.elim hq
    | brk => exact False.elim hq
    | cont => exact False.elim hq
/-- x != y, where == says True -/
def rNeG (D : Eqv) : R2 := fun x y H Q => D x y H ∧ ∀ H', Ext H H' → Q (.bl false) H'
theorem op_neG (h : RcNG X n D) (hr : Room n X.A) : OpR X (compareOp .NotEq) (rNeG D) := by
  intro pins s σ H x y v u Q I rx ry hq
  obtain ⟨d, q⟩ := hq
  show wpAny (model X.prog X.w) X.A (richCompare .NotEq v u) (EP X pins σ Q) X.xe s
  refine wpAny_mono (h X.A pins s σ H x y v u ⟨hr, rfl⟩ I rx ry d) (fun r s' z => ?_) fun _ _ x => x
  obtain ⟨hr', H', I', e⟩ := z
  subst hr'
  exact ⟨.bl false, H', I', rfl, q H' e⟩
end
end FNX
set_option Elab.async false
set_option linter.all false
set_option maxRecDepth 100000
set_option maxHeartbeats 4000000
namespace FNX
open PySem PySem.Spec PyProof.Rows L2
end FNX
set_option Elab.async false
set_option linter.all false
set_option maxRecDepth 100000
set_option maxHeartbeats 4000000
namespace FNX
open PySem PySem.Spec PyProof.Rows L2
end FNX
namespace FNX
open PySem PySem.Spec PyProof.Rows L2
/-- data, or a dict of one pair of ints -/
def RdU (K : PySem.W.Frag) (H : Hp) (v : V) (d : PyData) : Prop := Rd K H v d ∨ ∃ (a : Addr) (i j n : Int), v = .ref a ∧ H a = some (.dT [([Sum.inl i, Sum.inl j], .int n)]) ∧ d = .dict [(.tuple [.int i, .int j], .int n)]
theorem RdU.same {K : PySem.W.Frag} {H H' : Hp} (s : Same H H') {v : V} {d : PyData} (h : RdU K H v d) : RdU K H' v d := by
  rcases h with h | ⟨a, i, j, n, rfl, h, rfl⟩
  · exact .inl (rdSame s h)
  · exact .inr ⟨a, i, j, n, rfl, s _ _ h, rfl⟩
end FNX
set_option Elab.async false
set_option linter.all false
set_option maxRecDepth 100000
set_option maxHeartbeats 4000000
namespace FNX
open PySem PySem.Spec PyProof.Rows L2
section
variable {X : Cx} {k : Nat} {f : Addr} {fd : FuncData} {ps : List Str} {sp : Sp} {E : XK} {x : Str} {p pos : Pos}
/-- f(), f a def that is walked where no repr runs further out -/
theorem pe_callG0 (hgd : X.A.guards = some []) (F : GOk X.prog X.w X.K X.mg X.base k f fd ps sp) (hr : Room k X.A) (hg : Gl X x) (hm : X.mg x = some (.ref f)) (hk : PySem.W.keepIn X.K (.ref f) = true) (hb : L2.Binds X.K fd ps []) (hx : Passes CX0 X E)
    (hdb : (x == ("__debug__" : Str)) = false := by decide) : PE X (.Call (.Name x p) [] [] pos) (tCall sp [] E tNil) := by
  refine ⟨fun pins s σ H Q I h => ?_⟩
  refine wpAny_Call_Name_kw (ld_glob I hg hm ?_ hdb)
  have hl : (([] : List Value) ++ []).length = ps.length := F.len _ _ _ _ h
  refine PySem.W.callWith_K0 I.kIn hk (wpAny_call (codeAny_mono (F.run X.A X.stack s H ⟨[], []⟩ ([] ++ []) ([] ++ []) Q E hgd hr I.env0 (hb s [] I.kIn hl) .nil h) fun r s' hq => ?_))
  cases r with
  | error e => exact hx pins σ H s e s' I hq
  | ok fl =>
    cases fl with
    | ret u => exact I.after hq
    | next => exact False.elim hq
    | brk => exact False.elim hq
    | cont => exact False.elim hq
end
end FNX
set_option Elab.async false
set_option linter.all false
set_option maxRecDepth 100000
set_option maxHeartbeats 4000000
namespace FNX
open PySem PySem.Spec PyProof.Rows L2
/-- of several defs that the slot may hold: the promise goes with the address -/
def tCallAS (i : Nat) (S : Addr → Sp → Prop) (E : XK) (t : TA) : TE := fun σ H Q => ∃ f sp, σ[i]? = some (some (.ref f)) ∧ S f sp ∧ t σ H fun vs H1 => sp vs H1 Q E
section
variable {X : Cx} {CX : CXT} {k i : Nat} {E : XK} {x : Str} {p pos : Pos} {e : Expr} {es : List Expr} {t : TA}
theorem pe_callAS {S : Addr → Sp → Prop} (A : ∀ f sp, S f sp → FnR X.prog X.w X.K X.mg X.base CX k f sp ∧ PySem.W.keepIn X.K (.ref f) = true) (hr : Room k X.A) (hN : X.N[i]? = some x) (hv : Vis X.env.scope x) (hx : Passes CX X E) (ha : PA X (e :: es) t)
    (hdb : (x == ("__debug__" : Str)) = false := by decide) (hcd : (x == ("__classdict__" : Str)) = false := by decide)
    (he : starEach (e :: es) X.env = (false, eval e X.env) :: starEach es X.env := by rfl) (hst : (backTo pos (starEach es X.env)).any (·.1) = true := by rfl) : PE X (.Call (.Name x p) (e :: es) [] pos) (tCallAS i S E t) := by
  refine ⟨fun pins s σ H Q I h => ?_⟩
  obtain ⟨f, sp, hs, hS, ht⟩ := h
  obtain ⟨F, hk⟩ := A f sp hS
  refine wpAny_Call_Name_kw (thn ((pe_var (pos := p) hN hv hdb hcd).run pins s σ H (fun v H1 => v = .ref f ∧ H1 = H) I ⟨.ref f, hs, rfl, rfl⟩) fun u s1 ⟨v, H1, I1, r1, q1⟩ => ?_)
  obtain ⟨rfl, rfl⟩ := q1
  cases r1
  refine PySem.W.callWith_S2 (h₀ := X.base) I.ok.mod.kin hk (thn (ha.run pos pins s1 σ _ _ I1 ht) fun us s2 ⟨vs, H2, I2, r, q⟩ => ⟨I2.kIn, ?_⟩) he hst
  exact wpAny_call (run_fnR F hr hx I2 r q)
end
theorem fnR_of {P : Program} {w : World} {K : PySem.W.Frag} {mg : Str → Option Value} {base : Heap} {CX : CXT} {k : Nat} {f : Addr} {fd : FuncData} {ps : List Str} {sp : Sp} (F : FnOk P w K mg base CX k f fd ps sp) (hb : L2.Binds K fd ps []) (KB : K.In base) : FnR P w K mg base CX k f sp :=
  fun A outer s H us vs Q E hr e0 r hs => F.run A outer s H ⟨us, []⟩ us vs Q E hr e0 (by
    have KX : K.In s.heap := KB.keeps fun b o e => (e0.bs b o e).1
    have := hb s us KX (by rw [List.append_nil, ← r.length]; exact F.len _ _ _ _ hs)
    rwa [List.append_nil] at this) r hs
end FNX
set_option Elab.async false
set_option linter.all false
set_option maxRecDepth 100000
set_option maxHeartbeats 8000000
namespace K71
open PySem PySem.Spec PyProof.Rows L2 FNX
def GX (CG p : Addr) (H : Hp) (g : Addr) (N : List (List Int)) : Prop := ∀ H', SameX p H H' → GAt CG H' g N
theorem GX.at {CG p g : Addr} {H : Hp} {N : List (List Int)} (h : GX CG p H g N) : GAt CG H g N := h H SameX.refl
theorem GX.same {CG p g : Addr} {H H' : Hp} {N : List (List Int)} (h : GX CG p H g N) (s : SameX p H H') : GX CG p H' g N := fun H2 s2 => h H2 (s.trans s2)
theorem SameX.same {p : Addr} {H H' : Hp} (s : SameX p H H') (n : H p = none) : Same H H' := fun b o e => s b o (ne_of_none e n) e
theorem NewN.x {H H1 : Hp} {p q : Addr} {N : List (List Int)} (h : NewN H H1 q N) (hp : PoolAt H p) : NX p H1 q N := fun H2 s => h H2 fun b o n e => s b o (hp.ne n).symm e
theorem shwLine {k L : Nat} {d : PyData} (h : Shw k L d) (hk : k ≤ 60) (hL : L ≤ 1000000) : d.showable = true ∧ d.depth ≤ 60 ∧ d.shown.length ≤ sizeLine := ⟨h.ok, Nat.le_trans h.deep hk, Nat.le_trans h.len (Nat.le_trans hL (by rw [sizeLine_eq]; decide))⟩
def spLawT (K : PySem.W.Frag) (cs : List (Addr × Addr)) : Sp := fun vs H Q _ => ∃ (a : Addr) (ns : List Int), vs = [.ref a] ∧ SqL K H a (ns.map V.int) ∧ ns.length ≤ 63 ∧ (∀ p ∈ cs, H p.2 = some (.tbl #[])) ∧ ∀ H', Q (.bl true) H'
theorem sqLExt {K : PySem.W.Frag} {H H' : Hp} {a : Addr} {xs : List V} (h : SqL K H a xs) (s : LamX.ExtN H H') : SqL K H' a xs := by
  rcases h with (h | ⟨o, h⟩) | h
  · exact .inl (.inl (s _ _ h fun _ z => by cases z))
  · exact .inl (.inr ⟨o, s _ _ h fun _ z => by cases z⟩)
  · exact .inr h
theorem naExt {H H' : Hp} {p : Addr} {N : List (List Int)} (h : NAt H p N) (s : LamX.ExtN H H') : NAt H' p N := by
  obtain ⟨rows, h1, h2⟩ := h
  exact ⟨rows, s _ _ h1 (fun _ z => by cases z), h2.1, fun k r e => s _ _ (h2.2 k r e) fun _ z => by cases z⟩
theorem Same.ext {H H' : Hp} (s : Same H H') : LamX.ExtN H H' := fun b o e _ => s b o e
/-- what an exception of the class C with the value v leaves -/
def told (C : Addr) (v : V) (H : Hp) (E : XK) : Prop := ∀ H' dd, Same H H' → H dd = none → H' dd = some (.xd [(("value" : Str), v)]) → E (.ref C) (some dd) H'
theorem edExt {H H' : Hp} {q : Addr} {es : List (Int × Int)} (h : EdgesAt H q es) (s : LamX.ExtN H H') : EdgesAt H' q es := by
  obtain ⟨ts, h1, h2, h3⟩ := h
  refine ⟨ts, s _ _ h1 (fun _ z => by cases z), h2, fun k t e => ?_⟩
  obtain ⟨x, a, b⟩ := h3 k t e
  exact ⟨x, a, s _ _ b (fun _ z => by cases z)⟩
end K71
set_option Elab.async false
set_option linter.all false
set_option maxRecDepth 100000
set_option maxHeartbeats 8000000
namespace K71
open PySem PySem.Spec PyProof.Rows L2 FNX
def isTup : PyData → Bool
  | .tuple _ => true
  | _ => false
theorem kitTu (K : PySem.W.Frag) : ∀ d : PyData, PySem.W.kitOne K (.type (tyD d)) (.type "tuple") = some (isTup d)
  | .none => (kit_ty (by decide +kernel) : PySem.W.kitOne K (.type "NoneType") (.type "tuple") = some false)
  | .bool _ => (kit_ty (by decide +kernel) : PySem.W.kitOne K (.type "bool") (.type "tuple") = some false)
  | .int _ => (kit_ty (by decide +kernel) : PySem.W.kitOne K (.type "int") (.type "tuple") = some false)
  | .str _ => (kit_ty (by decide +kernel) : PySem.W.kitOne K (.type "str") (.type "tuple") = some false)
  | .list _ => (kit_ty (by decide +kernel) : PySem.W.kitOne K (.type "list") (.type "tuple") = some false)
  | .tuple _ => (kit_ty (by decide +kernel) : PySem.W.kitOne K (.type "tuple") (.type "tuple") = some true)
  | .dict _ => (kit_ty (by decide +kernel) : PySem.W.kitOne K (.type "dict") (.type "tuple") = some false)
theorem rdTup {K : PySem.W.Frag} {H : Hp} {v : V} {ds : List PyData} (h : Rd K H v (.tuple ds)) : ∃ a xs, v = .ref a ∧ SqT K H a xs ∧ DpAll K H xs ds := by
  cases h with
  | dat h =>
    cases h with
    | tup h1 h2 => exact ⟨_, _, rfl, h1, h2⟩
theorem decVI (i j : Int) : decide (V.int i = V.int j) = decide (i = j) := by
  by_cases h : i = j
  · rw [h, decide_eq_true rfl, decide_eq_true rfl]
  · rw [decide_eq_false h, decide_eq_false (fun z => h (by injection z))]
theorem nodeD {n : Nat} {d : PyData} (h : isNode n d = true) : ∃ v : Nat, d = .int (v : Int) ∧ v < n := by
  cases d with
  | int i =>
    have h : (decide ((0 : Int) ≤ i) && decide (i ≤ (n : Int) - 1)) = true := h
    rw [Bool.and_eq_true, decide_eq_true_eq, decide_eq_true_eq] at h
    exact ⟨i.toNat, by rw [show ((i.toNat : Nat) : Int) = i by omega], by omega⟩
  | _ => cases h
def isEdgeD (n : Nat) : PyData → Bool
  | .tuple [a, b] => isNode n a && isNode n b && !PyData.eqv a b
  | _ => false
theorem isEdgeLen {n : Nat} {ds : List PyData} (h : ds.length ≠ 2) : isEdgeD n (.tuple ds) = false := by
  match ds, h with
  | [], _ => rfl
  | [_], _ => rfl
  | _ :: _ :: _ :: _, _ => rfl
  | [_, _], h => exact absurd rfl h
theorem isEdgePair {n : Nat} {e : Int × Int} (h : 0 ≤ e.1 ∧ e.1 < n ∧ 0 ≤ e.2 ∧ e.2 < n ∧ e.1 ≠ e.2) : isEdgeD n (pairD e) = true := by
  show (isNode n (.int e.1) && isNode n (.int e.2) && !PyData.eqv (.int e.1) (.int e.2)) = true
  rw [nodeIn h.1 h.2.1, nodeIn h.2.2.1 h.2.2.2.1]
  have q : PyData.eqv (.int e.1) (.int e.2) = false := by
    have z : PyData.eqv (.int e.1) (.int e.2) = (e.1 == e.2) := by
      first
        | rfl
        | simp [PyData.eqv]
    rw [z]
    exact beq_eq_false_iff_ne.mpr h.2.2.2.2
  rw [q]
  rfl
def spIsEdgeD (K : PySem.W.Frag) : Sp := fun vs H Q _ => ∃ (n : Nat) (v : V) (d : PyData), vs = [.int (n : Int), v] ∧ Rd K H v d ∧ ∀ H', Same H H' → Q (.bl (isEdgeD n d)) H'
section
variable {P : Program} {w : World} {K : PySem.W.Frag} {mg : Str → Option Value} {base : Heap} {CG CS CM CE : Addr}
theorem ok_is_edgeD {f : Addr} {fd : FuncData} (F : Fun K "is_edge" "is_edge" s_is_edge f fd) (M : Nms mg) (G : At P w K mg base CX0 3 "is_node" ["size", "thing"] (spIsNode K)) :
    FnOk P w K mg base CX0 4 f fd ["size", "thing"] (spIsEdgeD K) := by
  obtain ⟨c, cd, G, mG, kG, bG⟩ := G
  refine F.ok sc_is_edge (fun vs H Q E h => ?_) (fun cdv A outer s H vs Q E hr h => ?_)
  · obtain ⟨n, v, d, rfl, _⟩ := h
    rfl
  · obtain ⟨n, v, d, rfl, hd, k⟩ := h
    have nd := sc_is_edge.nd
    refine ⟨_, (pss_cons (ps_if (PW.pt (pw_or (pt_not (pt_val (pe_callB call_isi (by rfl) M.isi boot_isi (pa_cons (pv 1) (pa_cons (pe_bltn (v := V.ty "tuple") rfl M.tuple (by decide +kernel) rfl) pa_nil))))) (pw_or1 (pt_cmpR op_ne (pe_callB call_len_seq (by rfl) M.len boot_len1 (pa_cons (pv 1) pa_nil)) pe_int (nomark _))))) (pss_one (ps_ret pe_bl)) pss_nil)
      (pss_cons (ps_asg (pv 1) (pg_tup rfl (pgs_cons (pg_name (i := 2) nd rfl (Or.inl rfl)) (pgs_cons (pg_name (i := 3) nd rfl (Or.inl rfl)) pgs_nil))))
      (pss_one (ps_ret (pe_and (pe_call G hr (by rfl) mG kG bG .nil pass0 (pa_cons (pv 0) (pa_cons (pv 2) pa_nil))) (pe_and (pe_call G hr (by rfl) mG kG bG .nil pass0 (pa_cons (pv 0) (pa_cons (pv 3) pa_nil))) (pe_one (pe_cmpR op_ne (pv 2) (pv 3) (nomark _))))))))), ?_⟩
    refine ⟨_, rfl, v, _, _, _, _, rfl, .ty _, rdTy hd, kitTu K d, _, rfl, ?_⟩
    cases d with
    | none => exact iteT (k H (Same.refl H))
    | bool _ => exact iteT (k H (Same.refl H))
    | int _ => exact iteT (k H (Same.refl H))
    | str _ => exact iteT (k H (Same.refl H))
    | list _ => exact iteT (k H (Same.refl H))
    | dict _ => exact iteT (k H (Same.refl H))
    | tuple ds =>
      obtain ⟨t, ys, rfl, ht, hds⟩ := rdTup hd
      have hl := dpAllLen hds
      refine iteF ⟨_, rfl, t, _, rfl, .inr ht, rfl, _, rfl, ?_⟩
      rw [hl]
      by_cases c2 : ds.length = 2
      case neg =>
        rw [decVI, decide_eq_false (by omega)]
        have z := k H (Same.refl H)
        rw [isEdgeLen c2] at z
        exact iteT z
      rw [decVI, decide_eq_true (by omega)]
      refine iteF ?_
      obtain ⟨d1, d2, rfl⟩ : ∃ d1 d2, ds = [d1, d2] := by
        match ds, c2 with
        | [d1, d2], _ => exact ⟨d1, d2, rfl⟩
      obtain ⟨y1, y2, rfl, h1, h2⟩ : ∃ y1 y2, ys = [y1, y2] ∧ Dp K H y1 d1 ∧ Dp K H y2 d2 := by
        cases hds with
        | cons h1 hr1 =>
          cases hr1 with
          | cons h2 hr2 =>
            cases hr2
            exact ⟨_, _, rfl, h1, h2⟩
      refine ⟨_, rfl, t, _, rfl, ht, rfl, _, _, rfl, _, _, rfl, rfl, ?_⟩
      refine ⟨_, rfl, _, rfl, y1, d1, n, rfl, .dat h1, _, rfl, ?_⟩
      have z : Q (.bl (isNode n d1 && isNode n d2 && !PyData.eqv d1 d2)) H := k H (Same.refl H)
      cases c1 : isNode n d1 with
      | false =>
        rw [c1] at z
        exact iteF z
      | true =>
        refine iteT ⟨_, rfl, _, rfl, y2, d2, n, rfl, .dat h2, _, rfl, ?_⟩
        cases c3 : isNode n d2 with
        | false =>
          rw [c1, c3] at z
          exact iteF z
        | true =>
          rw [c1, c3] at z
          obtain ⟨i, rfl, _⟩ := nodeD c1
          obtain ⟨j, rfl, _⟩ := nodeD c3
          cases h1
          cases h2
          refine iteT ⟨_, rfl, _, rfl, rfl, ?_⟩
          have q : PyData.eqv (.int (i : Int)) (.int (j : Int)) = decide (V.int (i : Int) = V.int (j : Int)) := by
            have z : PyData.eqv (.int (i : Int)) (.int (j : Int)) = ((i : Int) == (j : Int)) := by
              first
                | rfl
                | simp [PyData.eqv]
            rw [z, decVI]
            by_cases c : (i : Int) = (j : Int)
            · rw [decide_eq_true c]
              exact beq_iff_eq.mpr c
            · rw [decide_eq_false c]
              exact beq_eq_false_iff_ne.mpr c
          rw [q] at z
          exact z
end
end K71
set_option Elab.async false
set_option linter.all false
set_option maxRecDepth 100000
set_option maxHeartbeats 8000000
namespace K71
open PySem PySem.Spec PyProof.Rows L2 FNX
def ordP (e : Int × Int) : Int × Int := (min e.1 e.2, max e.1 e.2)
structure GoodU (n : Nat) (es : List (Int × Int)) : Prop where
  node : ∀ e ∈ es, 0 ≤ e.1 ∧ e.1 < n ∧ 0 ≤ e.2 ∧ e.2 < n ∧ e.1 ≠ e.2
  once : (es.map ordP).Nodup
  few : es.length ≤ 1000
def SrtE (es : List (Int × Int)) : Prop := es.Pairwise fun a b => a.1 < b.1 ∨ (a.1 = b.1 ∧ a.2 ≤ b.2)
theorem SrtE.uniq {a b : List (Int × Int)} (p : a.Perm b) (ha : SrtE a) (hb : SrtE b) : a = b := List.Perm.eq_of_pairwise (fun a b _ _ h1 h2 => Prod.ext (by omega) (by omega)) ha hb p
theorem GoodU.ord {n : Nat} {es : List (Int × Int)} (h : GoodU n es) (f : es.length ≤ 40) : GoodE n (es.map ordP) := ⟨fun e he => by
  obtain ⟨d, hd, rfl⟩ := List.mem_map.mp he
  have := h.node d hd
  unfold ordP
  dsimp only
  omega, h.once, by rw [List.length_map]; exact f⟩
theorem ordId {e : Int × Int} (h : e.1 < e.2) : ordP e = e := by
  unfold ordP
  exact Prod.ext (show min e.1 e.2 = e.1 by omega) (show max e.1 e.2 = e.2 by omega)
theorem ordMap {n : Nat} {es : List (Int × Int)} (h : GoodE n es) : es.map ordP = es := by
  have z : ∀ e ∈ es, ordP e = e := fun e he => ordId (h.node e he).2.1
  exact (List.map_congr_left z).trans (List.map_id es)
theorem GoodE.toU {n : Nat} {es : List (Int × Int)} (h : GoodE n es) : GoodU n es := ⟨fun e he => by have := h.node e he; omega, by rw [ordMap h]; exact h.once, Nat.le_trans h.few (by decide)⟩
structure GE (CG : Addr) (H : Hp) (g : Addr) (n : Nat) (es : List (Int × Int)) : Prop where
  obj : ∃ dx j nr N, H g = some (.ins CG dx (gflds (n : Int) j nr)) ∧ EdgesAt H j es ∧ NAt H nr N ∧ IsNear n es N
  good : GoodE n es
  asc : SrtE es
  n1 : 1 ≤ n
  n16 : n ≤ 16
theorem GE.same {CG : Addr} {H H' : Hp} {g : Addr} {n : Nat} {es : List (Int × Int)} (h : GE CG H g n es) (s : Same H H') : GE CG H' g n es := by
  obtain ⟨⟨dx, j, nr, N, h1, h2, h3, h4⟩, a, b, c, d⟩ := h
  exact ⟨⟨dx, j, nr, N, s _ _ h1, h2.same s, h3.same s, h4⟩, a, b, c, d⟩
theorem kitTT (K : PySem.W.Frag) : PySem.W.kitAny K (.type "tuple") [.type "list", .type "tuple"] = some true :=
  kitAny_cons (b := false) (kit_ty (by decide +kernel)) (fun _ => kitAny_cons (b := true) (kit_ty (by decide +kernel)) (fun h => by cases h) (fun _ => rfl)) (fun h => by cases h)
theorem tyXSame {K : PySem.W.Frag} {H H' : Hp} {t : Value} {x : V} (h : TyX K H x t) (s : Same H H') : TyX K H' x t := by
  cases h with
  | base h =>
    cases h with
    | non => exact .base .non
    | bl b => exact .base (.bl b)
    | int i => exact .base (.int i)
    | str z => exact .base (.str z)
    | flt z => exact .base (.flt z)
    | lst e => exact .base (.lst (s _ _ e))
    | frz e => exact .base (.frz (s _ _ e))
    | tup e => exact .base (.tup (s _ _ e))
    | dK e => exact .base (.dK (s _ _ e))
    | dT e => exact .base (.dT (s _ _ e))
    | ins e a b c d f => exact .base (.ins (s _ _ e) a b c d f)
  | byt b => exact .byt b
  | set e => exact .set (s _ _ e)
  | kList e c => exact .kList e c
  | kTuple e c => exact .kTuple e c
  | kDict e c => exact .kDict e c
  | fTuple e => exact .fTuple (s _ _ e)
  | fDict e => exact .fDict (s _ _ e)
/-- good entries, then a bad one -/
def BadAt (K : PySem.W.Frag) (H : Hp) (n : Nat) (v y : V) : Prop := ∃ (p : Addr) (ts : List Addr) (es : List (Int × Int)) (rest : List V), v = .ref p ∧ H p = some (.lst (ts.map V.ref ++ y :: rest)) ∧ TupsAt H ts es ∧ GoodU n es ∧
  ((∃ d, Rd K H y d ∧ isEdgeD n d = false) ∨ ∃ (t : Addr) (e : Int × Int), y = .ref t ∧ H t = some (.tup [.int e.1, .int e.2]) ∧ (0 ≤ e.1 ∧ e.1 < n ∧ 0 ≤ e.2 ∧ e.2 < n ∧ e.1 ≠ e.2) ∧ ordP e ∈ es.map ordP)
def GoodAt (K : PySem.W.Frag) (H : Hp) (n : Nat) (v : V) (es : List (Int × Int)) : Prop := ∃ (p : Addr) (ts : List Addr), v = .ref p ∧ (H p = some (.lst (ts.map V.ref)) ∨ H p = some (.tup (ts.map V.ref))) ∧ TupsAt H ts es ∧ GoodU n es
def NoSeq (K : PySem.W.Frag) (H : Hp) (v : V) : Prop := ∃ T, TyX K H v (.type T) ∧ PySem.W.kitAny K (.type T) [.type "list", .type "tuple"] = some false
def spEdges01 (K : PySem.W.Frag) (CE : Addr) : Sp := fun vs H Q E => ∃ (n : Nat) (v : V), vs = [.int (n : Int), v] ∧
  ((∃ es, GoodAt K H n v es ∧ ∀ q H' es', H q = none → Same H H' → EdgesAt H' q es' → es'.Perm (es.map ordP) → SrtE es' → Q (.ref q) H') ∨ (NoSeq K H v ∧ told CE v H E) ∨ (∃ y, BadAt K H n v y ∧ told CE y H E))
section
variable {P : Program} {w : World} {K : PySem.W.Frag} {mg : Str → Option Value} {base : Heap} {CG CS CM CE : Addr}
theorem ok_checked01 {f : Addr} {fd : FuncData} (F : Fun K "checked_edges" "checked_edges" s_checked_edges f fd) (M : Nms mg) (EE : Ex P w K mg base "InvalidEdge" CE) (tyE : PySem.W.typeIn K (.ref CE) = some (.type "type"))
    (G : At P w K mg base CX0 4 "is_edge" ["size", "thing"] (spIsEdgeD K)) : FnOk P w K mg base (L2.CX P w) 5 f fd ["size", "edges"] (spEdges01 K CE) := by
  obtain ⟨c, cd, G, mG, kG, bG⟩ := G
  refine F.okX sc_checked_edges (fun vs H Q E h => ?_) (fun cdv A outer s H vs Q E hr h => ?_)
  · obtain ⟨n, v, rfl, _⟩ := h
    rfl
  · obtain ⟨n, v, rfl, h⟩ := h
    have hr2 : Room 2 _ := hr.mono (by decide)
    have hu65 : A.units + 3 + 65 < cLine := by
      have := hr.un
      show A.units + 3 + 65 < _
      have z : A.units + 3 + 16 * 4 + 200 < cLine := this
      omega
    have lms : ∀ es : List (Int × Int), (es.map ordP).length = es.length := fun es => List.length_map ..
    rcases h with ⟨es, ⟨p, ts, rfl, (hp | hp), h2, ge⟩, k⟩ | ⟨⟨T, hT, kT⟩, t⟩ | ⟨y, ⟨p, ts, es, rest, rfl, hp, h2, ge, bad⟩, t⟩
    · refine ⟨_, pss_cons (ps_if (pt_not (pt_val (pe_callB call_isiT (by rfl) M.isi boot_isi (pa_cons (pv 1) (pa_cons (pe_tup (pa_cons (pe_bltn (v := V.ty "list") rfl M.list (by decide +kernel) rfl)
          (pa_cons (pe_bltn (v := V.ty "tuple") rfl M.tuple (by decide +kernel) rfl) pa_nil))) pa_nil))))) (pss_one (ps_raiseX rfl EE tyE hr2 (takes_of rfl rfl rfl rfl) rfl (pa_cons (pv 1) pa_nil))) pss_nil)
      (pss_cons (ps_set (i := 2) sc_checked_edges.nd rfl (Or.inl rfl) (pe_lst pa_nil))
      (pss_cons (ps_for PassesOwn.leaving rfl (pi_list (pv 1)) (pg_name (i := 3) sc_checked_edges.nd rfl (Or.inl rfl))
        (pss_cons (ps_if (pt_not (pt_val (pe_call G hr (by rfl) mG kG bG .nil pass0 (pa_cons (pv 0) (pa_cons (pv 3) pa_nil))))) (pss_one (ps_raiseX rfl EE tyE hr2 (takes_of rfl rfl rfl rfl) rfl (pa_cons (pv 3) pa_nil))) pss_nil)
        (pss_cons (ps_set (i := 4) sc_checked_edges.nd rfl (Or.inl rfl) (pe_tup (pa_cons (pe_callB (cr_minT rfl hr.units) (by rfl) M.min boot_min1 (pa_cons (pv 3) pa_nil))
          (pa_cons (pe_callB (cr_maxT rfl hr.units) (by rfl) M.max boot_max1 (pa_cons (pv 3) pa_nil)) pa_nil))))
        (pss_cons (ps_if (pt_cmpR (op_inD hu65) (pv 4) (pv 2) (by rfl)) (pss_one (ps_raiseX rfl EE tyE hr2 (takes_of rfl rfl rfl rfl) rfl (pa_cons (pv 3) pa_nil))) pss_nil)
        (pss_one (ps_expr (pe_bm PySem.F.plainAttrs_list PySem.F.slot_list_append PySem.F.type_list_append mt_append (pv 2) (pa_cons (pv 4) pa_nil))))))))
      (pss_one (ps_ret (pe_callB (show CallR _ (.builtin "sorted") (rSortedPO K) from cr_sortedPO) (by rfl) M.sorted boot_sorted1 (pa_cons (pv 2) pa_nil)))))), ?_⟩
      have ms : ∀ {i : Nat} {e : Int × Int}, es[i]? = some e → (es.map ordP)[i]? = some (ordP e) := fun {i e} he => by rw [List.getElem?_map, he]; rfl
      refine ⟨_, rfl, by show 2 ≤ sizeLine; decide, fun tp ntp => ⟨.ref p, tp, _, _, _, _, rfl, upd_same, .cons (.ty _) (.cons (.ty _) .nil), .base (.lst (same_upd ntp _ _ hp)), kitLT K, _, rfl, iteF ?_⟩⟩
      refine ⟨by show 0 ≤ sizeLine; decide, fun fo nfo => ?_⟩
      have s0 := (same_upd ntp (o := .tup [V.ty "list", V.ty "tuple"])).trans (same_upd nfo (o := .lst []))
      have f0 : H fo = none := Same.free (same_upd ntp) nfo
      refine ⟨_, rfl, p, rfl, ⟨_, SqL.of (s0 _ _ hp)⟩, for_list (K := K) (a := p) (xs := ts.map V.ref) (fun i σ H' => ∃ (o3 o4 : Option V) (fs : List Addr), σ = [some (.int n), some (.ref p), some (.ref fo), o3, o4] ∧
        Same H H' ∧ H' fo = some (.lst (fs.map V.ref)) ∧ TupsAt H' fs ((es.map ordP).take i)) ⟨none, none, [], rfl, s0, upd_same, ⟨rfl, fun k t e => by simp at e⟩⟩ (fun i σ H' _ h => ?_) (fun i y σ H' hi h => ?_) (fun σ H' h => ?_)⟩
      · obtain ⟨_, _, _, _, sm, _, _⟩ := h
        exact SqL.of (sm _ _ hp)
      · obtain ⟨o3, o4, fs, rfl, sm, e1, e2⟩ := h
        obtain ⟨t, ht, rfl⟩ := refAt hi
        obtain ⟨e, he, hte⟩ := h2.2 i t ht
        have good := ge.node e (List.mem_of_getElem? he)
        have hm := ms he
        have hte0 := sm _ _ hte
        refine ⟨_, rfl, _, rfl, n, .ref t, pairD e, rfl, .dat (.tup (SqT.of hte0) (.cons (.int _) (.cons (.int _) .nil))), fun H0' s0' => ⟨_, rfl, ?_⟩⟩
        rw [isEdgePair ⟨good.1, good.2.1, good.2.2.1, good.2.2.2.1, good.2.2.2.2⟩]
        refine iteF ?_
        have sm := sm.trans s0'
        have e1 := s0' _ _ e1
        have e2 := e2.same s0'
        have hte' := sm _ _ hte
        refine ⟨_, rfl, t, e.1, e.2, rfl, hte', _, rfl, t, e.1, e.2, rfl, hte', by show 2 ≤ sizeLine; decide, fun ed ned => ?_⟩
        have e1' : (upd H0' ed (.tup [V.int (min e.1 e.2), V.int (max e.1 e.2)])) fo = some (.lst (fs.map V.ref)) := same_upd ned _ _ e1
        have e2' := e2.same (same_upd ned (o := .tup [V.int (min e.1 e.2), V.int (max e.1 e.2)]))
        refine ⟨_, rfl, _, rfl, pairD (ordP e), ((es.map ordP).take i).map pairD, .tup (SqT.of upd_same) (.cons (.int _) (.cons (.int _) .nil)), .lst (SqL.of e1') (dpTups e2'), rfl, shapedPairs _, _, rfl, ?_⟩
        rw [anyPair (notTaken ge.once hm)]
        refine iteF ⟨_, rfl, .inl ⟨rfl, _, SqL.of e1'⟩, _, rfl, fo, _, _, rfl, rfl, e1', ?_, ?_⟩
        · rw [List.length_map, e2.1, List.length_take, sizeLine_eq]
          have := ge.few
          have := lms es
          omega
        refine ⟨_, _, fs ++ [ed], rfl, fun b o z => ?_, by rw [upd_same, List.map_append]; rfl, ?_, fun k t' hk => ?_⟩
        · rw [upd_ne (ne_of_none z f0)]
          exact same_upd ned _ _ (sm _ _ z)
        · rw [takeMore hm, List.length_append, List.length_append, e2.1]
          rfl
        · have efo : ed ≠ fo := (ne_of_none e1 ned).symm
          by_cases hlt : k < fs.length
          · rw [List.getElem?_append_left hlt] at hk
            obtain ⟨x, q1, q2⟩ := e2.2 k t' hk
            refine ⟨x, ?_, ?_⟩
            · rw [takeMore hm, List.getElem?_append_left (by rw [← e2.1]; exact hlt)]
              exact q1
            · rw [upd_ne (ne_of q2 e1 (by intro z; cases z)), upd_ne (ne_of_none q2 ned)]
              exact q2
          · rw [List.getElem?_append_right (by omega)] at hk
            have hk' : k = fs.length := by
              have z := (List.getElem?_eq_some_iff.mp hk).1
              simp at z
              omega
            subst hk'
            rw [Nat.sub_self] at hk
            obtain rfl : ed = t' := Option.some.inj hk
            refine ⟨ordP e, ?_, ?_⟩
            · rw [takeMore hm, e2.1, List.getElem?_append_right (Nat.le_refl _), Nat.sub_self]
              rfl
            · rw [upd_ne efo, upd_same]
              rfl
      · obtain ⟨o3, o4, fs, rfl, sm, e1, e2⟩ := h
        rw [List.length_map, h2.1, ← lms, List.take_length] at e2
        refine ⟨_, rfl, fo, _, keyE H', rfl, SqL.of e1, fun y hy => ?_, fun ys q hsrt hstb nq => ?_⟩
        · obtain ⟨t, ht, rfl⟩ := List.mem_map.mp hy
          obtain ⟨k', hk', he'⟩ := List.mem_iff_getElem.mp ht
          obtain ⟨x, q1, q2⟩ := e2.2 k' t (by rw [List.getElem?_eq_getElem hk', he'])
          exact ⟨t, rfl, by rw [keyE_at q2]; exact q2⟩
        · obtain ⟨ts', es', rfl, r1, r2⟩ := permTups e2 hstb.perm
          refine k q _ es' (sm.free nq) (sm.trans (same_upd nq)) ⟨ts', upd_same, r1.same (same_upd nq)⟩ r2 ?_
          have ek : (ts'.map V.ref).map (keyE H') = es' := by
            apply List.ext_getElem
            · rw [List.length_map, List.length_map, r1.1]
            · intro k h1 h2
              rw [List.length_map, List.length_map] at h1
              obtain ⟨e, q1, q2⟩ := r1.2 k ts'[k] (List.getElem?_eq_getElem h1)
              rw [List.getElem_map, List.getElem_map, keyE_at q2]
              rw [List.getElem?_eq_getElem h2] at q1
              exact (Option.some.inj q1).symm
          unfold SrtE
          rw [← ek]
          refine List.pairwise_map.mpr (hsrt.imp fun {a b} h => ?_)
          have := SrtO.lexB_no.mp h
          omega
    · refine ⟨_, pss_cons (ps_if (pt_not (pt_val (pe_callB call_isiT (by rfl) M.isi boot_isi (pa_cons (pv 1) (pa_cons (pe_tup (pa_cons (pe_bltn (v := V.ty "list") rfl M.list (by decide +kernel) rfl)
          (pa_cons (pe_bltn (v := V.ty "tuple") rfl M.tuple (by decide +kernel) rfl) pa_nil))) pa_nil))))) (pss_one (ps_raiseX rfl EE tyE hr2 (takes_of rfl rfl rfl rfl) rfl (pa_cons (pv 1) pa_nil))) pss_nil)
      (pss_cons (ps_set (i := 2) sc_checked_edges.nd rfl (Or.inl rfl) (pe_lst pa_nil))
      (pss_cons (ps_for PassesOwn.leaving rfl (pi_tup (pv 1)) (pg_name (i := 3) sc_checked_edges.nd rfl (Or.inl rfl))
        (pss_cons (ps_if (pt_not (pt_val (pe_call G hr (by rfl) mG kG bG .nil pass0 (pa_cons (pv 0) (pa_cons (pv 3) pa_nil))))) (pss_one (ps_raiseX rfl EE tyE hr2 (takes_of rfl rfl rfl rfl) rfl (pa_cons (pv 3) pa_nil))) pss_nil)
        (pss_cons (ps_set (i := 4) sc_checked_edges.nd rfl (Or.inl rfl) (pe_tup (pa_cons (pe_callB (cr_minT rfl hr.units) (by rfl) M.min boot_min1 (pa_cons (pv 3) pa_nil))
          (pa_cons (pe_callB (cr_maxT rfl hr.units) (by rfl) M.max boot_max1 (pa_cons (pv 3) pa_nil)) pa_nil))))
        (pss_cons (ps_if (pt_cmpR (op_inD hu65) (pv 4) (pv 2) (by rfl)) (pss_one (ps_raiseX rfl EE tyE hr2 (takes_of rfl rfl rfl rfl) rfl (pa_cons (pv 3) pa_nil))) pss_nil)
        (pss_one (ps_expr (pe_bm PySem.F.plainAttrs_list PySem.F.slot_list_append PySem.F.type_list_append mt_append (pv 2) (pa_cons (pv 4) pa_nil))))))))
      (pss_one (ps_ret (pe_callB (show CallR _ (.builtin "sorted") (rSortedPO K) from cr_sortedPO) (by rfl) M.sorted boot_sorted1 (pa_cons (pv 2) pa_nil)))))), ?_⟩
      have ms : ∀ {i : Nat} {e : Int × Int}, es[i]? = some e → (es.map ordP)[i]? = some (ordP e) := fun {i e} he => by rw [List.getElem?_map, he]; rfl
      refine ⟨_, rfl, by show 2 ≤ sizeLine; decide, fun tp ntp => ⟨.ref p, tp, _, _, _, _, rfl, upd_same, .cons (.ty _) (.cons (.ty _) .nil), .base (.tup (same_upd ntp _ _ hp)), kitTT K, _, rfl, iteF ?_⟩⟩
      refine ⟨by show 0 ≤ sizeLine; decide, fun fo nfo => ?_⟩
      have s0 := (same_upd ntp (o := .tup [V.ty "list", V.ty "tuple"])).trans (same_upd nfo (o := .lst []))
      have f0 : H fo = none := Same.free (same_upd ntp) nfo
      refine ⟨_, rfl, p, rfl, ⟨_, SqT.of (s0 _ _ hp)⟩, for_tup (K := K) (a := p) (xs := ts.map V.ref) (fun i σ H' => ∃ (o3 o4 : Option V) (fs : List Addr), σ = [some (.int n), some (.ref p), some (.ref fo), o3, o4] ∧
        Same H H' ∧ H' fo = some (.lst (fs.map V.ref)) ∧ TupsAt H' fs ((es.map ordP).take i)) ⟨none, none, [], rfl, s0, upd_same, ⟨rfl, fun k t e => by simp at e⟩⟩ (fun i σ H' _ h => ?_) (fun i y σ H' hi h => ?_) (fun σ H' h => ?_)⟩
      · obtain ⟨_, _, _, _, sm, _, _⟩ := h
        exact SqT.of (sm _ _ hp)
      · obtain ⟨o3, o4, fs, rfl, sm, e1, e2⟩ := h
        obtain ⟨t, ht, rfl⟩ := refAt hi
        obtain ⟨e, he, hte⟩ := h2.2 i t ht
        have good := ge.node e (List.mem_of_getElem? he)
        have hm := ms he
        have hte0 := sm _ _ hte
        refine ⟨_, rfl, _, rfl, n, .ref t, pairD e, rfl, .dat (.tup (SqT.of hte0) (.cons (.int _) (.cons (.int _) .nil))), fun H0' s0' => ⟨_, rfl, ?_⟩⟩
        rw [isEdgePair ⟨good.1, good.2.1, good.2.2.1, good.2.2.2.1, good.2.2.2.2⟩]
        refine iteF ?_
        have sm := sm.trans s0'
        have e1 := s0' _ _ e1
        have e2 := e2.same s0'
        have hte' := sm _ _ hte
        refine ⟨_, rfl, t, e.1, e.2, rfl, hte', _, rfl, t, e.1, e.2, rfl, hte', by show 2 ≤ sizeLine; decide, fun ed ned => ?_⟩
        have e1' : (upd H0' ed (.tup [V.int (min e.1 e.2), V.int (max e.1 e.2)])) fo = some (.lst (fs.map V.ref)) := same_upd ned _ _ e1
        have e2' := e2.same (same_upd ned (o := .tup [V.int (min e.1 e.2), V.int (max e.1 e.2)]))
        refine ⟨_, rfl, _, rfl, pairD (ordP e), ((es.map ordP).take i).map pairD, .tup (SqT.of upd_same) (.cons (.int _) (.cons (.int _) .nil)), .lst (SqL.of e1') (dpTups e2'), rfl, shapedPairs _, _, rfl, ?_⟩
        rw [anyPair (notTaken ge.once hm)]
        refine iteF ⟨_, rfl, .inl ⟨rfl, _, SqL.of e1'⟩, _, rfl, fo, _, _, rfl, rfl, e1', ?_, ?_⟩
        · rw [List.length_map, e2.1, List.length_take, sizeLine_eq]
          have := ge.few
          have := lms es
          omega
        refine ⟨_, _, fs ++ [ed], rfl, fun b o z => ?_, by rw [upd_same, List.map_append]; rfl, ?_, fun k t' hk => ?_⟩
        · rw [upd_ne (ne_of_none z f0)]
          exact same_upd ned _ _ (sm _ _ z)
        · rw [takeMore hm, List.length_append, List.length_append, e2.1]
          rfl
        · have efo : ed ≠ fo := (ne_of_none e1 ned).symm
          by_cases hlt : k < fs.length
          · rw [List.getElem?_append_left hlt] at hk
            obtain ⟨x, q1, q2⟩ := e2.2 k t' hk
            refine ⟨x, ?_, ?_⟩
            · rw [takeMore hm, List.getElem?_append_left (by rw [← e2.1]; exact hlt)]
              exact q1
            · rw [upd_ne (ne_of q2 e1 (by intro z; cases z)), upd_ne (ne_of_none q2 ned)]
              exact q2
          · rw [List.getElem?_append_right (by omega)] at hk
            have hk' : k = fs.length := by
              have z := (List.getElem?_eq_some_iff.mp hk).1
              simp at z
              omega
            subst hk'
            rw [Nat.sub_self] at hk
            obtain rfl : ed = t' := Option.some.inj hk
            refine ⟨ordP e, ?_, ?_⟩
            · rw [takeMore hm, e2.1, List.getElem?_append_right (Nat.le_refl _), Nat.sub_self]
              rfl
            · rw [upd_ne efo, upd_same]
              rfl
      · obtain ⟨o3, o4, fs, rfl, sm, e1, e2⟩ := h
        rw [List.length_map, h2.1, ← lms, List.take_length] at e2
        refine ⟨_, rfl, fo, _, keyE H', rfl, SqL.of e1, fun y hy => ?_, fun ys q hsrt hstb nq => ?_⟩
        · obtain ⟨t, ht, rfl⟩ := List.mem_map.mp hy
          obtain ⟨k', hk', he'⟩ := List.mem_iff_getElem.mp ht
          obtain ⟨x, q1, q2⟩ := e2.2 k' t (by rw [List.getElem?_eq_getElem hk', he'])
          exact ⟨t, rfl, by rw [keyE_at q2]; exact q2⟩
        · obtain ⟨ts', es', rfl, r1, r2⟩ := permTups e2 hstb.perm
          refine k q _ es' (sm.free nq) (sm.trans (same_upd nq)) ⟨ts', upd_same, r1.same (same_upd nq)⟩ r2 ?_
          have ek : (ts'.map V.ref).map (keyE H') = es' := by
            apply List.ext_getElem
            · rw [List.length_map, List.length_map, r1.1]
            · intro k h1 h2
              rw [List.length_map, List.length_map] at h1
              obtain ⟨e, q1, q2⟩ := r1.2 k ts'[k] (List.getElem?_eq_getElem h1)
              rw [List.getElem_map, List.getElem_map, keyE_at q2]
              rw [List.getElem?_eq_getElem h2] at q1
              exact (Option.some.inj q1).symm
          unfold SrtE
          rw [← ek]
          refine List.pairwise_map.mpr (hsrt.imp fun {a b} h => ?_)
          have := SrtO.lexB_no.mp h
          omega
    · refine ⟨_, pss_cons (ps_if (pt_not (pt_val (pe_callB call_isiT (by rfl) M.isi boot_isi (pa_cons (pv 1) (pa_cons (pe_tup (pa_cons (pe_bltn (v := V.ty "list") rfl M.list (by decide +kernel) rfl)
          (pa_cons (pe_bltn (v := V.ty "tuple") rfl M.tuple (by decide +kernel) rfl) pa_nil))) pa_nil))))) (pss_one (ps_raiseX rfl EE tyE hr2 (takes_of rfl rfl rfl rfl) rfl (pa_cons (pv 1) pa_nil))) pss_nil)
      (pss_cons (ps_set (i := 2) sc_checked_edges.nd rfl (Or.inl rfl) (pe_lst pa_nil))
      (pss_cons (ps_for PassesOwn.leaving rfl (pi_list (pv 1)) (pg_name (i := 3) sc_checked_edges.nd rfl (Or.inl rfl))
        (pss_cons (ps_if (pt_not (pt_val (pe_call G hr (by rfl) mG kG bG .nil pass0 (pa_cons (pv 0) (pa_cons (pv 3) pa_nil))))) (pss_one (ps_raiseX rfl EE tyE hr2 (takes_of rfl rfl rfl rfl) rfl (pa_cons (pv 3) pa_nil))) pss_nil)
        (pss_cons (ps_set (i := 4) sc_checked_edges.nd rfl (Or.inl rfl) (pe_tup (pa_cons (pe_callB (cr_minT rfl hr.units) (by rfl) M.min boot_min1 (pa_cons (pv 3) pa_nil))
          (pa_cons (pe_callB (cr_maxT rfl hr.units) (by rfl) M.max boot_max1 (pa_cons (pv 3) pa_nil)) pa_nil))))
        (pss_cons (ps_if (pt_cmpR (op_inD hu65) (pv 4) (pv 2) (by rfl)) (pss_one (ps_raiseX rfl EE tyE hr2 (takes_of rfl rfl rfl rfl) rfl (pa_cons (pv 3) pa_nil))) pss_nil)
        (pss_one (ps_expr (pe_bm PySem.F.plainAttrs_list PySem.F.slot_list_append PySem.F.type_list_append mt_append (pv 2) (pa_cons (pv 4) pa_nil))))))))
      (pss_one (ps_ret (pe_callB (show CallR _ (.builtin "sorted") (rSortedPO K) from cr_sortedPO) (by rfl) M.sorted boot_sorted1 (pa_cons (pv 2) pa_nil)))))), ?_⟩
      refine ⟨_, rfl, by show 2 ≤ sizeLine; decide, fun tp ntp => ⟨v, tp, _, _, _, _, rfl, upd_same, .cons (.ty _) (.cons (.ty _) .nil), tyXSame hT (same_upd ntp), kT, _, rfl, iteT ?_⟩⟩
      exact ⟨_, rfl, v, rfl, fun dd H' nd s2 hx => t H' dd ((same_upd ntp).trans s2) ((same_upd ntp).free nd) hx⟩
    · refine ⟨_, pss_cons (ps_if (pt_not (pt_val (pe_callB call_isiT (by rfl) M.isi boot_isi (pa_cons (pv 1) (pa_cons (pe_tup (pa_cons (pe_bltn (v := V.ty "list") rfl M.list (by decide +kernel) rfl)
          (pa_cons (pe_bltn (v := V.ty "tuple") rfl M.tuple (by decide +kernel) rfl) pa_nil))) pa_nil))))) (pss_one (ps_raiseX rfl EE tyE hr2 (takes_of rfl rfl rfl rfl) rfl (pa_cons (pv 1) pa_nil))) pss_nil)
      (pss_cons (ps_set (i := 2) sc_checked_edges.nd rfl (Or.inl rfl) (pe_lst pa_nil))
      (pss_cons (ps_for PassesOwn.leaving rfl (pi_list (pv 1)) (pg_name (i := 3) sc_checked_edges.nd rfl (Or.inl rfl))
        (pss_cons (ps_if (pt_not (pt_val (pe_call G hr (by rfl) mG kG bG .nil pass0 (pa_cons (pv 0) (pa_cons (pv 3) pa_nil))))) (pss_one (ps_raiseX rfl EE tyE hr2 (takes_of rfl rfl rfl rfl) rfl (pa_cons (pv 3) pa_nil))) pss_nil)
        (pss_cons (ps_set (i := 4) sc_checked_edges.nd rfl (Or.inl rfl) (pe_tup (pa_cons (pe_callB (cr_minT rfl hr.units) (by rfl) M.min boot_min1 (pa_cons (pv 3) pa_nil))
          (pa_cons (pe_callB (cr_maxT rfl hr.units) (by rfl) M.max boot_max1 (pa_cons (pv 3) pa_nil)) pa_nil))))
        (pss_cons (ps_if (pt_cmpR (op_inD hu65) (pv 4) (pv 2) (by rfl)) (pss_one (ps_raiseX rfl EE tyE hr2 (takes_of rfl rfl rfl rfl) rfl (pa_cons (pv 3) pa_nil))) pss_nil)
        (pss_one (ps_expr (pe_bm PySem.F.plainAttrs_list PySem.F.slot_list_append PySem.F.type_list_append mt_append (pv 2) (pa_cons (pv 4) pa_nil))))))))
      (pss_one (ps_ret (pe_callB (show CallR _ (.builtin "sorted") (rSortedPO K) from cr_sortedPO) (by rfl) M.sorted boot_sorted1 (pa_cons (pv 2) pa_nil)))))), ?_⟩
      have ms : ∀ {i : Nat} {e : Int × Int}, es[i]? = some e → (es.map ordP)[i]? = some (ordP e) := fun {i e} he => by rw [List.getElem?_map, he]; rfl
      refine ⟨_, rfl, by show 2 ≤ sizeLine; decide, fun tp ntp => ⟨.ref p, tp, _, _, _, _, rfl, upd_same, .cons (.ty _) (.cons (.ty _) .nil), .base (.lst (same_upd ntp _ _ hp)), kitLT K, _, rfl, iteF ?_⟩⟩
      refine ⟨by show 0 ≤ sizeLine; decide, fun fo nfo => ?_⟩
      have s0 := (same_upd ntp (o := .tup [V.ty "list", V.ty "tuple"])).trans (same_upd nfo (o := .lst []))
      have f0 : H fo = none := Same.free (same_upd ntp) nfo
      refine ⟨_, rfl, p, rfl, ⟨_, SqL.of (s0 _ _ hp)⟩, for_list (K := K) (a := p) (xs := ts.map V.ref ++ y :: rest) (fun i σ H' => i ≤ ts.length ∧ ∃ (o3 o4 : Option V) (fs : List Addr), σ = [some (.int n), some (.ref p), some (.ref fo), o3, o4] ∧
        Same H H' ∧ H' fo = some (.lst (fs.map V.ref)) ∧ TupsAt H' fs ((es.map ordP).take i)) ⟨Nat.zero_le _, none, none, [], rfl, s0, upd_same, ⟨rfl, fun k t e => by simp at e⟩⟩ (fun i σ H' _ h => ?_) (fun i y' σ H' hi h => ?_) (fun σ H' h => ?_)⟩
      · obtain ⟨_, _, _, _, _, sm, _, _⟩ := h
        exact SqL.of (sm _ _ hp)
      · obtain ⟨hle, o3, o4, fs, rfl, sm, e1, e2⟩ := h
        by_cases c : i < ts.length
        case pos =>
          rw [List.getElem?_append_left (by rw [List.length_map]; exact c)] at hi
          obtain ⟨t', ht, rfl⟩ := refAt hi
          obtain ⟨e, he, hte⟩ := h2.2 i t' ht
          have good := ge.node e (List.mem_of_getElem? he)
          have hm := ms he
          have hte0 := sm _ _ hte
          refine ⟨_, rfl, _, rfl, n, .ref t', pairD e, rfl, .dat (.tup (SqT.of hte0) (.cons (.int _) (.cons (.int _) .nil))), fun H0' s0' => ⟨_, rfl, ?_⟩⟩
          rw [isEdgePair ⟨good.1, good.2.1, good.2.2.1, good.2.2.2.1, good.2.2.2.2⟩]
          refine iteF ?_
          have sm := sm.trans s0'
          have e1 := s0' _ _ e1
          have e2 := e2.same s0'
          have hte' := sm _ _ hte
          refine ⟨_, rfl, t', e.1, e.2, rfl, hte', _, rfl, t', e.1, e.2, rfl, hte', by show 2 ≤ sizeLine; decide, fun ed ned => ?_⟩
          have e1' : (upd H0' ed (.tup [V.int (min e.1 e.2), V.int (max e.1 e.2)])) fo = some (.lst (fs.map V.ref)) := same_upd ned _ _ e1
          have e2' := e2.same (same_upd ned (o := .tup [V.int (min e.1 e.2), V.int (max e.1 e.2)]))
          refine ⟨_, rfl, _, rfl, pairD (ordP e), ((es.map ordP).take i).map pairD, .tup (SqT.of upd_same) (.cons (.int _) (.cons (.int _) .nil)), .lst (SqL.of e1') (dpTups e2'), rfl, shapedPairs _, _, rfl, ?_⟩
          rw [anyPair (notTaken ge.once hm)]
          refine iteF ⟨_, rfl, .inl ⟨rfl, _, SqL.of e1'⟩, _, rfl, fo, _, _, rfl, rfl, e1', ?_, ?_⟩
          · rw [List.length_map, e2.1, List.length_take, sizeLine_eq]
            have := ge.few
            have := lms es
            omega
          refine ⟨by omega, _, _, fs ++ [ed], rfl, fun b o z => ?_, by rw [upd_same, List.map_append]; rfl, ?_, fun k t2 hk => ?_⟩
          · rw [upd_ne (ne_of_none z f0)]
            exact same_upd ned _ _ (sm _ _ z)
          · rw [takeMore hm, List.length_append, List.length_append, e2.1]
            rfl
          · have efo : ed ≠ fo := (ne_of_none e1 ned).symm
            by_cases hlt : k < fs.length
            · rw [List.getElem?_append_left hlt] at hk
              obtain ⟨x, q1, q2⟩ := e2.2 k t2 hk
              refine ⟨x, ?_, ?_⟩
              · rw [takeMore hm, List.getElem?_append_left (by rw [← e2.1]; exact hlt)]
                exact q1
              · rw [upd_ne (ne_of q2 e1 (by intro z; cases z)), upd_ne (ne_of_none q2 ned)]
                exact q2
            · rw [List.getElem?_append_right (by omega)] at hk
              have hk' : k = fs.length := by
                have z := (List.getElem?_eq_some_iff.mp hk).1
                simp at z
                omega
              subst hk'
              rw [Nat.sub_self] at hk
              obtain rfl : ed = t2 := Option.some.inj hk
              refine ⟨ordP e, ?_, ?_⟩
              · rw [takeMore hm, e2.1, List.getElem?_append_right (Nat.le_refl _), Nat.sub_self]
                rfl
              · rw [upd_ne efo, upd_same]
                rfl
        have ei : i = ts.length := by omega
        rw [List.getElem?_append_right (by rw [List.length_map]; omega), List.length_map, ei, Nat.sub_self] at hi
        obtain rfl : y = y' := Option.some.inj hi
        rcases bad with ⟨d, hd, hb⟩ | ⟨t0, e, rfl, hte, hge, hmem⟩
        · refine ⟨_, rfl, _, rfl, n, y, d, rfl, rdSame sm hd, fun H0' s0' => ⟨_, rfl, ?_⟩⟩
          rw [hb]
          exact iteT ⟨_, rfl, y, rfl, fun dd H2 nd s2 hx => t H2 dd (sm.trans (s0'.trans s2)) ((sm.trans s0').free nd) hx⟩
        · refine ⟨_, rfl, _, rfl, n, .ref t0, pairD e, rfl, .dat (.tup (SqT.of (sm _ _ hte)) (.cons (.int _) (.cons (.int _) .nil))), fun H0' s0' => ⟨_, rfl, ?_⟩⟩
          rw [isEdgePair hge]
          refine iteF ?_
          have sm := sm.trans s0'
          have e1 := s0' _ _ e1
          have e2 := e2.same s0'
          have hte' := sm _ _ hte
          refine ⟨_, rfl, t0, e.1, e.2, rfl, hte', _, rfl, t0, e.1, e.2, rfl, hte', by show 2 ≤ sizeLine; decide, fun ed ned => ?_⟩
          have s3 := same_upd ned (o := .tup [V.int (min e.1 e.2), V.int (max e.1 e.2)])
          have e1' : (upd H0' ed (.tup [V.int (min e.1 e.2), V.int (max e.1 e.2)])) fo = some (.lst (fs.map V.ref)) := s3 _ _ e1
          have e2' := e2.same s3
          refine ⟨_, rfl, _, rfl, pairD (ordP e), ((es.map ordP).take i).map pairD, .tup (SqT.of upd_same) (.cons (.int _) (.cons (.int _) .nil)), .lst (SqL.of e1') (dpTups e2'), rfl, shapedPairs _, _, rfl, ?_⟩
          rw [ei, h2.1, ← lms, List.take_length, anyPairT hmem]
          exact iteT ⟨_, rfl, .ref t0, rfl, fun dd H2 nd s2 hx => t H2 dd (sm.trans (s3.trans s2)) ((sm.trans s3).free nd) hx⟩
      · obtain ⟨hle, _⟩ := h
        rw [List.length_append, List.length_map, List.length_cons] at hle
        omega
end
def spGI01 (K : PySem.W.Frag) (CG CS CM CE : Addr) : Sp := fun vs H Q E => ∃ (x dx : Addr) (sv ev : V), vs = [.ref x, sv, ev] ∧ H x = some (.ins CG dx []) ∧
  ((∃ sd, Rd K H sv sd ∧ within 1 16 sd = false ∧ told CS sv H E) ∨
   (∃ n : Nat, sv = .int (n : Int) ∧ 1 ≤ n ∧ n ≤ 16 ∧
     ((NoSeq K H ev ∧ told CE ev H E) ∨ (∃ y, BadAt K H n ev y ∧ told CE y H E) ∨
      (∃ es, GoodAt K H n ev es ∧ (40 < es.length → told CM (.int (es.length : Int)) H E) ∧
        (es.length ≤ 40 → ∀ H' j nr N es', (∀ b o, b ≠ x → H b = some o → H' b = some o) → H' x = some (.ins CG dx (gflds (n : Int) j nr)) → EdgesAt H' j es' → NAt H' nr N → IsNear n es' N → es'.Perm (es.map ordP) → SrtE es' → H j = none → (∀ H2, (∀ b o, H b = none → H' b = some o → H2 b = some o) → NAt H2 nr N) → Q .non H')))))
section
variable {P : Program} {w : World} {K : PySem.W.Frag} {mg : Str → Option Value} {base : Heap} {CG CS CM CE CN : Addr}
theorem ok_gi01 {f : Addr} {fd : FuncData} {dvs : List V} {kws : List (Str × V)} (F : FunD K "__init__" "Graph.__init__" (defArgs s_Graph_init) (defBody s_Graph_init) (defScope s_Graph_init) dvs kws f fd) (T : GTxt K mg CG) (M : Nms mg)
    {t16 t40 : Tok} (m16 : mg "MOST_NODES" = some (.int 16 t16)) (m40 : mg "MOST_EDGES" = some (.int 40 t40)) (ES : Ex P w K mg base "InvalidSize" CS) (tyS : PySem.W.typeIn K (.ref CS) = some (.type "type"))
    (EM : Ex P w K mg base "TooMany" CM) (tyM : PySem.W.typeIn K (.ref CM) = some (.type "type"))
    (GW : At P w K mg base CX0 2 "is_integer_within" ["thing", "low", "high"] (spWithin K)) (GE' : At P w K mg base (L2.CX P w) 5 "checked_edges" ["size", "edges"] (spEdges01 K CE)) (GN : At P w K mg base CX0 1 "neighbour_lists" ["size", "edges"] (spNear K)) :
    FnOk P w K mg base (L2.CX P w) 6 f fd ["self", "size", "edges"] (spGI01 K CG CS CM CE) := by
  obtain ⟨gw, gwd, GW, mW, kW, bW⟩ := GW
  obtain ⟨ge, ged, GE', mE, kE, bE⟩ := GE'
  obtain ⟨gn, gnd, GN, mN, kN, bN⟩ := GN
  refine F.ok sc_ginit (fun vs H Q E h => ?_) (fun cdv A outer s H vs Q E hr h => ?_)
  · obtain ⟨x, dx, sv, ev, rfl, _⟩ := h
    rfl
  · obtain ⟨x, dx, sv, ev, rfl, hx, h⟩ := h
    have hr2 : Room 2 _ := hr.mono (by decide)
    have hr1 : Room 1 _ := hr.mono (by decide)
    refine ⟨_, pss_cons (ps_if (pt_not (pt_val (pe_call GW hr2 (by rfl) mW kW bW .nil pass0 (pa_cons (pv 1) (pa_cons pe_int (pa_cons (pe_glob (v := .int 16) (by rfl) m16 ⟨_, rfl⟩) pa_nil)))))) (pss_one (ps_raiseX rfl ES tyS hr2 (takes_of rfl rfl rfl rfl) rfl (pa_cons (pv 1) pa_nil))) pss_nil)
      (pss_cons (ps_set (i := 3) sc_ginit.nd rfl (Or.inl rfl) (pe_call GE' hr (by rfl) mE kE bE .nil (passes_call (E := E) (takes_of rfl rfl rfl rfl) (fun _ _ _ _ h => h)) (pa_cons (pv 1) (pa_cons (pv 2) pa_nil))))
      (pss_cons (ps_if (pt_cmpR op_gt (pe_callB call_len_seq (by rfl) M.len boot_len1 (pa_cons (pv 3) pa_nil)) (pe_glob (v := .int 40) (by rfl) m40 ⟨_, rfl⟩) (nomark _)) (pss_one (ps_raiseX rfl EM tyM hr2 (takes_of rfl rfl rfl rfl) rfl (pa_cons (pe_callB call_len_seq (by rfl) M.len boot_len1 (pa_cons (pv 3) pa_nil)) pa_nil))) pss_nil)
      (pss_cons (ps_fld (pv 0) (pv 1) rfl)
      (pss_cons (ps_fld (pv 0) (pv 3) rfl)
      (pss_one (ps_fld (pv 0) (pe_call GN hr1 (by rfl) mN kN bN .nil pass0 (pa_cons (pv 1) (pa_cons (pv 3) pa_nil))) rfl)))))), ?_⟩
    rcases h with ⟨sd, hsd, hw, t⟩ | ⟨n, rfl, n1, n16, h⟩
    · refine ⟨_, rfl, sv, sd, 1, 16, rfl, hsd, _, rfl, ?_⟩
      rw [hw]
      exact iteT ⟨_, rfl, sv, rfl, fun dd H' nd s2 hx => t H' dd s2 nd hx⟩
    refine ⟨_, rfl, .int n, .int n, 1, 16, rfl, .dat (.int n), _, rfl, ?_⟩
    have hw : within 1 16 (.int (n : Int)) = true := by
      show (decide ((1 : Int) ≤ n) && decide ((n : Int) ≤ 16)) = true
      rw [decide_eq_true (by omega), decide_eq_true (by omega)]
      rfl
    rw [hw]
    refine iteF ?_
    refine ⟨_, rfl, _, rfl, n, ev, rfl, ?_⟩
    rcases h with h | h | ⟨es, hG, kM, k⟩
    · exact .inr (.inl h)
    · exact .inr (.inr h)
    have good : GoodU n es := by
      obtain ⟨_, _, _, _, _, g⟩ := hG
      exact g
    refine .inl ⟨es, hG, fun q H1 es1 nq s1 hq pe sE => ?_⟩
    obtain ⟨ts, h1, h2⟩ := id hq
    have les : ts.length = es.length := by rw [h2.1, pe.length_eq, List.length_map]
    refine ⟨_, rfl, q, _, rfl, .inl (SqL.of h1), _, _, rfl, rfl, _, rfl, ?_⟩
    by_cases c40 : es.length ≤ 40
    case neg =>
      rw [decide_eq_true (by rw [List.length_map, les]; omega)]
      refine iteT ⟨_, rfl, q, _, rfl, .inl (SqL.of h1), _, rfl, fun dd H' nd s2 hx => ?_⟩
      rw [List.length_map, les] at hx
      exact kM (by omega) H' dd (s1.trans s2) (s1.free nd) hx
    rw [decide_eq_false (by rw [List.length_map, les]; omega)]
    have good1 : GoodE n es1 := (good.ord c40).perm pe
    refine iteF ?_
    have nxq : q ≠ x := (ne_of_none hx nq).symm
    refine ⟨_, rfl, _, rfl, x, CG, dx, _, rfl, s1 _ _ hx, T.cl, T.n1, by decide, ?_⟩
    refine ⟨_, rfl, _, rfl, x, CG, dx, _, rfl, upd_same, T.cl, T.n2, (by show 1 < 1000; decide), ?_⟩
    have hx1 := s1 _ _ hx
    have tx : ∀ (k : Nat) (t : Addr), ts[k]? = some t → t ≠ x := fun k t e => by
      obtain ⟨z, _, q2⟩ := h2.2 k t e
      exact ne_of q2 hx1 (by intro y; cases y)
    refine ⟨_, rfl, _, rfl, n, q, es1, rfl, ?_, good1, by omega, fun r H2 N nr s2 hN near => ?_⟩
    · exact ⟨ts, by rw [upd_ne nxq, upd_ne nxq]; exact h1, h2.1, fun k t e => by
        obtain ⟨z, q1, q2⟩ := h2.2 k t e
        exact ⟨z, q1, by rw [upd_ne (tx k t e), upd_ne (tx k t e)]; exact q2⟩⟩
    have hx2 := s2 _ _ (upd_same (H := upd H1 x (.ins CG dx (putF "node_count" (.int n) []))) (a := x) (o := .ins CG dx (putF "joined" (.ref q) (putF "node_count" (.int n) []))))
    refine ⟨_, rfl, x, CG, dx, _, rfl, hx2, T.cl, T.n3, (by show 2 < 1000; decide), ?_⟩
    have up : ∀ b o, b ≠ x → H1 b = some o → H2 b = some o := fun b o hb e => s2 _ _ (by rw [upd_ne hb, upd_ne hb]; exact e)
    refine k c40 _ q r N es1 (fun b o hb e => ?_) ?_ ⟨ts, ?_, h2.1, fun k t e => ?_⟩ ?_ near pe sE nq (fun H3 h3 => ?_)
    · rw [upd_ne hb]
      exact up b o hb (s1 _ _ e)
    · rw [upd_same]
      rfl
    · rw [upd_ne nxq]
      exact up q _ nxq h1
    · obtain ⟨z, q1, q2⟩ := h2.2 k t e
      exact ⟨z, q1, by rw [upd_ne (tx k t e)]; exact up t _ (tx k t e) q2⟩
    · refine hN _ fun b o hb e => ?_
      have bx : b ≠ x := fun z => by
        rw [z, upd_same] at hb
        cases hb
      rw [upd_ne bx]
      exact e
    · refine hN _ fun b o hb e => ?_
      have bx : b ≠ x := fun z => by
        rw [z, upd_same] at hb
        cases hb
      rw [upd_ne bx, upd_ne bx] at hb
      exact h3 b o (s1.free hb) (by rw [upd_ne bx]; exact e)
theorem preS {CG : Addr} {H : Hp} {x dx : Addr} (nx : H x = none) (ndx : H dx = none) (ne : dx ≠ x) : Same H (upd (upd H dx (.own x)) x (.ins CG dx [])) := by
  have sA : Same H (upd H dx (.own x)) := same_upd ndx
  have nx1 : (upd H dx (.own x)) x = none := by rw [upd_ne ne.symm]; exact nx
  exact sA.trans (same_upd nx1)
theorem made {CG : Addr} {H H' : Hp} {x dx j nr : Addr} {n : Nat} {N : List (List Int)} {es es' : List (Int × Int)} (nx : H x = none) (ndx : H dx = none) (ne : dx ≠ x) (hU : GoodU n es) (n1 : 1 ≤ n) (c16 : n ≤ 16) (c40 : es.length ≤ 40)
    (up : ∀ b o, b ≠ x → (upd (upd H dx (.own x)) x (.ins CG dx [])) b = some o → H' b = some o) (hx' : H' x = some (.ins CG dx (gflds (n : Int) j nr))) (hj : EdgesAt H' j es') (hN : NAt H' nr N) (near : IsNear n es' N) (pe : es'.Perm (es.map ordP)) (sE : SrtE es') :
    Same H H' ∧ GE CG H' x n es' := by
  have s := preS (CG := CG) nx ndx ne
  exact ⟨fun b o e => up b o (ne_of_none e nx) (s _ _ e), ⟨dx, j, nr, N, hx', hj, hN, near⟩, (hU.ord c40).perm pe, sE, n1, c16⟩
def spSizeE (CG : Addr) : Sp := fun vs H Q _ => ∃ g n es, vs = [.ref g] ∧ GE CG H g n es ∧ Q (.int (n : Int)) H
def spEdgesOf (CG : Addr) : Sp := fun vs H Q _ => ∃ g n es, vs = [.ref g] ∧ GE CG H g n es ∧ ∀ q H', H q = none → Same H H' → EdgesAt H' q es → Q (.ref q) H'
def spNb (K : PySem.W.Frag) (CG CN : Addr) : Sp := fun vs H Q E => ∃ g n es v d, vs = [.ref g, v] ∧ GE CG H g n es ∧ Rd K H v d ∧ (isNode n d = false → told CN v H E) ∧
  (∀ a : Nat, d = .int (a : Int) → a < n → ∀ N q H', IsNear n es N → H q = none → Same H H' → H' q = some (.lst ((N.getD a []).map V.int)) → Q (.ref q) H')
theorem ok_gsizeE {f : Addr} {fd : FuncData} (F : Fun K "size" "Graph.size" s_Graph_size f fd) (T : GTxt K mg CG) : FnOk P w K mg base CX0 1 f fd ["self"] (spSizeE CG) := by
  refine F.ok sc_gsize (fun vs H Q E h => ?_) (fun cdv A outer s H vs Q E hr h => ?_)
  · obtain ⟨g, n, es, rfl, _⟩ := h
    rfl
  · obtain ⟨g, n, es, rfl, ⟨⟨dx, j, nr, N, h1, h2, _, _⟩, _, _, _, _⟩, k⟩ := h
    exact ⟨_, pss_one (ps_ret (pe_fld (pv 0) rfl)), _, rfl, g, CG, dx, _, _, rfl, h1, T.cl, T.n1, gl_n _ _ _, k⟩
theorem sc_gedges : FnScope ["self"] ["self"] (defScope s_Graph_edges) := ⟨rfl, rfl, rfl, by decide +kernel, rfl, by decide +kernel, by decide +kernel⟩
theorem ok_gedges {f : Addr} {fd : FuncData} (F : Fun K "edges" "Graph.edges" s_Graph_edges f fd) (T : GTxt K mg CG) (M : Nms mg) : FnOk P w K mg base CX0 1 f fd ["self"] (spEdgesOf CG) := by
  refine F.ok sc_gedges (fun vs H Q E h => ?_) (fun cdv A outer s H vs Q E hr h => ?_)
  · obtain ⟨g, n, es, rfl, _⟩ := h
    rfl
  · obtain ⟨g, n, es, rfl, ⟨⟨dx, j, nr, N, h1, ⟨ts, h2, h3⟩, _, _⟩, _, _, _, _⟩, k⟩ := h
    refine ⟨_, pss_one (ps_ret (pe_callTy call_list_of (by rfl) M.list (by decide +kernel) (pa_cons (pe_fld (pv 0) rfl) pa_nil))), ?_⟩
    refine ⟨_, rfl, g, CG, dx, _, _, rfl, h1, T.cl, T.n2, gl_j _ _ _, j, _, rfl, .inl (SqL.of h2), fun q nq => ?_⟩
    exact k q _ nq (same_upd nq) ⟨ts, upd_same, h3.same (same_upd nq)⟩
def spCheckNodeY (K : PySem.W.Frag) (CN : Addr) : Sp := fun vs H Q E => ∃ (n : Nat) (v : V) (d : PyData), vs = [.int (n : Int), v] ∧ Rd K H v d ∧ (isNode n d = false → told CN v H E) ∧ (isNode n d = true → Q .non H)
theorem ok_check_nodeY {f : Addr} {fd : FuncData} (F : Fun K "check_node" "check_node" s_check_node f fd) (EN : Ex P w K mg base "InvalidNode" CN) (tyN : PySem.W.typeIn K (.ref CN) = some (.type "type"))
    (G : At P w K mg base CX0 3 "is_node" ["size", "thing"] (spIsNode K)) : FnOk P w K mg base (L2.CX P w) 4 f fd ["size", "node"] (spCheckNodeY K CN) := by
  obtain ⟨g, gd, G, mG, kG, bG⟩ := G
  refine F.okX sc_check_node (fun vs H Q E h => ?_) (fun cdv A outer s H vs Q E hr h => ?_)
  · obtain ⟨n, v, d, rfl, _⟩ := h
    rfl
  · obtain ⟨n, v, d, rfl, hd, t, k⟩ := h
    have hr2 : Room 2 _ := hr.mono (by decide)
    refine ⟨_, pss_one (ps_if (pt_not (pt_val (pe_call G hr (by rfl) mG kG bG .nil pass0 (pa_cons (pv 0) (pa_cons (pv 1) pa_nil))))) (pss_one (ps_raiseX rfl EN tyN hr2 (takes_of rfl rfl rfl rfl) rfl (pa_cons (pv 1) pa_nil))) pss_nil), ?_⟩
    refine ⟨_, rfl, _, rfl, v, d, n, rfl, hd, _, rfl, ?_⟩
    cases c : isNode n d with
    | false => exact iteT ⟨_, rfl, v, rfl, fun dd H' nd s2 hx => t c H' dd s2 nd hx⟩
    | true => exact iteF (k c)
theorem ok_nbY {f : Addr} {fd : FuncData} (F : Fun K "neighbours" "Graph.neighbours" s_Graph_neighbours f fd) (T : GTxt K mg CG) (M : Nms mg) (G : At P w K mg base (L2.CX P w) 4 "check_node" ["size", "node"] (spCheckNodeY K CN)) :
    FnOk P w K mg base (L2.CX P w) 5 f fd ["self", "node"] (spNb K CG CN) := by
  obtain ⟨c, cd, G, mG, kG, bG⟩ := G
  refine F.okX sc_neighbours (fun vs H Q E h => ?_) (fun cdv A outer s H vs Q E hr h => ?_)
  · obtain ⟨g, n, es, v, d, rfl, _⟩ := h
    rfl
  · obtain ⟨g, n, es, v, d, rfl, ⟨⟨dx, j, nr, N, h1, h2, h3, h4⟩, _, _, _, _⟩, hd, t, k⟩ := h
    refine ⟨_, pss_cons (ps_expr (pe_call G hr (by rfl) mG kG bG .nil (passes_call (E := E) (takes_of rfl rfl rfl rfl) (fun _ _ _ _ h => h)) (pa_cons (pe_fld (pv 0) rfl) (pa_cons (pv 1) pa_nil))))
      (pss_one (ps_ret (pe_callTy call_list_of (by rfl) M.list (by decide +kernel) (pa_cons (pe_ix ix_list (pe_fld (pv 0) rfl) (pv 1) (fun _ _ => rfl)) pa_nil)))), ?_⟩
    refine ⟨_, rfl, g, CG, dx, _, _, rfl, h1, T.cl, T.n1, gl_n _ _ _, _, rfl, n, v, d, rfl, hd, t, fun hn => ?_⟩
    obtain ⟨a, rfl, ha⟩ := nodeD hn
    cases hd with
    | dat hd =>
      cases hd
      obtain ⟨xs, r, g1, g2, g3⟩ := h3.row (i := (a : Int)) (by omega) (by rw [h4.len]; omega)
      refine ⟨_, rfl, g, CG, dx, _, _, rfl, h1, T.cl, T.n3, gl_r _ _ _, _, rfl, nr, xs, (a : Int), _, rfl, rfl, SqL.of g1, g2, r, _, rfl, .inl (SqL.of g3), fun q nq => ?_⟩
      exact k a rfl ha N q _ h4 nq (same_upd nq) upd_same
end
end K71
set_option Elab.async false
set_option linter.all false
set_option maxRecDepth 100000
set_option maxHeartbeats 8000000
namespace K71
open PySem PySem.Spec PyProof.Rows L2 FNX
def FrL (A : List Addr) (H H' : Hp) : Prop := ∀ b o, b ∉ A → H b = some o → H' b = some o
theorem FrL.refl {A : List Addr} {H : Hp} : FrL A H H := fun _ _ _ e => e
theorem FrL.trans {A : List Addr} {H H1 H2 : Hp} (a : FrL A H H1) (b : FrL A H1 H2) : FrL A H H2 := fun c o n e => b c o n (a c o n e)
theorem FrL.mono {A B : List Addr} {H H1 : Hp} (a : FrL A H H1) (h : ∀ c ∈ A, c ∈ B) : FrL B H H1 := fun c o n e => a c o (fun z => n (h c z)) e
theorem sameFr {A : List Addr} {H H1 : Hp} (a : Same H H1) : FrL A H H1 := fun c o _ e => a c o e
theorem frUpd {A : List Addr} {H : Hp} {a : Addr} {o : HO} (h : a ∈ A) : FrL A H (upd H a o) := fun c u n e => by
  have ne : c ≠ a := fun z => by
    subst z
    exact n h
  rw [upd_ne ne]
  exact e
def Stb (A : List Addr) (H : Hp) (Φ : Hp → Prop) : Prop := ∀ H', FrL A H H' → Φ H'
theorem Stb.at {A : List Addr} {H : Hp} {Φ : Hp → Prop} (h : Stb A H Φ) : Φ H := h H FrL.refl
theorem Stb.step {A : List Addr} {H H1 : Hp} {Φ : Hp → Prop} (h : Stb A H Φ) (f : FrL A H H1) : Stb A H1 Φ := fun H2 f2 => h H2 (f.trans f2)
def Dom (A : List Addr) (H : Hp) : Prop := ∀ a ∈ A, ∃ o, H a = some o ∧ ∀ vs, o ≠ .tup vs
theorem Dom.same {A : List Addr} {H H' : Hp} (h : Dom A H) (s : Same H H') : Dom A H' := fun a ha => by
  obtain ⟨o, e, n⟩ := h a ha
  exact ⟨o, s _ _ e, n⟩
theorem Dom.upd {A : List Addr} {H : Hp} {a : Addr} {o : HO} (h : Dom A H) (n : ∀ vs, o ≠ .tup vs) : Dom A (upd H a o) := fun b hb => by
  by_cases c : b = a
  · subst c
    exact ⟨o, upd_same, n⟩
  · rw [upd_ne c]
    exact h b hb
theorem Dom.new {A : List Addr} {H : Hp} {a : Addr} (h : Dom A H) (n : H a = none) : a ∉ A := fun z => by
  obtain ⟨o, e, _⟩ := h a z
  rw [n] at e
  cases e
inductive Op
  | fire (p v : Nat) | back (p v : Nat) | put (v : Nat) (z : Int) | add (z : Int) | drop | join (a b : Nat) | part (a b : Nat)
def opV : Op → List V
  | .fire p v => [.str "fire", .int (p : Int), .int (v : Int)]
  | .back p v => [.str "take_back", .int (p : Int), .int (v : Int)]
  | .put v z => [.str "put", .int (v : Int), .int z]
  | .add z => [.str "add_node", .int z]
  | .drop => [.str "drop_node"]
  | .join a b => [.str "add_edge", .int (a : Int), .int (b : Int)]
  | .part a b => [.str "remove_edge", .int (a : Int), .int (b : Int)]
structure Mo where
  n : Nat
  es : List (Int × Int)
  x : List Int
  sc : List Int
inductive Er
  | player (p : Nat) | neg (v : Nat) | edge (a b : Nat) | many (k : Nat)
def edg (a b : Nat) : Int × Int := (min (a : Int) b, max (a : Int) b)
def leE (a b : Int × Int) : Bool := decide (a.1 < b.1 ∨ (a.1 = b.1 ∧ a.2 ≤ b.2))
def srtE (es : List (Int × Int)) : List (Int × Int) := es.mergeSort leE
theorem srtE_perm (es : List (Int × Int)) : (srtE es).Perm es := List.mergeSort_perm es leE
theorem srtE_srt (es : List (Int × Int)) : SrtE (srtE es) := by
  have h := List.pairwise_mergeSort (le := leE) (fun a b c h1 h2 => by
    unfold leE at *
    rw [decide_eq_true_eq] at *
    omega) (fun a b => by
    unfold leE
    rw [Bool.or_eq_true, decide_eq_true_eq, decide_eq_true_eq]
    omega) es
  exact h.imp fun {a b} h => by
    unfold leE at h
    rwa [decide_eq_true_eq] at h
def nearF (n : Nat) (es : List (Int × Int)) : List (List Int) := (List.range n).map fun i : Nat => (rowOf es (i : Int)).mergeSort fun a b => decide (a ≤ b)
theorem nearF_at {n i : Nat} {es : List (Int × Int)} (h : i < n) : (nearF n es).getD i [] = (rowOf es (i : Int)).mergeSort fun a b => decide (a ≤ b) := by
  unfold nearF
  rw [List.getD_eq_getElem?_getD, List.getElem?_map, List.getElem?_range h]
  rfl
theorem nearF_is (n : Nat) (es : List (Int × Int)) : IsNear n es (nearF n es) := ⟨by unfold nearF; rw [List.length_map, List.length_range], fun i hi => by
  rw [nearF_at hi]
  exact List.mergeSort_perm _ _, fun i hi => by
  rw [nearF_at hi]
  exact (List.pairwise_mergeSort (le := fun a b : Int => decide (a ≤ b)) (fun a b c h1 h2 => by
    rw [decide_eq_true_eq] at *
    omega) (fun a b => by
    rw [Bool.or_eq_true, decide_eq_true_eq, decide_eq_true_eq]
    omega) _).imp fun {a b} h => by rwa [decide_eq_true_eq] at h⟩
def flipM (M : Mo) (v : Nat) : List Int := flipL ((nearF M.n M.es).getD v []) M.x v
def stepM (M : Mo) : Op → Except Er (Mo × V)
  | .fire p v => if M.sc.length ≤ p then .error (.player p) else if 0 ≤ M.x.getD v 0 then .error (.neg v) else .ok (⟨M.n, M.es, flipM M v, M.sc.set p (M.sc.getD p 0 + 1)⟩, .non)
  | .back p v => .ok (⟨M.n, M.es, flipM M v, M.sc.set p (M.sc.getD p 0 - 1)⟩, .non)
  | .put v z => .ok (⟨M.n, M.es, M.x.set v z, M.sc⟩, .non)
  | .add z => if M.n = 16 then .error (.many 17) else .ok (⟨M.n + 1, M.es, M.x ++ [z], M.sc⟩, .int (M.n : Int))
  | .drop => .ok (⟨M.n - 1, M.es, M.x.dropLast, M.sc⟩, .non)
  | .join a b => if a = b ∨ edg a b ∈ M.es then .error (.edge a b) else if 40 ≤ M.es.length then .error (.many 41) else .ok (⟨M.n, srtE (M.es ++ [edg a b]), M.x, M.sc⟩, .non)
  | .part a b => if edg a b ∈ M.es then .ok (⟨M.n, M.es.filter fun e => decide (e ≠ edg a b), M.x, M.sc⟩, .non) else .error (.edge a b)
def invM (M : Mo) : Op → Op
  | .fire p v => .back p v
  | .back p v => .fire p v
  | .put v _ => .put v (M.x.getD v 0)
  | .add _ => .drop
  | .drop => .add (M.x.getD (M.n - 1) 0)
  | .join a b => .part a b
  | .part a b => .join a b
/-- an operation whose nodes the graph has -/
def okOp (M : Mo) : Op → Prop
  | .fire _ v => v < M.n
  | .back p v => v < M.n ∧ p < M.sc.length
  | .put v _ => v < M.n
  | .add _ => True
  | .drop => 2 ≤ M.n ∧ ∀ e ∈ M.es, e.2 + 1 < M.n
  | .join a b => a < M.n ∧ b < M.n
  | .part a b => a < M.n ∧ b < M.n
def sflds (g nl pl : Addr) : List (Str × V) := [("drawn", .ref g), ("numbers", .ref nl), ("points", .ref pl)]
structure STxt (K : PySem.W.Frag) (mg : Str → Option Value) (CT : Addr) : Prop where
  cl : Cls K CT
  n1 : NoAttr K CT "drawn"
  n2 : NoAttr K CT "numbers"
  n3 : NoAttr K CT "points"
  mgC : mg "State" = some (.ref CT)
structure StAt (CG CT : Addr) (A : List Addr) (H : Hp) (so : Addr) (M : Mo) (g nl pl : Addr) : Prop where
  obj : ∃ dx, H so = some (.ins CT dx (sflds g nl pl))
  gr : Stb A H fun H' => GE CG H' g M.n M.es
  num : H nl = some (.lst (M.x.map V.int))
  pts : H pl = some (.lst (M.sc.map V.int))
  ne : nl ≠ pl
  len : M.x.length = M.n
  few : M.sc.length ≤ 1000
  sA : so ∈ A
  nA : nl ∈ A
  pA : pl ∈ A
  dom : Dom A H
theorem StAt.same {CG CT : Addr} {A : List Addr} {H H' : Hp} {so : Addr} {M : Mo} {g nl pl : Addr} (h : StAt CG CT A H so M g nl pl) (s : Same H H') : StAt CG CT A H' so M g nl pl := by
  obtain ⟨⟨dx, h1⟩, h2, h3, h4, h5, h6, h7, h8, h9, h10, h11⟩ := h
  exact ⟨⟨dx, s _ _ h1⟩, h2.step (sameFr s), s _ _ h3, s _ _ h4, h5, h6, h7, h8, h9, h10, h11.same s⟩
def toldEr (CPl CNg CE CM : Addr) (er : Er) (H : Hp) (E : XK) : Prop := match er with
  | .player p => told CPl (.int (p : Int)) H E
  | .neg v => told CNg (.int (v : Int)) H E
  | .edge a b => ∀ t H', Same H H' → H' t = some (.tup [.int (a : Int), .int (b : Int)]) → told CE (.ref t) H' E
  | .many k => told CM (.int (k : Int)) H E
/-- what an operation answers and leaves -/
def opDone (CG CT CPl CNg CE CM : Addr) (A : List Addr) (so nl pl : Addr) (M : Mo) (op : Op) (H : Hp) (Q : VK) (E : XK) : Prop := match stepM M op with
  | .error er => toldEr CPl CNg CE CM er H E
  | .ok r => ∀ (t iv g' : Addr) (H' : Hp), FrL [so, nl, pl] H H' → StAt CG CT A H' so r.1 g' nl pl → H t = none → H' t = some (.tup [r.2, .ref iv]) → H' iv = some (.tup (opV (invM M op))) → Q (.ref t) H'
def spAct (CG CT CPl CNg CE CM : Addr) (kind : Op → Bool) : Sp := fun vs H Q E => ∃ (A : List Addr) (so : Addr) (M : Mo) (g nl pl : Addr) (op : Op), kind op = true ∧ vs = .ref so :: (opV op).tail ∧ StAt CG CT A H so M g nl pl ∧ okOp M op ∧ opDone CG CT CPl CNg CE CM A so nl pl M op H Q E
def isFire : Op → Bool | .fire _ _ => true | _ => false
def isPut : Op → Bool | .put _ _ => true | _ => false
def isAdd : Op → Bool | .add _ => true | _ => false
def isJoin : Op → Bool | .join _ _ => true | _ => false
def isPart : Op → Bool | .part _ _ => true | _ => false
def spCheckPl (K : PySem.W.Frag) (CPl : Addr) : Sp := fun vs H Q E => ∃ (n : Nat) (v : V) (d : PyData), vs = [.int (n : Int), v] ∧ Rd K H v d ∧ (isNode n d = false → told CPl v H E) ∧ (isNode n d = true → Q .non H)
def spCheckNu (K : PySem.W.Frag) (CNu : Addr) : Sp := fun vs H Q E => ∃ (v : V) (d : PyData), vs = [v] ∧ Rd K H v d ∧ (isI d = false → told CNu v H E) ∧ (isI d = true → Q .non H)
theorem nodeNat {n v : Nat} : isNode n (.int (v : Int)) = decide (v < n) := by
  by_cases c : v < n
  · rw [nodeIn (by omega) (by omega), decide_eq_true c]
  · rw [decide_eq_false c]
    show (decide ((0 : Int) ≤ (v : Int)) && decide ((v : Int) ≤ (n : Int) - 1)) = false
    rw [decide_eq_false (show ¬ (v : Int) ≤ (n : Int) - 1 by omega), Bool.and_false]
theorem sl_g (g nl pl : Addr) : (sflds g nl pl).lookup ("drawn" : Str) = some (V.ref g) := rfl
theorem sl_n (g nl pl : Addr) : (sflds g nl pl).lookup ("numbers" : Str) = some (V.ref nl) := rfl
theorem sl_p (g nl pl : Addr) : (sflds g nl pl).lookup ("points" : Str) = some (V.ref pl) := rfl
section
variable {P : Program} {w : World} {K : PySem.W.Frag} {mg : Str → Option Value} {base : Heap} {CG CT CPl CNg CE CM CN CNu : Addr}
theorem ok_check_player {f : Addr} {fd : FuncData} (F : Fun K "check_player" "check_player" s_check_player f fd) (EN : Ex P w K mg base "NoPlayer" CPl) (tyN : PySem.W.typeIn K (.ref CPl) = some (.type "type"))
    (G : At P w K mg base CX0 2 "is_integer_within" ["thing", "low", "high"] (spWithin K)) : FnOk P w K mg base (L2.CX P w) 4 f fd ["count", "player"] (spCheckPl K CPl) := by
  obtain ⟨g, gd, G, mG, kG, bG⟩ := G
  refine F.okX ⟨rfl, rfl, rfl, by decide +kernel, rfl, by decide +kernel, by decide +kernel⟩ (N := ["count", "player"]) (fun vs H Q E h => ?_) (fun cdv A outer s H vs Q E hr h => ?_)
  · obtain ⟨n, v, d, rfl, _⟩ := h
    rfl
  · obtain ⟨n, v, d, rfl, hd, t, k⟩ := h
    have hr2 : Room 2 _ := hr.mono (by decide)
    refine ⟨_, pss_one (ps_if (pt_not (pt_val (pe_call G hr2 (by rfl) mG kG bG .nil pass0 (pa_cons (pv 1) (pa_cons pe_int (pa_cons (pe_op op_sub (pv 0) pe_int) pa_nil)))))) (pss_one (ps_raiseX rfl EN tyN hr2 (takes_of rfl rfl rfl rfl) rfl (pa_cons (pv 1) pa_nil))) pss_nil), ?_⟩
    refine ⟨_, rfl, _, rfl, _, _, rfl, rfl, v, d, 0, (n : Int) - 1, rfl, hd, _, rfl, ?_⟩
    have e : within 0 ((n : Int) - 1) d = isNode n d := rfl
    rw [e]
    cases c : isNode n d with
    | false => exact iteT ⟨_, rfl, v, rfl, fun dd H' nd s2 hx => t c H' dd s2 nd hx⟩
    | true => exact iteF (k c)
theorem ok_check_number {f : Addr} {fd : FuncData} (F : Fun K "check_number" "check_number" s_check_number f fd) (EN : Ex P w K mg base "InvalidNumber" CNu) (tyN : PySem.W.typeIn K (.ref CNu) = some (.type "type"))
    (G : At P w K mg base CX0 1 "is_integer" ["thing"] (spIsInteger K)) : FnOk P w K mg base (L2.CX P w) 3 f fd ["number"] (spCheckNu K CNu) := by
  obtain ⟨g, gd, G, mG, kG, bG⟩ := G
  refine F.okX ⟨rfl, rfl, rfl, by decide +kernel, rfl, by decide +kernel, by decide +kernel⟩ (N := ["number"]) (fun vs H Q E h => ?_) (fun cdv A outer s H vs Q E hr h => ?_)
  · obtain ⟨v, d, rfl, _⟩ := h
    rfl
  · obtain ⟨v, d, rfl, hd, t, k⟩ := h
    have hr1 : Room 1 _ := hr.mono (by decide)
    refine ⟨_, pss_one (ps_if (pt_not (pt_val (pe_call G hr1 (by rfl) mG kG bG .nil pass0 (pa_cons (pv 0) pa_nil)))) (pss_one (ps_raiseX rfl EN tyN hr (takes_of rfl rfl rfl rfl) rfl (pa_cons (pv 0) pa_nil))) pss_nil), ?_⟩
    refine ⟨_, rfl, v, d, rfl, hd, _, rfl, ?_⟩
    cases c : isI d with
    | false => exact iteT ⟨_, rfl, v, rfl, fun dd H' nd s2 hx => t c H' dd s2 nd hx⟩
    | true => exact iteF (k c)
end
end K71
set_option Elab.async false
set_option linter.all false
set_option maxRecDepth 100000
set_option maxHeartbeats 8000000
namespace K71
open PySem PySem.Spec PyProof.Rows L2 FNX
theorem opErr {CG CT CPl CNg CE CM : Addr} {A : List Addr} {so nl pl : Addr} {M : Mo} {op : Op} {H : Hp} {Q : VK} {E : XK} {er : Er} (h : opDone CG CT CPl CNg CE CM A so nl pl M op H Q E) (e : stepM M op = .error er) : toldEr CPl CNg CE CM er H E := by
  unfold opDone at h
  rw [e] at h
  exact h
theorem opOk {CG CT CPl CNg CE CM : Addr} {A : List Addr} {so nl pl : Addr} {M : Mo} {op : Op} {H : Hp} {Q : VK} {E : XK} {r : Mo × V} (h : opDone CG CT CPl CNg CE CM A so nl pl M op H Q E) (e : stepM M op = .ok r) :
    ∀ (t iv g' : Addr) (H' : Hp), FrL [so, nl, pl] H H' → StAt CG CT A H' so r.1 g' nl pl → H t = none → H' t = some (.tup [r.2, .ref iv]) → H' iv = some (.tup (opV (invM M op))) → Q (.ref t) H' := by
  unfold opDone at h
  rw [e] at h
  exact h
/-- what stands where a state stands -/
theorem StAt.all {CG CT : Addr} {A : List Addr} {H : Hp} {so : Addr} {n : Nat} {es : List (Int × Int)} {x sc : List Int} {g nl pl : Addr} (h : StAt CG CT A H so ⟨n, es, x, sc⟩ g nl pl) :
    (∃ dx, H so = some (.ins CT dx (sflds g nl pl))) ∧ GE CG H g n es ∧ H nl = some (.lst (x.map V.int)) ∧ H pl = some (.lst (sc.map V.int)) ∧ x.length = n ∧ sc.length ≤ 1000 := ⟨h.obj, h.gr.at, h.num, h.pts, h.len, h.few⟩
theorem graphNew {CG : Addr} {A : List Addr} {H H' : Hp} {x dx j nr : Addr} {n : Nat} {N : List (List Int)} {es' : List (Int × Int)} (dom : Dom A H) (nx : H x = none) (ndx : H dx = none) (ne : dx ≠ x)
    (up : ∀ b o, b ≠ x → (upd (upd H dx (.own x)) x (.ins CG dx [])) b = some o → H' b = some o) (hx' : H' x = some (.ins CG dx (gflds (n : Int) j nr))) (hj : EdgesAt H' j es') (near : IsNear n es' N) (sE : SrtE es')
    (nj : (upd (upd H dx (.own x)) x (.ins CG dx [])) j = none) (nn : ∀ H2, (∀ b o, (upd (upd H dx (.own x)) x (.ins CG dx [])) b = none → H' b = some o → H2 b = some o) → NAt H2 nr N) (good : GoodE n es') (n1 : 1 ≤ n) (n16 : n ≤ 16) :
    Same H H' ∧ Stb A H' (fun H2 => GE CG H2 x n es') := by
  have s := preS (CG := CG) nx ndx ne
  have sH : Same H H' := fun b o e => up b o (ne_of_none e nx) (s _ _ e)
  refine ⟨sH, fun H2 f2 => ?_⟩
  obtain ⟨tj, j1, j2⟩ := hj
  have keep : ∀ b o, (upd (upd H dx (.own x)) x (.ins CG dx [])) b = none → H' b = some o → H2 b = some o := fun b o hb e => f2 b o (dom.new (s.free hb)) e
  refine ⟨⟨dx, j, nr, N, f2 _ _ (dom.new nx) hx', ⟨tj, keep _ _ nj j1, j2.1, fun k t hk => ?_⟩, nn H2 keep, near⟩, good, sE, n1, n16⟩
  obtain ⟨z, z1, z2⟩ := j2.2 k t hk
  refine ⟨z, z1, f2 _ _ (fun ha => ?_) z2⟩
  obtain ⟨o, e, nt⟩ := dom t ha
  rw [sH _ _ e] at z2
  exact nt _ (Option.some.inj z2)
section
variable {P : Program} {w : World} {K : PySem.W.Frag} {mg : Str → Option Value} {base : Heap} {CG CT CPl CNg CE CM CN CNu CS : Addr}
theorem sc_fire_node : FnScope ["state", "player", "node"] ["state", "player", "node"] (defScope s_fire_node) := ⟨rfl, rfl, rfl, by decide +kernel, rfl, by decide +kernel, by decide +kernel⟩
theorem ok_fire_node {f : Addr} {fd : FuncData} (F : Fun K "fire_node" "fire_node" s_fire_node f fd) (M : Nms mg) (T : GTxt K mg CG) (S : STxt K mg CT) (ENg : Ex P w K mg base "NotNegative" CNg) (tyENg : PySem.W.typeIn K (.ref CNg) = some (.type "type"))
    (GPl : At P w K mg base (L2.CX P w) 4 "check_player" ["count", "player"] (spCheckPl K CPl)) (GNo : At P w K mg base (L2.CX P w) 4 "check_node" ["size", "node"] (spCheckNodeY K CN))
    (GSz : MAt P w K mg base CG CX0 1 "size" ["self"] (spSizeE CG)) (GNb : MAt P w K mg base CG (L2.CX P w) 5 "neighbours" ["self", "node"] (spNb K CG CN)) (GFl : At P w K mg base CX0 1 "flip_in_place" ["numbers", "node", "near"] spFlip) :
    FnOk P w K mg base (L2.CX P w) 8 f fd ["state", "player", "node"] (spAct CG CT CPl CNg CE CM isFire) := by
  obtain ⟨fPl, fdPl, GPl, mPl, kPl, bPl⟩ := GPl
  obtain ⟨fNo, fdNo, GNo, mNo, kNo, bNo⟩ := GNo
  obtain ⟨fSz, fdSz, GSz, mSz, bSz⟩ := GSz
  obtain ⟨fNb, fdNb, GNb, mNb, bNb⟩ := GNb
  obtain ⟨fFl, fdFl, GFl, mFl, kFl, bFl⟩ := GFl
  refine F.okX sc_fire_node (fun vs H Q E h => ?_) (fun cdv A' outer s H vs Q E hr h => ?_)
  · obtain ⟨A, so, M, g, nl, pl, op, hk, rfl, _⟩ := h
    cases op <;> first | rfl | cases hk
  · obtain ⟨A, so, ⟨n, es, x, sc⟩, g, nl, pl, op, hk, rfl, st, ok, hd⟩ := h
    cases op <;> first | cases hk | skip
    rename_i p v
    have nd := sc_fire_node.nd
    obtain ⟨⟨dx, h1⟩, hg, hnum, hpts, hlen, hfew⟩ := st.all
    obtain ⟨dxg, jg, nrg, Ng, og, _⟩ := hg.obj
    have hv : v < n := ok
    refine ⟨_, (pss_cons (ps_expr (pe_call GPl (hr.mono (by decide)) (by rfl) mPl kPl bPl .nil (passes_call (E := E) (takes_of rfl rfl rfl rfl) (fun _ _ _ _ h => h)) (pa_cons (pe_callB call_len_seq (by rfl) M.len boot_len1 (pa_cons (pe_fld (pv 0) rfl) pa_nil)) (pa_cons (pv 1) pa_nil))))
      (pss_cons (ps_expr (pe_call GNo (hr.mono (by decide)) (by rfl) mNo kNo bNo .nil (passes_call (E := E) (takes_of rfl rfl rfl rfl) (fun _ _ _ _ h => h)) (pa_cons (pe_meth0 (pe_fld (pv 0) rfl) T.cl mSz GSz (hr.mono (by decide)) bSz .nil pass0) (pa_cons (pv 2) pa_nil))))
      (pss_cons (ps_if (pt_cmpR op_ge (pe_ix (r := rIxL K) ix_list (pe_fld (pv 0) rfl) (pv 2) (fun _ _ => rfl)) pe_int (nomark _)) (pss_one (ps_raiseX rfl ENg tyENg (hr.mono (by decide)) (takes_of rfl rfl rfl rfl) rfl (pa_cons (pv 2) pa_nil))) pss_nil)
      (pss_cons (ps_expr (pe_call GFl (hr.mono (by decide)) (by rfl) mFl kFl bFl .nil pass0 (pa_cons (pe_fld (pv 0) rfl) (pa_cons (pv 2) (pa_cons (pe_meth (pe_fld (pv 0) rfl) T.cl mNb GNb (hr.mono (by decide)) bNb .nil (passes_call (E := E) (takes_of rfl rfl rfl rfl) (fun _ _ _ _ h => h)) (pa_cons (pv 2) pa_nil)) pa_nil)))))
      (pss_cons (ps_augS (pe_fld (pv 0) rfl) (pv 1) pget_list pe_int ip_add set_list)
      (pss_one (ps_ret (pe_tup (pa_cons pe_non (pa_cons (pe_tup (pa_cons pe_str (pa_cons (pv 1) (pa_cons (pv 2) pa_nil)))) pa_nil)))))))))), ?_⟩
    refine ⟨_, rfl, so, CT, dx, _, _, rfl, h1, S.cl, S.n3, sl_p _ _ _, pl, _, rfl, .inl (SqL.of hpts), _, rfl, (sc.map V.int).length, .int (p : Int), .int (p : Int), rfl, .dat (.int _), fun hno => ?_, fun hyes => ?_⟩
    · rw [nodeNat, List.length_map] at hno
      have c : sc.length ≤ p := by
        have := of_decide_eq_false hno
        omega
      exact opErr (er := .player p) hd (by unfold stepM; dsimp only; rw [if_pos c])
    rw [nodeNat, List.length_map] at hyes
    have c : p < sc.length := of_decide_eq_true hyes
    refine ⟨_, rfl, so, CT, dx, _, _, rfl, h1, S.cl, S.n1, sl_g _ _ _, g, dxg, _, rfl, og, rfl, g, n, es, rfl, hg, _, rfl, n, .int (v : Int), .int (v : Int), rfl, .dat (.int _), (fun h => by rw [nodeNat, decide_eq_true hv] at h; cases h), fun _ => ?_⟩
    refine ⟨_, rfl, so, CT, dx, _, _, rfl, h1, S.cl, S.n2, sl_n _ _ _, _, rfl, nl, _, (v : Int), _, rfl, rfl, SqL.of hnum, atInt (by omega) (by omega), _, _, rfl, rfl, _, rfl, ?_⟩
    rw [Int.toNat_natCast]
    by_cases c2 : (0 : Int) ≤ x.getD v 0
    · rw [decide_eq_true (show x.getD v 0 ≥ 0 from c2)]
      exact iteT ⟨_, rfl, .int (v : Int), rfl, fun dd H' nd s2 hx => opErr (er := .neg v) hd (by unfold stepM; dsimp only; rw [if_neg (by omega), if_pos c2]) H' dd s2 nd hx⟩
    rw [decide_eq_false (show ¬ x.getD v 0 ≥ 0 from c2)]
    refine iteF ?_
    have kont := opOk (r := (⟨n, es, flipM ⟨n, es, x, sc⟩ v, sc.set p (sc.getD p 0 + 1)⟩, .non)) hd (by unfold stepM; dsimp only; rw [if_neg (by omega), if_neg c2])
    refine ⟨_, rfl, so, CT, dx, _, _, rfl, h1, S.cl, S.n2, sl_n _ _ _, _, rfl, _, rfl, so, CT, dx, _, _, rfl, h1, S.cl, S.n1, sl_g _ _ _, g, dxg, _, rfl, og, rfl, _, rfl, g, n, es, .int (v : Int), .int (v : Int), rfl, hg, .dat (.int _), (fun h => by rw [nodeNat, decide_eq_true hv] at h; cases h), fun a ea ha N q H1 near nq s1 eq => ?_⟩
    obtain rfl : v = a := by
      injection ea with ea
      omega
    obtain rfl : N = nearF n es := near.uniq (nearF_is n es)
    have st1 := st.same s1
    obtain ⟨⟨dx', h1'⟩, hg1, hnum1, hpts1, _, _⟩ := st1.all
    have nlq : nl ≠ q := ne_of_none hnum nq
    have plq : pl ≠ q := ne_of_none hpts nq
    have rowB : ∀ o ∈ (nearF n es).getD v [], 0 ≤ o ∧ o < n := fun o ho => near.wf hg.good.node v (by rw [near.len]; exact hv) o ho |>.imp id (fun h => by rw [near.len] at h; exact h)
    refine ⟨nl, q, x, (nearF n es).getD v [], (v : Int), rfl, hnum1, eq, nlq, by omega, by omega, fun o ho => by have := rowB o ho; omega, fun H2 e2 f2 => ?_⟩
    rw [Int.toNat_natCast] at e2
    have hpts2 : H2 pl = some (.lst (sc.map V.int)) := by rw [f2 _ st.ne.symm]; exact hpts1
    have soP : so ≠ pl := ne_of h1 hpts (by intro z; cases z)
    have soN : so ≠ nl := ne_of h1 hnum (by intro z; cases z)
    have h12 : H2 so = some (.ins CT dx' (sflds g nl pl)) := by rw [f2 _ soN]; exact h1'
    refine ⟨_, rfl, so, CT, dx', _, _, rfl, h12, S.cl, S.n3, sl_p _ _ _, _, rfl, pl, _, (p : Int), _, rfl, rfl, SqL.of hpts2, atInt (by omega) (by omega), _, _, rfl, rfl, pl, _, (p : Int), _, rfl, rfl, hpts2, ixInt (by omega) (by omega), ?_⟩
    rw [mapSet, Int.toNat_natCast]
    obtain ⟨H3, q3⟩ : ∃ H3, upd H2 pl (.lst ((sc.set p (sc.getD p 0 + 1)).map V.int)) = H3 := ⟨_, rfl⟩
    have fr13 : FrL [so, nl, pl] H1 H3 := fun b o hb e => by
      have b1 : b ≠ nl := fun z => hb (by rw [z]; simp)
      have b2 : b ≠ pl := fun z => hb (by rw [z]; simp)
      rw [← q3, upd_ne b2, f2 _ b1]
      exact e
    have hnl3 : H3 nl = some (.lst ((flipL ((nearF n es).getD v []) x v).map V.int)) := by rw [← q3, upd_ne st.ne]; exact e2
    have hpl3 : H3 pl = some (.lst ((sc.set p (sc.getD p 0 + 1)).map V.int)) := by rw [← q3, upd_same]
    have hso3 : H3 so = some (.ins CT dx' (sflds g nl pl)) := by rw [← q3, upd_ne soP]; exact h12
    have sub : ∀ c ∈ [so, nl, pl], c ∈ A := fun c hc => by
      simp only [List.mem_cons, List.not_mem_nil, or_false] at hc
      rcases hc with rfl | rfl | rfl
      · exact st.sA
      · exact st.nA
      · exact st.pA
    have dom3 : Dom A H3 := fun b hb => by
      by_cases b1 : b = nl
      · exact ⟨_, by rw [b1]; exact hnl3, fun vs z => by cases z⟩
      by_cases b2 : b = pl
      · exact ⟨_, by rw [b2]; exact hpl3, fun vs z => by cases z⟩
      by_cases b3 : b = so
      · exact ⟨_, by rw [b3]; exact hso3, fun vs z => by cases z⟩
      obtain ⟨o, e, nt⟩ := st1.dom b hb
      exact ⟨o, fr13 b o (by simp [b1, b2, b3]) e, nt⟩
    have st3 : StAt CG CT A H3 so ⟨n, es, flipM ⟨n, es, x, sc⟩ v, sc.set p (sc.getD p 0 + 1)⟩ g nl pl := ⟨⟨_, hso3⟩, st1.gr.step (fr13.mono sub), hnl3, hpl3, st.ne, by show (flipL _ x v).length = n; rw [flipLen]; exact hlen, by show (sc.set p _).length ≤ 1000; rw [List.length_set]; exact hfew, st.sA, st.nA, st.pA, dom3⟩
    rw [q3]
    refine ⟨_, rfl, _, rfl, by show 3 ≤ sizeLine; decide, fun iv niv => ?_⟩
    obtain ⟨H4, q4, s4, hiv⟩ := newAt (.tup [V.str "take_back", V.int (p : Int), V.int (v : Int)]) niv
    rw [q4]
    refine ⟨by show 2 ≤ sizeLine; decide, fun t nt => ?_⟩
    obtain ⟨H5, q5, s5, ht⟩ := newAt (.tup [V.non, V.ref iv]) nt
    rw [q5]
    have s35 := s4.trans s5
    refine kont t iv g H5 (((sameFr s1).trans fr13).trans (sameFr s35)) (st3.same s35) ?_ ht (s5 _ _ hiv)
    cases e : H t with
    | none => rfl
    | some o =>
      have e1 := s1 _ _ e
      have : ∃ o', H3 t = some o' := by
        by_cases b1 : t = nl
        · exact ⟨_, by rw [b1]; exact hnl3⟩
        by_cases b2 : t = pl
        · exact ⟨_, by rw [b2]; exact hpl3⟩
        by_cases b3 : t = so
        · exact ⟨_, by rw [b3]; exact hso3⟩
        exact ⟨o, fr13 t o (by simp [b1, b2, b3]) e1⟩
      obtain ⟨o', e'⟩ := this
      rw [s4 _ _ e'] at nt
      cases nt
end
end K71
set_option Elab.async false
set_option linter.all false
set_option maxRecDepth 100000
set_option maxHeartbeats 8000000
namespace K71
open PySem PySem.Spec PyProof.Rows L2 FNX
theorem freeFr {L : List Addr} {H H' : Hp} {t : Addr} (f : FrL L H H') (h : ∀ c ∈ L, ∃ o, H' c = some o) (n : H' t = none) : H t = none := by
  cases e : H t with
  | none => rfl
  | some o =>
    by_cases c : t ∈ L
    · obtain ⟨o', e'⟩ := h t c
      rw [n] at e'
      cases e'
    · rw [f t o c e] at n
      cases n
theorem putD (g g' nl pl : Addr) : putF ("drawn" : Str) (.ref g') (sflds g nl pl) = sflds g' nl pl := by
  unfold sflds putF
  rw [if_pos rfl]
theorem StAt.sub {CG CT : Addr} {A : List Addr} {H : Hp} {so : Addr} {M : Mo} {g nl pl : Addr} (h : StAt CG CT A H so M g nl pl) : ∀ c ∈ [so, nl, pl], c ∈ A := fun c hc => by
  simp only [List.mem_cons, List.not_mem_nil, or_false] at hc
  rcases hc with rfl | rfl | rfl
  · exact h.sA
  · exact h.nA
  · exact h.pA
theorem StAt.there {CG CT : Addr} {A : List Addr} {H : Hp} {so : Addr} {M : Mo} {g nl pl : Addr} (h : StAt CG CT A H so M g nl pl) : ∀ c ∈ [so, nl, pl], ∃ o, H c = some o := fun c hc => by
  obtain ⟨o, e, _⟩ := h.dom c (h.sub c hc)
  exact ⟨o, e⟩
section
variable {P : Program} {w : World} {K : PySem.W.Frag} {mg : Str → Option Value} {base : Heap} {CG CT CPl CNg CE CM CN CNu CS : Addr}
theorem sc_put_number : FnScope ["state", "node", "number", "before"] ["state", "node", "number"] (defScope s_put_number) := ⟨rfl, rfl, rfl, by decide +kernel, rfl, by decide +kernel, by decide +kernel⟩
theorem ok_put_number {f : Addr} {fd : FuncData} (F : Fun K "put_number" "put_number" s_put_number f fd) (M : Nms mg) (T : GTxt K mg CG) (S : STxt K mg CT)
    (GNu : At P w K mg base (L2.CX P w) 3 "check_number" ["number"] (spCheckNu K CNu)) (GNo : At P w K mg base (L2.CX P w) 4 "check_node" ["size", "node"] (spCheckNodeY K CN))
    (GSz : MAt P w K mg base CG CX0 1 "size" ["self"] (spSizeE CG)) : FnOk P w K mg base (L2.CX P w) 8 f fd ["state", "node", "number"] (spAct CG CT CPl CNg CE CM isPut) := by
  obtain ⟨fNu, fdNu, GNu, mNu, kNu, bNu⟩ := GNu
  obtain ⟨fNo, fdNo, GNo, mNo, kNo, bNo⟩ := GNo
  obtain ⟨fSz, fdSz, GSz, mSz, bSz⟩ := GSz
  refine F.okX sc_put_number (fun vs H Q E h => ?_) (fun cdv A' outer s H vs Q E hr h => ?_)
  · obtain ⟨A, so, M, g, nl, pl, op, hk, rfl, _⟩ := h
    cases op <;> first | rfl | cases hk
  · obtain ⟨A, so, ⟨n, es, x, sc⟩, g, nl, pl, op, hk, rfl, st, ok, hd⟩ := h
    cases op <;> first | cases hk | skip
    rename_i v z
    have nd := sc_put_number.nd
    obtain ⟨⟨dx, h1⟩, hg, hnum, hpts, hlen, hfew⟩ := st.all
    obtain ⟨dxg, jg, nrg, Ng, og, _⟩ := hg.obj
    have hv : v < n := ok
    have kont := opOk (r := (⟨n, es, x.set v z, sc⟩, .non)) hd rfl
    refine ⟨_, (pss_cons (ps_expr (pe_call GNo (hr.mono (by decide)) (by rfl) mNo kNo bNo .nil (passes_call (E := E) (takes_of rfl rfl rfl rfl) (fun _ _ _ _ h => h)) (pa_cons (pe_meth0 (pe_fld (pv 0) rfl) T.cl mSz GSz (hr.mono (by decide)) bSz .nil pass0) (pa_cons (pv 1) pa_nil))))
      (pss_cons (ps_expr (pe_call GNu (hr.mono (by decide)) (by rfl) mNu kNu bNu .nil (passes_call (E := E) (takes_of rfl rfl rfl rfl) (fun _ _ _ _ h => h)) (pa_cons (pv 2) pa_nil)))
      (pss_cons (ps_set (i := 3) nd rfl (Or.inl rfl) (pe_ix (r := rIxL K) ix_list (pe_fld (pv 0) rfl) (pv 1) (fun _ _ => rfl)))
      (pss_cons (ps_asg (pv 2) (pg_sub (pe_fld (pv 0) rfl) (pv 1) set_list))
      (pss_one (ps_ret (pe_tup (pa_cons pe_non (pa_cons (pe_tup (pa_cons pe_str (pa_cons (pv 1) (pa_cons (pv 3) pa_nil)))) pa_nil))))))))), ?_⟩
    refine ⟨_, rfl, so, CT, dx, _, _, rfl, h1, S.cl, S.n1, sl_g _ _ _, g, dxg, _, rfl, og, rfl, g, n, es, rfl, hg, _, rfl, n, .int (v : Int), .int (v : Int), rfl, .dat (.int _), (fun h => by rw [nodeNat, decide_eq_true hv] at h; cases h), fun _ => ?_⟩
    refine ⟨_, rfl, .int z, .int z, rfl, .dat (.int _), (fun h => by cases h), fun _ => ?_⟩
    refine ⟨_, rfl, so, CT, dx, _, _, rfl, h1, S.cl, S.n2, sl_n _ _ _, _, rfl, nl, _, (v : Int), _, rfl, rfl, SqL.of hnum, atInt (by omega) (by omega), ?_⟩
    refine ⟨_, rfl, _, rfl, so, CT, dx, _, _, rfl, h1, S.cl, S.n2, sl_n _ _ _, _, rfl, nl, _, (v : Int), _, rfl, rfl, hnum, ixInt (by omega) (by omega), ?_⟩
    rw [mapSet, Int.toNat_natCast]
    obtain ⟨H3, q3⟩ : ∃ H3, upd H nl (.lst ((x.set v z).map V.int)) = H3 := ⟨_, rfl⟩
    have fr3 : FrL [so, nl, pl] H H3 := by rw [← q3]; exact frUpd (by simp)
    have soN : so ≠ nl := ne_of h1 hnum (by intro z; cases z)
    have st3 : StAt CG CT A H3 so ⟨n, es, x.set v z, sc⟩ g nl pl := by
      rw [← q3] at fr3 ⊢
      exact ⟨⟨_, by rw [upd_ne soN]; exact h1⟩, st.gr.step (fr3.mono st.sub), upd_same, by rw [upd_ne st.ne.symm]; exact hpts, st.ne, by show (x.set v z).length = n; rw [List.length_set]; exact hlen, hfew, st.sA, st.nA, st.pA, st.dom.upd (fun vs z => by cases z)⟩
    rw [q3]
    refine ⟨_, rfl, _, rfl, by show 3 ≤ sizeLine; decide, fun iv niv => ?_⟩
    obtain ⟨H4, q4, s4, hiv⟩ := newAt (.tup [V.str "put", V.int (v : Int), V.int (x.getD v 0)]) niv
    rw [q4]
    refine ⟨by show 2 ≤ sizeLine; decide, fun t nt => ?_⟩
    obtain ⟨H5, q5, s5, ht⟩ := newAt (.tup [V.non, V.ref iv]) nt
    rw [q5]
    have s35 := s4.trans s5
    exact kont t iv g H5 (fr3.trans (sameFr s35)) (st3.same s35) (freeFr fr3 st3.there (s4.free nt)) ht (s5 _ _ hiv)
theorem sc_append_node : FnScope ["state", "number", "size"] ["state", "number"] (defScope s_append_node) := ⟨rfl, rfl, rfl, by decide +kernel, rfl, by decide +kernel, by decide +kernel⟩
theorem ok_append_node {f fI : Addr} {fd fdI : FuncData} (F : Fun K "append_node" "append_node" s_append_node f fd) (M : Nms mg) (T : GTxt K mg CG) (S : STxt K mg CT) {t16 : Tok} (m16 : mg "MOST_NODES" = some (.int 16 t16))
    (EMa : Ex P w K mg base "TooMany" CM) (tyEMa : PySem.W.typeIn K (.ref CM) = some (.type "type"))
    (GNu : At P w K mg base (L2.CX P w) 3 "check_number" ["number"] (spCheckNu K CNu)) (GSz : MAt P w K mg base CG CX0 1 "size" ["self"] (spSizeE CG)) (GEd : MAt P w K mg base CG CX0 1 "edges" ["self"] (spEdgesOf CG))
    (MK : Mk K CG fI) (GI : FnOk P w K mg base (L2.CX P w) 6 fI fdI ["self", "size", "edges"] (spGI01 K CG CS CM CE)) (bI : L2.Binds K fdI ["self", "size", "edges"] []) : FnOk P w K mg base (L2.CX P w) 8 f fd ["state", "number"] (spAct CG CT CPl CNg CE CM isAdd) := by
  obtain ⟨fNu, fdNu, GNu, mNu, kNu, bNu⟩ := GNu
  obtain ⟨fSz, fdSz, GSz, mSz, bSz⟩ := GSz
  obtain ⟨fEd, fdEd, GEd, mEd, bEd⟩ := GEd
  refine F.okX sc_append_node (fun vs H Q E h => ?_) (fun cdv A' outer s H vs Q E hr h => ?_)
  · obtain ⟨A, so, M, g, nl, pl, op, hk, rfl, _⟩ := h
    cases op <;> first | rfl | cases hk
  · obtain ⟨A, so, ⟨n, es, x, sc⟩, g, nl, pl, op, hk, rfl, st, ok, hd⟩ := h
    cases op <;> first | cases hk | skip
    rename_i z
    have nd := sc_append_node.nd
    obtain ⟨⟨dx, h1⟩, hg, hnum, hpts, hlen, hfew⟩ := st.all
    obtain ⟨dxg, jg, nrg, Ng, og, _⟩ := hg.obj
    have n1 := hg.n1
    have n16 := hg.n16
    have fewE := hg.good.few
    refine ⟨_, (pss_cons (ps_expr (pe_call GNu (hr.mono (by decide)) (by rfl) mNu kNu bNu .nil (passes_call (E := E) (takes_of rfl rfl rfl rfl) (fun _ _ _ _ h => h)) (pa_cons (pv 1) pa_nil)))
      (pss_cons (ps_set (i := 2) nd rfl (Or.inl rfl) (pe_meth0 (pe_fld (pv 0) rfl) T.cl mSz GSz (hr.mono (by decide)) bSz .nil pass0))
      (pss_cons (ps_if (pt_cmpR op_eq (pv 2) (pe_glob (v := .int 16) (by rfl) m16 ⟨_, rfl⟩) (nomark _)) (pss_one (ps_raiseX rfl EMa tyEMa (hr.mono (by decide)) (takes_of rfl rfl rfl rfl) rfl (pa_cons (pe_op op_add (pv 2) pe_int) pa_nil))) pss_nil)
      (pss_cons (ps_fld (pv 0) (pe_make MK GI (hr.mono (by decide)) (by rfl) T.mgC bI .nil (passes_call (E := E) (takes_of rfl rfl rfl rfl) (fun _ _ _ _ h => h)) (pa_cons (pe_op op_add (pv 2) pe_int) (pa_cons (pe_meth0 (pe_fld (pv 0) rfl) T.cl mEd GEd (hr.mono (by decide)) bEd .nil pass0) pa_nil))) rfl)
      (pss_cons (ps_expr (pe_bm PySem.F.plainAttrs_list PySem.F.slot_list_append PySem.F.type_list_append mt_append (pe_fld (pv 0) rfl) (pa_cons (pv 1) pa_nil)))
      (pss_one (ps_ret (pe_tup (pa_cons (pv 2) (pa_cons (pe_tup (pa_cons pe_str pa_nil)) pa_nil)))))))))), ?_⟩
    refine ⟨_, rfl, .int z, .int z, rfl, .dat (.int _), (fun h => by cases h), fun _ => ?_⟩
    refine ⟨_, rfl, so, CT, dx, _, _, rfl, h1, S.cl, S.n1, sl_g _ _ _, g, dxg, _, rfl, og, rfl, g, n, es, rfl, hg, ?_⟩
    refine ⟨_, rfl, rfl, _, rfl, ?_⟩
    by_cases c : n = 16
    · rw [decide_eq_true (show V.int (n : Int) = V.int 16 by rw [c]; rfl)]
      have te := opErr (er := .many 17) hd (by unfold stepM; dsimp only; rw [if_pos c])
      refine iteT ⟨_, rfl, _, _, rfl, rfl, _, rfl, fun dd H' nd s2 hx => ?_⟩
      rw [c] at hx
      exact te H' dd s2 nd hx
    rw [decide_eq_false (show ¬ V.int (n : Int) = V.int 16 from fun z => by injection z with z; omega)]
    have kont := opOk (r := (⟨n + 1, es, x ++ [z], sc⟩, .int (n : Int))) hd (by unfold stepM; dsimp only; rw [if_neg c])
    refine iteF ?_
    refine ⟨_, rfl, _, _, rfl, rfl, _, rfl, so, CT, dx, _, _, rfl, h1, S.cl, S.n1, sl_g _ _ _, g, dxg, _, rfl, og, rfl, g, n, es, rfl, hg, fun q H1 nq s1 hq => ?_⟩
    intro g' dxn nx ndx nex
    have sx0 := preS (CG := CG) nx ndx nex
    obtain ⟨tq, t1, t2⟩ := id (hq.same sx0)
    have gU : GoodU (n + 1) es := ⟨fun e he => by have := hg.good.node e he; omega, hg.good.toU.once, hg.good.toU.few⟩
    have gE : GoodE (n + 1) es := ⟨fun e he => by have := hg.good.node e he; omega, hg.good.once, hg.good.few⟩
    refine ⟨g', dxn, _, .ref q, rfl, upd_same, .inr ⟨n + 1, congrArg V.int (by omega), by omega, by omega, .inr (.inr ⟨es, ⟨q, tq, rfl, .inl t1, t2, gU⟩, fun h => by omega, fun _ H2 j nr N es' up hx' hj hN near pe sE nj nn => ⟨rfl, ?_⟩⟩)⟩⟩
    rw [ordMap hg.good] at pe
    obtain rfl := SrtE.uniq pe sE hg.asc
    have st1 := st.same s1
    obtain ⟨s12, gr2⟩ := graphNew st1.dom nx ndx nex up hx' hj near sE nj nn gE (by omega) (by omega)
    have s02 := s1.trans s12
    have st2 := st.same s02
    have h12 := s02 _ _ h1
    refine ⟨_, rfl, so, CT, dx, _, rfl, h12, S.cl, S.n1, by show 3 < 1000; decide, ?_⟩
    rw [putD]
    obtain ⟨H3, q3⟩ : ∃ H3, upd H2 so (.ins CT dx (sflds g' nl pl)) = H3 := ⟨_, rfl⟩
    have soN : so ≠ nl := ne_of h1 hnum (by intro z; cases z)
    have soP : so ≠ pl := ne_of h1 hpts (by intro z; cases z)
    have h13 : H3 so = some (.ins CT dx (sflds g' nl pl)) := by rw [← q3, upd_same]
    have hn3 : H3 nl = some (.lst (x.map V.int)) := by rw [← q3, upd_ne soN.symm]; exact st2.num
    have hp3 : H3 pl = some (.lst (sc.map V.int)) := by rw [← q3, upd_ne soP.symm]; exact st2.pts
    have fr23 : FrL [so, nl, pl] H2 H3 := by rw [← q3]; exact frUpd (by simp)
    rw [q3]
    refine ⟨_, rfl, so, CT, dx, _, _, rfl, h13, S.cl, S.n2, sl_n _ _ _, .inl ⟨rfl, _, SqL.of hn3⟩, _, rfl, nl, _, _, rfl, rfl, hn3, by rw [List.length_map, sizeLine_eq]; omega, ?_⟩
    rw [show x.map V.int ++ [V.int z] = (x ++ [z]).map V.int by rw [List.map_append]; rfl]
    obtain ⟨H4, q4⟩ : ∃ H4, upd H3 nl (.lst ((x ++ [z]).map V.int)) = H4 := ⟨_, rfl⟩
    have fr34 : FrL [so, nl, pl] H3 H4 := by rw [← q4]; exact frUpd (by simp)
    have fr24 := fr23.trans fr34
    have st4 : StAt CG CT A H4 so ⟨n + 1, es', x ++ [z], sc⟩ g' nl pl := ⟨⟨_, by rw [← q4, upd_ne soN]; exact h13⟩, gr2.step (fr24.mono st.sub), by rw [← q4, upd_same], by rw [← q4, upd_ne st.ne.symm]; exact hp3, st.ne, by show (x ++ [z]).length = n + 1; rw [List.length_append, hlen]; rfl, hfew, st.sA, st.nA, st.pA, by
      rw [← q4, ← q3]
      exact (st2.dom.upd (fun vs z => by cases z)).upd (fun vs z => by cases z)⟩
    rw [q4]
    refine ⟨_, rfl, by show 1 ≤ sizeLine; decide, fun iv niv => ?_⟩
    obtain ⟨H5, q5, s5, hiv⟩ := newAt (.tup [V.str "drop_node"]) niv
    rw [q5]
    refine ⟨by show 2 ≤ sizeLine; decide, fun t nt => ?_⟩
    obtain ⟨H6, q6, s6, ht⟩ := newAt (.tup [V.int (n : Int), V.ref iv]) nt
    rw [q6]
    have s46 := s5.trans s6
    have fr04 := (sameFr (A := [so, nl, pl]) s02).trans fr24
    exact kont t iv g' H6 (fr04.trans (sameFr s46)) (st4.same s46) (freeFr fr04 st4.there (s5.free nt)) ht (s6 _ _ hiv)
end
end K71
set_option Elab.async false
set_option linter.all false
set_option maxRecDepth 100000
set_option maxHeartbeats 8000000
namespace K71
open PySem PySem.Spec PyProof.Rows L2 FNX
theorem edApp {H : Hp} {p : Addr} {ta tz : List Addr} {es fs : List (Int × Int)} (q1 : TupsAt H ta es) (q2 : TupsAt H tz fs) (h : H p = some (.lst ((ta ++ tz).map V.ref))) : EdgesAt H p (es ++ fs) := by
  refine ⟨ta ++ tz, h, by rw [List.length_append, List.length_append, q1.1, q2.1], fun k t hk => ?_⟩
  by_cases c : k < ta.length
  · rw [List.getElem?_append_left c] at hk
    obtain ⟨e, w1, w2⟩ := q1.2 k t hk
    exact ⟨e, by rw [List.getElem?_append_left (by rw [← q1.1]; exact c)]; exact w1, w2⟩
  · rw [List.getElem?_append_right (by omega)] at hk
    obtain ⟨e, w1, w2⟩ := q2.2 _ t hk
    exact ⟨e, by rw [List.getElem?_append_right (by rw [← q1.1]; omega), ← q1.1]; exact w1, w2⟩
theorem edgIn {n a b : Nat} (ha : a < n) (hb : b < n) (h : a ≠ b) : 0 ≤ (edg a b).1 ∧ (edg a b).1 < (edg a b).2 ∧ (edg a b).2 < n := by
  unfold edg
  dsimp only
  omega
theorem goodSnoc {n : Nat} {es : List (Int × Int)} {e : Int × Int} (g : GoodE n es) (he : 0 ≤ e.1 ∧ e.1 < e.2 ∧ e.2 < n) (hn : e ∉ es) : GoodU n (es ++ [e]) ∧ (es ++ [e]).map ordP = es ++ [e] := by
  have m : (es ++ [e]).map ordP = es ++ [e] := by
    rw [List.map_append, ordMap g]
    show es ++ [ordP e] = _
    rw [ordId he.2.1]
  refine ⟨⟨fun d hd => ?_, ?_, by rw [List.length_append, List.length_singleton]; have := g.few; omega⟩, m⟩
  · rcases List.mem_append.mp hd with hd | hd
    · have := g.node d hd
      omega
    · rw [List.mem_singleton.mp hd]
      omega
  · rw [m]
    exact List.nodup_append.mpr ⟨g.once, by simp, fun x hx y hy => by
      rw [List.mem_singleton.mp hy]
      exact fun z => hn (z ▸ hx)⟩
def spCe (CG CT : Addr) : Sp := fun vs H Q _ => ∃ (A : List Addr) (so : Addr) (M : Mo) (g nl pl : Addr) (a b : Nat), vs = [.ref so, .int (a : Int), .int (b : Int)] ∧ StAt CG CT A H so M g nl pl ∧ a < M.n ∧ b < M.n ∧
  ∀ (t : Addr) (H' : Hp), H t = none → Same H H' → H' t = some (.tup [.int (edg a b).1, .int (edg a b).2]) → Q (.ref t) H'
section
variable {P : Program} {w : World} {K : PySem.W.Frag} {mg : Str → Option Value} {base : Heap} {CG CT CPl CNg CE CM CN CNu CS : Addr}
theorem sc_checked_edge : FnScope ["state", "one", "two"] ["state", "one", "two"] (defScope s_checked_edge) := ⟨rfl, rfl, rfl, by decide +kernel, rfl, by decide +kernel, by decide +kernel⟩
theorem ok_checked_edge {f : Addr} {fd : FuncData} (F : Fun K "checked_edge" "checked_edge" s_checked_edge f fd) (M : Nms mg) (T : GTxt K mg CG) (S : STxt K mg CT) (GNo : At P w K mg base (L2.CX P w) 4 "check_node" ["size", "node"] (spCheckNodeY K CN))
    (GSz : MAt P w K mg base CG CX0 1 "size" ["self"] (spSizeE CG)) : FnOk P w K mg base (L2.CX P w) 6 f fd ["state", "one", "two"] (spCe CG CT) := by
  obtain ⟨fNo, fdNo, GNo, mNo, kNo, bNo⟩ := GNo
  obtain ⟨fSz, fdSz, GSz, mSz, bSz⟩ := GSz
  refine F.okX sc_checked_edge (fun vs H Q E h => ?_) (fun cdv A' outer s H vs Q E hr h => ?_)
  · obtain ⟨A, so, M, g, nl, pl, a, b, rfl, _⟩ := h
    rfl
  · obtain ⟨A, so, ⟨n, es, x, sc⟩, g, nl, pl, a, b, rfl, st, ha, hb, k⟩ := h
    have nd := sc_checked_edge.nd
    obtain ⟨⟨dx, h1⟩, hg, hnum, hpts, hlen, hfew⟩ := st.all
    obtain ⟨dxg, jg, nrg, Ng, og, _⟩ := hg.obj
    have ha : a < n := ha
    have hb : b < n := hb
    refine ⟨_, (pss_cons (ps_expr (pe_call GNo (hr.mono (by decide)) (by rfl) mNo kNo bNo .nil (passes_call (E := E) (takes_of rfl rfl rfl rfl) (fun _ _ _ _ h => h)) (pa_cons (pe_meth0 (pe_fld (pv 0) rfl) T.cl mSz GSz (hr.mono (by decide)) bSz .nil pass0) (pa_cons (pv 1) pa_nil))))
      (pss_cons (ps_expr (pe_call GNo (hr.mono (by decide)) (by rfl) mNo kNo bNo .nil (passes_call (E := E) (takes_of rfl rfl rfl rfl) (fun _ _ _ _ h => h)) (pa_cons (pe_meth0 (pe_fld (pv 0) rfl) T.cl mSz GSz (hr.mono (by decide)) bSz .nil pass0) (pa_cons (pv 2) pa_nil))))
      (pss_one (ps_ret (pe_tup (pa_cons (pe_callB (call_min2 rfl) (by rfl) M.min boot_min1 (pa_cons (pv 1) (pa_cons (pv 2) pa_nil))) (pa_cons (pe_callB (call_max2 rfl) (by rfl) M.max boot_max1 (pa_cons (pv 1) (pa_cons (pv 2) pa_nil))) pa_nil))))))), ?_⟩
    refine ⟨_, rfl, so, CT, dx, _, _, rfl, h1, S.cl, S.n1, sl_g _ _ _, g, dxg, _, rfl, og, rfl, g, n, es, rfl, hg, _, rfl, n, .int (a : Int), .int (a : Int), rfl, .dat (.int _), (fun h => by rw [nodeNat, decide_eq_true ha] at h; cases h), fun _ => ?_⟩
    refine ⟨_, rfl, so, CT, dx, _, _, rfl, h1, S.cl, S.n1, sl_g _ _ _, g, dxg, _, rfl, og, rfl, g, n, es, rfl, hg, _, rfl, n, .int (b : Int), .int (b : Int), rfl, .dat (.int _), (fun h => by rw [nodeNat, decide_eq_true hb] at h; cases h), fun _ => ?_⟩
    refine ⟨_, rfl, _, rfl, (a : Int), (b : Int), rfl, _, rfl, _, rfl, (a : Int), (b : Int), rfl, by show 2 ≤ sizeLine; decide, fun t nt => ?_⟩
    have e1 : (if (b : Int) < (a : Int) then (b : Int) else (a : Int)) = (edg a b).1 := by
      unfold edg
      dsimp only
      split <;> omega
    have e2 : (if (b : Int) > (a : Int) then (b : Int) else (a : Int)) = (edg a b).2 := by
      unfold edg
      dsimp only
      split <;> omega
    rw [e1, e2]
    exact k t _ nt (same_upd nt) upd_same
theorem sc_join_nodes : FnScope ["state", "one", "two", "edge", "edges"] ["state", "one", "two"] (defScope s_join_nodes) := ⟨rfl, rfl, rfl, by decide +kernel, rfl, by decide +kernel, by decide +kernel⟩
theorem ok_join_nodes {f fI : Addr} {fd fdI : FuncData} (F : Fun K "join_nodes" "join_nodes" s_join_nodes f fd) (M : Nms mg) (T : GTxt K mg CG) (S : STxt K mg CT)
    (EEd : Ex P w K mg base "InvalidEdge" CE) (tyEEd : PySem.W.typeIn K (.ref CE) = some (.type "type"))
    (GCe : At P w K mg base (L2.CX P w) 6 "checked_edge" ["state", "one", "two"] (spCe CG CT)) (GSz : MAt P w K mg base CG CX0 1 "size" ["self"] (spSizeE CG)) (GEd : MAt P w K mg base CG CX0 1 "edges" ["self"] (spEdgesOf CG))
    (MK : Mk K CG fI) (GI : FnOk P w K mg base (L2.CX P w) 6 fI fdI ["self", "size", "edges"] (spGI01 K CG CS CM CE)) (bI : L2.Binds K fdI ["self", "size", "edges"] []) : FnOk P w K mg base (L2.CX P w) 8 f fd ["state", "one", "two"] (spAct CG CT CPl CNg CE CM isJoin) := by
  obtain ⟨fCe, fdCe, GCe, mCe, kCe, bCe⟩ := GCe
  obtain ⟨fSz, fdSz, GSz, mSz, bSz⟩ := GSz
  obtain ⟨fEd, fdEd, GEd, mEd, bEd⟩ := GEd
  refine F.okX sc_join_nodes (fun vs H Q E h => ?_) (fun cdv A' outer s H vs Q E hr h => ?_)
  · obtain ⟨A, so, M, g, nl, pl, op, hk, rfl, _⟩ := h
    cases op <;> first | rfl | cases hk
  · obtain ⟨A, so, ⟨n, es, x, sc⟩, g, nl, pl, op, hk, rfl, st, ok, hd⟩ := h
    cases op <;> first | cases hk | skip
    rename_i a b
    have nd := sc_join_nodes.nd
    have hu65 : A'.units + 3 + 65 < cLine := by
      have := hr.un
      show A'.units + 3 + 65 < _
      have z : A'.units + 3 + 16 * 7 + 200 < cLine := this
      omega
    obtain ⟨⟨dx, h1⟩, hg, hnum, hpts, hlen, hfew⟩ := st.all
    obtain ⟨dxg, jg, nrg, Ng, og, _⟩ := hg.obj
    have n1 := hg.n1
    have n16 := hg.n16
    have fewE := hg.good.few
    have ha : a < n := ok.1
    have hb : b < n := ok.2
    refine ⟨_, (pss_cons (ps_set (i := 3) nd rfl (Or.inl rfl) (pe_call GCe (hr.mono (by decide)) (by rfl) mCe kCe bCe .nil (passes_call (E := E) (takes_of rfl rfl rfl rfl) (fun _ _ _ _ h => h)) (pa_cons (pv 0) (pa_cons (pv 1) (pa_cons (pv 2) pa_nil)))))
      (pss_cons (ps_set (i := 4) nd rfl (Or.inl rfl) (pe_meth0 (pe_fld (pv 0) rfl) T.cl mEd GEd (hr.mono (by decide)) bEd .nil pass0))
      (pss_cons (ps_if (PW.pt (pw_or (pt_cmpR op_eq (pv 1) (pv 2) (nomark _)) (pw_or1 (pt_cmpR (show OpR _ (compareOp .In) (rInD K) from op_inD hu65) (pv 3) (pv 4) (by with_unfolding_all rfl))))) (pss_one (ps_raiseX rfl EEd tyEEd (hr.mono (by decide)) (takes_of rfl rfl rfl rfl) rfl (pa_cons (pe_tup (pa_cons (pv 1) (pa_cons (pv 2) pa_nil))) pa_nil))) pss_nil)
      (pss_cons (ps_fld (pv 0) (pe_make MK GI (hr.mono (by decide)) (by rfl) T.mgC bI .nil (passes_call (E := E) (takes_of rfl rfl rfl rfl) (fun _ _ _ _ h => h)) (pa_cons (pe_meth0 (pe_fld (pv 0) rfl) T.cl mSz GSz (hr.mono (by decide)) bSz .nil pass0) (pa_cons (pe_op op_cat (pv 4) (pe_lst (pa_cons (pv 3) pa_nil))) pa_nil))) rfl)
      (pss_one (ps_ret (pe_tup (pa_cons pe_non (pa_cons (pe_tup (pa_cons pe_str (pa_cons (pv 1) (pa_cons (pv 2) pa_nil)))) pa_nil))))))))), ?_⟩
    refine ⟨_, rfl, _, rfl, _, rfl, A, so, ⟨n, es, x, sc⟩, g, nl, pl, a, b, rfl, st, ha, hb, fun t0 H1 nt0 s1 ht0 => ?_⟩
    have h11 := s1 _ _ h1
    have hg1 := hg.same s1
    have og1 := s1 _ _ og
    refine ⟨_, rfl, so, CT, dx, _, _, rfl, h11, S.cl, S.n1, sl_g _ _ _, g, dxg, _, rfl, og1, rfl, g, n, es, rfl, hg1, fun q H2 nq s2 hq => ?_⟩
    obtain ⟨tq, t1, t2⟩ := id hq
    have s02 := s1.trans s2
    have ht02 := s2 _ _ ht0
    have bad : (a = b ∨ edg a b ∈ es) → ∀ (T : Addr) (H3 : Hp), Same H2 H3 → H3 T = some (.tup [.int (a : Int), .int (b : Int)]) → told CE (.ref T) H3 E := fun c T H3 s3 hT => opErr (er := .edge a b) hd (by unfold stepM; dsimp only; rw [if_pos c]) T H3 (s02.trans s3) hT
    refine ⟨_, rfl, _, rfl, rfl, _, rfl, ?_⟩
    by_cases c1 : a = b
    · rw [decide_eq_true (show V.int (a : Int) = V.int (b : Int) by rw [c1])]
      refine iteT ⟨_, rfl, _, rfl, by show 2 ≤ sizeLine; decide, fun T nT => ⟨.ref T, rfl, fun dd H' nd s3 hx => ?_⟩⟩
      exact bad (.inl c1) T _ (same_upd nT) upd_same H' dd s3 nd hx
    rw [decide_eq_false (show ¬ V.int (a : Int) = V.int (b : Int) from fun z => by injection z with z; omega)]
    refine iteF ⟨_, rfl, _, rfl, pairD (edg a b), es.map pairD, .tup (SqT.of ht02) (.cons (.int _) (.cons (.int _) .nil)), .lst (SqL.of t1) (dpTups t2), rfl, shapedPairs _, _, rfl, ?_⟩
    by_cases c2 : edg a b ∈ es
    · rw [anyPairT c2]
      refine iteT ⟨_, rfl, _, rfl, by show 2 ≤ sizeLine; decide, fun T nT => ⟨.ref T, rfl, fun dd H' nd s3 hx => ?_⟩⟩
      exact bad (.inr c2) T _ (same_upd nT) upd_same H' dd s3 nd hx
    rw [anyPair c2]
    refine iteF ?_
    have h12 := s02 _ _ h1
    have hg2 := hg.same s02
    have og2 := s02 _ _ og
    have ltq : tq.length ≤ 40 := by rw [t2.1]; exact fewE
    refine ⟨_, rfl, so, CT, dx, _, _, rfl, h12, S.cl, S.n1, sl_g _ _ _, g, dxg, _, rfl, og2, rfl, g, n, es, rfl, hg2, _, rfl, _, rfl, by show 1 ≤ sizeLine; decide, fun y ny => ?_⟩
    obtain ⟨H3, q3, s3, hy⟩ := newAt (.lst [V.ref t0]) ny
    rw [q3]
    refine ⟨q, y, _, _, rfl, rfl, s3 _ _ t1, hy, by rw [List.length_map, sizeLine_eq]; show tq.length + 1 ≤ _; omega, fun R nR => ?_⟩
    obtain ⟨H4, q4, s4, hR⟩ := newAt (.lst (tq.map V.ref ++ [V.ref t0])) nR
    rw [q4]
    have s34 := s3.trans s4
    have s04 := s02.trans s34
    have hRE : EdgesAt H4 R (es ++ [edg a b]) := edApp (ta := tq) (tz := [t0]) (t2.same s34) ⟨rfl, fun k t e => by
      cases k with
      | zero =>
        obtain rfl := Option.some.inj e
        exact ⟨_, rfl, s34 _ _ ht02⟩
      | succ k => simp at e⟩ (by rw [hR, List.map_append]; rfl)
    obtain ⟨gU, gM⟩ := goodSnoc hg.good (edgIn ha hb c1) c2
    intro g' dxn nx ndx nex
    have sx0 := preS (CG := CG) nx ndx nex
    obtain ⟨tr, r1, r2⟩ := id (hRE.same sx0)
    have lR : (es ++ [edg a b]).length = es.length + 1 := by rw [List.length_append]; rfl
    refine ⟨g', dxn, _, .ref R, rfl, upd_same, .inr ⟨n, rfl, n1, n16, .inr (.inr ⟨es ++ [edg a b], ⟨R, tr, rfl, .inl r1, r2, gU⟩, fun h => ?_, fun h40 H5 j nr N es' up hx' hj hN near pe sE nj nn => ⟨rfl, ?_⟩⟩)⟩⟩
    · have te := opErr (er := .many 41) hd (by unfold stepM; dsimp only; rw [if_neg (by rintro (h | h) <;> contradiction), if_pos (by omega)])
      have e41 : es.length + 1 = 41 := by omega
      rw [lR, e41]
      exact fun H' dd s5 nd hx => te H' dd (s04.trans (sx0.trans s5)) (s04.free (sx0.free nd)) hx
    rw [gM] at pe
    have kont := opOk (r := (⟨n, srtE (es ++ [edg a b]), x, sc⟩, .non)) hd (by unfold stepM; dsimp only; rw [if_neg (by rintro (h | h) <;> contradiction), if_neg (by omega)])
    have gE : GoodE n es' := by
      have := gU.ord (by rw [lR]; omega)
      rw [gM] at this
      exact this.perm pe
    obtain rfl : es' = srtE (es ++ [edg a b]) := SrtE.uniq (pe.trans (srtE_perm _).symm) sE (srtE_srt _)
    have st4 := st.same s04
    obtain ⟨s45, gr5⟩ := graphNew st4.dom nx ndx nex up hx' hj near sE nj nn gE n1 n16
    have s05 := s04.trans s45
    have st5 := st.same s05
    have h15 := s05 _ _ h1
    refine ⟨_, rfl, so, CT, dx, _, rfl, h15, S.cl, S.n1, by show 3 < 1000; decide, ?_⟩
    rw [putD]
    obtain ⟨H6, q6⟩ : ∃ H6, upd H5 so (.ins CT dx (sflds g' nl pl)) = H6 := ⟨_, rfl⟩
    have soN : so ≠ nl := ne_of h1 hnum (by intro z; cases z)
    have soP : so ≠ pl := ne_of h1 hpts (by intro z; cases z)
    have fr56 : FrL [so, nl, pl] H5 H6 := by rw [← q6]; exact frUpd (by simp)
    have st6 : StAt CG CT A H6 so ⟨n, srtE (es ++ [edg a b]), x, sc⟩ g' nl pl := ⟨⟨_, by rw [← q6, upd_same]⟩, gr5.step (fr56.mono st.sub), by rw [← q6, upd_ne soN.symm]; exact st5.num, by rw [← q6, upd_ne soP.symm]; exact st5.pts, st.ne, hlen, hfew, st.sA, st.nA, st.pA, by
      rw [← q6]
      exact st5.dom.upd (fun vs z => by cases z)⟩
    rw [q6]
    refine ⟨_, rfl, _, rfl, by show 3 ≤ sizeLine; decide, fun iv niv => ?_⟩
    obtain ⟨H7, q7, s7, hiv⟩ := newAt (.tup [V.str "remove_edge", V.int (a : Int), V.int (b : Int)]) niv
    rw [q7]
    refine ⟨by show 2 ≤ sizeLine; decide, fun t nt => ?_⟩
    obtain ⟨H8, q8, s8, ht⟩ := newAt (.tup [V.non, V.ref iv]) nt
    rw [q8]
    have s68 := s7.trans s8
    have fr06 := (sameFr (A := [so, nl, pl]) s05).trans fr56
    exact kont t iv g' H8 (fr06.trans (sameFr s68)) (st6.same s68) (freeFr fr06 st6.there (s7.free nt)) ht (s8 _ _ hiv)
end
end K71
set_option Elab.async false
set_option linter.all false
set_option maxRecDepth 100000
set_option maxHeartbeats 8000000
namespace K71
open PySem PySem.Spec PyProof.Rows L2 FNX
section
variable {P : Program} {w : World} {K : PySem.W.Frag} {mg : Str → Option Value} {base : Heap} {CG CT CPl CNg CE CM CN CNu CS : Addr}
theorem sc_part_nodes : FnScope ["state", "one", "two", "edge", "edges", "other"] ["state", "one", "two"] (defScope s_part_nodes) := ⟨rfl, rfl, rfl, by decide +kernel, rfl, by decide +kernel, by decide +kernel⟩
theorem ok_part_nodes {f fI : Addr} {fd fdI : FuncData} (F : Fun K "part_nodes" "part_nodes" s_part_nodes f fd) (M : Nms mg) (T : GTxt K mg CG) (S : STxt K mg CT)
    (EEd : Ex P w K mg base "InvalidEdge" CE) (tyEEd : PySem.W.typeIn K (.ref CE) = some (.type "type"))
    (GCe : At P w K mg base (L2.CX P w) 6 "checked_edge" ["state", "one", "two"] (spCe CG CT)) (GSz : MAt P w K mg base CG CX0 1 "size" ["self"] (spSizeE CG)) (GEd : MAt P w K mg base CG CX0 1 "edges" ["self"] (spEdgesOf CG))
    (MK : Mk K CG fI) (GI : FnOk P w K mg base (L2.CX P w) 6 fI fdI ["self", "size", "edges"] (spGI01 K CG CS CM CE)) (bI : L2.Binds K fdI ["self", "size", "edges"] []) : FnOk P w K mg base (L2.CX P w) 8 f fd ["state", "one", "two"] (spAct CG CT CPl CNg CE CM isPart) := by
  obtain ⟨fCe, fdCe, GCe, mCe, kCe, bCe⟩ := GCe
  obtain ⟨fSz, fdSz, GSz, mSz, bSz⟩ := GSz
  obtain ⟨fEd, fdEd, GEd, mEd, bEd⟩ := GEd
  refine F.okX sc_part_nodes (fun vs H Q E h => ?_) (fun cdv A' outer s H vs Q E hr h => ?_)
  · obtain ⟨A, so, M, g, nl, pl, op, hk, rfl, _⟩ := h
    cases op <;> first | rfl | cases hk
  · obtain ⟨A, so, ⟨n, es, x, sc⟩, g, nl, pl, op, hk, rfl, st, ok, hd⟩ := h
    cases op <;> first | cases hk | skip
    rename_i a b
    have nd := sc_part_nodes.nd
    have hu64 : A'.units + 3 + 64 < cLine := hr.units
    have hu65 : A'.units + 3 + 65 < cLine := by
      have := hr.un
      show A'.units + 3 + 65 < _
      have z : A'.units + 3 + 16 * 7 + 200 < cLine := this
      omega
    obtain ⟨⟨dx, h1⟩, hg, hnum, hpts, hlen, hfew⟩ := st.all
    obtain ⟨dxg, jg, nrg, Ng, og, _⟩ := hg.obj
    have n1 := hg.n1
    have n16 := hg.n16
    have fewE := hg.good.few
    have ha : a < n := ok.1
    have hb : b < n := ok.2
    refine ⟨_, (pss_cons (ps_set (i := 3) nd rfl (Or.inr rfl) (pe_call GCe (hr.mono (by decide)) (by rfl) mCe kCe bCe .nil (passes_call (E := E) (takes_of rfl rfl rfl rfl) (fun _ _ _ _ h => h)) (pa_cons (pv 0) (pa_cons (pv 1) (pa_cons (pv 2) pa_nil)))))
      (pss_cons (ps_set (i := 4) nd rfl (Or.inl rfl) (pe_meth0 (pe_fld (pv 0) rfl) T.cl mEd GEd (hr.mono (by decide)) bEd .nil pass0))
      (pss_cons (ps_if (pt_cmpR (op_notInD hu65) (pv 3) (pv 4) (by with_unfolding_all rfl)) (pss_one (ps_raiseX rfl EEd tyEEd (hr.mono (by decide)) (takes_of rfl rfl rfl rfl) rfl (pa_cons (pe_tup (pa_cons (pv 1) (pa_cons (pv 2) pa_nil))) pa_nil))) pss_nil)
      (pss_cons (ps_fld (pv 0) (pe_make MK GI (hr.mono (by decide)) (by rfl) T.mgC bI .nil (passes_call (E := E) (takes_of rfl rfl rfl rfl) (fun _ _ _ _ h => h)) (pa_cons (pe_meth0 (pe_fld (pv 0) rfl) T.cl mSz GSz (hr.mono (by decide)) bSz .nil pass0) (pa_cons (pe_lc (own := [("other", 5)]) (g := gName 5) rfl nd (pi_list (pv 4)) (blkOk_by (own := [("other", 5)]) (N := ["state", "one", "two", "edge", "edges", "other"]) (sc := defScope s_part_nodes) (by decide +kernel)) (fun _ _ _ _ _ => pg_name (i := 5) nd rfl (Or.inl rfl)) (fun _ _ _ _ _ => pts_one (pt_cmpR (show OpR _ (compareOp .NotEq) (rNeD K) from op_neD hu64) (pv 5) (pv 3) (nomark _))) (fun _ _ _ _ _ => (pv 5))) pa_nil))) rfl)
      (pss_one (ps_ret (pe_tup (pa_cons pe_non (pa_cons (pe_tup (pa_cons pe_str (pa_cons (pv 1) (pa_cons (pv 2) pa_nil)))) pa_nil))))))))), ?_⟩
    refine ⟨_, rfl, _, rfl, _, rfl, A, so, ⟨n, es, x, sc⟩, g, nl, pl, a, b, rfl, st, ha, hb, fun t0 H1 nt0 s1 ht0 => ?_⟩
    have h11 := s1 _ _ h1
    have hg1 := hg.same s1
    have og1 := s1 _ _ og
    refine ⟨_, rfl, so, CT, dx, _, _, rfl, h11, S.cl, S.n1, sl_g _ _ _, g, dxg, _, rfl, og1, rfl, g, n, es, rfl, hg1, fun q H2 nq s2 hq => ?_⟩
    obtain ⟨tq, t1, t2⟩ := id hq
    have s02 := s1.trans s2
    have ht02 := s2 _ _ ht0
    have ltq : tq.length ≤ 40 := by rw [t2.1]; exact fewE
    refine ⟨_, rfl, _, rfl, pairD (edg a b), es.map pairD, .tup (SqT.of ht02) (.cons (.int _) (.cons (.int _) .nil)), .lst (SqL.of t1) (dpTups t2), rfl, shapedPairs _, _, rfl, ?_⟩
    by_cases c : edg a b ∈ es
    case neg =>
      rw [anyPair c]
      refine iteT ⟨_, rfl, _, rfl, by show 2 ≤ sizeLine; decide, fun T nT => ⟨.ref T, rfl, fun dd H' nd s3 hx => ?_⟩⟩
      exact opErr (er := .edge a b) hd (by unfold stepM; dsimp only; rw [if_neg c]) T _ (s02.trans (same_upd nT)) upd_same H' dd s3 nd hx
    rw [anyPairT c]
    refine iteF ?_
    have kont := opOk (r := (⟨n, es.filter fun e => decide (e ≠ edg a b), x, sc⟩, .non)) hd (by unfold stepM; dsimp only; rw [if_pos c])
    have h12 := s02 _ _ h1
    have hg2 := hg.same s02
    have og2 := s02 _ _ og
    refine ⟨_, rfl, so, CT, dx, _, _, rfl, h12, S.cl, S.n1, sl_g _ _ _, g, dxg, _, rfl, og2, rfl, g, n, es, rfl, hg2, ?_⟩
    refine ⟨_, rfl, q, rfl, ⟨_, SqL.of t1⟩, fun D nD => ?_⟩
    refine lc_list (K := K) (a := q) (xs := tq.map V.ref) (fun i H3 => Same H2 H3 ∧ ∃ us : List Addr, H3 D = some (.lst (us.map V.ref)) ∧ TupsAt H3 us ((es.take i).filter fun e => decide (e ≠ edg a b)))
      ⟨same_upd nD, [], upd_same, ⟨rfl, fun k t e => by simp at e⟩⟩ (fun i H3 _ h => SqL.of (h.1 _ _ t1)) (fun i v H3 hv h => ?_) (fun H3 h => ?_)
    · obtain ⟨s3, us, hD, hu⟩ := h
      obtain ⟨t, ht, rfl⟩ := refAt hv
      obtain ⟨e, hei, het⟩ := t2.2 i t ht
      have het3 := s3 _ _ het
      refine ⟨rfl, ?_⟩
      refine ⟨_, rfl, _, rfl, pairD e, pairD (edg a b), .tup (SqT.of het3) (.cons (.int _) (.cons (.int _) .nil)), .tup (SqT.of (s3 _ _ ht02)) (.cons (.int _) (.cons (.int _) .nil)), rfl, rfl, _, rfl, ?_⟩
      rw [eqvPair]
      have lus : us.length ≤ 40 := by
        rw [hu.1]
        have := List.length_filter_le (fun e => decide (e ≠ edg a b)) (es.take i)
        rw [List.length_take] at this
        omega
      by_cases ce : e = edg a b
      · rw [decide_eq_true ce]
        refine iteF ⟨s3, us, hD, ?_⟩
        rw [takeMore hei, List.filter_append, List.filter_cons, if_neg (by simp [ce]), List.filter_nil, List.append_nil]
        exact hu
      · rw [decide_eq_false ce]
        have tp := hu.push (t := t) (e := e) het3
        refine iteT ⟨_, rfl, _, hD, by rw [List.length_map, sizeLine_eq]; omega, fun b o z => ?_, us ++ [t], by rw [upd_same, List.map_append]; rfl, ?_⟩
        · rw [upd_ne (ne_of_none z nD)]
          exact s3 _ _ z
        · rw [takeMore hei, List.filter_append, List.filter_cons, if_pos (by simp [ce]), List.filter_nil]
          refine ⟨tp.1, fun k t' hk => ?_⟩
          obtain ⟨z, z1, z2⟩ := tp.2 k t' hk
          exact ⟨z, z1, by rw [upd_ne (ne_of z2 hD (by intro y; cases y))]; exact z2⟩
    obtain ⟨s3, us, hD, hu⟩ := h
    rw [List.length_map, t2.1, List.take_length] at hu
    have s03 := s02.trans s3
    have gE : GoodE n (es.filter fun e => decide (e ≠ edg a b)) := ⟨fun e he => hg.good.node e ((List.mem_filter.mp he).1), hg.good.once.sublist List.filter_sublist, Nat.le_trans (List.length_filter_le _ _) fewE⟩
    intro g' dxn nx ndx nex
    have sx0 := preS (CG := CG) nx ndx nex
    refine ⟨g', dxn, _, .ref D, rfl, upd_same, .inr ⟨n, rfl, n1, n16, .inr (.inr ⟨_, ⟨D, us, rfl, .inl (sx0 _ _ hD), hu.same sx0, gE.toU⟩, fun h => absurd gE.few (by omega), fun h40 H5 j nr N es' up hx' hj hN near pe sE nj nn => ⟨rfl, ?_⟩⟩)⟩⟩
    rw [ordMap gE] at pe
    have sF : SrtE (es.filter fun e => decide (e ≠ edg a b)) := hg.asc.sublist List.filter_sublist
    obtain rfl := SrtE.uniq pe sE sF
    have st3 := st.same s03
    obtain ⟨s35, gr5⟩ := graphNew st3.dom nx ndx nex up hx' hj near sE nj nn gE n1 n16
    have s05 := s03.trans s35
    have st5 := st.same s05
    have h15 := s05 _ _ h1
    refine ⟨_, rfl, so, CT, dx, _, rfl, h15, S.cl, S.n1, by show 3 < 1000; decide, ?_⟩
    rw [putD]
    obtain ⟨H6, q6⟩ : ∃ H6, upd H5 so (.ins CT dx (sflds g' nl pl)) = H6 := ⟨_, rfl⟩
    have soN : so ≠ nl := ne_of h1 hnum (by intro z; cases z)
    have soP : so ≠ pl := ne_of h1 hpts (by intro z; cases z)
    have fr56 : FrL [so, nl, pl] H5 H6 := by rw [← q6]; exact frUpd (by simp)
    have st6 : StAt CG CT A H6 so ⟨n, es.filter fun e => decide (e ≠ edg a b), x, sc⟩ g' nl pl := ⟨⟨_, by rw [← q6, upd_same]⟩, gr5.step (fr56.mono st.sub), by rw [← q6, upd_ne soN.symm]; exact st5.num, by rw [← q6, upd_ne soP.symm]; exact st5.pts, st.ne, hlen, hfew, st.sA, st.nA, st.pA, by
      rw [← q6]
      exact st5.dom.upd (fun vs z => by cases z)⟩
    rw [q6]
    refine ⟨_, rfl, _, rfl, by show 3 ≤ sizeLine; decide, fun iv niv => ?_⟩
    obtain ⟨H7, q7, s7, hiv⟩ := newAt (.tup [V.str "add_edge", V.int (a : Int), V.int (b : Int)]) niv
    rw [q7]
    refine ⟨by show 2 ≤ sizeLine; decide, fun t nt => ?_⟩
    obtain ⟨H8, q8, s8, ht⟩ := newAt (.tup [V.non, V.ref iv]) nt
    rw [q8]
    have s68 := s7.trans s8
    have fr06 := (sameFr (A := [so, nl, pl]) s05).trans fr56
    exact kont t iv g' H8 (fr06.trans (sameFr s68)) (st6.same s68) (freeFr fr06 st6.there (s7.free nt)) ht (s8 _ _ hiv)
end
end K71
set_option Elab.async false
set_option linter.all false
set_option maxRecDepth 100000
set_option maxHeartbeats 8000000
namespace K71
open PySem PySem.Spec PyProof.Rows L2 FNX
theorem toldEr.same {CPl CNg CE CM : Addr} {er : Er} {H H1 : Hp} {E : XK} (h : toldEr CPl CNg CE CM er H E) (s : Same H H1) : toldEr CPl CNg CE CM er H1 E := by
  cases er with
  | player p => exact fun H' dd s' nd hx => h H' dd (s.trans s') (s.free nd) hx
  | neg v => exact fun H' dd s' nd hx => h H' dd (s.trans s') (s.free nd) hx
  | edge a b => exact fun t H' s' ht => h t H' (s.trans s') ht
  | many k => exact fun H' dd s' nd hx => h H' dd (s.trans s') (s.free nd) hx
theorem opDone.same {CG CT CPl CNg CE CM : Addr} {A : List Addr} {so nl pl : Addr} {M : Mo} {op : Op} {H H1 : Hp} {Q : VK} {E : XK} (h : opDone CG CT CPl CNg CE CM A so nl pl M op H Q E) (s : Same H H1) : opDone CG CT CPl CNg CE CM A so nl pl M op H1 Q E := by
  unfold opDone at *
  cases e : stepM M op with
  | error er =>
    rw [e] at h
    exact h.same s
  | ok r =>
    rw [e] at h
    exact fun t iv g' H' f st nt h1 h2 => h t iv g' H' ((sameFr s).trans f) st (s.free nt) h1 h2
def isFive (op : Op) : Bool := isFire op || isPut op || isAdd op || isJoin op || isPart op
def spPerform (CG CT CPl CNg CE CM : Addr) : Sp := fun vs H Q E => ∃ (A : List Addr) (so : Addr) (M : Mo) (g nl pl t : Addr) (op : Op), vs = [.ref so, .ref t] ∧ isFive op = true ∧ H t = some (.tup (opV op)) ∧ StAt CG CT A H so M g nl pl ∧ okOp M op ∧ opDone CG CT CPl CNg CE CM A so nl pl M op H Q E
def spSInit (K : PySem.W.Frag) (CT : Addr) : Sp := fun vs H Q _ => ∃ (x dx nq pq : Addr) (dv : Addr) (xs ys : List V), vs = [.ref x, .ref dv, .ref nq, .ref pq] ∧ H x = some (.ins CT dx []) ∧ SqL K H nq xs ∧ SqL K H pq ys ∧
  ∀ (nl pl : Addr) (H' : Hp), (∀ b o, b ≠ x → H b = some o → H' b = some o) → H' x = some (.ins CT dx (sflds dv nl pl)) → H nl = none → H pl = none → nl ≠ pl → H' nl = some (.lst xs) → H' pl = some (.lst ys) → Q .non H'
section
variable {P : Program} {w : World} {K : PySem.W.Frag} {mg : Str → Option Value} {base : Heap} {CG CT CPl CNg CE CM CN CNu CS : Addr}
theorem sc_sinit : FnScope ["self", "drawn", "numbers", "points"] ["self", "drawn", "numbers", "points"] (defScope s_State_init) := ⟨rfl, rfl, rfl, by decide +kernel, rfl, by decide +kernel, by decide +kernel⟩
theorem ok_sinit {f : Addr} {fd : FuncData} (F : Fun K "__init__" "State.__init__" s_State_init f fd) (S : STxt K mg CT) (M : Nms mg) : FnOk P w K mg base CX0 1 f fd ["self", "drawn", "numbers", "points"] (spSInit K CT) := by
  refine F.ok sc_sinit (fun vs H Q E h => ?_) (fun cdv A outer s H vs Q E hr h => ?_)
  · obtain ⟨x, dx, nq, pq, dv, xs, ys, rfl, _⟩ := h
    rfl
  · obtain ⟨x, dx, nq, pq, dv, xs, ys, rfl, hx, hn, hp, k⟩ := h
    refine ⟨_, pss_cons (ps_fld (pv 0) (pv 1) rfl)
      (pss_cons (ps_fld (pv 0) (pe_callTy call_list_of (by rfl) M.list (by decide +kernel) (pa_cons (pv 2) pa_nil)) rfl)
      (pss_one (ps_fld (pv 0) (pe_callTy call_list_of (by rfl) M.list (by decide +kernel) (pa_cons (pv 3) pa_nil)) rfl))), ?_⟩
    refine ⟨_, rfl, _, rfl, x, CT, dx, _, rfl, hx, S.cl, S.n1, by decide, ?_⟩
    obtain ⟨H1, q1⟩ : ∃ H1, upd H x (.ins CT dx (putF ("drawn" : Str) (.ref dv) [])) = H1 := ⟨_, rfl⟩
    rw [q1]
    have f1 : ∀ b o, b ≠ x → H b = some o → H1 b = some o := fun b o hb e => by rw [← q1, upd_ne hb]; exact e
    have x1 : H1 x = some (.ins CT dx (putF ("drawn" : Str) (.ref dv) [])) := by rw [← q1, upd_same]
    have seq1 : ∀ {a : Addr} {zs : List V}, SqL K H a zs → SqL K H1 a zs := fun {a zs} h => by
      rcases h with (h | ⟨o, h⟩) | h
      · exact .inl (.inl (f1 _ _ (ne_of h hx (by intro z; cases z)) h))
      · exact .inl (.inr ⟨o, f1 _ _ (ne_of h hx (by intro z; cases z)) h⟩)
      · exact .inr h
    refine ⟨_, rfl, nq, _, rfl, .inl (seq1 hn), fun nl nnl => ?_⟩
    obtain ⟨H2, q2, s2, hnl⟩ := newAt (.lst xs) nnl
    rw [q2]
    refine ⟨_, rfl, x, CT, dx, _, rfl, s2 _ _ x1, S.cl, S.n2, (by show 1 < 1000; decide), ?_⟩
    obtain ⟨H3, q3⟩ : ∃ H3, upd H2 x (.ins CT dx (putF ("numbers" : Str) (.ref nl) (putF ("drawn" : Str) (.ref dv) []))) = H3 := ⟨_, rfl⟩
    rw [q3]
    have nlx : nl ≠ x := (ne_of_none x1 nnl).symm
    have f3 : ∀ b o, b ≠ x → H2 b = some o → H3 b = some o := fun b o hb e => by rw [← q3, upd_ne hb]; exact e
    have x3 : H3 x = some (.ins CT dx (putF ("numbers" : Str) (.ref nl) (putF ("drawn" : Str) (.ref dv) []))) := by rw [← q3, upd_same]
    have seq3 : SqL K H3 pq ys := by
      rcases seq1 hp with (h | ⟨o, h⟩) | h
      · exact .inl (.inl (f3 _ _ (ne_of h x1 (by intro z; cases z)) (s2 _ _ h)))
      · exact .inl (.inr ⟨o, f3 _ _ (ne_of h x1 (by intro z; cases z)) (s2 _ _ h)⟩)
      · exact .inr h
    refine ⟨_, rfl, pq, _, rfl, .inl seq3, fun pl npl => ?_⟩
    obtain ⟨H4, q4, s4, hpl⟩ := newAt (.lst ys) npl
    rw [q4]
    refine ⟨_, rfl, x, CT, dx, _, rfl, s4 _ _ x3, S.cl, S.n3, (by show 2 < 1000; decide), ?_⟩
    have nl3 := f3 _ _ nlx hnl
    have nlpl : nl ≠ pl := ne_of_none nl3 npl
    have plx : pl ≠ x := (ne_of_none x3 npl).symm
    have free3 : ∀ b, b ≠ x → H3 b = none → H1 b = none := fun b hb e => by
      cases z : H1 b with
      | none => rfl
      | some o => rw [f3 b o hb (s2 _ _ z)] at e; cases e
    have free1 : ∀ b, b ≠ x → H1 b = none → H b = none := fun b hb e => by
      cases z : H b with
      | none => rfl
      | some o => rw [f1 b o hb z] at e; cases e
    refine k nl pl _ (fun b o hb e => ?_) (by rw [upd_same]; rfl) (free1 _ nlx nnl) (free1 _ plx (free3 _ plx npl)) nlpl (by rw [upd_ne nlx]; exact s4 _ _ nl3) (by rw [upd_ne plx]; exact hpl)
    rw [upd_ne hb]
    exact s4 _ _ (f3 b o hb (s2 _ _ (f1 b o hb e)))
theorem sc_perform : FnScope ["state", "operation", "action", "values"] ["state", "operation"] (defScope s_perform) := ⟨rfl, rfl, rfl, by decide +kernel, rfl, by decide +kernel, by decide +kernel⟩
theorem ok_perform {f aA fF fP fA fJ fR : Addr} {fd : FuncData} (F : Fun K "perform" "perform" s_perform f fd) (KB : K.In base) (mA : mg "ACTIONS" = some (.ref aA))
    (kF : KDct K w aA "fire" (.ref fF)) (kP : KDct K w aA "put" (.ref fP)) (kA : KDct K w aA "add_node" (.ref fA)) (kJ : KDct K w aA "add_edge" (.ref fJ)) (kR : KDct K w aA "remove_edge" (.ref fR))
    (mF : mg "fire_node" = some (.ref fF)) (mP : mg "put_number" = some (.ref fP)) (mAn : mg "append_node" = some (.ref fA)) (mJ : mg "join_nodes" = some (.ref fJ)) (mR : mg "part_nodes" = some (.ref fR))
    (GF : At P w K mg base (L2.CX P w) 8 "fire_node" ["state", "player", "node"] (spAct CG CT CPl CNg CE CM isFire)) (GP : At P w K mg base (L2.CX P w) 8 "put_number" ["state", "node", "number"] (spAct CG CT CPl CNg CE CM isPut))
    (GA : At P w K mg base (L2.CX P w) 8 "append_node" ["state", "number"] (spAct CG CT CPl CNg CE CM isAdd)) (GJ : At P w K mg base (L2.CX P w) 8 "join_nodes" ["state", "one", "two"] (spAct CG CT CPl CNg CE CM isJoin))
    (GR : At P w K mg base (L2.CX P w) 8 "part_nodes" ["state", "one", "two"] (spAct CG CT CPl CNg CE CM isPart)) :
    FnOk P w K mg base (L2.CX P w) 9 f fd ["state", "operation"] (spPerform CG CT CPl CNg CE CM) := by
  have inj : ∀ {x : Str} {a b : Addr}, mg x = some (.ref a) → mg x = some (.ref b) → a = b := fun h1 h2 => by
    rw [h1] at h2
    injection h2 with h2
    injection h2
  obtain ⟨gF, gdF, GF, m1, p1, b1⟩ := GF
  obtain rfl := inj m1 mF
  obtain ⟨gP, gdP, GP, m2, p2, b2⟩ := GP
  obtain rfl := inj m2 mP
  obtain ⟨gA, gdA, GA, m3, p3, b3⟩ := GA
  obtain rfl := inj m3 mAn
  obtain ⟨gJ, gdJ, GJ, m4, p4, b4⟩ := GJ
  obtain rfl := inj m4 mJ
  obtain ⟨gR, gdR, GR, m5, p5, b5⟩ := GR
  obtain rfl := inj m5 mR
  have HS : ∀ f sp, (f = gF ∧ sp = spAct CG CT CPl CNg CE CM isFire ∨ f = gP ∧ sp = spAct CG CT CPl CNg CE CM isPut ∨ f = gA ∧ sp = spAct CG CT CPl CNg CE CM isAdd ∨ f = gJ ∧ sp = spAct CG CT CPl CNg CE CM isJoin ∨ f = gR ∧ sp = spAct CG CT CPl CNg CE CM isPart) →
      FnR P w K mg base (L2.CX P w) 8 f sp ∧ PySem.W.keepIn K (.ref f) = true := fun f sp h => by
    rcases h with ⟨rfl, rfl⟩ | ⟨rfl, rfl⟩ | ⟨rfl, rfl⟩ | ⟨rfl, rfl⟩ | ⟨rfl, rfl⟩
    · exact ⟨fnR_of GF b1 KB, p1⟩
    · exact ⟨fnR_of GP b2 KB, p2⟩
    · exact ⟨fnR_of GA b3 KB, p3⟩
    · exact ⟨fnR_of GJ b4 KB, p4⟩
    · exact ⟨fnR_of GR b5 KB, p5⟩
  refine F.okX sc_perform (fun vs H Q E h => ?_) (fun cdv A' outer s H vs Q E hr h => ?_)
  · obtain ⟨A, so, M, g, nl, pl, t, op, rfl, _⟩ := h
    rfl
  · obtain ⟨A, so, M, g, nl, pl, t, op, rfl, h5, ht, st, ok, hd⟩ := h
    have nd := sc_perform.nd
    refine ⟨_, pss_cons (ps_set (i := 2) nd rfl (Or.inl rfl) (pe_ix (r := rIxD K w) ix_kdict (pe_glob (v := .ref aA) (by rfl) mA rfl) (pe_ix (r := rIxT K) ix_tup (pv 1) pe_int (fun _ _ => rfl)) (fun _ _ => rfl)))
      (pss_cons (ps_set (i := 3) nd rfl (Or.inl rfl) (pe_slice sl_tup (pv 1) (po_some pe_int) po_none))
      (pss_one (ps_ret (pe_callAS (i := 2) HS hr rfl (Or.inl rfl) (passes_call (E := E) (takes_of rfl rfl rfl rfl) (fun _ _ _ _ h => h)) (pa_cons (pv 0) (StX.pa_star (pv 3) pa_nil)))))), ?_⟩
    have cutT : cutV (opV op) (some 1) none = (opV op).tail ∧ 2 ≤ (opV op).length := by
      cases op <;> first | exact ⟨rfl, (by show 2 ≤ 3; decide)⟩ | exact ⟨rfl, (by show 2 ≤ 2; decide)⟩ | cases h5
    obtain ⟨h6, h7⟩ := cutT
    obtain ⟨f, kind, key, h1, h2, h3, h4⟩ : ∃ (f : Addr) (kind : Op → Bool) (key : Str), kind op = true ∧ opV op = .str key :: (opV op).tail ∧ KDct K w aA key (.ref f) ∧
        (f = gF ∧ spAct CG CT CPl CNg CE CM kind = spAct CG CT CPl CNg CE CM isFire ∨ f = gP ∧ spAct CG CT CPl CNg CE CM kind = spAct CG CT CPl CNg CE CM isPut ∨ f = gA ∧ spAct CG CT CPl CNg CE CM kind = spAct CG CT CPl CNg CE CM isAdd ∨ f = gJ ∧ spAct CG CT CPl CNg CE CM kind = spAct CG CT CPl CNg CE CM isJoin ∨ f = gR ∧ spAct CG CT CPl CNg CE CM kind = spAct CG CT CPl CNg CE CM isPart) := by
      cases op with
      | fire p v => exact ⟨gF, isFire, _, rfl, rfl, kF, .inl ⟨rfl, rfl⟩⟩
      | put v z => exact ⟨gP, isPut, _, rfl, rfl, kP, .inr (.inl ⟨rfl, rfl⟩)⟩
      | add z => exact ⟨gA, isAdd, _, rfl, rfl, kA, .inr (.inr (.inl ⟨rfl, rfl⟩))⟩
      | join a b => exact ⟨gJ, isJoin, _, rfl, rfl, kJ, .inr (.inr (.inr (.inl ⟨rfl, rfl⟩)))⟩
      | part a b => exact ⟨gR, isPart, _, rfl, rfl, kR, .inr (.inr (.inr (.inr ⟨rfl, rfl⟩)))⟩
      | back p v => cases h5
      | drop => cases h5
    refine ⟨_, rfl, t, _, (0 : Int), .str key, rfl, rfl, SqT.of ht, by rw [h2]; exact atI_nat (j := 0) rfl, aA, key, .ref f, rfl, rfl, h3, ?_⟩
    refine ⟨_, rfl, (1 : Int), rfl, t, _, rfl, SqT.of ht, ?_, fun tv ntv => ?_⟩
    · intro z
      have := HT.sIx_nat (opV op).length 0 1
      rw [show ((1 : Nat) : Int) = 1 from rfl] at this
      rw [this] at z
      omega
    rw [h6]
    obtain ⟨H1, q1, s1, htv⟩ := newAt (.tup (opV op).tail) ntv
    rw [q1]
    refine ⟨f, spAct CG CT CPl CNg CE CM kind, rfl, h4, _, rfl, _, rfl, tv, _, rfl, .inl (SqT.of htv), ?_⟩
    exact ⟨A, so, M, g, nl, pl, op, h1, by rw [List.append_nil], st.same s1, ok, hd.same s1⟩
end
end K71
set_option Elab.async false
set_option linter.all false
set_option maxRecDepth 100000
set_option maxHeartbeats 8000000
namespace K71
open PySem PySem.Spec PyProof.Rows L2 FNX
def bflds (so pk : Addr) : List (Str × V) := [("state", .ref so), ("past", .ref pk)]
theorem bl_s (so pk : Addr) : (bflds so pk).lookup ("state" : Str) = some (V.ref so) := rfl
theorem bl_p (so pk : Addr) : (bflds so pk).lookup ("past" : Str) = some (V.ref pk) := rfl
structure BTxt (K : PySem.W.Frag) (mg : Str → Option Value) (CB : Addr) : Prop where
  cl : Cls K CB
  n1 : NoAttr K CB "state"
  n2 : NoAttr K CB "past"
  mgC : mg "Board" = some (.ref CB)
/-- an entry of the log with what undoes it -/
inductive En
  | one (op inv : Op)
  | many (ops invs : List Op)
def OpsAt (H : Hp) (ts : List Addr) (ops : List Op) : Prop := ts.length = ops.length ∧ ∀ (k : Nat) (t : Addr), ts[k]? = some t → ∃ op, ops[k]? = some op ∧ H t = some (.tup (opV op))
def EntAt (H : Hp) (e : Addr) : En → Prop
  | .one op inv => ∃ o u iv, H e = some (.tup [.ref o, .ref u]) ∧ H o = some (.tup (opV op)) ∧ H u = some (.lst [.ref iv]) ∧ H iv = some (.tup (opV inv))
  | .many ops invs => ∃ o l u ts us, H e = some (.tup [.ref o, .ref u]) ∧ H o = some (.tup [.str "together", .ref l]) ∧ H l = some (.lst (ts.map V.ref)) ∧ OpsAt H ts ops ∧ H u = some (.lst (us.map V.ref)) ∧ OpsAt H us invs
def EntsAt (H : Hp) (es : List Addr) (log : List En) : Prop := es.length = log.length ∧ ∀ (k : Nat) (e : Addr), es[k]? = some e → ∃ en, log[k]? = some en ∧ EntAt H e en
structure BdAt (CG CT CB : Addr) (A : List Addr) (H : Hp) (b so pk : Addr) (M : Mo) (g nl pl : Addr) (log : List En) : Prop where
  obj : ∃ dx, H b = some (.ins CB dx (bflds so pk))
  st : StAt CG CT A H so M g nl pl
  past : ∃ es : List Addr, H pk = some (.lst (es.map V.ref)) ∧ Stb A H fun H' => EntsAt H' es log
  kn : pk ≠ nl
  kp : pk ≠ pl
  bA : b ∈ A
  kA : pk ∈ A
  few : log.length ≤ 1000
theorem BdAt.same {CG CT CB : Addr} {A : List Addr} {H H' : Hp} {b so pk : Addr} {M : Mo} {g nl pl : Addr} {log : List En} (h : BdAt CG CT CB A H b so pk M g nl pl log) (s : Same H H') : BdAt CG CT CB A H' b so pk M g nl pl log := by
  obtain ⟨⟨dx, h1⟩, h2, ⟨es, h3, h4⟩, h5, h6, h7, h8, h9⟩ := h
  exact ⟨⟨dx, s _ _ h1⟩, h2.same s, ⟨es, s _ _ h3, h4.step (sameFr s)⟩, h5, h6, h7, h8, h9⟩
def spCarry (CG CT CB CPl CNg CE CM : Addr) (kind : Op → Bool) (argsOf : Op → Addr → Hp → List V → Prop) : Sp := fun vs H Q E => ∃ (A : List Addr) (b so pk : Addr) (M : Mo) (g nl pl : Addr) (log : List En) (op : Op), kind op = true ∧ argsOf op b H vs ∧ BdAt CG CT CB A H b so pk M g nl pl log ∧ log.length < 1000 ∧ okOp M op ∧
  (match stepM M op with
  | .error er => toldEr CPl CNg CE CM er H E
  | .ok r => ∀ (g' : Addr) (H' : Hp), FrL [so, nl, pl, pk] H H' → BdAt CG CT CB A H' b so pk r.1 g' nl pl (log ++ [.one op (invM M op)]) → Q r.2 H')
def byTup : Op → Addr → Hp → List V → Prop := fun op b H vs => ∃ t, vs = [.ref b, .ref t] ∧ H t = some (.tup (opV op))
def byArgs : Op → Addr → Hp → List V → Prop := fun op b _ vs => vs = .ref b :: (opV op).tail
def spBoardPos (CG CT CB : Addr) : Sp := fun vs H Q _ => ∃ (A : List Addr) (b so pk : Addr) (M : Mo) (g nl pl : Addr) (log : List En), vs = [.ref b] ∧ BdAt CG CT CB A H b so pk M g nl pl log ∧ ∀ q H', H q = none → Same H H' → H' q = some (.lst (M.x.map V.int)) → Q (.ref q) H'
def spBoardSco (CG CT CB : Addr) : Sp := fun vs H Q _ => ∃ (A : List Addr) (b so pk : Addr) (M : Mo) (g nl pl : Addr) (log : List En), vs = [.ref b] ∧ BdAt CG CT CB A H b so pk M g nl pl log ∧ ∀ q H', H q = none → Same H H' → H' q = some (.lst (M.sc.map V.int)) → Q (.ref q) H'
def spBoardGr (CG CT CB : Addr) : Sp := fun vs H Q _ => ∃ (A : List Addr) (b so pk : Addr) (M : Mo) (g nl pl : Addr) (log : List En), vs = [.ref b] ∧ BdAt CG CT CB A H b so pk M g nl pl log ∧ Q (.ref g) H
section
variable {P : Program} {w : World} {K : PySem.W.Frag} {mg : Str → Option Value} {base : Heap} {CG CT CB CPl CNg CE CM CN CNu CS CP : Addr}
theorem sc_carry : FnScope ["self", "operation", "result", "inverse"] ["self", "operation"] (defScope s_Board_carry_out) := ⟨rfl, rfl, rfl, by decide +kernel, rfl, by decide +kernel, by decide +kernel⟩
theorem ok_carry {f : Addr} {fd : FuncData} (F : Fun K "carry_out" "Board.carry_out" s_Board_carry_out f fd) (B : BTxt K mg CB) (GPe : At P w K mg base (L2.CX P w) 9 "perform" ["state", "operation"] (spPerform CG CT CPl CNg CE CM)) :
    FnOk P w K mg base (L2.CX P w) 10 f fd ["self", "operation"] (spCarry CG CT CB CPl CNg CE CM isFive byTup) := by
  obtain ⟨fPe, fdPe, GPe, mPe, kPe, bPe⟩ := GPe
  refine F.okX sc_carry (fun vs H Q E h => ?_) (fun cdv A' outer s H vs Q E hr h => ?_)
  · obtain ⟨A, b, so, pk, M, g, nl, pl, log, op, _, ⟨t, rfl, _⟩, _⟩ := h
    rfl
  · obtain ⟨A, b, so, pk, M, g, nl, pl, log, op, h5, ⟨t, rfl, ht⟩, bd, hl, ok, hd⟩ := h
    have nd := sc_carry.nd
    obtain ⟨⟨dx, h1⟩, st, ⟨es, h3, h4⟩, kn, kp, bA, kA, few⟩ := id bd
    refine ⟨_, (pss_cons (ps_asg (pe_call GPe (hr.mono (by decide)) (by rfl) mPe kPe bPe .nil (passes_call (E := E) (takes_of rfl rfl rfl rfl) (fun _ _ _ _ h => h)) (pa_cons (pe_fld (pv 0) rfl) (pa_cons (pv 1) pa_nil))) (pg_tup rfl (pgs_cons (pg_name (i := 2) nd rfl (Or.inl rfl)) (pgs_cons (pg_name (i := 3) nd rfl (Or.inl rfl)) pgs_nil))))
      (pss_cons (ps_expr (pe_bm PySem.F.plainAttrs_list PySem.F.slot_list_append PySem.F.type_list_append mt_append (pe_fld (pv 0) rfl) (pa_cons (pe_tup (pa_cons (pv 1) (pa_cons (pe_lst (pa_cons (pv 3) pa_nil)) pa_nil))) pa_nil)))
      (pss_one (ps_ret (pv 2))))), ?_⟩
    refine ⟨_, rfl, b, CB, dx, _, _, rfl, h1, B.cl, B.n1, bl_s _ _, _, rfl, A, so, M, g, nl, pl, t, op, rfl, h5, ht, st, ok, ?_⟩
    unfold opDone
    cases e : stepM M op with
    | error er =>
      rw [e] at hd
      exact hd
    | ok r =>
      rw [e] at hd
      intro T iv g' H1 fr st1 nT hT hiv
      have sub := st.sub
      have soK : so ≠ pk := fun z => by
        obtain ⟨dxs, o⟩ := st.obj
        rw [z, h3] at o
        cases o
      have nin : ∀ {c : Addr}, c ≠ so → c ≠ nl → c ≠ pl → c ∉ [so, nl, pl] := fun a1 a2 a3 => by simp [a1, a2, a3]
      have h31 := fr _ _ (nin soK.symm kn kp) h3
      have bK : b ≠ pk := ne_of h1 h3 (by intro z; cases z)
      have bS : b ≠ so := fun z => by
        obtain ⟨dxs, o⟩ := st.obj
        rw [z, o] at h1
        injection h1 with h1
        injection h1 with _ _ h1
        unfold sflds bflds at h1
        injection h1 with _ h1
        injection h1 with _ h1
        cases h1
      have bN : b ≠ nl := ne_of h1 st.num (by intro z; cases z)
      have bP : b ≠ pl := ne_of h1 st.pts (by intro z; cases z)
      have h11 := fr _ _ (nin bS bN bP) h1
      have ht1 := fr _ _ (nin (fun z => by
        obtain ⟨dxs, o⟩ := st.obj
        rw [← z, ht] at o
        cases o) (ne_of ht st.num (by intro z; cases z)) (ne_of ht st.pts (by intro z; cases z))) ht
      have h41 := h4.step (fr.mono sub)
      refine ⟨T, _, rfl, SqT.of hT, rfl, _, _, rfl, _, _, rfl, rfl, ?_⟩
      refine ⟨_, rfl, b, CB, dx, _, _, rfl, h11, B.cl, B.n2, bl_p _ _, .inl ⟨rfl, _, SqL.of h31⟩, _, rfl, _, rfl, by show 1 ≤ sizeLine; decide, fun u nu => ?_⟩
      obtain ⟨H2, q2, s2, hu⟩ := newAt (.lst [V.ref iv]) nu
      rw [q2]
      refine ⟨by show 2 ≤ sizeLine; decide, fun e0 ne0 => ?_⟩
      obtain ⟨H3, q3, s3, he0⟩ := newAt (.tup [V.ref t, V.ref u]) ne0
      rw [q3]
      have s13 := s2.trans s3
      have h33 := s13 _ _ h31
      have les : es.length = log.length := h4.at.1
      refine ⟨pk, _, _, rfl, rfl, h33, by rw [List.length_map, sizeLine_eq]; omega, ?_⟩
      obtain ⟨H4, q4⟩ : ∃ H4, upd H3 pk (.lst (es.map V.ref ++ [V.ref e0])) = H4 := ⟨_, rfl⟩
      have fr34 : FrL [so, nl, pl, pk] H3 H4 := by rw [← q4]; exact frUpd (by simp)
      have frA : FrL A H3 H4 := by rw [← q4]; exact frUpd kA
      rw [q4]
      refine ⟨_, rfl, hd g' H4 ((((fr.mono (fun c hc => by simp only [List.mem_cons] at *; rcases hc with h | h | h | h <;> simp_all)).trans (sameFr s13)).trans fr34)) ?_⟩
      have st3 := st1.same s13
      have uN : u ∉ A := st1.dom.new nu
      refine ⟨⟨dx, by rw [← q4, upd_ne bK]; exact s13 _ _ h11⟩, ?_, ⟨es ++ [e0], by rw [← q4, upd_same, List.map_append]; rfl, fun H5 f5 => ?_⟩, kn, kp, bA, kA, by rw [List.length_append]; show log.length + 1 ≤ 1000; omega⟩
      · obtain ⟨⟨dxs, o1⟩, o2, o3, o4, o5, o6, o7, o8, o9, o10, o11⟩ := st3
        exact ⟨⟨dxs, by rw [← q4, upd_ne soK]; exact o1⟩, o2.step frA, by rw [← q4, upd_ne kn.symm]; exact o3, by rw [← q4, upd_ne kp.symm]; exact o4, o5, o6, o7, o8, o9, o10, by rw [← q4]; exact o11.upd (fun vs z => by cases z)⟩
      · have old := (h41.step (sameFr s13)) H5 (frA.trans f5)
        have tupA : ∀ {c : Addr} {vs : List V}, H3 c = some (.tup vs) → H5 c = some (.tup vs) := fun {c vs} hc => by
          refine (frA.trans f5) c _ (fun hA => ?_) hc
          obtain ⟨o, eo, no⟩ := st3.dom c hA
          rw [hc] at eo
          exact no _ (Option.some.inj eo).symm
        refine ⟨by rw [List.length_append, List.length_append, les]; rfl, fun k e hk => ?_⟩
        by_cases hlt : k < es.length
        · rw [List.getElem?_append_left hlt] at hk
          obtain ⟨en, z1, z2⟩ := old.2 k e hk
          exact ⟨en, by rw [List.getElem?_append_left (by omega)]; exact z1, z2⟩
        · rw [List.getElem?_append_right (by omega)] at hk
          have hk' : k = es.length := by
            have := (List.getElem?_eq_some_iff.mp hk).1
            simp at this
            omega
          subst hk'
          rw [Nat.sub_self] at hk
          obtain rfl := Option.some.inj hk
          refine ⟨.one op (invM M op), by rw [les, List.getElem?_append_right (Nat.le_refl _), Nat.sub_self]; rfl, t, u, iv, tupA he0, tupA (s13 _ _ ht1), ?_, tupA (s13 _ _ hiv)⟩
          exact (frA.trans f5) u _ uN (s3 _ _ hu)
end
end K71
set_option Elab.async false
set_option linter.all false
set_option maxRecDepth 100000
set_option maxHeartbeats 8000000
namespace K71
open PySem PySem.Spec PyProof.Rows L2 FNX
theorem Stb.new {A L : List Addr} {H H' : Hp} {Φ : Hp → Prop} (h : Stb A H Φ) (f : FrL A H H') (n : ∀ c ∈ L, H c = none) : Stb (L ++ A) H' Φ := fun H2 f2 => h H2 fun b o hb e =>
  f2 b o (fun z => by
    rcases List.mem_append.mp z with z | z
    · rw [n b z] at e
      cases e
    · exact hb z) (f b o hb e)
theorem stepNon {M : Mo} {op : Op} {r : Mo × V} (h : stepM M op = .ok r) (n : isAdd op = false) : r.2 = .non := by
  cases op with
  | fire p v =>
    unfold stepM at h
    dsimp only at h
    split at h
    · cases h
    · split at h
      · cases h
      · injection h with h
        rw [← h]
  | back p v =>
    injection h with h
    rw [← h]
  | put v z =>
    injection h with h
    rw [← h]
  | add z => cases n
  | drop =>
    injection h with h
    rw [← h]
  | join a b =>
    unfold stepM at h
    dsimp only at h
    split at h
    · cases h
    · split at h
      · cases h
      · injection h with h
        rw [← h]
  | part a b =>
    unfold stepM at h
    dsimp only at h
    split at h
    · injection h with h
      rw [← h]
    · cases h
theorem repZ (p : Nat) : (List.replicate p [V.int 0]).flatten = (List.replicate p (0 : Int)).map V.int := by
  induction p with
  | zero => rfl
  | succ p ih =>
    rw [List.replicate_succ, List.replicate_succ, List.flatten_cons, ih]
    rfl
theorem strNe {a b : Str} (h : (a == b) = false) : decide (V.str a = V.str b) = false := decide_eq_false fun z => by
  injection z with z
  rw [z, beq_self_eq_true] at h
  cases h
def spBInit (K : PySem.W.Frag) (CG CT CB : Addr) : Sp := fun vs H Q _ => ∃ (A : List Addr) (b dx g q : Addr) (n : Nat) (es : List (Int × Int)) (x : List Int) (p : Nat), vs = [.ref b, .ref g, .ref q, .int (p : Int)] ∧ H b = some (.ins CB dx []) ∧ b ∈ A ∧ Dom A H ∧ (Stb A H fun H' => GE CG H' g n es) ∧
  SqL K H q (x.map V.int) ∧ x.length = n ∧ 1 ≤ p ∧ p ≤ 8 ∧
  ∀ (so nl pl pk : Addr) (H' : Hp), (∀ c o, c ≠ b → H c = some o → H' c = some o) → H so = none → H nl = none → H pl = none → H pk = none → BdAt CG CT CB (so :: nl :: pl :: pk :: A) H' b so pk ⟨n, es, x, List.replicate p 0⟩ g nl pl [] → Q .non H'
def opOf : En → Option Op
  | .one op _ => some op
  | .many _ _ => none
/-- a log of single operations -/
def Ones (log : List En) (ops : List Op) : Prop := log.map opOf = ops.map some
def spBoardLog (CG CT CB : Addr) : Sp := fun vs H Q _ => ∃ (A : List Addr) (b so pk : Addr) (M : Mo) (g nl pl : Addr) (log : List En) (ops : List Op), vs = [.ref b] ∧ BdAt CG CT CB A H b so pk M g nl pl log ∧ Ones log ops ∧
  ∀ (q : Addr) (ts : List Addr) H', H q = none → Same H H' → H' q = some (.lst (ts.map V.ref)) → OpsAt H' ts ops → Q (.ref q) H'
def spWritten (K : PySem.W.Frag) : Sp := fun vs H Q _ => ∃ (t : Addr) (op : Op), vs = [.ref t] ∧ H t = some (.tup (opV op)) ∧ Q (.ref t) H
section
variable {P : Program} {w : World} {K : PySem.W.Frag} {mg : Str → Option Value} {base : Heap} {CG CT CB CPl CNg CE CM CN CNu CS CP : Addr}
theorem sc_binit : FnScope ["self", "graph", "position", "players"] ["self", "graph", "position", "players"] (defScope s_Board_init) := ⟨rfl, rfl, rfl, by decide +kernel, rfl, by decide +kernel, by decide +kernel⟩
theorem ok_binit {f fSI : Addr} {fd fdSI : FuncData} {dvs : List V} {kws : List (Str × V)} (F : FunD K "__init__" "Board.__init__" (defArgs s_Board_init) (defBody s_Board_init) (defScope s_Board_init) dvs kws f fd) (M : Nms mg) (T : GTxt K mg CG) (S : STxt K mg CT) (B : BTxt K mg CB) {t8 : Tok} (m8 : mg "MOST_PLAYERS" = some (.int 8 t8))
    (GCp : At P w K mg base (L2.CX P w) 3 "check_position" ["size", "position"] (spCheckPos K CP)) (GW : At P w K mg base CX0 2 "is_integer_within" ["thing", "low", "high"] (spWithin K)) (GSz : MAt P w K mg base CG CX0 1 "size" ["self"] (spSizeE CG))
    (MKS : Mk K CT fSI) (GSI : FnOk P w K mg base CX0 1 fSI fdSI ["self", "drawn", "numbers", "points"] (spSInit K CT)) (bSI : L2.Binds K fdSI ["self", "drawn", "numbers", "points"] []) :
    FnOk P w K mg base (L2.CX P w) 6 f fd ["self", "graph", "position", "players"] (spBInit K CG CT CB) := by
  obtain ⟨fCp, fdCp, GCp, mCp, kCp, bCp⟩ := GCp
  obtain ⟨fW, fdW, GW, mW, kW, bW⟩ := GW
  obtain ⟨fSz, fdSz, GSz, mSz, bSz⟩ := GSz
  refine F.ok sc_binit (fun vs H Q E h => ?_) (fun cdv A' outer s H vs Q E hr h => ?_)
  · obtain ⟨A, b, dx, g, q, n, es, x, p, rfl, _⟩ := h
    rfl
  · obtain ⟨A, b, dx, g, q, n, es, x, p, rfl, hb, bA, dom, hg, hq, hlen, p1, p8, k⟩ := h
    have nd := sc_binit.nd
    have n1 := hg.at.n1
    have n16 := hg.at.n16
    obtain ⟨dxg, jg, nrg, Ng, og, _⟩ := hg.at.obj
    refine ⟨_, (pss_cons (ps_expr (pe_call GCp (hr.mono (by decide)) (by rfl) mCp kCp bCp .nil (passes_call (E := E) (takes_of rfl rfl rfl rfl) (fun _ _ _ _ h => h)) (pa_cons (pe_meth0 (pv 1) T.cl mSz GSz (hr.mono (by decide)) bSz .nil pass0) (pa_cons (pv 2) pa_nil))))
      (pss_cons (ps_if (pt_not (pt_val (pe_call GW (hr.mono (by decide)) (by rfl) mW kW bW .nil pass0 (pa_cons (pv 3) (pa_cons pe_int (pa_cons (pe_glob (v := .int 8) (by rfl) m8 ⟨_, rfl⟩) pa_nil)))))) (pss_one ps_never) pss_nil)
      (pss_cons (ps_fld (pv 0) (pe_make MKS GSI (hr.mono (by decide)) (by rfl) S.mgC bSI .nil pass0 (pa_cons (pv 1) (pa_cons (pv 2) (pa_cons (pe_op op_rep (pe_lst (pa_cons pe_int pa_nil)) (pv 3)) pa_nil)))) rfl)
      (pss_one (ps_fld (pv 0) (pe_lst pa_nil) rfl))))), ?_⟩
    refine ⟨_, rfl, g, dxg, _, rfl, og, rfl, g, n, es, rfl, hg.at, _, rfl, .ref q, posD x, n, rfl, .dat (.lst hq (dpInts x)), by show (x.map PyData.int).length ≤ 100000; rw [List.length_map]; omega, fun H1 s1 _ => ?_, fun H' dd s' nd' hx z => by rw [ilPos hlen] at z; cases z⟩
    refine ⟨_, rfl, .int (p : Int), .int (p : Int), 1, 8, rfl, .dat (.int _), _, rfl, ?_⟩
    rw [show within 1 8 (.int (p : Int)) = true from by
      show (decide ((1 : Int) ≤ p) && decide ((p : Int) ≤ 8)) = true
      rw [decide_eq_true (by omega), decide_eq_true (by omega)]
      rfl]
    refine iteF ?_
    refine ⟨_, rfl, _, rfl, by show 1 ≤ sizeLine; decide, fun z nz => ?_⟩
    obtain ⟨H2, q2, s2, hz⟩ := newAt (.lst [V.int 0]) nz
    rw [q2]
    refine ⟨_, rfl, z, (p : Int), _, rfl, rfl, hz, by omega, by omega, by rw [sizeLine_eq, Int.toNat_natCast]; show 1 * p ≤ _; omega, fun pq npq => ?_⟩
    rw [Int.toNat_natCast, repZ]
    obtain ⟨H3, q3, s3, hpq⟩ := newAt (.lst ((List.replicate p (0 : Int)).map V.int)) npq
    rw [q3]
    intro so ds nso nds dne
    have sx := preS (CG := CT) nso nds dne
    have s13 := (s1.trans s2).trans s3
    refine ⟨so, ds, q, pq, g, _, _, rfl, upd_same, (s13.trans sx).seq hq, sx.seq (SqL.of hpq), fun nl pl H4 up hso nnl npl nlpl hnl hpl => ⟨rfl, ?_⟩⟩
    have s34 : Same H3 H4 := fun c o e => up c o (ne_of_none e nso) (sx _ _ e)
    have s04 := s13.trans s34
    have hb4 := s04 _ _ hb
    have nso0 := s13.free nso
    have nnl0 := s13.free (sx.free nnl)
    have npl0 := s13.free (sx.free npl)
    refine ⟨_, rfl, b, CB, dx, _, rfl, hb4, B.cl, B.n1, by decide, ?_⟩
    obtain ⟨H5, q5⟩ : ∃ H5, upd H4 b (.ins CB dx (putF ("state" : Str) (.ref so) [])) = H5 := ⟨_, rfl⟩
    have f5 : ∀ c o, c ≠ b → H4 c = some o → H5 c = some o := fun c o hc e => by rw [← q5, upd_ne hc]; exact e
    have hb5 : H5 b = some (.ins CB dx (putF ("state" : Str) (.ref so) [])) := by rw [← q5, upd_same]
    rw [q5]
    refine ⟨by show 0 ≤ sizeLine; decide, fun pk npk => ?_⟩
    obtain ⟨H6, q6, s6, hpk⟩ := newAt (.lst []) npk
    rw [q6]
    refine ⟨_, rfl, b, CB, dx, _, rfl, s6 _ _ hb5, B.cl, B.n2, by show 1 < 1000; decide, ?_⟩
    obtain ⟨H7, q7⟩ : ∃ H7, upd H6 b (.ins CB dx (putF ("past" : Str) (.ref pk) (putF ("state" : Str) (.ref so) []))) = H7 := ⟨_, rfl⟩
    rw [q7]
    have f7 : ∀ c o, c ≠ b → H6 c = some o → H7 c = some o := fun c o hc e => by rw [← q7, upd_ne hc]; exact e
    have hb7 : H7 b = some (.ins CB dx (bflds so pk)) := by rw [← q7, upd_same]; rfl
    have f47 : ∀ c o, c ≠ b → H4 c = some o → H7 c = some o := fun c o hc e => f7 c o hc (s6 _ _ (f5 c o hc e))
    have soB : so ≠ b := (ne_of_none hb nso0).symm
    have nlB : nl ≠ b := (ne_of_none hb nnl0).symm
    have plB : pl ≠ b := (ne_of_none hb npl0).symm
    have pkB : pk ≠ b := (ne_of_none hb5 npk).symm
    have npk4 : H4 pk = none := by rw [← q5, upd_ne pkB] at npk; exact npk
    have npk0 := s04.free npk4
    have f07 : ∀ c o, c ≠ b → H c = some o → H7 c = some o := fun c o hc e => f47 c o hc (s04 _ _ e)
    have so7 := f47 _ _ soB hso
    have nl7 := f47 _ _ nlB hnl
    have pl7 := f47 _ _ plB hpl
    have pk7 := f7 _ _ pkB hpk
    refine k so nl pl pk H7 f07 nso0 nnl0 npl0 npk0 ⟨⟨dx, hb7⟩, ⟨⟨ds, so7⟩, ?_, nl7, pl7, nlpl, hlen, by show (List.replicate p (0 : Int)).length ≤ 1000; rw [List.length_replicate]; omega, by simp, by simp, by simp, fun a ha => ?_⟩, ⟨[], pk7, fun H8 _ => ⟨rfl, fun k e z => by simp at z⟩⟩, (ne_of_none hnl npk4).symm, (ne_of_none hpl npk4).symm, by simp [bA], by simp, by show 0 ≤ 1000; omega⟩
    · refine Stb.new (L := [so, nl, pl, pk]) hg (fun c o hc e => f07 c o (fun z => hc (z ▸ bA)) e) (fun c hc => ?_)
      simp only [List.mem_cons, List.not_mem_nil, or_false] at hc
      rcases hc with rfl | rfl | rfl | rfl
      · exact nso0
      · exact nnl0
      · exact npl0
      · exact npk0
    · by_cases c : a = b
      · rw [c]
        exact ⟨_, hb7, fun vs z => by cases z⟩
      simp only [List.mem_cons] at ha
      rcases ha with rfl | rfl | rfl | rfl | ha
      · exact ⟨_, so7, fun vs z => by cases z⟩
      · exact ⟨_, nl7, fun vs z => by cases z⟩
      · exact ⟨_, pl7, fun vs z => by cases z⟩
      · exact ⟨_, pk7, fun vs z => by cases z⟩
      · obtain ⟨o, e, no⟩ := dom a ha
        exact ⟨o, f07 a o c e, no⟩
theorem sc_bfire : FnScope ["self", "player", "node"] ["self", "player", "node"] (defScope s_Board_fire) := ⟨rfl, rfl, rfl, by decide +kernel, rfl, by decide +kernel, by decide +kernel⟩
theorem sc_bput : FnScope ["self", "node", "number"] ["self", "node", "number"] (defScope s_Board_put) := ⟨rfl, rfl, rfl, by decide +kernel, rfl, by decide +kernel, by decide +kernel⟩
theorem sc_badd_node : FnScope ["self", "number"] ["self", "number"] (defScope s_Board_add_node) := ⟨rfl, rfl, rfl, by decide +kernel, rfl, by decide +kernel, by decide +kernel⟩
theorem ok_badd_node {f : Addr} {fd : FuncData} (F : Fun K "add_node" "Board.add_node" s_Board_add_node f fd) (B : BTxt K mg CB) (GCa : MAt P w K mg base CB (L2.CX P w) 10 "carry_out" ["self", "operation"] (spCarry CG CT CB CPl CNg CE CM isFive byTup)) :
    FnOk P w K mg base (L2.CX P w) 11 f fd ["self", "number"] (spCarry CG CT CB CPl CNg CE CM isAdd byArgs) := by
  obtain ⟨fCa, fdCa, GCa, mCa, bCa⟩ := GCa
  refine F.okX sc_badd_node (fun vs H Q E h => ?_) (fun cdv A' outer s H vs Q E hr h => ?_)
  · obtain ⟨A, b, so, pk, M, g, nl, pl, log, op, hk, hv, _⟩ := h
    cases op <;> first | cases hk | skip
    rw [show vs = _ from hv]
    rfl
  · obtain ⟨A, b, so, pk, M, g, nl, pl, log, op, hk, hv, bd, hl, ok, hd⟩ := h
    cases op <;> first | cases hk | skip
    rename_i z
    obtain rfl := show vs = _ from hv
    have nd := sc_badd_node.nd
    obtain ⟨dx, h1⟩ := bd.obj
    refine ⟨_, (pss_one (ps_ret (pe_meth (pv 0) B.cl mCa GCa (hr.mono (by decide)) bCa .nil (passes_call (E := E) (takes_of rfl rfl rfl rfl) (fun _ _ _ _ h => h)) (pa_cons (pe_tup (pa_cons pe_str (pa_cons (pv 1) pa_nil))) pa_nil)))), ?_⟩
    refine ⟨_, rfl, b, dx, _, rfl, h1, rfl, _, rfl, by show 2 ≤ sizeLine; decide, fun t nt => ?_⟩
    obtain ⟨H1, q1, s1, ht⟩ := newAt (.tup [V.str "add_node", V.int z]) nt
    rw [show (V.str _ :: _ : List V) = [V.str "add_node", V.int z] from rfl, q1]
    refine ⟨A, b, so, pk, M, g, nl, pl, log, (.add z), rfl, ⟨t, rfl, ht⟩, bd.same s1, hl, ok, ?_⟩
    cases e : stepM M (.add z) with
    | error er =>
      rw [e] at hd
      exact hd.same s1
    | ok r =>
      rw [e] at hd
      intro g' H' fr bd'
      have kk := hd g' H' ((sameFr s1).trans fr) bd'
      exact kk
theorem sc_badd_edge : FnScope ["self", "one", "two"] ["self", "one", "two"] (defScope s_Board_add_edge) := ⟨rfl, rfl, rfl, by decide +kernel, rfl, by decide +kernel, by decide +kernel⟩
theorem ok_badd_edge {f : Addr} {fd : FuncData} (F : Fun K "add_edge" "Board.add_edge" s_Board_add_edge f fd) (B : BTxt K mg CB) (GCa : MAt P w K mg base CB (L2.CX P w) 10 "carry_out" ["self", "operation"] (spCarry CG CT CB CPl CNg CE CM isFive byTup)) :
    FnOk P w K mg base (L2.CX P w) 11 f fd ["self", "one", "two"] (spCarry CG CT CB CPl CNg CE CM isJoin byArgs) := by
  obtain ⟨fCa, fdCa, GCa, mCa, bCa⟩ := GCa
  refine F.okX sc_badd_edge (fun vs H Q E h => ?_) (fun cdv A' outer s H vs Q E hr h => ?_)
  · obtain ⟨A, b, so, pk, M, g, nl, pl, log, op, hk, hv, _⟩ := h
    cases op <;> first | cases hk | skip
    rw [show vs = _ from hv]
    rfl
  · obtain ⟨A, b, so, pk, M, g, nl, pl, log, op, hk, hv, bd, hl, ok, hd⟩ := h
    cases op <;> first | cases hk | skip
    rename_i p v
    obtain rfl := show vs = _ from hv
    have nd := sc_badd_edge.nd
    obtain ⟨dx, h1⟩ := bd.obj
    refine ⟨_, (pss_one (ps_expr (pe_meth (pv 0) B.cl mCa GCa (hr.mono (by decide)) bCa .nil (passes_call (E := E) (takes_of rfl rfl rfl rfl) (fun _ _ _ _ h => h)) (pa_cons (pe_tup (pa_cons pe_str (pa_cons (pv 1) (pa_cons (pv 2) pa_nil)))) pa_nil)))), ?_⟩
    refine ⟨_, rfl, b, dx, _, rfl, h1, rfl, _, rfl, _, rfl, by show 3 ≤ sizeLine; decide, fun t nt => ?_⟩
    obtain ⟨H1, q1, s1, ht⟩ := newAt (.tup [V.str "add_edge", V.int (p : Int), V.int (v : Int)]) nt
    rw [show (V.str _ :: _ : List V) = [V.str "add_edge", V.int (p : Int), V.int (v : Int)] from rfl, q1]
    refine ⟨A, b, so, pk, M, g, nl, pl, log, (.join p v), rfl, ⟨t, rfl, ht⟩, bd.same s1, hl, ok, ?_⟩
    cases e : stepM M (.join p v) with
    | error er =>
      rw [e] at hd
      exact hd.same s1
    | ok r =>
      rw [e] at hd
      intro g' H' fr bd'
      have kk := hd g' H' ((sameFr s1).trans fr) bd'
      rw [stepNon e rfl] at kk
      exact kk
theorem sc_bremove_edge : FnScope ["self", "one", "two"] ["self", "one", "two"] (defScope s_Board_remove_edge) := ⟨rfl, rfl, rfl, by decide +kernel, rfl, by decide +kernel, by decide +kernel⟩
theorem ok_bremove_edge {f : Addr} {fd : FuncData} (F : Fun K "remove_edge" "Board.remove_edge" s_Board_remove_edge f fd) (B : BTxt K mg CB) (GCa : MAt P w K mg base CB (L2.CX P w) 10 "carry_out" ["self", "operation"] (spCarry CG CT CB CPl CNg CE CM isFive byTup)) :
    FnOk P w K mg base (L2.CX P w) 11 f fd ["self", "one", "two"] (spCarry CG CT CB CPl CNg CE CM isPart byArgs) := by
  obtain ⟨fCa, fdCa, GCa, mCa, bCa⟩ := GCa
  refine F.okX sc_bremove_edge (fun vs H Q E h => ?_) (fun cdv A' outer s H vs Q E hr h => ?_)
  · obtain ⟨A, b, so, pk, M, g, nl, pl, log, op, hk, hv, _⟩ := h
    cases op <;> first | cases hk | skip
    rw [show vs = _ from hv]
    rfl
  · obtain ⟨A, b, so, pk, M, g, nl, pl, log, op, hk, hv, bd, hl, ok, hd⟩ := h
    cases op <;> first | cases hk | skip
    rename_i p v
    obtain rfl := show vs = _ from hv
    have nd := sc_bremove_edge.nd
    obtain ⟨dx, h1⟩ := bd.obj
    refine ⟨_, (pss_one (ps_expr (pe_meth (pv 0) B.cl mCa GCa (hr.mono (by decide)) bCa .nil (passes_call (E := E) (takes_of rfl rfl rfl rfl) (fun _ _ _ _ h => h)) (pa_cons (pe_tup (pa_cons pe_str (pa_cons (pv 1) (pa_cons (pv 2) pa_nil)))) pa_nil)))), ?_⟩
    refine ⟨_, rfl, b, dx, _, rfl, h1, rfl, _, rfl, _, rfl, by show 3 ≤ sizeLine; decide, fun t nt => ?_⟩
    obtain ⟨H1, q1, s1, ht⟩ := newAt (.tup [V.str "remove_edge", V.int (p : Int), V.int (v : Int)]) nt
    rw [show (V.str _ :: _ : List V) = [V.str "remove_edge", V.int (p : Int), V.int (v : Int)] from rfl, q1]
    refine ⟨A, b, so, pk, M, g, nl, pl, log, (.part p v), rfl, ⟨t, rfl, ht⟩, bd.same s1, hl, ok, ?_⟩
    cases e : stepM M (.part p v) with
    | error er =>
      rw [e] at hd
      exact hd.same s1
    | ok r =>
      rw [e] at hd
      intro g' H' fr bd'
      have kk := hd g' H' ((sameFr s1).trans fr) bd'
      rw [stepNon e rfl] at kk
      exact kk
theorem sc_bgraph : FnScope ["self"] ["self"] (defScope s_Board_graph) := ⟨rfl, rfl, rfl, by decide +kernel, rfl, by decide +kernel, by decide +kernel⟩
theorem ok_bgraph {f : Addr} {fd : FuncData} (F : Fun K "graph" "Board.graph" s_Board_graph f fd) (S : STxt K mg CT) (B : BTxt K mg CB) : FnOk P w K mg base CX0 1 f fd ["self"] (spBoardGr CG CT CB) := by
  refine F.ok sc_bgraph (fun vs H Q E h => ?_) (fun cdv A' outer s H vs Q E hr h => ?_)
  · obtain ⟨A, b, so, pk, M, g, nl, pl, log, rfl, _⟩ := h
    rfl
  · obtain ⟨A, b, so, pk, mo, g, nl, pl, log, rfl, bd, k⟩ := h
    obtain ⟨dx, h1⟩ := bd.obj
    obtain ⟨dxs, h2⟩ := bd.st.obj
    refine ⟨_, (pss_one (ps_ret (pe_fld (pe_fld (pv 0) rfl) rfl))), ?_⟩
    exact ⟨_, rfl, b, CB, dx, _, _, rfl, h1, B.cl, B.n1, bl_s _ _, so, CT, dxs, _, _, rfl, h2, S.cl, S.n1, sl_g _ _ _, k⟩
theorem sc_bpos : FnScope ["self"] ["self"] (defScope s_Board_position) := ⟨rfl, rfl, rfl, by decide +kernel, rfl, by decide +kernel, by decide +kernel⟩
theorem ok_bpos {f : Addr} {fd : FuncData} (F : Fun K "position" "Board.position" s_Board_position f fd) (M : Nms mg) (S : STxt K mg CT) (B : BTxt K mg CB) : FnOk P w K mg base CX0 1 f fd ["self"] (spBoardPos CG CT CB) := by
  refine F.ok sc_bpos (fun vs H Q E h => ?_) (fun cdv A' outer s H vs Q E hr h => ?_)
  · obtain ⟨A, b, so, pk, M, g, nl, pl, log, rfl, _⟩ := h
    rfl
  · obtain ⟨A, b, so, pk, mo, g, nl, pl, log, rfl, bd, k⟩ := h
    obtain ⟨dx, h1⟩ := bd.obj
    obtain ⟨dxs, h2⟩ := bd.st.obj
    refine ⟨_, (pss_one (ps_ret (pe_callTy call_list_of (by rfl) M.list (by decide +kernel) (pa_cons (pe_fld (pe_fld (pv 0) rfl) rfl) pa_nil)))), ?_⟩
    exact ⟨_, rfl, b, CB, dx, _, _, rfl, h1, B.cl, B.n1, bl_s _ _, so, CT, dxs, _, _, rfl, h2, S.cl, S.n2, sl_n _ _ _, nl, _, rfl, .inl (SqL.of bd.st.num), fun q nq => k q _ nq (same_upd nq) upd_same⟩
theorem sc_bsco : FnScope ["self"] ["self"] (defScope s_Board_scores) := ⟨rfl, rfl, rfl, by decide +kernel, rfl, by decide +kernel, by decide +kernel⟩
theorem ok_bsco {f : Addr} {fd : FuncData} (F : Fun K "scores" "Board.scores" s_Board_scores f fd) (M : Nms mg) (S : STxt K mg CT) (B : BTxt K mg CB) : FnOk P w K mg base CX0 1 f fd ["self"] (spBoardSco CG CT CB) := by
  refine F.ok sc_bsco (fun vs H Q E h => ?_) (fun cdv A' outer s H vs Q E hr h => ?_)
  · obtain ⟨A, b, so, pk, M, g, nl, pl, log, rfl, _⟩ := h
    rfl
  · obtain ⟨A, b, so, pk, mo, g, nl, pl, log, rfl, bd, k⟩ := h
    obtain ⟨dx, h1⟩ := bd.obj
    obtain ⟨dxs, h2⟩ := bd.st.obj
    refine ⟨_, (pss_one (ps_ret (pe_callTy call_list_of (by rfl) M.list (by decide +kernel) (pa_cons (pe_fld (pe_fld (pv 0) rfl) rfl) pa_nil)))), ?_⟩
    exact ⟨_, rfl, b, CB, dx, _, _, rfl, h1, B.cl, B.n1, bl_s _ _, so, CT, dxs, _, _, rfl, h2, S.cl, S.n3, sl_p _ _ _, pl, _, rfl, .inl (SqL.of bd.st.pts), fun q nq => k q _ nq (same_upd nq) upd_same⟩
theorem sc_written : FnScope ["operation"] ["operation"] (defScope s_written) := ⟨rfl, rfl, rfl, by decide +kernel, rfl, by decide +kernel, by decide +kernel⟩
theorem ok_written {f : Addr} {fd : FuncData} (F : Fun K "written" "written" s_written f fd) (M : Nms mg) : FnOk P w K mg base CX0 1 f fd ["operation"] (spWritten K) := by
  refine F.ok sc_written (fun vs H Q E h => ?_) (fun cdv A' outer s H vs Q E hr h => ?_)
  · obtain ⟨t, op, rfl, _⟩ := h
    rfl
  · obtain ⟨t, op, rfl, ht, k⟩ := h
    refine ⟨_, (pss_cons (ps_if (pt_cmpR op_eq (pe_ix (r := rIxT K) ix_tup (pv 0) pe_int (fun _ _ => rfl)) pe_str (nomark _)) (pss_one (ps_ret (pe_tup (pa_cons pe_str (pa_cons (pe_callTy call_list_of (by rfl) M.list (by decide +kernel) (pa_cons (pe_ix (r := rIxT K) ix_tup (pv 0) pe_int (fun _ _ => rfl)) pa_nil)) pa_nil))))) pss_nil)
      (pss_one (ps_ret (pv 0)))), ?_⟩
    have h0 : ∃ key, (opV op)[0]? = some (.str key) ∧ (key == ("together" : Str)) = false := by
      cases op <;> exact ⟨_, rfl, by decide +kernel⟩
    obtain ⟨key, h0, h1⟩ := h0
    refine ⟨_, rfl, t, _, (0 : Int), .str key, rfl, rfl, SqT.of ht, atI_nat (j := 0) h0, rfl, _, rfl, ?_⟩
    rw [strNe h1]
    exact iteF ⟨_, rfl, k⟩
theorem sc_blog : FnScope ["self", "operation", "undoing"] ["self"] (defScope s_Board_log) := ⟨rfl, rfl, rfl, by decide +kernel, rfl, by decide +kernel, by decide +kernel⟩
theorem ok_blog {f : Addr} {fd : FuncData} (F : Fun K "log" "Board.log" s_Board_log f fd) (B : BTxt K mg CB) (GWr : At P w K mg base CX0 1 "written" ["operation"] (spWritten K)) : FnOk P w K mg base CX0 2 f fd ["self"] (spBoardLog CG CT CB) := by
  obtain ⟨fWr, fdWr, GWr, mWr, kWr, bWr⟩ := GWr
  refine F.ok sc_blog (fun vs H Q E h => ?_) (fun cdv A' outer s H vs Q E hr h => ?_)
  · obtain ⟨A, b, so, pk, M, g, nl, pl, log, ops, rfl, _⟩ := h
    rfl
  · obtain ⟨A, b, so, pk, M, g, nl, pl, log, ops, rfl, bd, ones, k⟩ := h
    have nd := sc_blog.nd
    obtain ⟨dx, h1⟩ := bd.obj
    obtain ⟨es, h3, h4⟩ := bd.past
    refine ⟨_, (pss_one (ps_ret (pe_lc (own := [("operation", 1), ("undoing", 2)]) (g := gTup K 2 (gCons (gName 1) (gCons (gName 2) (gNil)))) (tt := tYes) rfl nd (pi_list (pe_fld (pv 0) rfl)) (blkOk_by (own := [("operation", 1), ("undoing", 2)]) (N := ["self", "operation", "undoing"]) (sc := defScope s_Board_log) (by decide +kernel)) (fun _ _ _ _ _ => pg_tup rfl (pgs_cons (pg_name (i := 1) nd rfl (Or.inl rfl)) (pgs_cons (pg_name (i := 2) nd rfl (Or.inl rfl)) pgs_nil))) (fun _ _ _ _ _ => pts_nil) (fun _ _ _ _ _ => (pe_call GWr (hr.mono (by decide)) (by rfl) mWr kWr bWr .nil pass0 (pa_cons (pv 1) pa_nil)))))), ?_⟩
    refine ⟨_, rfl, b, CB, dx, _, _, rfl, h1, B.cl, B.n2, bl_p _ _, pk, rfl, ⟨_, SqL.of h3⟩, fun q nq => ?_⟩
    obtain ⟨el, ea⟩ := h4.at
    have hlo : ops.length = log.length := by
      have := congrArg List.length ones
      rw [List.length_map, List.length_map] at this
      exact this.symm
    refine lc_list (K := K) (a := pk) (xs := es.map V.ref) (fun i H'' => Same H H'' ∧ ∃ ts : List Addr, H'' q = some (.lst (ts.map V.ref)) ∧ ts.length = i ∧ ∀ (k : Nat) (t : Addr), ts[k]? = some t → ∃ op, ops[k]? = some op ∧ H t = some (.tup (opV op)))
      ⟨same_upd nq, [], upd_same, rfl, fun k t e => by simp at e⟩ (fun i H'' _ h => SqL.of (h.1 _ _ h3)) (fun i x H'' hi h => ?_) (fun H'' h => ?_)
    · obtain ⟨sm, ts, f1, f2, f3⟩ := h
      obtain ⟨e, he, rfl⟩ := refAt hi
      obtain ⟨en, hen, ent⟩ := ea i e he
      have hlt : i < log.length := (List.getElem?_eq_some_iff.mp hen).1
      have hop : (log.map opOf)[i]? = (ops.map some)[i]? := by rw [ones]
      rw [List.getElem?_map, List.getElem?_map, hen] at hop
      cases en with
      | many a c =>
        cases z : ops[i]? with
        | none => rw [z] at hop; cases hop
        | some o => rw [z] at hop; cases hop
      | one op inv =>
        have z : ops[i]? = some op := by
          cases z : ops[i]? with
          | none => rw [z] at hop; cases hop
          | some o =>
            rw [z] at hop
            injection hop with hop
            injection hop with hop
            rw [hop]
        obtain ⟨o, u, iv, w1, w2, w3, w4⟩ := ent
        refine ⟨e, _, rfl, SqT.of (sm _ _ w1), rfl, _, _, rfl, _, _, rfl, rfl, rfl, ?_⟩
        refine ⟨_, rfl, o, op, rfl, sm _ _ w2, _, f1, by have := bd.few; rw [List.length_map, f2, sizeLine_eq]; omega, fun c v hv => ?_, ts ++ [o], by rw [upd_same, List.map_append]; rfl, by rw [List.length_append, f2]; rfl, fun k t hk => ?_⟩
        · rw [upd_ne (ne_of_none hv nq)]
          exact sm _ _ hv
        · by_cases hl : k < ts.length
          · rw [List.getElem?_append_left hl] at hk
            exact f3 k t hk
          · rw [List.getElem?_append_right (by omega)] at hk
            have hk' : k = ts.length := by
              have := (List.getElem?_eq_some_iff.mp hk).1
              simp at this
              omega
            subst hk'
            rw [Nat.sub_self] at hk
            obtain rfl : o = t := Option.some.inj hk
            exact ⟨op, by rw [f2]; exact z, w2⟩
    · obtain ⟨sm, ts, f1, f2, f3⟩ := h
      rw [List.length_map] at f2
      exact k q ts H'' nq sm f1 ⟨by omega, fun j t hj => by
        obtain ⟨op, o1, o2⟩ := f3 j t hj
        exact ⟨op, o1, sm _ _ o2⟩⟩
end
end K71
set_option Elab.async false
set_option linter.all false
set_option maxRecDepth 100000
set_option maxHeartbeats 8000000
namespace K71
open PySem PySem.Spec PyProof.Rows L2 FNX
def RdS (K : PySem.W.Frag) (H : Hp) (v : V) (d : PyData) : Prop := ∀ H', Same H H' → Rd K H' v d
theorem RdS.same {K : PySem.W.Frag} {H H' : Hp} {v : V} {d : PyData} (h : RdS K H v d) (s : Same H H') : RdS K H' v d := fun H2 s2 => h H2 (s.trans s2)
theorem RdS.at {K : PySem.W.Frag} {H : Hp} {v : V} {d : PyData} (h : RdS K H v d) : Rd K H v d := h H (Same.refl H)
theorem RdS.int {K : PySem.W.Frag} {H : Hp} {i : Int} : RdS K H (.int i) (.int i) := fun _ _ => .dat (.int _)
theorem told.later {C : Addr} {v : V} {H H' : Hp} {E : XK} (h : told C v H E) (s : Same H H') : told C v H' E := fun H2 dd s2 nd hx => h H2 dd (s.trans s2) (s.free nd) hx
/-- the argument of an operation that is complained of, and by which class -/
inductive Bad (K : PySem.W.Frag) (CPl CN CNu : Addr) (M : Mo) (H : Hp) : Str → List V → Addr → V → Prop
  | fireP {p v : V} {dp : PyData} (hp : RdS K H p dp) (n : isNode M.sc.length dp = false) : Bad K CPl CN CNu M H "fire" [p, v] CPl p
  | fireN {p v : V} {dp dv : PyData} (hp : RdS K H p dp) (y : isNode M.sc.length dp = true) (hv : RdS K H v dv) (n : isNode M.n dv = false) : Bad K CPl CN CNu M H "fire" [p, v] CN v
  | putN {v z : V} {dv : PyData} (hv : RdS K H v dv) (n : isNode M.n dv = false) : Bad K CPl CN CNu M H "put" [v, z] CN v
  | putZ {v z : V} {dv dz : PyData} (hv : RdS K H v dv) (y : isNode M.n dv = true) (hz : RdS K H z dz) (n : isI dz = false) : Bad K CPl CN CNu M H "put" [v, z] CNu z
  | addZ {z : V} {dz : PyData} (hz : RdS K H z dz) (n : isI dz = false) : Bad K CPl CN CNu M H "add_node" [z] CNu z
  | joinA {a b : V} {da : PyData} (ha : RdS K H a da) (n : isNode M.n da = false) : Bad K CPl CN CNu M H "add_edge" [a, b] CN a
  | joinB {a b : V} {da db : PyData} (ha : RdS K H a da) (y : isNode M.n da = true) (hb : RdS K H b db) (n : isNode M.n db = false) : Bad K CPl CN CNu M H "add_edge" [a, b] CN b
  | partA {a b : V} {da : PyData} (ha : RdS K H a da) (n : isNode M.n da = false) : Bad K CPl CN CNu M H "remove_edge" [a, b] CN a
  | partB {a b : V} {da db : PyData} (ha : RdS K H a da) (y : isNode M.n da = true) (hb : RdS K H b db) (n : isNode M.n db = false) : Bad K CPl CN CNu M H "remove_edge" [a, b] CN b
theorem Bad.same {K : PySem.W.Frag} {CPl CN CNu : Addr} {M : Mo} {H H' : Hp} {k : Str} {vs : List V} {C : Addr} {u : V} (h : Bad K CPl CN CNu M H k vs C u) (s : Same H H') : Bad K CPl CN CNu M H' k vs C u := by
  cases h with
  | fireP hp n => exact .fireP (hp.same s) n
  | fireN hp y hv n => exact .fireN (hp.same s) y (hv.same s) n
  | putN hv n => exact .putN (hv.same s) n
  | putZ hv y hz n => exact .putZ (hv.same s) y (hz.same s) n
  | addZ hz n => exact .addZ (hz.same s) n
  | joinA ha n => exact .joinA (ha.same s) n
  | joinB ha y hb n => exact .joinB (ha.same s) y (hb.same s) n
  | partA ha n => exact .partA (ha.same s) n
  | partB ha y hb n => exact .partB (ha.same s) y (hb.same s) n
def spABad (K : PySem.W.Frag) (CG CT CPl CN CNu : Addr) (k : Str) : Sp := fun vs H Q E => ∃ (A : List Addr) (so : Addr) (M : Mo) (g nl pl : Addr) (args : List V) (C : Addr) (u : V), vs = .ref so :: args ∧ StAt CG CT A H so M g nl pl ∧ Bad K CPl CN CNu M H k args C u ∧ told C u H E
def spCeBad (K : PySem.W.Frag) (CG CT CN : Addr) : Sp := fun vs H Q E => ∃ (A : List Addr) (so : Addr) (M : Mo) (g nl pl : Addr) (a b : V) (da : PyData) (u : V), vs = [.ref so, a, b] ∧ StAt CG CT A H so M g nl pl ∧ RdS K H a da ∧
  (isNode M.n da = false ∧ u = a ∨ isNode M.n da = true ∧ ∃ db, RdS K H b db ∧ isNode M.n db = false ∧ u = b) ∧ told CN u H E
def spPBad (K : PySem.W.Frag) (CG CT CPl CN CNu : Addr) : Sp := fun vs H Q E => ∃ (A : List Addr) (so : Addr) (M : Mo) (g nl pl t : Addr) (k : Str) (args : List V) (C : Addr) (u : V), vs = [.ref so, .ref t] ∧ H t = some (.tup (.str k :: args)) ∧ StAt CG CT A H so M g nl pl ∧ Bad K CPl CN CNu M H k args C u ∧ told C u H E
section
variable {P : Program} {w : World} {K : PySem.W.Frag} {mg : Str → Option Value} {base : Heap} {CG CT CPl CNg CE CM CN CNu CS : Addr}
theorem ok_fire_nodeB {f : Addr} {fd : FuncData} (F : Fun K "fire_node" "fire_node" s_fire_node f fd) (M : Nms mg) (T : GTxt K mg CG) (S : STxt K mg CT) (ENg : Ex P w K mg base "NotNegative" CNg) (tyENg : PySem.W.typeIn K (.ref CNg) = some (.type "type"))
    (GPl : At P w K mg base (L2.CX P w) 4 "check_player" ["count", "player"] (spCheckPl K CPl)) (GNo : At P w K mg base (L2.CX P w) 4 "check_node" ["size", "node"] (spCheckNodeY K CN))
    (GSz : MAt P w K mg base CG CX0 1 "size" ["self"] (spSizeE CG)) (GNb : MAt P w K mg base CG (L2.CX P w) 5 "neighbours" ["self", "node"] (spNb K CG CN)) (GFl : At P w K mg base CX0 1 "flip_in_place" ["numbers", "node", "near"] spFlip) :
    FnOk P w K mg base (L2.CX P w) 8 f fd ["state", "player", "node"] (spABad K CG CT CPl CN CNu "fire") := by
  obtain ⟨fPl, fdPl, GPl, mPl, kPl, bPl⟩ := GPl
  obtain ⟨fNo, fdNo, GNo, mNo, kNo, bNo⟩ := GNo
  obtain ⟨fSz, fdSz, GSz, mSz, bSz⟩ := GSz
  obtain ⟨fNb, fdNb, GNb, mNb, bNb⟩ := GNb
  obtain ⟨fFl, fdFl, GFl, mFl, kFl, bFl⟩ := GFl
  refine F.okX sc_fire_node (fun vs H Q E h => ?_) (fun cdv A' outer s H vs Q E hr h => ?_)
  · obtain ⟨A, so, M, g, nl, pl, args, C, u, rfl, _, bad, _⟩ := h
    cases bad <;> rfl
  · obtain ⟨A, so, ⟨n, es, x, sc⟩, g, nl, pl, args, C, u, rfl, st, bad, tl⟩ := h
    have nd := sc_fire_node.nd
    obtain ⟨⟨dx, h1⟩, hg, hnum, hpts, hlen, hfew⟩ := st.all
    obtain ⟨dxg, jg, nrg, Ng, og, _⟩ := hg.obj
    cases bad with
    | @fireP p v dp hp no =>
      have no : isNode (sc.map V.int).length dp = false := by rw [List.length_map]; exact no
      refine ⟨_, (pss_cons (ps_expr (pe_call GPl (hr.mono (by decide)) (by rfl) mPl kPl bPl .nil (passes_call (E := E) (takes_of rfl rfl rfl rfl) (fun _ _ _ _ h => h)) (pa_cons (pe_callB call_len_seq (by rfl) M.len boot_len1 (pa_cons (pe_fld (pv 0) rfl) pa_nil)) (pa_cons (pv 1) pa_nil))))
      (pss_cons (ps_expr (pe_call GNo (hr.mono (by decide)) (by rfl) mNo kNo bNo .nil (passes_call (E := E) (takes_of rfl rfl rfl rfl) (fun _ _ _ _ h => h)) (pa_cons (pe_meth0 (pe_fld (pv 0) rfl) T.cl mSz GSz (hr.mono (by decide)) bSz .nil pass0) (pa_cons (pv 2) pa_nil))))
      (pss_cons (ps_if (pt_cmpR op_ge (pe_ix (r := rIxL K) ix_list (pe_fld (pv 0) rfl) (pv 2) (fun _ _ => rfl)) pe_int (nomark _)) (pss_one (ps_raiseX rfl ENg tyENg (hr.mono (by decide)) (takes_of rfl rfl rfl rfl) rfl (pa_cons (pv 2) pa_nil))) pss_nil)
      (pss_cons (ps_expr (pe_call GFl (hr.mono (by decide)) (by rfl) mFl kFl bFl .nil pass0 (pa_cons (pe_fld (pv 0) rfl) (pa_cons (pv 2) (pa_cons (pe_meth (pe_fld (pv 0) rfl) T.cl mNb GNb (hr.mono (by decide)) bNb .nil (passes_call (E := E) (takes_of rfl rfl rfl rfl) (fun _ _ _ _ h => h)) (pa_cons (pv 2) pa_nil)) pa_nil)))))
      (pss_cons (ps_augS (pe_fld (pv 0) rfl) (pv 1) pget_list pe_int ip_add set_list)
      (pss_one (ps_ret (pe_tup (pa_cons pe_non (pa_cons (pe_tup (pa_cons pe_str (pa_cons (pv 1) (pa_cons (pv 2) pa_nil)))) pa_nil)))))))))), ?_⟩
      exact ⟨_, rfl, so, CT, dx, _, _, rfl, h1, S.cl, S.n3, sl_p _ _ _, pl, _, rfl, .inl (SqL.of hpts), _, rfl, (sc.map V.int).length, _, dp, rfl, hp.at, fun _ => tl, fun y => by rw [no] at y; cases y⟩
    | @fireN p v dp dv hp yes hv no =>
      have yes : isNode (sc.map V.int).length dp = true := by rw [List.length_map]; exact yes
      have no : isNode n dv = false := no
      refine ⟨_, (pss_cons (ps_expr (pe_call GPl (hr.mono (by decide)) (by rfl) mPl kPl bPl .nil (passes_call (E := E) (takes_of rfl rfl rfl rfl) (fun _ _ _ _ h => h)) (pa_cons (pe_callB call_len_seq (by rfl) M.len boot_len1 (pa_cons (pe_fld (pv 0) rfl) pa_nil)) (pa_cons (pv 1) pa_nil))))
      (pss_cons (ps_expr (pe_call GNo (hr.mono (by decide)) (by rfl) mNo kNo bNo .nil (passes_call (E := E) (takes_of rfl rfl rfl rfl) (fun _ _ _ _ h => h)) (pa_cons (pe_meth0 (pe_fld (pv 0) rfl) T.cl mSz GSz (hr.mono (by decide)) bSz .nil pass0) (pa_cons (pv 2) pa_nil))))
      (pss_cons (ps_if (pt_cmpR op_ge (pe_ix (r := rIxL K) ix_list (pe_fld (pv 0) rfl) (pv 2) (fun _ _ => rfl)) pe_int (nomark _)) (pss_one (ps_raiseX rfl ENg tyENg (hr.mono (by decide)) (takes_of rfl rfl rfl rfl) rfl (pa_cons (pv 2) pa_nil))) pss_nil)
      (pss_cons (ps_expr (pe_call GFl (hr.mono (by decide)) (by rfl) mFl kFl bFl .nil pass0 (pa_cons (pe_fld (pv 0) rfl) (pa_cons (pv 2) (pa_cons (pe_meth (pe_fld (pv 0) rfl) T.cl mNb GNb (hr.mono (by decide)) bNb .nil (passes_call (E := E) (takes_of rfl rfl rfl rfl) (fun _ _ _ _ h => h)) (pa_cons (pv 2) pa_nil)) pa_nil)))))
      (pss_cons (ps_augS (pe_fld (pv 0) rfl) (pv 1) pget_list pe_int ip_add set_list)
      (pss_one (ps_ret (pe_tup (pa_cons pe_non (pa_cons (pe_tup (pa_cons pe_str (pa_cons (pv 1) (pa_cons (pv 2) pa_nil)))) pa_nil)))))))))), ?_⟩
      refine ⟨_, rfl, so, CT, dx, _, _, rfl, h1, S.cl, S.n3, sl_p _ _ _, pl, _, rfl, .inl (SqL.of hpts), _, rfl, (sc.map V.int).length, _, dp, rfl, hp.at, (fun z => by rw [yes] at z; cases z), fun _ => ?_⟩
      exact ⟨_, rfl, so, CT, dx, _, _, rfl, h1, S.cl, S.n1, sl_g _ _ _, g, dxg, _, rfl, og, rfl, g, n, es, rfl, hg, _, rfl, n, _, dv, rfl, hv.at, fun _ => tl, fun y => by rw [no] at y; cases y⟩
theorem ok_put_numberB {f : Addr} {fd : FuncData} (F : Fun K "put_number" "put_number" s_put_number f fd) (M : Nms mg) (T : GTxt K mg CG) (S : STxt K mg CT)
    (GNu : At P w K mg base (L2.CX P w) 3 "check_number" ["number"] (spCheckNu K CNu)) (GNo : At P w K mg base (L2.CX P w) 4 "check_node" ["size", "node"] (spCheckNodeY K CN))
    (GSz : MAt P w K mg base CG CX0 1 "size" ["self"] (spSizeE CG)) : FnOk P w K mg base (L2.CX P w) 8 f fd ["state", "node", "number"] (spABad K CG CT CPl CN CNu "put") := by
  obtain ⟨fNu, fdNu, GNu, mNu, kNu, bNu⟩ := GNu
  obtain ⟨fNo, fdNo, GNo, mNo, kNo, bNo⟩ := GNo
  obtain ⟨fSz, fdSz, GSz, mSz, bSz⟩ := GSz
  refine F.okX sc_put_number (fun vs H Q E h => ?_) (fun cdv A' outer s H vs Q E hr h => ?_)
  · obtain ⟨A, so, M, g, nl, pl, args, C, u, rfl, _, bad, _⟩ := h
    cases bad <;> rfl
  · obtain ⟨A, so, ⟨n, es, x, sc⟩, g, nl, pl, args, C, u, rfl, st, bad, tl⟩ := h
    have nd := sc_put_number.nd
    obtain ⟨⟨dx, h1⟩, hg, hnum, hpts, hlen, hfew⟩ := st.all
    obtain ⟨dxg, jg, nrg, Ng, og, _⟩ := hg.obj
    cases bad with
    | @putN v z dv hv no =>
      have no : isNode n dv = false := no
      refine ⟨_, (pss_cons (ps_expr (pe_call GNo (hr.mono (by decide)) (by rfl) mNo kNo bNo .nil (passes_call (E := E) (takes_of rfl rfl rfl rfl) (fun _ _ _ _ h => h)) (pa_cons (pe_meth0 (pe_fld (pv 0) rfl) T.cl mSz GSz (hr.mono (by decide)) bSz .nil pass0) (pa_cons (pv 1) pa_nil))))
      (pss_cons (ps_expr (pe_call GNu (hr.mono (by decide)) (by rfl) mNu kNu bNu .nil (passes_call (E := E) (takes_of rfl rfl rfl rfl) (fun _ _ _ _ h => h)) (pa_cons (pv 2) pa_nil)))
      (pss_cons (ps_set (i := 3) nd rfl (Or.inl rfl) (pe_ix (r := rIxL K) ix_list (pe_fld (pv 0) rfl) (pv 1) (fun _ _ => rfl)))
      (pss_cons (ps_asg (pv 2) (pg_sub (pe_fld (pv 0) rfl) (pv 1) set_list))
      (pss_one (ps_ret (pe_tup (pa_cons pe_non (pa_cons (pe_tup (pa_cons pe_str (pa_cons (pv 1) (pa_cons (pv 3) pa_nil)))) pa_nil))))))))), ?_⟩
      exact ⟨_, rfl, so, CT, dx, _, _, rfl, h1, S.cl, S.n1, sl_g _ _ _, g, dxg, _, rfl, og, rfl, g, n, es, rfl, hg, _, rfl, n, _, dv, rfl, hv.at, fun _ => tl, fun y => by rw [no] at y; cases y⟩
    | @putZ v z dv dz hv yes hz no =>
      have yes : isNode n dv = true := yes
      refine ⟨_, (pss_cons (ps_expr (pe_call GNo (hr.mono (by decide)) (by rfl) mNo kNo bNo .nil (passes_call (E := E) (takes_of rfl rfl rfl rfl) (fun _ _ _ _ h => h)) (pa_cons (pe_meth0 (pe_fld (pv 0) rfl) T.cl mSz GSz (hr.mono (by decide)) bSz .nil pass0) (pa_cons (pv 1) pa_nil))))
      (pss_cons (ps_expr (pe_call GNu (hr.mono (by decide)) (by rfl) mNu kNu bNu .nil (passes_call (E := E) (takes_of rfl rfl rfl rfl) (fun _ _ _ _ h => h)) (pa_cons (pv 2) pa_nil)))
      (pss_cons (ps_set (i := 3) nd rfl (Or.inl rfl) (pe_ix (r := rIxL K) ix_list (pe_fld (pv 0) rfl) (pv 1) (fun _ _ => rfl)))
      (pss_cons (ps_asg (pv 2) (pg_sub (pe_fld (pv 0) rfl) (pv 1) set_list))
      (pss_one (ps_ret (pe_tup (pa_cons pe_non (pa_cons (pe_tup (pa_cons pe_str (pa_cons (pv 1) (pa_cons (pv 3) pa_nil)))) pa_nil))))))))), ?_⟩
      refine ⟨_, rfl, so, CT, dx, _, _, rfl, h1, S.cl, S.n1, sl_g _ _ _, g, dxg, _, rfl, og, rfl, g, n, es, rfl, hg, _, rfl, n, _, dv, rfl, hv.at, (fun z => by rw [yes] at z; cases z), fun _ => ?_⟩
      exact ⟨_, rfl, _, dz, rfl, hz.at, fun _ => tl, fun y => by rw [no] at y; cases y⟩
theorem ok_append_nodeB {f fI : Addr} {fd fdI : FuncData} (F : Fun K "append_node" "append_node" s_append_node f fd) (M : Nms mg) (T : GTxt K mg CG) (S : STxt K mg CT) {t16 : Tok} (m16 : mg "MOST_NODES" = some (.int 16 t16))
    (EMa : Ex P w K mg base "TooMany" CM) (tyEMa : PySem.W.typeIn K (.ref CM) = some (.type "type"))
    (GNu : At P w K mg base (L2.CX P w) 3 "check_number" ["number"] (spCheckNu K CNu)) (GSz : MAt P w K mg base CG CX0 1 "size" ["self"] (spSizeE CG)) (GEd : MAt P w K mg base CG CX0 1 "edges" ["self"] (spEdgesOf CG))
    (MK : Mk K CG fI) (GI : FnOk P w K mg base (L2.CX P w) 6 fI fdI ["self", "size", "edges"] (spGI01 K CG CS CM CE)) (bI : L2.Binds K fdI ["self", "size", "edges"] []) : FnOk P w K mg base (L2.CX P w) 8 f fd ["state", "number"] (spABad K CG CT CPl CN CNu "add_node") := by
  obtain ⟨fNu, fdNu, GNu, mNu, kNu, bNu⟩ := GNu
  obtain ⟨fSz, fdSz, GSz, mSz, bSz⟩ := GSz
  obtain ⟨fEd, fdEd, GEd, mEd, bEd⟩ := GEd
  refine F.okX sc_append_node (fun vs H Q E h => ?_) (fun cdv A' outer s H vs Q E hr h => ?_)
  · obtain ⟨A, so, M, g, nl, pl, args, C, u, rfl, _, bad, _⟩ := h
    cases bad <;> rfl
  · obtain ⟨A, so, ⟨n, es, x, sc⟩, g, nl, pl, args, C, u, rfl, st, bad, tl⟩ := h
    have nd := sc_append_node.nd
    cases bad with
    | @addZ z dz hz no =>
      refine ⟨_, (pss_cons (ps_expr (pe_call GNu (hr.mono (by decide)) (by rfl) mNu kNu bNu .nil (passes_call (E := E) (takes_of rfl rfl rfl rfl) (fun _ _ _ _ h => h)) (pa_cons (pv 1) pa_nil)))
      (pss_cons (ps_set (i := 2) nd rfl (Or.inl rfl) (pe_meth0 (pe_fld (pv 0) rfl) T.cl mSz GSz (hr.mono (by decide)) bSz .nil pass0))
      (pss_cons (ps_if (pt_cmpR op_eq (pv 2) (pe_glob (v := .int 16) (by rfl) m16 ⟨_, rfl⟩) (nomark _)) (pss_one (ps_raiseX rfl EMa tyEMa (hr.mono (by decide)) (takes_of rfl rfl rfl rfl) rfl (pa_cons (pe_op op_add (pv 2) pe_int) pa_nil))) pss_nil)
      (pss_cons (ps_fld (pv 0) (pe_make MK GI (hr.mono (by decide)) (by rfl) T.mgC bI .nil (passes_call (E := E) (takes_of rfl rfl rfl rfl) (fun _ _ _ _ h => h)) (pa_cons (pe_op op_add (pv 2) pe_int) (pa_cons (pe_meth0 (pe_fld (pv 0) rfl) T.cl mEd GEd (hr.mono (by decide)) bEd .nil pass0) pa_nil))) rfl)
      (pss_cons (ps_expr (pe_bm PySem.F.plainAttrs_list PySem.F.slot_list_append PySem.F.type_list_append mt_append (pe_fld (pv 0) rfl) (pa_cons (pv 1) pa_nil)))
      (pss_one (ps_ret (pe_tup (pa_cons (pv 2) (pa_cons (pe_tup (pa_cons pe_str pa_nil)) pa_nil)))))))))), ?_⟩
      exact ⟨_, rfl, _, dz, rfl, hz.at, fun _ => tl, fun y => by rw [no] at y; cases y⟩
theorem ok_checked_edgeB {f : Addr} {fd : FuncData} (F : Fun K "checked_edge" "checked_edge" s_checked_edge f fd) (M : Nms mg) (T : GTxt K mg CG) (S : STxt K mg CT) (GNo : At P w K mg base (L2.CX P w) 4 "check_node" ["size", "node"] (spCheckNodeY K CN))
    (GSz : MAt P w K mg base CG CX0 1 "size" ["self"] (spSizeE CG)) : FnOk P w K mg base (L2.CX P w) 6 f fd ["state", "one", "two"] (spCeBad K CG CT CN) := by
  obtain ⟨fNo, fdNo, GNo, mNo, kNo, bNo⟩ := GNo
  obtain ⟨fSz, fdSz, GSz, mSz, bSz⟩ := GSz
  refine F.okX sc_checked_edge (fun vs H Q E h => ?_) (fun cdv A' outer s H vs Q E hr h => ?_)
  · obtain ⟨A, so, M, g, nl, pl, a, b, da, u, rfl, _⟩ := h
    rfl
  · obtain ⟨A, so, ⟨n, es, x, sc⟩, g, nl, pl, a, b, da, u, rfl, st, ha, or_, tl⟩ := h
    have nd := sc_checked_edge.nd
    obtain ⟨⟨dx, h1⟩, hg, hnum, hpts, hlen, hfew⟩ := st.all
    obtain ⟨dxg, jg, nrg, Ng, og, _⟩ := hg.obj
    refine ⟨_, (pss_cons (ps_expr (pe_call GNo (hr.mono (by decide)) (by rfl) mNo kNo bNo .nil (passes_call (E := E) (takes_of rfl rfl rfl rfl) (fun _ _ _ _ h => h)) (pa_cons (pe_meth0 (pe_fld (pv 0) rfl) T.cl mSz GSz (hr.mono (by decide)) bSz .nil pass0) (pa_cons (pv 1) pa_nil))))
      (pss_cons (ps_expr (pe_call GNo (hr.mono (by decide)) (by rfl) mNo kNo bNo .nil (passes_call (E := E) (takes_of rfl rfl rfl rfl) (fun _ _ _ _ h => h)) (pa_cons (pe_meth0 (pe_fld (pv 0) rfl) T.cl mSz GSz (hr.mono (by decide)) bSz .nil pass0) (pa_cons (pv 2) pa_nil))))
      (pss_one (ps_ret (pe_tup (pa_cons (pe_callB (call_min2 rfl) (by rfl) M.min boot_min1 (pa_cons (pv 1) (pa_cons (pv 2) pa_nil))) (pa_cons (pe_callB (call_max2 rfl) (by rfl) M.max boot_max1 (pa_cons (pv 1) (pa_cons (pv 2) pa_nil))) pa_nil))))))), ?_⟩
    rcases or_ with ⟨no, rfl⟩ | ⟨yes, db, hb, no, rfl⟩
    · have no : isNode n da = false := no
      exact ⟨_, rfl, so, CT, dx, _, _, rfl, h1, S.cl, S.n1, sl_g _ _ _, g, dxg, _, rfl, og, rfl, g, n, es, rfl, hg, _, rfl, n, _, da, rfl, ha.at, fun _ => tl, fun y => by rw [no] at y; cases y⟩
    · have yes : isNode n da = true := yes
      have no : isNode n db = false := no
      refine ⟨_, rfl, so, CT, dx, _, _, rfl, h1, S.cl, S.n1, sl_g _ _ _, g, dxg, _, rfl, og, rfl, g, n, es, rfl, hg, _, rfl, n, _, da, rfl, ha.at, (fun z => by rw [yes] at z; cases z), fun _ => ?_⟩
      exact ⟨_, rfl, so, CT, dx, _, _, rfl, h1, S.cl, S.n1, sl_g _ _ _, g, dxg, _, rfl, og, rfl, g, n, es, rfl, hg, _, rfl, n, _, db, rfl, hb.at, fun _ => tl, fun y => by rw [no] at y; cases y⟩
end
end K71
set_option Elab.async false
set_option linter.all false
set_option maxRecDepth 100000
set_option maxHeartbeats 8000000
namespace K71
open PySem PySem.Spec PyProof.Rows L2 FNX
def spCBad (K : PySem.W.Frag) (CG CT CB CPl CN CNu : Addr) : Sp := fun vs H Q E => ∃ (A : List Addr) (b so pk : Addr) (M : Mo) (g nl pl t : Addr) (log : List En) (k : Str) (args : List V) (C : Addr) (u : V), vs = [.ref b, .ref t] ∧ H t = some (.tup (.str k :: args)) ∧ BdAt CG CT CB A H b so pk M g nl pl log ∧ Bad K CPl CN CNu M H k args C u ∧ told C u H E
def spMBad (K : PySem.W.Frag) (CG CT CB CPl CN CNu : Addr) (k : Str) : Sp := fun vs H Q E => ∃ (A : List Addr) (b so pk : Addr) (M : Mo) (g nl pl : Addr) (log : List En) (args : List V) (C : Addr) (u : V), vs = .ref b :: args ∧ BdAt CG CT CB A H b so pk M g nl pl log ∧ Bad K CPl CN CNu M H k args C u ∧ told C u H E
section
variable {P : Program} {w : World} {K : PySem.W.Frag} {mg : Str → Option Value} {base : Heap} {CG CT CB CPl CNg CE CM CN CNu CS : Addr}
theorem ok_join_nodesB {f fI : Addr} {fd fdI : FuncData} (F : Fun K "join_nodes" "join_nodes" s_join_nodes f fd) (M : Nms mg) (T : GTxt K mg CG) (S : STxt K mg CT)
    (EEd : Ex P w K mg base "InvalidEdge" CE) (tyEEd : PySem.W.typeIn K (.ref CE) = some (.type "type"))
    (GCe : At P w K mg base (L2.CX P w) 6 "checked_edge" ["state", "one", "two"] (spCeBad K CG CT CN)) (GSz : MAt P w K mg base CG CX0 1 "size" ["self"] (spSizeE CG)) (GEd : MAt P w K mg base CG CX0 1 "edges" ["self"] (spEdgesOf CG))
    (MK : Mk K CG fI) (GI : FnOk P w K mg base (L2.CX P w) 6 fI fdI ["self", "size", "edges"] (spGI01 K CG CS CM CE)) (bI : L2.Binds K fdI ["self", "size", "edges"] []) : FnOk P w K mg base (L2.CX P w) 8 f fd ["state", "one", "two"] (spABad K CG CT CPl CN CNu "add_edge") := by
  obtain ⟨fCe, fdCe, GCe, mCe, kCe, bCe⟩ := GCe
  obtain ⟨fSz, fdSz, GSz, mSz, bSz⟩ := GSz
  obtain ⟨fEd, fdEd, GEd, mEd, bEd⟩ := GEd
  refine F.okX sc_join_nodes (fun vs H Q E h => ?_) (fun cdv A' outer s H vs Q E hr h => ?_)
  · obtain ⟨A, so, M, g, nl, pl, args, C, u, rfl, _, bad, _⟩ := h
    cases bad <;> rfl
  · obtain ⟨A, so, M, g, nl, pl, args, C, u, rfl, st, bad, tl⟩ := h
    have nd := sc_join_nodes.nd
    have hu64 : A'.units + 3 + 64 < cLine := hr.units
    have hu65 : A'.units + 3 + 65 < cLine := by
      have := hr.un
      show A'.units + 3 + 65 < _
      have z : A'.units + 3 + 16 * 7 + 200 < cLine := this
      omega
    refine ⟨_, (pss_cons (ps_set (i := 3) nd rfl (Or.inl rfl) (pe_call GCe (hr.mono (by decide)) (by rfl) mCe kCe bCe .nil (passes_call (E := E) (takes_of rfl rfl rfl rfl) (fun _ _ _ _ h => h)) (pa_cons (pv 0) (pa_cons (pv 1) (pa_cons (pv 2) pa_nil)))))
      (pss_cons (ps_set (i := 4) nd rfl (Or.inl rfl) (pe_meth0 (pe_fld (pv 0) rfl) T.cl mEd GEd (hr.mono (by decide)) bEd .nil pass0))
      (pss_cons (ps_if (PW.pt (pw_or (pt_cmpR op_eq (pv 1) (pv 2) (nomark _)) (pw_or1 (pt_cmpR (show OpR _ (compareOp .In) (rInD K) from op_inD hu65) (pv 3) (pv 4) (by with_unfolding_all rfl))))) (pss_one (ps_raiseX rfl EEd tyEEd (hr.mono (by decide)) (takes_of rfl rfl rfl rfl) rfl (pa_cons (pe_tup (pa_cons (pv 1) (pa_cons (pv 2) pa_nil))) pa_nil))) pss_nil)
      (pss_cons (ps_fld (pv 0) (pe_make MK GI (hr.mono (by decide)) (by rfl) T.mgC bI .nil (passes_call (E := E) (takes_of rfl rfl rfl rfl) (fun _ _ _ _ h => h)) (pa_cons (pe_meth0 (pe_fld (pv 0) rfl) T.cl mSz GSz (hr.mono (by decide)) bSz .nil pass0) (pa_cons (pe_op op_cat (pv 4) (pe_lst (pa_cons (pv 3) pa_nil))) pa_nil))) rfl)
      (pss_one (ps_ret (pe_tup (pa_cons pe_non (pa_cons (pe_tup (pa_cons pe_str (pa_cons (pv 1) (pa_cons (pv 2) pa_nil)))) pa_nil))))))))), ?_⟩
    cases bad with
    | @joinA a b da ha no => exact ⟨_, rfl, _, rfl, _, rfl, A, so, M, g, nl, pl, _, b, da, _, rfl, st, ha, .inl ⟨no, rfl⟩, tl⟩
    | @joinB a b da db ha yes hb no => exact ⟨_, rfl, _, rfl, _, rfl, A, so, M, g, nl, pl, a, _, da, _, rfl, st, ha, .inr ⟨yes, db, hb, no, rfl⟩, tl⟩
theorem ok_part_nodesB {f fI : Addr} {fd fdI : FuncData} (F : Fun K "part_nodes" "part_nodes" s_part_nodes f fd) (M : Nms mg) (T : GTxt K mg CG) (S : STxt K mg CT)
    (EEd : Ex P w K mg base "InvalidEdge" CE) (tyEEd : PySem.W.typeIn K (.ref CE) = some (.type "type"))
    (GCe : At P w K mg base (L2.CX P w) 6 "checked_edge" ["state", "one", "two"] (spCeBad K CG CT CN)) (GSz : MAt P w K mg base CG CX0 1 "size" ["self"] (spSizeE CG)) (GEd : MAt P w K mg base CG CX0 1 "edges" ["self"] (spEdgesOf CG))
    (MK : Mk K CG fI) (GI : FnOk P w K mg base (L2.CX P w) 6 fI fdI ["self", "size", "edges"] (spGI01 K CG CS CM CE)) (bI : L2.Binds K fdI ["self", "size", "edges"] []) : FnOk P w K mg base (L2.CX P w) 8 f fd ["state", "one", "two"] (spABad K CG CT CPl CN CNu "remove_edge") := by
  obtain ⟨fCe, fdCe, GCe, mCe, kCe, bCe⟩ := GCe
  obtain ⟨fSz, fdSz, GSz, mSz, bSz⟩ := GSz
  obtain ⟨fEd, fdEd, GEd, mEd, bEd⟩ := GEd
  refine F.okX sc_part_nodes (fun vs H Q E h => ?_) (fun cdv A' outer s H vs Q E hr h => ?_)
  · obtain ⟨A, so, M, g, nl, pl, args, C, u, rfl, _, bad, _⟩ := h
    cases bad <;> rfl
  · obtain ⟨A, so, M, g, nl, pl, args, C, u, rfl, st, bad, tl⟩ := h
    have nd := sc_part_nodes.nd
    have hu64 : A'.units + 3 + 64 < cLine := hr.units
    have hu65 : A'.units + 3 + 65 < cLine := by
      have := hr.un
      show A'.units + 3 + 65 < _
      have z : A'.units + 3 + 16 * 7 + 200 < cLine := this
      omega
    refine ⟨_, (pss_cons (ps_set (i := 3) nd rfl (Or.inr rfl) (pe_call GCe (hr.mono (by decide)) (by rfl) mCe kCe bCe .nil (passes_call (E := E) (takes_of rfl rfl rfl rfl) (fun _ _ _ _ h => h)) (pa_cons (pv 0) (pa_cons (pv 1) (pa_cons (pv 2) pa_nil)))))
      (pss_cons (ps_set (i := 4) nd rfl (Or.inl rfl) (pe_meth0 (pe_fld (pv 0) rfl) T.cl mEd GEd (hr.mono (by decide)) bEd .nil pass0))
      (pss_cons (ps_if (pt_cmpR (op_notInD hu65) (pv 3) (pv 4) (by with_unfolding_all rfl)) (pss_one (ps_raiseX rfl EEd tyEEd (hr.mono (by decide)) (takes_of rfl rfl rfl rfl) rfl (pa_cons (pe_tup (pa_cons (pv 1) (pa_cons (pv 2) pa_nil))) pa_nil))) pss_nil)
      (pss_cons (ps_fld (pv 0) (pe_make MK GI (hr.mono (by decide)) (by rfl) T.mgC bI .nil (passes_call (E := E) (takes_of rfl rfl rfl rfl) (fun _ _ _ _ h => h)) (pa_cons (pe_meth0 (pe_fld (pv 0) rfl) T.cl mSz GSz (hr.mono (by decide)) bSz .nil pass0) (pa_cons (pe_lc (own := [("other", 5)]) (g := gName 5) rfl nd (pi_list (pv 4)) (blkOk_by (own := [("other", 5)]) (N := ["state", "one", "two", "edge", "edges", "other"]) (sc := defScope s_part_nodes) (by decide +kernel)) (fun _ _ _ _ _ => pg_name (i := 5) nd rfl (Or.inl rfl)) (fun _ _ _ _ _ => pts_one (pt_cmpR (show OpR _ (compareOp .NotEq) (rNeD K) from op_neD hu64) (pv 5) (pv 3) (nomark _))) (fun _ _ _ _ _ => (pv 5))) pa_nil))) rfl)
      (pss_one (ps_ret (pe_tup (pa_cons pe_non (pa_cons (pe_tup (pa_cons pe_str (pa_cons (pv 1) (pa_cons (pv 2) pa_nil)))) pa_nil))))))))), ?_⟩
    cases bad with
    | @partA a b da ha no => exact ⟨_, rfl, _, rfl, _, rfl, A, so, M, g, nl, pl, _, b, da, _, rfl, st, ha, .inl ⟨no, rfl⟩, tl⟩
    | @partB a b da db ha yes hb no => exact ⟨_, rfl, _, rfl, _, rfl, A, so, M, g, nl, pl, a, _, da, _, rfl, st, ha, .inr ⟨yes, db, hb, no, rfl⟩, tl⟩
theorem ok_performB {f aA fF fP fA fJ fR : Addr} {fd : FuncData} (F : Fun K "perform" "perform" s_perform f fd) (KB : K.In base) (mA : mg "ACTIONS" = some (.ref aA))
    (kF : KDct K w aA "fire" (.ref fF)) (kP : KDct K w aA "put" (.ref fP)) (kA : KDct K w aA "add_node" (.ref fA)) (kJ : KDct K w aA "add_edge" (.ref fJ)) (kR : KDct K w aA "remove_edge" (.ref fR))
    (mF : mg "fire_node" = some (.ref fF)) (mP : mg "put_number" = some (.ref fP)) (mAn : mg "append_node" = some (.ref fA)) (mJ : mg "join_nodes" = some (.ref fJ)) (mR : mg "part_nodes" = some (.ref fR))
    (GF : At P w K mg base (L2.CX P w) 8 "fire_node" ["state", "player", "node"] (spABad K CG CT CPl CN CNu "fire")) (GP : At P w K mg base (L2.CX P w) 8 "put_number" ["state", "node", "number"] (spABad K CG CT CPl CN CNu "put"))
    (GA : At P w K mg base (L2.CX P w) 8 "append_node" ["state", "number"] (spABad K CG CT CPl CN CNu "add_node")) (GJ : At P w K mg base (L2.CX P w) 8 "join_nodes" ["state", "one", "two"] (spABad K CG CT CPl CN CNu "add_edge"))
    (GR : At P w K mg base (L2.CX P w) 8 "part_nodes" ["state", "one", "two"] (spABad K CG CT CPl CN CNu "remove_edge")) :
    FnOk P w K mg base (L2.CX P w) 9 f fd ["state", "operation"] (spPBad K CG CT CPl CN CNu) := by
  have inj : ∀ {x : Str} {a b : Addr}, mg x = some (.ref a) → mg x = some (.ref b) → a = b := fun h1 h2 => by
    rw [h1] at h2
    injection h2 with h2
    injection h2
  obtain ⟨gF, gdF, GF, m1, p1, b1⟩ := GF
  obtain rfl := inj m1 mF
  obtain ⟨gP, gdP, GP, m2, p2, b2⟩ := GP
  obtain rfl := inj m2 mP
  obtain ⟨gA, gdA, GA, m3, p3, b3⟩ := GA
  obtain rfl := inj m3 mAn
  obtain ⟨gJ, gdJ, GJ, m4, p4, b4⟩ := GJ
  obtain rfl := inj m4 mJ
  obtain ⟨gR, gdR, GR, m5, p5, b5⟩ := GR
  obtain rfl := inj m5 mR
  have HS : ∀ f sp, (f = gF ∧ sp = spABad K CG CT CPl CN CNu "fire" ∨ f = gP ∧ sp = spABad K CG CT CPl CN CNu "put" ∨ f = gA ∧ sp = spABad K CG CT CPl CN CNu "add_node" ∨ f = gJ ∧ sp = spABad K CG CT CPl CN CNu "add_edge" ∨ f = gR ∧ sp = spABad K CG CT CPl CN CNu "remove_edge") →
      FnR P w K mg base (L2.CX P w) 8 f sp ∧ PySem.W.keepIn K (.ref f) = true := fun f sp h => by
    rcases h with ⟨rfl, rfl⟩ | ⟨rfl, rfl⟩ | ⟨rfl, rfl⟩ | ⟨rfl, rfl⟩ | ⟨rfl, rfl⟩
    · exact ⟨fnR_of GF b1 KB, p1⟩
    · exact ⟨fnR_of GP b2 KB, p2⟩
    · exact ⟨fnR_of GA b3 KB, p3⟩
    · exact ⟨fnR_of GJ b4 KB, p4⟩
    · exact ⟨fnR_of GR b5 KB, p5⟩
  refine F.okX sc_perform (fun vs H Q E h => ?_) (fun cdv A' outer s H vs Q E hr h => ?_)
  · obtain ⟨A, so, M, g, nl, pl, t, k, args, C, u, rfl, _⟩ := h
    rfl
  · obtain ⟨A, so, M, g, nl, pl, t, k, args, C, u, rfl, ht, st, bad, tl⟩ := h
    have nd := sc_perform.nd
    refine ⟨_, pss_cons (ps_set (i := 2) nd rfl (Or.inl rfl) (pe_ix (r := rIxD K w) ix_kdict (pe_glob (v := .ref aA) (by rfl) mA rfl) (pe_ix (r := rIxT K) ix_tup (pv 1) pe_int (fun _ _ => rfl)) (fun _ _ => rfl)))
      (pss_cons (ps_set (i := 3) nd rfl (Or.inl rfl) (pe_slice sl_tup (pv 1) (po_some pe_int) po_none))
      (pss_one (ps_ret (pe_callAS (i := 2) HS hr rfl (Or.inl rfl) (passes_call (E := E) (takes_of rfl rfl rfl rfl) (fun _ _ _ _ h => h)) (pa_cons (pv 0) (StX.pa_star (pv 3) pa_nil)))))), ?_⟩
    have cutT : cutV (V.str k :: args) (some 1) none = args ∧ 1 ≤ args.length := by
      cases bad <;> exact ⟨rfl, by simp⟩
    obtain ⟨h6, h7⟩ := cutT
    obtain ⟨f, h3, h4⟩ : ∃ (f : Addr), KDct K w aA k (.ref f) ∧
        (f = gF ∧ spABad K CG CT CPl CN CNu k = spABad K CG CT CPl CN CNu "fire" ∨ f = gP ∧ spABad K CG CT CPl CN CNu k = spABad K CG CT CPl CN CNu "put" ∨ f = gA ∧ spABad K CG CT CPl CN CNu k = spABad K CG CT CPl CN CNu "add_node" ∨ f = gJ ∧ spABad K CG CT CPl CN CNu k = spABad K CG CT CPl CN CNu "add_edge" ∨ f = gR ∧ spABad K CG CT CPl CN CNu k = spABad K CG CT CPl CN CNu "remove_edge") := by
      cases bad with
      | fireP => exact ⟨gF, kF, .inl ⟨rfl, rfl⟩⟩
      | fireN => exact ⟨gF, kF, .inl ⟨rfl, rfl⟩⟩
      | putN => exact ⟨gP, kP, .inr (.inl ⟨rfl, rfl⟩)⟩
      | putZ => exact ⟨gP, kP, .inr (.inl ⟨rfl, rfl⟩)⟩
      | addZ => exact ⟨gA, kA, .inr (.inr (.inl ⟨rfl, rfl⟩))⟩
      | joinA => exact ⟨gJ, kJ, .inr (.inr (.inr (.inl ⟨rfl, rfl⟩)))⟩
      | joinB => exact ⟨gJ, kJ, .inr (.inr (.inr (.inl ⟨rfl, rfl⟩)))⟩
      | partA => exact ⟨gR, kR, .inr (.inr (.inr (.inr ⟨rfl, rfl⟩)))⟩
      | partB => exact ⟨gR, kR, .inr (.inr (.inr (.inr ⟨rfl, rfl⟩)))⟩
    refine ⟨_, rfl, t, _, (0 : Int), .str k, rfl, rfl, SqT.of ht, atI_nat (j := 0) rfl, aA, k, .ref f, rfl, rfl, h3, ?_⟩
    refine ⟨_, rfl, (1 : Int), rfl, t, _, rfl, SqT.of ht, ?_, fun tv ntv => ?_⟩
    · intro z
      have := HT.sIx_nat (V.str k :: args).length 0 1
      rw [show ((1 : Nat) : Int) = 1 from rfl] at this
      rw [this] at z
      have := List.length_cons (a := V.str k) (as := args)
      omega
    rw [h6]
    obtain ⟨H1, q1, s1, htv⟩ := newAt (.tup args) ntv
    rw [q1]
    refine ⟨f, spABad K CG CT CPl CN CNu k, rfl, h4, _, rfl, _, rfl, tv, _, rfl, .inl (SqT.of htv), ?_⟩
    exact ⟨A, so, M, g, nl, pl, args, C, u, by rw [List.append_nil], st.same s1, bad.same s1, tl.later s1⟩
theorem ok_carryB {f : Addr} {fd : FuncData} (F : Fun K "carry_out" "Board.carry_out" s_Board_carry_out f fd) (B : BTxt K mg CB) (GPe : At P w K mg base (L2.CX P w) 9 "perform" ["state", "operation"] (spPBad K CG CT CPl CN CNu)) :
    FnOk P w K mg base (L2.CX P w) 10 f fd ["self", "operation"] (spCBad K CG CT CB CPl CN CNu) := by
  obtain ⟨fPe, fdPe, GPe, mPe, kPe, bPe⟩ := GPe
  refine F.okX sc_carry (fun vs H Q E h => ?_) (fun cdv A' outer s H vs Q E hr h => ?_)
  · obtain ⟨A, b, so, pk, M, g, nl, pl, t, log, k, args, C, u, rfl, _⟩ := h
    rfl
  · obtain ⟨A, b, so, pk, M, g, nl, pl, t, log, k, args, C, u, rfl, ht, bd, bad, tl⟩ := h
    have nd := sc_carry.nd
    obtain ⟨⟨dx, h1⟩, st, ⟨es, h3, h4⟩, kn, kp, bA, kA, few⟩ := id bd
    refine ⟨_, (pss_cons (ps_asg (pe_call GPe (hr.mono (by decide)) (by rfl) mPe kPe bPe .nil (passes_call (E := E) (takes_of rfl rfl rfl rfl) (fun _ _ _ _ h => h)) (pa_cons (pe_fld (pv 0) rfl) (pa_cons (pv 1) pa_nil))) (pg_tup rfl (pgs_cons (pg_name (i := 2) nd rfl (Or.inl rfl)) (pgs_cons (pg_name (i := 3) nd rfl (Or.inl rfl)) pgs_nil))))
      (pss_cons (ps_expr (pe_bm PySem.F.plainAttrs_list PySem.F.slot_list_append PySem.F.type_list_append mt_append (pe_fld (pv 0) rfl) (pa_cons (pe_tup (pa_cons (pv 1) (pa_cons (pe_lst (pa_cons (pv 3) pa_nil)) pa_nil))) pa_nil)))
      (pss_one (ps_ret (pv 2))))), ?_⟩
    exact ⟨_, rfl, b, CB, dx, _, _, rfl, h1, B.cl, B.n1, bl_s _ _, _, rfl, A, so, M, g, nl, pl, t, k, args, C, u, rfl, ht, st, bad, tl⟩
theorem ok_bfireB {f : Addr} {fd : FuncData} (F : Fun K "fire" "Board.fire" s_Board_fire f fd) (B : BTxt K mg CB) (GCa : MAt P w K mg base CB (L2.CX P w) 10 "carry_out" ["self", "operation"] (spCBad K CG CT CB CPl CN CNu)) :
    FnOk P w K mg base (L2.CX P w) 11 f fd ["self", "player", "node"] (spMBad K CG CT CB CPl CN CNu "fire") := by
  obtain ⟨fCa, fdCa, GCa, mCa, bCa⟩ := GCa
  refine F.okX sc_bfire (fun vs H Q E h => ?_) (fun cdv A' outer s H vs Q E hr h => ?_)
  · obtain ⟨A, b, so, pk, M, g, nl, pl, log, args, C, u, rfl, _, bad, _⟩ := h
    cases bad <;> rfl
  · obtain ⟨A, b, so, pk, M, g, nl, pl, log, args, C, u, rfl, bd, bad, tl⟩ := h
    obtain ⟨a, b2, rfl⟩ : ∃ a b2, args = [a, b2] := by cases bad <;> exact ⟨_, _, rfl⟩
    have nd := sc_bfire.nd
    obtain ⟨dx, h1⟩ := bd.obj
    refine ⟨_, (pss_one (ps_expr (pe_meth (pv 0) B.cl mCa GCa (hr.mono (by decide)) bCa .nil (passes_call (E := E) (takes_of rfl rfl rfl rfl) (fun _ _ _ _ h => h)) (pa_cons (pe_tup (pa_cons pe_str (pa_cons (pv 1) (pa_cons (pv 2) pa_nil)))) pa_nil)))), ?_⟩
    refine ⟨_, rfl, b, dx, _, rfl, h1, rfl, _, rfl, _, rfl, by show 3 ≤ sizeLine; decide, fun t nt => ?_⟩
    obtain ⟨H1, q1, s1, ht⟩ := newAt (.tup (V.str "fire" :: [a, b2])) nt
    rw [show (V.str _ :: _ : List V) = V.str "fire" :: [a, b2] from rfl, q1]
    exact ⟨A, b, so, pk, M, g, nl, pl, t, log, "fire", _, C, u, rfl, ht, bd.same s1, bad.same s1, tl.later s1⟩
theorem ok_bputB {f : Addr} {fd : FuncData} (F : Fun K "put" "Board.put" s_Board_put f fd) (B : BTxt K mg CB) (GCa : MAt P w K mg base CB (L2.CX P w) 10 "carry_out" ["self", "operation"] (spCBad K CG CT CB CPl CN CNu)) :
    FnOk P w K mg base (L2.CX P w) 11 f fd ["self", "node", "number"] (spMBad K CG CT CB CPl CN CNu "put") := by
  obtain ⟨fCa, fdCa, GCa, mCa, bCa⟩ := GCa
  refine F.okX sc_bput (fun vs H Q E h => ?_) (fun cdv A' outer s H vs Q E hr h => ?_)
  · obtain ⟨A, b, so, pk, M, g, nl, pl, log, args, C, u, rfl, _, bad, _⟩ := h
    cases bad <;> rfl
  · obtain ⟨A, b, so, pk, M, g, nl, pl, log, args, C, u, rfl, bd, bad, tl⟩ := h
    obtain ⟨a, b2, rfl⟩ : ∃ a b2, args = [a, b2] := by cases bad <;> exact ⟨_, _, rfl⟩
    have nd := sc_bput.nd
    obtain ⟨dx, h1⟩ := bd.obj
    refine ⟨_, (pss_one (ps_expr (pe_meth (pv 0) B.cl mCa GCa (hr.mono (by decide)) bCa .nil (passes_call (E := E) (takes_of rfl rfl rfl rfl) (fun _ _ _ _ h => h)) (pa_cons (pe_tup (pa_cons pe_str (pa_cons (pv 1) (pa_cons (pv 2) pa_nil)))) pa_nil)))), ?_⟩
    refine ⟨_, rfl, b, dx, _, rfl, h1, rfl, _, rfl, _, rfl, by show 3 ≤ sizeLine; decide, fun t nt => ?_⟩
    obtain ⟨H1, q1, s1, ht⟩ := newAt (.tup (V.str "put" :: [a, b2])) nt
    rw [show (V.str _ :: _ : List V) = V.str "put" :: [a, b2] from rfl, q1]
    exact ⟨A, b, so, pk, M, g, nl, pl, t, log, "put", _, C, u, rfl, ht, bd.same s1, bad.same s1, tl.later s1⟩
theorem ok_badd_nodeB {f : Addr} {fd : FuncData} (F : Fun K "add_node" "Board.add_node" s_Board_add_node f fd) (B : BTxt K mg CB) (GCa : MAt P w K mg base CB (L2.CX P w) 10 "carry_out" ["self", "operation"] (spCBad K CG CT CB CPl CN CNu)) :
    FnOk P w K mg base (L2.CX P w) 11 f fd ["self", "number"] (spMBad K CG CT CB CPl CN CNu "add_node") := by
  obtain ⟨fCa, fdCa, GCa, mCa, bCa⟩ := GCa
  refine F.okX sc_badd_node (fun vs H Q E h => ?_) (fun cdv A' outer s H vs Q E hr h => ?_)
  · obtain ⟨A, b, so, pk, M, g, nl, pl, log, args, C, u, rfl, _, bad, _⟩ := h
    cases bad <;> rfl
  · obtain ⟨A, b, so, pk, M, g, nl, pl, log, args, C, u, rfl, bd, bad, tl⟩ := h
    obtain ⟨a, rfl⟩ : ∃ a, args = [a] := by cases bad <;> exact ⟨_, rfl⟩
    have nd := sc_badd_node.nd
    obtain ⟨dx, h1⟩ := bd.obj
    refine ⟨_, (pss_one (ps_ret (pe_meth (pv 0) B.cl mCa GCa (hr.mono (by decide)) bCa .nil (passes_call (E := E) (takes_of rfl rfl rfl rfl) (fun _ _ _ _ h => h)) (pa_cons (pe_tup (pa_cons pe_str (pa_cons (pv 1) pa_nil))) pa_nil)))), ?_⟩
    refine ⟨_, rfl, b, dx, _, rfl, h1, rfl, _, rfl, by show 2 ≤ sizeLine; decide, fun t nt => ?_⟩
    obtain ⟨H1, q1, s1, ht⟩ := newAt (.tup (V.str "add_node" :: [a])) nt
    rw [show (V.str _ :: _ : List V) = V.str "add_node" :: [a] from rfl, q1]
    exact ⟨A, b, so, pk, M, g, nl, pl, t, log, "add_node", _, C, u, rfl, ht, bd.same s1, bad.same s1, tl.later s1⟩
theorem ok_badd_edgeB {f : Addr} {fd : FuncData} (F : Fun K "add_edge" "Board.add_edge" s_Board_add_edge f fd) (B : BTxt K mg CB) (GCa : MAt P w K mg base CB (L2.CX P w) 10 "carry_out" ["self", "operation"] (spCBad K CG CT CB CPl CN CNu)) :
    FnOk P w K mg base (L2.CX P w) 11 f fd ["self", "one", "two"] (spMBad K CG CT CB CPl CN CNu "add_edge") := by
  obtain ⟨fCa, fdCa, GCa, mCa, bCa⟩ := GCa
  refine F.okX sc_badd_edge (fun vs H Q E h => ?_) (fun cdv A' outer s H vs Q E hr h => ?_)
  · obtain ⟨A, b, so, pk, M, g, nl, pl, log, args, C, u, rfl, _, bad, _⟩ := h
    cases bad <;> rfl
  · obtain ⟨A, b, so, pk, M, g, nl, pl, log, args, C, u, rfl, bd, bad, tl⟩ := h
    obtain ⟨a, b2, rfl⟩ : ∃ a b2, args = [a, b2] := by cases bad <;> exact ⟨_, _, rfl⟩
    have nd := sc_badd_edge.nd
    obtain ⟨dx, h1⟩ := bd.obj
    refine ⟨_, (pss_one (ps_expr (pe_meth (pv 0) B.cl mCa GCa (hr.mono (by decide)) bCa .nil (passes_call (E := E) (takes_of rfl rfl rfl rfl) (fun _ _ _ _ h => h)) (pa_cons (pe_tup (pa_cons pe_str (pa_cons (pv 1) (pa_cons (pv 2) pa_nil)))) pa_nil)))), ?_⟩
    refine ⟨_, rfl, b, dx, _, rfl, h1, rfl, _, rfl, _, rfl, by show 3 ≤ sizeLine; decide, fun t nt => ?_⟩
    obtain ⟨H1, q1, s1, ht⟩ := newAt (.tup (V.str "add_edge" :: [a, b2])) nt
    rw [show (V.str _ :: _ : List V) = V.str "add_edge" :: [a, b2] from rfl, q1]
    exact ⟨A, b, so, pk, M, g, nl, pl, t, log, "add_edge", _, C, u, rfl, ht, bd.same s1, bad.same s1, tl.later s1⟩
theorem ok_bremove_edgeB {f : Addr} {fd : FuncData} (F : Fun K "remove_edge" "Board.remove_edge" s_Board_remove_edge f fd) (B : BTxt K mg CB) (GCa : MAt P w K mg base CB (L2.CX P w) 10 "carry_out" ["self", "operation"] (spCBad K CG CT CB CPl CN CNu)) :
    FnOk P w K mg base (L2.CX P w) 11 f fd ["self", "one", "two"] (spMBad K CG CT CB CPl CN CNu "remove_edge") := by
  obtain ⟨fCa, fdCa, GCa, mCa, bCa⟩ := GCa
  refine F.okX sc_bremove_edge (fun vs H Q E h => ?_) (fun cdv A' outer s H vs Q E hr h => ?_)
  · obtain ⟨A, b, so, pk, M, g, nl, pl, log, args, C, u, rfl, _, bad, _⟩ := h
    cases bad <;> rfl
  · obtain ⟨A, b, so, pk, M, g, nl, pl, log, args, C, u, rfl, bd, bad, tl⟩ := h
    obtain ⟨a, b2, rfl⟩ : ∃ a b2, args = [a, b2] := by cases bad <;> exact ⟨_, _, rfl⟩
    have nd := sc_bremove_edge.nd
    obtain ⟨dx, h1⟩ := bd.obj
    refine ⟨_, (pss_one (ps_expr (pe_meth (pv 0) B.cl mCa GCa (hr.mono (by decide)) bCa .nil (passes_call (E := E) (takes_of rfl rfl rfl rfl) (fun _ _ _ _ h => h)) (pa_cons (pe_tup (pa_cons pe_str (pa_cons (pv 1) (pa_cons (pv 2) pa_nil)))) pa_nil)))), ?_⟩
    refine ⟨_, rfl, b, dx, _, rfl, h1, rfl, _, rfl, _, rfl, by show 3 ≤ sizeLine; decide, fun t nt => ?_⟩
    obtain ⟨H1, q1, s1, ht⟩ := newAt (.tup (V.str "remove_edge" :: [a, b2])) nt
    rw [show (V.str _ :: _ : List V) = V.str "remove_edge" :: [a, b2] from rfl, q1]
    exact ⟨A, b, so, pk, M, g, nl, pl, t, log, "remove_edge", _, C, u, rfl, ht, bd.same s1, bad.same s1, tl.later s1⟩
end
end K71
set_option Elab.async false
set_option linter.all false
set_option maxRecDepth 100000
set_option maxHeartbeats 4000000
namespace FNX
open PySem PySem.Spec PyProof.Rows L2
theorem fly_keeps {base h h' : Heap} {l : List Env} {e : Addr} {Z : Obj → Prop} (x : HandSPX.FlyingZ base l e Z h) (k : ∀ b o, h.get? b = some o → h'.get? b = some o) : HandSPX.FlyingZ base l e Z h' := by
  obtain ⟨f1, f2, f3, oe, vs, T, oT, ts, g1, g2, g3, g4, g5, g6, g7, g8, g9⟩ := x
  exact ⟨fun b o z => k _ _ (f1 b o z), f2, PySem.Heap.FunFrames.of_keeps (fun b o z _ => ⟨o, k b o z, rfl⟩) f3, oe, vs, T, oT, ts, k _ _ g1, g2, g3, g4, g5, g6, k _ _ g7, g8, g9⟩
abbrev TSx := Addr → Value → Option Addr → TS
inductive CItem
  | one (c : Value) (ts : TSx)
  | tup (c1 c2 c3 : Value) (ts : TSx)
  | bare (c : Value) (ts : TSx)
abbrev dropI (i : Nat) (D : Ends) : Ends := { nx := fun σ' H' => D.nx (σ'.set i none) H', rt := D.rt, bk := fun σ' H' => D.bk (σ'.set i none) H', ct := fun σ' H' => D.ct (σ'.set i none) H' }
def wMas3 (K : PySem.W.Frag) (i : Nat) (Wout : WX) (D : Ends) : List CItem → WX
  | [] => Wout
  | .one c ts :: r => wAs K c i ts (wMas3 K i Wout D r) D
  | .tup c1 c2 c3 ts :: r => fun cls d σ H => ∃ b, PySem.W.exmAny K cls [c1, c2, c3] = some b ∧ (b = true → ∀ a, H a = none → ts a cls d (dropI i D) (σ.set i (some (.ref a))) H) ∧ (b = false → wMas3 K i Wout D r cls d σ H)
  | .bare c ts :: r => fun cls d σ H => ∃ b, PySem.W.exmOne K cls c = some b ∧ (b = true → ∀ a, H a = none → ts a cls d D σ H) ∧ (b = false → wMas3 K i Wout D r cls d σ H)
inductive Clauses3 (X : Cx) (n : Str) : List ExceptHandler → List CItem → Prop
  | nil : Clauses3 X n [] []
  | one {x : Str} {c : Value} {ts : TSx} {b : Stmt} {l : List Stmt} {p1 p2 : Pos} {hs : List ExceptHandler} {r : List CItem} (hc : Names X x c) (hsu : SuiteOk X (b :: l) ts) (hr : Clauses3 X n hs r) :
      Clauses3 X n (.ExceptHandler (some (.Name x p1)) (some n) (b :: l) p2 :: hs) (.one c ts :: r)
  | tup {x1 x2 x3 : Str} {c1 c2 c3 : Value} {ts : TSx} {b : Stmt} {l : List Stmt} {j : Nat} {p1 p2 q1 q2 q3 : Pos} {hs : List ExceptHandler} {r : List CItem} (h1 : Names X x1 c1) (h2 : Names X x2 c2) (h3 : Names X x3 c3) (hsu : SuiteOk X (b :: l) ts)
      (e1 : starEach [.Name x1 q1, .Name x2 q2, .Name x3 q3] X.env = (false, eval (.Name x1 q1) X.env) :: starEach [.Name x2 q2, .Name x3 q3] X.env) (e2 : starEach [.Name x2 q2, .Name x3 q3] X.env = (false, eval (.Name x2 q2) X.env) :: starEach [.Name x3 q3] X.env)
      (e3 : starEach [.Name x3 q3] X.env = (false, eval (.Name x3 q3) X.env) :: starEach [] X.env) (hr : Clauses3 X n hs r) :
      Clauses3 X n (.ExceptHandler (some (.Tuple [.Name x1 q1, .Name x2 q2, .Name x3 q3] j p1)) (some n) (b :: l) p2 :: hs) (.tup c1 c2 c3 ts :: r)
  | bare {x : Str} {c : Value} {ts : TSx} {b : Stmt} {l : List Stmt} {p1 p2 : Pos} {hs : List ExceptHandler} {r : List CItem} (hc : Names X x c) (hsu : SuiteOk X (b :: l) ts) (hr : Clauses3 X n hs r) :
      Clauses3 X n (.ExceptHandler (some (.Name x p1)) none (b :: l) p2 :: hs) (.bare c ts :: r)
section
variable {X : Cx} {n : Str} {i : Nat} {body : List Stmt} {h1 : ExceptHandler} {hs : List ExceptHandler} {cl : List CItem} {pos : Pos} {tb : WX → TS} {Wout : WX}
theorem ps_try_mas3 (hst : X.stack = X.env :: X.outer) (hfr : X.env.frame = some X.env.locals) (hN : X.N.Nodup) (hi : X.N[i]? = some n) (hn : X.env.kindOf n = some .local) (tk : Takes X Wout)
    (hb : ∀ (W : WX) (pn : List (Addr × Obj)) (xe : Value → Shared → Prop), Takes (X.tr pn xe) W → PassesOwn (model X.prog X.w) X.A X.env xe → PSs (X.tr pn xe) body (tb W))
    (hc : Clauses3 X n (h1 :: hs) cl) : PS X (.Try body (h1 :: hs) [] [] pos) (fun D σ H => tb (wMas3 X.K i Wout D cl) D σ H) := by
  refine ⟨fun pins s σ H D I h => wpAny_Try_except ?_⟩
  have ok := I.ok
  have fs : X.A.frames = some (X.env :: X.outer) := ok.frames.trans (congrArg some hst)
  refine wpAny_mono ((hb (wMas3 X.K i Wout D cl) (X.pn ++ pins) (caught X pins D (h1 :: hs)) (fun u s' got => ?_) PassesOwn.looking).run [] s σ H D (I.toTry _) h) (fun fl s1 z => ?_) (fun _ _ z => z)
  · obtain ⟨a, B, sI, pins', σ', H', cls, d, rfl, J', nb, up, sky, na, os, ag, wish⟩ := got
    have J : Inv X pins σ' H' sI := J'.ofTry ok
    refine Sky.land Zc.steady fs hfr (show Sky B (X.env :: X.outer) a (Zc cls d) X.env.locals s'.heap from hst ▸ sky) fun hp0 fly0 upp0 => ?_
    have walk : ∀ {l : List ExceptHandler} {r : List CItem}, Clauses3 X n l r → wMas3 X.K i Wout D r cls d σ' H' → ∀ {hp : Heap}, HandSPX.FlyingZ B (X.env :: X.outer) a (Zc cls d) hp → s'.heap.UpToSlots hp →
        wpAny (model X.prog X.w) X.A (handleBy (.ref a) X.env l) (SP X pins D) X.xe { s' with heap := hp } := by
      intro l r hl
      induction hl with
      | nil =>
        intro want hp fly upp
        have up1 := up.trans upp
        refine wpAny_handleBy_nil ?_
        have leave : wpAny (model X.prog X.w) X.A (setFlight (.ref a) X.env.frame) (fun _ s4 => wpAny (model X.prog X.w) X.A (throw (.ref a) : Sem Flow) (SP X pins D) X.xe s4) X.xe { s' with heap := hp } := by
          rw [hfr]
          exact HandSPX.setFlight_upZ fly fun h4 held up4 => wpAny_throw (tk _ _ ⟨a, B, sI, pins, σ', H', cls, d, rfl, J, nb, up1.trans up4, .inr (.inr (by rw [hst]; exact held)), na, os, ag, want⟩)
        obtain ⟨_, _, _, ob, vb, T, _, _, hob, _, hdb, hTb, _⟩ := id fly
        unfold PySem.passOn
        refine wpAny_bind (wpAny_field hob hdb hTb ?_)
        have nz : ¬ ((Value.ref T == Value.none) = true) := by simp
        rw [if_neg nz]
        first
          | exact wpAny_bind leave
          | exact wpAny_bind (wpAny_pure (wpAny_bind leave))
      | @one x c ts b l2 p1 p2 hs2 r2 hnm hsu _ ih =>
        intro want hp fly upp
        have up1 := up.trans upp
        obtain ⟨oz, fz, az, zz, dz⟩ := fly.there
        have off : a ∉ frs (X.env :: X.outer) := fun hm => by
          obtain ⟨_, o2, e2, no2⟩ := fly.2.2.1.mem hm
          obtain rfl : oz = o2 := Option.some.inj (az.symm.trans e2)
          exact no2 fz dz
        have offL : a ≠ X.env.locals := fun e => off (List.mem_filterMap.mpr ⟨X.env, List.mem_cons_self, by rw [hfr, e]⟩)
        have offF : a ∉ X.fs := fun hm => by
          obtain ⟨v, hv, q⟩ := List.mem_filterMap.mp hm
          exact off (List.mem_filterMap.mpr ⟨v, List.mem_cons_of_mem _ hv, q⟩)
        have J1 : Inv X pins σ' H' { s' with heap := hp } := J.landed nb fly.1 up1 os ag
        obtain ⟨bl, hbl, yes, no⟩ := want
        have S1 := J1.suite az dz na offL offF
        have named : ∀ {Q1 : Value → Shared → Prop} {E1 : Value → Shared → Prop}, Q1 c { s' with heap := hp } →
            wpAny (model X.prog X.w) (X.A.mark (some (.ref a))) (eval (.Name x p1) X.env) Q1 E1 { s' with heap := hp } := fun q1 => by
          obtain ⟨g1, g2, g3⟩ := hnm
          rcases g3 with g3 | ⟨g3, g4, g5⟩
          · exact ld_glob (X := X.suite a ((a, oz) :: (X.pn ++ pins))) S1 g1 g3 q1 g2
          · exact ld_blt (X := X.suite a ((a, oz) :: (X.pn ++ pins))) S1 g1 g3 g4 q1 g5 g2
        have itsType : PySem.W.Looks (model X.prog X.w) hp (typeOf (.ref a)) cls := fun A1 Q1 E1 s1 k1 q1 => wpAny_typeOf_ref (k1 _ _ az) (zz.1.symm ▸ q1)
        have match_ := PySem.W.exm_one (M := model X.prog X.w) J1.kIn itsType hbl
        refine wpAny_handleBy_cons (codeAny_handlers_test (named (match_.here ?_))) (by intro e; cases e)
        cases bl with
        | false => exact ih (no rfl) fly upp
        | true =>
          refine codeAny_handlers_suite_as (HandSPX.lands_againZ fly fun h4 fly4 up4 => ?_)
          obtain ⟨o4, f4, a4, z4, d4⟩ := fly4.there
          have J4 : Inv X pins σ' H' { s' with heap := h4 } := J.landed nb fly4.1 (up1.trans up4) os ag
          refine store_ok (X := X.suite a ((a, o4) :: (X.pn ++ pins))) (v := .ref a) (J4.suite a4 d4 na offL offF) hN hi (.inl hn) rfl (fun s5 S5 => ?_) (.inr hn)
          refine wpAny_mono ((hsu a o4 cls d (X.pn ++ pins) z4 ⟨f4, d4⟩).run [] s5 _ H' _ S5 (yes rfl a na)) (fun fl s6 z => ?_) (fun _ _ z => z.elim)
          have done : ∀ {σ6 : L2.St} {H6 : Hp} {Q6 : Shared → Prop}, Inv (X.suite a ((a, o4) :: (X.pn ++ pins))) [] σ6 H6 s6 → (∀ s7, Inv X pins (σ6.set i none) H6 s7 → Q6 s7) →
              wpAny (model X.prog X.w) X.A (do bindName X.env n .none; unbindBehindTheSuite X.env n p2) (fun _ s7 => Q6 s7) X.xe s6 := fun S6 q6 => gone_ok (S6.unsuite ok) hN hi hn q6
          cases fl with
          | ret u =>
            obtain ⟨v6, σ6, H6, S6, r6, q6⟩ := z
            exact done S6 fun s7 J7 => ⟨v6, _, _, J7, r6, q6⟩
          | next =>
            obtain ⟨σ6, H6, S6, q6⟩ := z
            exact done S6 fun s7 J7 => ⟨_, H6, J7, q6⟩
          | brk =>
            obtain ⟨σ6, H6, S6, q6⟩ := z
            exact done S6 fun s7 J7 => ⟨_, H6, J7, q6⟩
          | cont =>
            obtain ⟨σ6, H6, S6, q6⟩ := z
            exact done S6 fun s7 J7 => ⟨_, H6, J7, q6⟩
      | @tup x1 x2 x3 c1 c2 c3 ts b l2 j p1 p2 q1 q2 q3 hs2 r2 hn1 hn2 hn3 hsu e1 e2 e3 _ ih =>
        intro want hp fly upp
        have up1 := up.trans upp
        obtain ⟨oz, fz, az, zz, dz⟩ := fly.there
        have off : a ∉ frs (X.env :: X.outer) := fun hm => by
          obtain ⟨_, o2, e2, no2⟩ := fly.2.2.1.mem hm
          obtain rfl : oz = o2 := Option.some.inj (az.symm.trans e2)
          exact no2 fz dz
        have offL : a ≠ X.env.locals := fun e => off (List.mem_filterMap.mpr ⟨X.env, List.mem_cons_self, by rw [hfr, e]⟩)
        have offF : a ∉ X.fs := fun hm => by
          obtain ⟨v, hv, q⟩ := List.mem_filterMap.mp hm
          exact off (List.mem_filterMap.mpr ⟨v, List.mem_cons_of_mem _ hv, q⟩)
        have J1 : Inv X pins σ' H' { s' with heap := hp } := J.landed nb fly.1 up1 os ag
        obtain ⟨bl, hbl, yes, no⟩ := want
        have S1 := J1.suite az dz na offL offF
        have named : ∀ {x : Str} {c : Value} {p : Pos} {Q1 : Value → Shared → Prop} {E1 : Value → Shared → Prop}, Names X x c → Q1 c { s' with heap := hp } →
            wpAny (model X.prog X.w) (X.A.mark (some (.ref a))) (eval (.Name x p) X.env) Q1 E1 { s' with heap := hp } := fun hnm q1 => by
          obtain ⟨g1, g2, g3⟩ := hnm
          rcases g3 with g3 | ⟨g3, g4, g5⟩
          · exact ld_glob (X := X.suite a ((a, oz) :: (X.pn ++ pins))) S1 g1 g3 q1 g2
          · exact ld_blt (X := X.suite a ((a, oz) :: (X.pn ++ pins))) S1 g1 g3 g4 q1 g5 g2
        obtain ⟨hp2, ehp⟩ : ∃ hp2, hp.push { cls := .type "tuple", data := .seq [c1, c2, c3].toArray } = hp2 := ⟨_, rfl⟩
        have kk : ∀ b o, hp.get? b = some o → hp2.get? b = some o := fun b o z => by rw [← ehp]; exact Heap.get?_push_of_some _ z
        have atT : hp2.get? hp.objs.size = some { cls := .type "tuple", data := .seq [c1, c2, c3].toArray } := by rw [← ehp]; exact Heap.get?_push_size _ rfl
        have fly2 := fly_keeps fly kk
        have upp2 : s'.heap.UpToSlots hp2 := upp.trans (Heap.UpToSlots.of_keeps kk)
        have up2 := up.trans upp2
        have J2 : Inv X pins σ' H' { s' with heap := hp2 } := J.landed nb fly2.1 up2 os ag
        have itsType : PySem.W.Looks (model X.prog X.w) hp2 (typeOf (.ref a)) cls := fun A1 Q1 E1 s1 k1 q1 => wpAny_typeOf_ref (k1 _ _ (kk _ _ az)) (zz.1.symm ▸ q1)
        have match_ := PySem.W.exm_tup3 (M := model X.prog X.w) J2.kIn itsType atT hbl
        refine wpAny_handleBy_cons (codeAny_handlers_test (wpAny_Tuple_spliced (spliced_more (named hn1 (spliced_more (named hn2 (spliced_more (named hn3 (spliced_none ⟨by show 3 ≤ sizeLine; rw [sizeLine_eq]; decide, ?_⟩)) e3)) e2)) e1))) (by intro e; cases e)
        show wpAny _ _ (excMatches (.ref a) (.ref hp.objs.size)) _ _ { s' with heap := hp.push { cls := .type "tuple", data := .seq [c1, c2, c3].toArray } }
        rw [ehp]
        refine match_.here ?_
        cases bl with
        | false => exact ih (no rfl) fly2 upp2
        | true =>
          refine codeAny_handlers_suite_as (HandSPX.lands_againZ fly2 fun h4 fly4 up4 => ?_)
          obtain ⟨o4, f4, a4, z4, d4⟩ := fly4.there
          have J4 : Inv X pins σ' H' { s' with heap := h4 } := J.landed nb fly4.1 (up2.trans up4) os ag
          refine store_ok (X := X.suite a ((a, o4) :: (X.pn ++ pins))) (v := .ref a) (J4.suite a4 d4 na offL offF) hN hi (.inl hn) rfl (fun s5 S5 => ?_) (.inr hn)
          refine wpAny_mono ((hsu a o4 cls d (X.pn ++ pins) z4 ⟨f4, d4⟩).run [] s5 _ H' _ S5 (yes rfl a na)) (fun fl s6 z => ?_) (fun _ _ z => z.elim)
          have done : ∀ {σ6 : L2.St} {H6 : Hp} {Q6 : Shared → Prop}, Inv (X.suite a ((a, o4) :: (X.pn ++ pins))) [] σ6 H6 s6 → (∀ s7, Inv X pins (σ6.set i none) H6 s7 → Q6 s7) →
              wpAny (model X.prog X.w) X.A (do bindName X.env n .none; unbindBehindTheSuite X.env n p2) (fun _ s7 => Q6 s7) X.xe s6 := fun S6 q6 => gone_ok (S6.unsuite ok) hN hi hn q6
          cases fl with
          | ret u =>
            obtain ⟨v6, σ6, H6, S6, r6, q6⟩ := z
            exact done S6 fun s7 J7 => ⟨v6, _, _, J7, r6, q6⟩
          | next =>
            obtain ⟨σ6, H6, S6, q6⟩ := z
            exact done S6 fun s7 J7 => ⟨_, H6, J7, q6⟩
          | brk =>
            obtain ⟨σ6, H6, S6, q6⟩ := z
            exact done S6 fun s7 J7 => ⟨_, H6, J7, q6⟩
          | cont =>
            obtain ⟨σ6, H6, S6, q6⟩ := z
            exact done S6 fun s7 J7 => ⟨_, H6, J7, q6⟩
      | @bare x c ts b l2 p1 p2 hs2 r2 hnm hsu _ ih =>
        intro want hp fly upp
        have up1 := up.trans upp
        obtain ⟨oz, fz, az, zz, dz⟩ := fly.there
        have off : a ∉ frs (X.env :: X.outer) := fun hm => by
          obtain ⟨_, o2, e2, no2⟩ := fly.2.2.1.mem hm
          obtain rfl : oz = o2 := Option.some.inj (az.symm.trans e2)
          exact no2 fz dz
        have offL : a ≠ X.env.locals := fun e => off (List.mem_filterMap.mpr ⟨X.env, List.mem_cons_self, by rw [hfr, e]⟩)
        have offF : a ∉ X.fs := fun hm => by
          obtain ⟨v, hv, q⟩ := List.mem_filterMap.mp hm
          exact off (List.mem_filterMap.mpr ⟨v, List.mem_cons_of_mem _ hv, q⟩)
        have J1 : Inv X pins σ' H' { s' with heap := hp } := J.landed nb fly.1 up1 os ag
        obtain ⟨bl, hbl, yes, no⟩ := want
        have S1 := J1.suite az dz na offL offF
        have named : ∀ {Q1 : Value → Shared → Prop} {E1 : Value → Shared → Prop}, Q1 c { s' with heap := hp } →
            wpAny (model X.prog X.w) (X.A.mark (some (.ref a))) (eval (.Name x p1) X.env) Q1 E1 { s' with heap := hp } := fun q1 => by
          obtain ⟨g1, g2, g3⟩ := hnm
          rcases g3 with g3 | ⟨g3, g4, g5⟩
          · exact ld_glob (X := X.suite a ((a, oz) :: (X.pn ++ pins))) S1 g1 g3 q1 g2
          · exact ld_blt (X := X.suite a ((a, oz) :: (X.pn ++ pins))) S1 g1 g3 g4 q1 g5 g2
        have itsType : PySem.W.Looks (model X.prog X.w) hp (typeOf (.ref a)) cls := fun A1 Q1 E1 s1 k1 q1 => wpAny_typeOf_ref (k1 _ _ az) (zz.1.symm ▸ q1)
        have match_ := PySem.W.exm_one (M := model X.prog X.w) J1.kIn itsType hbl
        refine wpAny_handleBy_cons (codeAny_handlers_test (named (match_.here ?_))) (by intro e; cases e)
        cases bl with
        | false => exact ih (no rfl) fly upp
        | true =>
          refine codeAny_handlers_suite (HandSPX.lands_againZ fly fun h4 fly4 up4 => ?_)
          obtain ⟨o4, f4, a4, z4, d4⟩ := fly4.there
          have J4 : Inv X pins σ' H' { s' with heap := h4 } := J.landed nb fly4.1 (up1.trans up4) os ag
          refine wpAny_mono ((hsu a o4 cls d (X.pn ++ pins) z4 ⟨f4, d4⟩).run [] _ _ H' _ (J4.suite a4 d4 na offL offF) (yes rfl a na)) (fun fl s6 z => ?_) (fun _ _ z => False.elim z)
          cases fl with
          | ret u =>
            obtain ⟨v6, σ6, H6, S6, r6, q6⟩ := z
            exact ⟨_, _, _, S6.unsuite ok, r6, q6⟩
          | next =>
            obtain ⟨σ6, H6, S6, q6⟩ := z
            exact ⟨_, _, S6.unsuite ok, q6⟩
          | brk =>
            obtain ⟨σ6, H6, S6, q6⟩ := z
            exact ⟨_, _, S6.unsuite ok, q6⟩
          | cont =>
            obtain ⟨σ6, H6, S6, q6⟩ := z
            exact ⟨_, _, S6.unsuite ok, q6⟩
    exact walk hc wish fly0 upp0
  · cases fl with
    | ret u =>
      obtain ⟨v, σ1, H1, J1, rv, q⟩ := z
      exact ⟨v, σ1, H1, J1.ofTry ok, rv, q⟩
    | next =>
      obtain ⟨σ1, H1, J1, q⟩ := z
      exact wpAny_execs_nil ⟨σ1, H1, J1.ofTry ok, q⟩
    | brk =>
      obtain ⟨σ1, H1, J1, q⟩ := z
      exact ⟨σ1, H1, J1.ofTry ok, q⟩
    | cont =>
      obtain ⟨σ1, H1, J1, q⟩ := z
      exact ⟨σ1, H1, J1.ofTry ok, q⟩
end
end FNX
set_option Elab.async false
set_option linter.all false
set_option maxRecDepth 100000
set_option maxHeartbeats 4000000
namespace FNX
open PySem PySem.Spec PyProof.Rows L2
inductive EI
  | one (C : Addr) (m : MkC)
  | three (C1 C2 C3 : Addr) (m : MkC)
  | bare (C : Addr) (m : Hp → (V → Hp → Prop) → Prop)
def wErr3 (K : PySem.W.Frag) (Q : VK) : List EI → XK
  | [] => fun _ _ _ => False
  | .one C m :: r => fun cls d H => ∃ b, PySem.W.exmOne K cls (.ref C) = some b ∧
      (b = true → cls = .ref C ∧ ∃ (dd : Addr) (v : V) (dt : PyData), d = some dd ∧ H dd = some (.xd [(("value" : Str), v)]) ∧ Rd K H v dt ∧ m v dt H Q) ∧ (b = false → wErr3 K Q r cls d H)
  | .three C1 C2 C3 m :: r => fun cls d H => ∃ b, PySem.W.exmAny K cls [.ref C1, .ref C2, .ref C3] = some b ∧
      (b = true → (cls = .ref C1 ∨ cls = .ref C2 ∨ cls = .ref C3) ∧ ∃ (dd : Addr) (v : V) (dt : PyData), d = some dd ∧ H dd = some (.xd [(("value" : Str), v)]) ∧ Rd K H v dt ∧ m v dt H Q) ∧ (b = false → wErr3 K Q r cls d H)
  | .bare C m :: r => fun cls d H => ∃ b, PySem.W.exmOne K cls (.ref C) = some b ∧ (b = true → m H Q) ∧ (b = false → wErr3 K Q r cls d H)
/-- nothing is kept of what the door returns -/
def TErr3 (K : PySem.W.Frag) (cl : List EI) : (XK → Hp → VK → Prop) → Hp → VK → Prop :=
  fun tl H Q => tl (wErr3 K Q cl) H (fun _ H' => ∃ v : V, some (some V.non) = some (some v) ∧ Q v H')
/-- [word, text] -/
def mkW (word txt : Str) : Hp → (V → Hp → Prop) → Prop := fun H Q => ∀ p, H p = none → Q (.ref p) (upd H p (.lst [.str word, .str txt]))
/-- e.value, e of one of some classes -/
def tByE (K : PySem.W.Frag) (a : Addr) (cls : Value) (d : Option Addr) (te : TE) : TE := fun σ H Q => te σ H fun y H1 => y = .ref a ∧ ∃ (C dd : Addr) (v : V), XC K C ∧ cls = .ref C ∧ d = some dd ∧
  H1 dd = some (.xd [(("value" : Str), v)]) ∧ Q v H1
section
variable {X : Cx} {e : Expr} {pos : Pos}
theorem pe_byXE {a : Addr} {oe : Obj} {cls : Value} {d : Option Addr} {pn : List (Addr × Obj)} {te : TE} (hz : Zc cls d oe) (hf : ∃ vs, oe.data = .fields vs) (he : PE (X.suite a ((a, oe) :: pn)) e te)
    (hb : attributeBase e "value" X.env (eval e X.env) = eval e X.env := by rfl) : PE (X.suite a ((a, oe) :: pn)) (.Attribute e "value" pos) (tByE X.K a cls d te) := by
  refine ⟨fun pins s σ H Q I h => ?_⟩
  refine attr_of hb (thn (he.run pins s σ H _ I h) fun u s1 hh => ?_)
  obtain ⟨y, H1, I1, rx, rfl, C, dd, v, T, rfl, rfl, ea, q⟩ := hh
  obtain rfl : u = Value.ref a := rx
  obtain ⟨ha, _⟩ := I1.pin (a, oe) (List.mem_append_left _ List.mem_cons_self)
  obtain ⟨vs, hd⟩ := hf
  obtain ⟨mA, hns, hr⟩ := (show ObjOk X.prog X.w H1 s1.heap dd (.xd [(("value" : Str), v)]) from I1.hok dd _ ea)
  obtain ⟨od, ho, hl⟩ := lookIn_ns hns
  have l : List.lookup ("value" : Str) [(("value" : Str), v)] = some v := by simp [List.lookup]
  obtain ⟨u, hu, ru⟩ := RelO.some_of (v := v) (o := mA "value") (by rw [← l]; exact hr "value")
  have J : PySem.W.InstAt s1.heap a oe C (some od) := ⟨ha, hz.1, by unfold PySem.W.notCls; rw [hd] <;> rfl, by rw [hz.2]; exact ho⟩
  exact HandSPX.exc_get I1.kIn J T.ga T.gg T.exC (PySem.W.findObj_own T.hdC T.noV rfl (by rw [hl, hu])) (handed_of ru) ⟨v, H1, I1.tok _, ru, q⟩
end
end FNX
set_option Elab.async false
set_option linter.all false
set_option maxRecDepth 100000
set_option maxHeartbeats 4000000
namespace FNX
open PySem PySem.Spec PyProof.Rows L2
section
variable {X : Cx}
theorem mk_endN {pins : List (Addr × Obj)} {σ : L2.St} {H1 : Hp} {Q : XK} {hp hp2 h2 : Heap} {g1 g2 : Array GenState} {d1 d2 : Drawn} {t1 t2 : Nat} {os1 os2 : OsState} {a C : Addr} (T : Raises X (.ref C)) (I1 : Inv X pins σ H1 ⟨hp, g1, d1, t1, os1⟩)
    (ha : hp.objs.size ≤ a) (k : ∀ b o, hp.get? b = some o → hp2.get? b = some o) (un : Un (frs X.stack) [] (upd H1 a (exo a C none)) (upd H1 a (exo a C none)) hp2 h2) (hok : HOk X.prog X.w (upd H1 a (exo a C none)) h2) (ho : os2 = os1) (hb : AllBare g2)
    (q : Q (.ref C) none H1) : MkP X pins σ Q (.ref a) ⟨h2, g2, d2, t2, os2⟩ := by
  have ea : (upd H1 a (exo a C none)) a = some (exo a C none) := upd_same
  obtain ⟨t0, hoe⟩ := exo_at hok ea
  have hn : H1 a = none := I1.hok.fresh ha
  obtain ⟨G, g1', g2'⟩ := restrict h2 fun b => decide (b ≠ a)
  have gk : ∀ b, b ≠ a → G.get? b = h2.get? b := fun b hb => g1' b (decide_eq_true hb)
  have ge : G.get? a = none := g2' a (by simp)
  have nha : ∀ {b : Addr} {o : Obj}, hp.get? b = some o → b ≠ a := fun {b o} z => Nat.ne_of_lt (Nat.lt_of_lt_of_le (Heap.lt_size z) ha)
  have up : ∀ {b : Addr}, b ≠ a → H1 b = none → upd H1 a (exo a C none) b = none := fun {b} hb n => by rw [upd_ne hb]; exact n
  have U : Un (frs X.stack) [] H1 H1 hp G := {
    keep := fun b o z n hf hx => by
      rw [gk b (nha z)]
      exact un.keep b o (k b o z) (up (nha z) n) hf hx
    slot := fun b o z n hf hx => by
      rw [gk b (nha z)]
      exact un.slot b o (k b o z) (up (nha z) n) hf hx
    free := fun b o z n hx => n
    there := fun b o z hx => by
      rw [gk b (nha z)]
      exact un.there b o (k b o z) hx
    tups := fun b xs z => z
    frzs := fun b o v z => z
    tbls := fun b ps z => ⟨#[], by rw [Array.append_empty]; exact z⟩ }
  have hok3 : HOk X.prog X.w H1 G := fun b o z => by
    have hba : b ≠ a := ne_of_none z hn
    have z2 : (upd H1 a (exo a C none)) b = some o := by rw [upd_ne hba]; exact z
    have noa : ∀ {c : Addr}, (upd H1 a (exo a C none)) c = some (.own b) → c ≠ a := fun {c} hc => at_ne ea hc exo_own
    exact (hok b o z2).stay (fun c v hc y => by
        have hca : c ≠ a := by
          rcases hc with hc | hc
          · rw [hc]
            exact hba
          · exact noa hc
        rw [gk c hca]
        exact y)
      (fun c hc => by rw [upd_ne (noa hc)] at hc; exact hc) (fun c xs hc => by rw [upd_ne (at_ne ea hc exo_tup)] at hc; exact hc)
  have J : Inv X pins σ H1 ⟨G, g2, d2, t2, os2⟩ := I1.call' (ch := []) ho U hok3 hb (fun b z => absurd z (by simp))
  refine ⟨a, _, _, ⟨G, g2, d2, t2, os2⟩, H1, .ref C, none, rfl, J, fun b o z => ?_, ge, hoe, ⟨rfl, rfl⟩, rfl, rfl, hn, rfl, hb, T, q⟩
  by_cases hba : b = a
  · rw [hba, ge] at z
    cases z
  · exact (gk b hba).symm.trans z
end
section
variable {X : Cx} {x : Str} {C : Addr} {p pos : Pos}
theorem pmk_x0 (T : Ex0 X.prog X.w X.K X.mg X.base x C) (tyC : PySem.W.typeIn X.K (.ref C) = some (.type "type")) (hr : Room 2 X.A) (hg : Gl X x)
    (hdb : (x == ("__debug__" : Str)) = false := by decide) : PMk X (.Call (.Name x p) [] [] pos) (fun _ H Q => Q (.ref C) none H) := by
  intro pins s σ H Q I q
  refine wpAny_Call_Name_kw (ld_glob I hg T.mgC ?_ hdb)
  refine PySem.W.callWith_K0 I.kIn T.x0.xc.kC ?_
  obtain ⟨fI, fd, iC, tI, F1, hb⟩ := T.mkd
  obtain ⟨nm, qn, N, bs, bm, sn, sub, ab, col, dd, k0, k1, k2, k3, k5, B, newId, initId, bmB, hC, F, L⟩ := T.x0.xc.cls
  obtain ⟨hp, g, dr, tk, os⟩ := s
  have sz : hp.objs.size ≤ hp.objs.size + 1 := Nat.le_succ _
  have hn : H (hp.objs.size + 1) = none := I.hok.fresh sz
  have old : ∀ b o, hp.get? b = some o → ((hp.push (PySem.W.kdv_tup [])).push (PySem.HandSPX.excO C hp.objs.size)).get? b = some o :=
    fun b o z => Heap.get?_push_of_some _ (Heap.get?_push_of_some _ z)
  have at1 : ((hp.push (PySem.W.kdv_tup [])).push (PySem.HandSPX.excO C hp.objs.size)).get? (hp.objs.size + 1) =
      some (PySem.HandSPX.excO C hp.objs.size) := by heap_get
  have I2 : Inv X pins σ (upd H (hp.objs.size + 1) (exo (hp.objs.size + 1) C none))
      ⟨(hp.push (PySem.W.kdv_tup [])).push (PySem.HandSPX.excO C hp.objs.size), g, dr, tk, os⟩ :=
    I.laid (t' := tk) (o := exo (hp.objs.size + 1) C none) old sz (exo_ok at1)
  have hsp : sp0 C [V.ref (hp.objs.size + 1)] (upd H (hp.objs.size + 1) (exo (hp.objs.size + 1) C none))
      (fun z H2 => z = .non ∧ H2 = upd H (hp.objs.size + 1) (exo (hp.objs.size + 1) C none)) (fun _ _ _ => False) := ⟨_, rfl, upd_same, rfl, rfl⟩
  have rv : Vals [V.ref (hp.objs.size + 1)] [Value.ref (hp.objs.size + 1)] := .cons rfl .nil
  refine wpAny_call (called F L (I.kIn _ _ hC) (by rw [sizeLine_eq]; exact (by decide : 0 ≤ 16777216)) (PySem.W.looks_findIn I.kIn iC) (fun self => PySem.W.bind_fn I.kIn self tI)
    (codeAny_mono (F1.run _ X.stack _ _ ⟨[Value.ref (hp.objs.size + 1)], []⟩ [Value.ref (hp.objs.size + 1)] _ _ (fun _ _ _ => False) (hr.make C [] [])
      (I2.env0.make C [] []) (hb _ [Value.ref (hp.objs.size + 1)] I2.kIn rfl) rv hsp) fun r s' hq' => ?_))
  cases r with
  | error er => exact False.elim hq'
  | ok fl =>
    cases fl with
    | ret u' =>
      obtain ⟨z, H2, os2, bare2, un2, hok2, rz, ez, eH⟩ := hq'
      subst ez
      subst eH
      obtain ⟨h2, g2, d2, t2, os'⟩ := s'
      exact ⟨rz, mk_endN (raises_own T.x0.xc.exC tyC) I sz old un2 hok2 os2 bare2 q⟩
    | next => exact False.elim hq'
    | brk => exact False.elim hq'
    | cont => exact False.elim hq'
/-- raise C() -/
theorem ps_raise0 {W : WX} {pos2 : Pos} (hc : X.calm = true) (T : Ex0 X.prog X.w X.K X.mg X.base x C) (tyC : PySem.W.typeIn X.K (.ref C) = some (.type "type")) (hr : Room 2 X.A) (tk : Takes X W)
    (hg : Gl X x) (hdb : (x == ("__debug__" : Str)) = false := by decide) :
    PS X (.Raise (some (.Call (.Name x p) [] [] pos)) none pos2) (fun _ σ H => W (.ref C) none σ H) := ps_raise hc tk (pmk_x0 T tyC hr hg hdb)
end
end FNX
set_option Elab.async false
set_option linter.all false
set_option maxRecDepth 100000
set_option maxHeartbeats 8000000
namespace K71
open PySem PySem.Spec PyProof.Rows L2 FNX
abbrev clE (C0 C1 C2 C3 C4 C5 C6 C7 C8 C9 : Addr) : List EI := [.one C0 (mkR "position"), .one C1 (mkR "players"), .one C2 (mkR "node"), .one C3 (mkR "number"), .three C4 C5 C6 (mkR "invalid"), .one C7 (mkR "player"), .one C8 (mkR "many"), .bare C9 (mkW "undo" "")]
theorem sc_error : FnScope ["_law_door", "_law_kept", "e"] ["_law_door"] (defScope s__law_error) := ⟨rfl, rfl, rfl, by decide +kernel, rfl, by decide +kernel, by decide +kernel⟩
theorem err_gives {X : Cx} {g C0 C1 C2 C3 C4 C5 C6 C7 C8 C9 : Addr} {cdg : Value} {q : Str} (hgd : X.A.guards = some []) (hr : Room 2 X.A) (mR : X.mg "repr" = none)
    (E0 : Ex X.prog X.w X.K X.mg X.base "InvalidPosition" C0) (E1 : Ex X.prog X.w X.K X.mg X.base "InvalidPlayers" C1) (E2 : Ex X.prog X.w X.K X.mg X.base "InvalidNode" C2) (E3 : Ex X.prog X.w X.K X.mg X.base "InvalidNumber" C3) (E4 : Ex X.prog X.w X.K X.mg X.base "InvalidEdge" C4) (E5 : Ex X.prog X.w X.K X.mg X.base "InvalidLimit" C5) (E6 : Ex X.prog X.w X.K X.mg X.base "InvalidOperation" C6) (E7 : Ex X.prog X.w X.K X.mg X.base "NoPlayer" C7) (E8 : Ex X.prog X.w X.K X.mg X.base "TooMany" C8) (E9 : Ex0 X.prog X.w X.K X.mg X.base "NothingToUndo" C9) :
    LamX.GivesTo X ["_law_door", "_law_kept", "e"] "_law_error" (defScope s__law_error) g cdg (defBody s__law_error) "_law_door" q (TErr3 X.K (clE C0 C1 C2 C3 C4 C5 C6 C7 C8 C9)) := by
  intro f c' s H Q tl act hc h
  have nd := sc_error.nd
  have hu : X.A.units + 3 + 64 < cLine := (hr.deeper X.env).units
  refine ⟨_, pss_cons (ps_set (i := 1) nd rfl (Or.inl rfl) pe_non) (pss_cons (ps_try_mas3 (i := 2) (tb := tDoor f c' q tl) rfl rfl nd rfl rfl takes0
      (fun W pn xe tk _ => ⟨fun pins s' σ H' D I h' => by
        obtain ⟨Ech, hW, h1, h2, h3⟩ := h'
        exact (pss_one (ps_expr (act _ pn xe Ech _ _ (takes_len tk) (fun cls d σ' H' e l => hW cls d H' σ' e l)))).run pins s' σ H' D I ⟨h1, h2, h3⟩⟩)
      (.one ⟨rfl, by decide, .inl E0.mgC⟩ (fun z oz cls d pn hz hf => pss_one (ps_set (i := 1) nd rfl (Or.inl rfl) (pe_lst (pa_cons pe_str (pa_cons (pe_callB (show CallR _ (.builtin "repr") (rRepr X.K) from call_repr hgd hu) (by rfl) mR boot_repr1 (pa_cons (pe_byX E0.xc hz hf (pv 2)) pa_nil)) pa_nil)))))
      (.one ⟨rfl, by decide, .inl E1.mgC⟩ (fun z oz cls d pn hz hf => pss_one (ps_set (i := 1) nd rfl (Or.inl rfl) (pe_lst (pa_cons pe_str (pa_cons (pe_callB (show CallR _ (.builtin "repr") (rRepr X.K) from call_repr hgd hu) (by rfl) mR boot_repr1 (pa_cons (pe_byX E1.xc hz hf (pv 2)) pa_nil)) pa_nil)))))
      (.one ⟨rfl, by decide, .inl E2.mgC⟩ (fun z oz cls d pn hz hf => pss_one (ps_set (i := 1) nd rfl (Or.inl rfl) (pe_lst (pa_cons pe_str (pa_cons (pe_callB (show CallR _ (.builtin "repr") (rRepr X.K) from call_repr hgd hu) (by rfl) mR boot_repr1 (pa_cons (pe_byX E2.xc hz hf (pv 2)) pa_nil)) pa_nil)))))
      (.one ⟨rfl, by decide, .inl E3.mgC⟩ (fun z oz cls d pn hz hf => pss_one (ps_set (i := 1) nd rfl (Or.inl rfl) (pe_lst (pa_cons pe_str (pa_cons (pe_callB (show CallR _ (.builtin "repr") (rRepr X.K) from call_repr hgd hu) (by rfl) mR boot_repr1 (pa_cons (pe_byX E3.xc hz hf (pv 2)) pa_nil)) pa_nil)))))
      (.tup ⟨rfl, by decide, .inl E4.mgC⟩ ⟨rfl, by decide, .inl E5.mgC⟩ ⟨rfl, by decide, .inl E6.mgC⟩ (fun z oz cls d pn hz hf => pss_one (ps_set (i := 1) nd rfl (Or.inl rfl) (pe_lst (pa_cons pe_str (pa_cons (pe_callB (show CallR _ (.builtin "repr") (rRepr X.K) from call_repr hgd hu) (by rfl) mR boot_repr1 (pa_cons (pe_byXE hz hf (pv 2)) pa_nil)) pa_nil))))) rfl rfl rfl
      (.one ⟨rfl, by decide, .inl E7.mgC⟩ (fun z oz cls d pn hz hf => pss_one (ps_set (i := 1) nd rfl (Or.inl rfl) (pe_lst (pa_cons pe_str (pa_cons (pe_callB (show CallR _ (.builtin "repr") (rRepr X.K) from call_repr hgd hu) (by rfl) mR boot_repr1 (pa_cons (pe_byX E7.xc hz hf (pv 2)) pa_nil)) pa_nil)))))
      (.one ⟨rfl, by decide, .inl E8.mgC⟩ (fun z oz cls d pn hz hf => pss_one (ps_set (i := 1) nd rfl (Or.inl rfl) (pe_lst (pa_cons pe_str (pa_cons (pe_callB (show CallR _ (.builtin "repr") (rRepr X.K) from call_repr hgd hu) (by rfl) mR boot_repr1 (pa_cons (pe_byX E8.xc hz hf (pv 2)) pa_nil)) pa_nil)))))
      (.bare ⟨rfl, by decide, .inl E9.mgC⟩ (fun z oz cls d pn hz hf => pss_one (ps_set (i := 1) nd rfl (Or.inl rfl) (pe_lst (pa_cons pe_str (pa_cons pe_str pa_nil)))))
      .nil))))))))) (pss_one (ps_ret (pv 1)))), ?_⟩
  refine ⟨wErr3 X.K Q (clE C0 C1 C2 C3 C4 C5 C6 C7 C8 C9), fun cls d H' σ' w l => ?_, rfl, hc, h⟩
  obtain ⟨a, b, c, rfl⟩ := len3 l
  obtain ⟨b0, e0, yes0, no0⟩ := w
  refine ⟨b0, e0, fun t0 z nz => ?_, fun n0 => ?_⟩
  · obtain ⟨rfl, dd, v, dt, rfl, hd, hv, sh1, sh2, sh3, m⟩ := yes0 t0
    exact ⟨_, rfl, rfl, rfl, dd, _, rfl, hd, v, dt, rfl, hv, sh1, sh2, sh3, by show 2 ≤ sizeLine; decide, fun p np => ⟨_, rfl, m p np⟩⟩
  obtain ⟨b1, e1, yes1, no1⟩ := no0 n0
  refine ⟨b1, e1, fun t1 z nz => ?_, fun n1 => ?_⟩
  · obtain ⟨rfl, dd, v, dt, rfl, hd, hv, sh1, sh2, sh3, m⟩ := yes1 t1
    exact ⟨_, rfl, rfl, rfl, dd, _, rfl, hd, v, dt, rfl, hv, sh1, sh2, sh3, by show 2 ≤ sizeLine; decide, fun p np => ⟨_, rfl, m p np⟩⟩
  obtain ⟨b2, e2, yes2, no2⟩ := no1 n1
  refine ⟨b2, e2, fun t2 z nz => ?_, fun n2 => ?_⟩
  · obtain ⟨rfl, dd, v, dt, rfl, hd, hv, sh1, sh2, sh3, m⟩ := yes2 t2
    exact ⟨_, rfl, rfl, rfl, dd, _, rfl, hd, v, dt, rfl, hv, sh1, sh2, sh3, by show 2 ≤ sizeLine; decide, fun p np => ⟨_, rfl, m p np⟩⟩
  obtain ⟨b3, e3, yes3, no3⟩ := no2 n2
  refine ⟨b3, e3, fun t3 z nz => ?_, fun n3 => ?_⟩
  · obtain ⟨rfl, dd, v, dt, rfl, hd, hv, sh1, sh2, sh3, m⟩ := yes3 t3
    exact ⟨_, rfl, rfl, rfl, dd, _, rfl, hd, v, dt, rfl, hv, sh1, sh2, sh3, by show 2 ≤ sizeLine; decide, fun p np => ⟨_, rfl, m p np⟩⟩
  obtain ⟨b4, e4, yes4, no4⟩ := no3 n3
  refine ⟨b4, e4, fun t4 z nz => ?_, fun n4 => ?_⟩
  · obtain ⟨hcls, dd, v, dt, rfl, hd, hv, sh1, sh2, sh3, m⟩ := yes4 t4
    obtain ⟨C, T, rfl⟩ : ∃ C, XC X.K C ∧ cls = .ref C := by rcases hcls with rfl | rfl | rfl; exact ⟨_, E4.xc, rfl⟩; exact ⟨_, E5.xc, rfl⟩; exact ⟨_, E6.xc, rfl⟩
    exact ⟨_, rfl, rfl, C, dd, _, T, rfl, rfl, hd, v, dt, rfl, hv, sh1, sh2, sh3, by show 2 ≤ sizeLine; decide, fun p np => ⟨_, rfl, m p np⟩⟩
  obtain ⟨b5, e5, yes5, no5⟩ := no4 n4
  refine ⟨b5, e5, fun t5 z nz => ?_, fun n5 => ?_⟩
  · obtain ⟨rfl, dd, v, dt, rfl, hd, hv, sh1, sh2, sh3, m⟩ := yes5 t5
    exact ⟨_, rfl, rfl, rfl, dd, _, rfl, hd, v, dt, rfl, hv, sh1, sh2, sh3, by show 2 ≤ sizeLine; decide, fun p np => ⟨_, rfl, m p np⟩⟩
  obtain ⟨b6, e6, yes6, no6⟩ := no5 n5
  refine ⟨b6, e6, fun t6 z nz => ?_, fun n6 => ?_⟩
  · obtain ⟨rfl, dd, v, dt, rfl, hd, hv, sh1, sh2, sh3, m⟩ := yes6 t6
    exact ⟨_, rfl, rfl, rfl, dd, _, rfl, hd, v, dt, rfl, hv, sh1, sh2, sh3, by show 2 ≤ sizeLine; decide, fun p np => ⟨_, rfl, m p np⟩⟩
  obtain ⟨b7, e7, yes7, no7⟩ := no6 n6
  refine ⟨b7, e7, fun t7 z nz => ?_, fun n7 => ?_⟩
  · exact ⟨by show 2 ≤ sizeLine; decide, fun p np => ⟨_, rfl, (yes7 t7) p np⟩⟩
  exact (no7 n7).elim
end K71
set_option Elab.async false
set_option linter.all false
set_option maxRecDepth 100000
set_option maxHeartbeats 8000000
namespace K71
open PySem PySem.Spec PyProof.Rows L2 FNX
def spCheckLim (K : PySem.W.Frag) (CL : Addr) : Sp := fun vs H Q E => ∃ (v : V) (d : PyData), vs = [v] ∧ Rd K H v d ∧ (within 0 10000 d = false → told CL v H E) ∧ (within 0 10000 d = true → Q .non H)
def spUndoB (CG CT CB CU : Addr) : Sp := fun vs H Q E => ∃ (A : List Addr) (b so pk : Addr) (M : Mo) (g nl pl : Addr), vs = [.ref b] ∧ BdAt CG CT CB A H b so pk M g nl pl [] ∧ E (.ref CU) none H
def spPlayB (K : PySem.W.Frag) (CG CT CB CPl CL : Addr) : Sp := fun vs H Q E => ∃ (A : List Addr) (b so pk : Addr) (M : Mo) (g nl pl : Addr) (log : List En) (p l : V) (dp : PyData), vs = [.ref b, p, l] ∧ BdAt CG CT CB A H b so pk M g nl pl log ∧ RdS K H p dp ∧
  (isNode M.sc.length dp = false ∧ told CPl p H E ∨ isNode M.sc.length dp = true ∧ ∃ dl, RdS K H l dl ∧ within 0 10000 dl = false ∧ told CL l H E)
def NoSq (K : PySem.W.Frag) (H : Hp) (v : V) : Prop := ∀ H', Same H H' → ∃ t, TyX K H' v t ∧ PySem.W.kitAny K t [.type "list", .type "tuple"] = some false
def spTogB (K : PySem.W.Frag) (CG CT CB CO : Addr) : Sp := fun vs H Q E => ∃ (b : Addr) (v : V), vs = [.ref b, v] ∧ NoSq K H v ∧ told CO v H E
def spBInitB (K : PySem.W.Frag) (CG CP CPs : Addr) : Sp := fun vs H Q E => ∃ (b g : Addr) (n : Nat) (es : List (Int × Int)) (q p : V) (dq dp : PyData), vs = [.ref b, .ref g, q, p] ∧ GE CG H g n es ∧ Rd K H q dq ∧ lenD dq ≤ 100000 ∧ RdS K H p dp ∧
  (isIL n dq = false ∧ told CP q H E ∨ isIL n dq = true ∧ within 1 8 dp = false ∧ told CPs p H E)
section
variable {P : Program} {w : World} {K : PySem.W.Frag} {mg : Str → Option Value} {base : Heap} {CG CT CB CPl CN CL CU CO CP CPs : Addr}
theorem ok_check_limitB {f : Addr} {fd : FuncData} (F : Fun K "check_limit" "check_limit" s_check_limit f fd) (ELi : Ex P w K mg base "InvalidLimit" CL) (tyELi : PySem.W.typeIn K (.ref CL) = some (.type "type")) {tm : Tok} (mMF : mg "MOST_FIRINGS" = some (.int 10000 tm))
    (G : At P w K mg base CX0 2 "is_integer_within" ["thing", "low", "high"] (spWithin K)) : FnOk P w K mg base (L2.CX P w) 4 f fd ["limit"] (spCheckLim K CL) := by
  obtain ⟨fW, fdW, GW, mW, kW, bW⟩ := G
  refine F.okX ⟨rfl, rfl, rfl, by decide +kernel, rfl, by decide +kernel, by decide +kernel⟩ (N := ["limit"]) (fun vs H Q E h => ?_) (fun cdv A outer s H vs Q E hr h => ?_)
  · obtain ⟨v, d, rfl, _⟩ := h
    rfl
  · obtain ⟨v, d, rfl, hd, t, k⟩ := h
    refine ⟨_, (pss_one (ps_if (pt_not (pt_val (pe_call GW (hr.mono (by decide)) (by rfl) mW kW bW .nil pass0 (pa_cons (pv 0) (pa_cons pe_int (pa_cons (pe_glob (v := .int 10000) (by rfl) mMF ⟨_, rfl⟩) pa_nil)))))) (pss_one (ps_raiseX rfl ELi tyELi (hr.mono (by decide)) (takes_of rfl rfl rfl rfl) rfl (pa_cons (pv 0) pa_nil))) pss_nil)), ?_⟩
    refine ⟨_, rfl, v, d, 0, 10000, rfl, hd, _, rfl, ?_⟩
    cases c : within 0 10000 d with
    | false => exact iteT ⟨_, rfl, v, rfl, fun dd H' nd s2 hx => t c H' dd s2 nd hx⟩
    | true => exact iteF (k c)
theorem sc_undo : FnScope ["self", "operation", "undoing", "inverse"] ["self"] (defScope s_Board_undo) := ⟨rfl, rfl, rfl, by decide +kernel, rfl, by decide +kernel, by decide +kernel⟩
theorem ok_undoB {f : Addr} {fd : FuncData} (F : Fun K "undo" "Board.undo" s_Board_undo f fd) (B : BTxt K mg CB) (EU : Ex0 P w K mg base "NothingToUndo" CU) (tyEU : PySem.W.typeIn K (.ref CU) = some (.type "type")) :
    FnOk P w K mg base (L2.CX P w) 4 f fd ["self"] (spUndoB CG CT CB CU) := by
  refine F.okX sc_undo (fun vs H Q E h => ?_) (fun cdv A outer s H vs Q E hr h => ?_)
  · obtain ⟨A, b, so, pk, M, g, nl, pl, rfl, _⟩ := h
    rfl
  · obtain ⟨A, b, so, pk, M, g, nl, pl, rfl, bd, e⟩ := h
    obtain ⟨⟨dx, h1⟩, st, ⟨es, h3, h4⟩, _⟩ := id bd
    have e0 : es = [] := List.length_eq_zero_iff.mp h4.at.1
    subst e0
    refine ⟨_, pss_cons (ps_if (pt_not (pt_truth (pe_fld (pv 0) rfl) (by intro _; rfl))) (pss_one (ps_raise0 rfl EU tyEU (hr.mono (by decide)) (takes_of rfl rfl rfl rfl) rfl)) pss_nil) pss_never, ?_⟩
    exact ⟨_, rfl, b, CB, dx, _, _, rfl, h1, B.cl, B.n2, bl_p _ _, false, .inl ⟨_, SqL.of h3, rfl⟩, iteT e⟩
theorem sc_play_on : FnScope ["self", "player", "limit", "fired", "node"] ["self", "player", "limit"] (defScope s_Board_play_on) := ⟨rfl, rfl, rfl, by decide +kernel, rfl, by decide +kernel, by decide +kernel⟩
theorem ok_playB {f : Addr} {fd : FuncData} (F : Fun K "play_on" "Board.play_on" s_Board_play_on f fd) (M : Nms mg) (S : STxt K mg CT) (B : BTxt K mg CB) (GPl : At P w K mg base (L2.CX P w) 4 "check_player" ["count", "player"] (spCheckPl K CPl))
    (GCl : At P w K mg base (L2.CX P w) 4 "check_limit" ["limit"] (spCheckLim K CL)) : FnOk P w K mg base (L2.CX P w) 6 f fd ["self", "player", "limit"] (spPlayB K CG CT CB CPl CL) := by
  obtain ⟨fPl, fdPl, GPl, mPl, kPl, bPl⟩ := GPl
  obtain ⟨fCl, fdCl, GCl, mCl, kCl, bCl⟩ := GCl
  refine F.okX sc_play_on (fun vs H Q E h => ?_) (fun cdv A' outer s H vs Q E hr h => ?_)
  · obtain ⟨A, b, so, pk, M, g, nl, pl, log, p, l, dp, rfl, _⟩ := h
    rfl
  · obtain ⟨A, b, so, pk, ⟨n, ges, x, sc⟩, g, nl, pl, log, p, l, dp, rfl, bd, hp, or_⟩ := h
    have nd := sc_play_on.nd
    obtain ⟨⟨dx, h1⟩, st, ⟨es, h3, h4⟩, _⟩ := id bd
    obtain ⟨⟨dxs, o1⟩, hg, hnum, hpts, hlen, hfew⟩ := st.all
    refine ⟨_, pss_cons (ps_expr (pe_call GPl (hr.mono (by decide)) (by rfl) mPl kPl bPl .nil (passes_call (E := E) (takes_of rfl rfl rfl rfl) (fun _ _ _ _ h => h)) (pa_cons (pe_callB call_len_seq (by rfl) M.len boot_len1 (pa_cons (pe_fld (pe_fld (pv 0) rfl) rfl) pa_nil)) (pa_cons (pv 1) pa_nil))))
      (pss_cons (ps_expr (pe_call GCl (hr.mono (by decide)) (by rfl) mCl kCl bCl .nil (passes_call (E := E) (takes_of rfl rfl rfl rfl) (fun _ _ _ _ h => h)) (pa_cons (pv 2) pa_nil))) pss_never), ?_⟩
    refine ⟨_, rfl, b, CB, dx, _, _, rfl, h1, B.cl, B.n1, bl_s _ _, so, CT, dxs, _, _, rfl, o1, S.cl, S.n3, sl_p _ _ _, pl, _, rfl, .inl (SqL.of hpts), _, rfl, (sc.map V.int).length, p, dp, rfl, hp.at, ?_⟩
    rcases or_ with ⟨no, tl⟩ | ⟨yes, dl, hl, no, tl⟩
    · have no : isNode (sc.map V.int).length dp = false := by rw [List.length_map]; exact no
      exact ⟨fun _ => tl, fun y => by rw [no] at y; cases y⟩
    · have yes : isNode (sc.map V.int).length dp = true := by rw [List.length_map]; exact yes
      exact ⟨(fun y => by rw [yes] at y; cases y), fun _ => ⟨_, rfl, l, dl, rfl, hl.at, fun _ => tl, fun y => by rw [no] at y; cases y⟩⟩
theorem sc_togB : FnScope ["self", "operations", "trial", "results", "undoing", "operation", "result", "inverse"] ["self", "operations"] (defScope s_Board_together) := ⟨rfl, rfl, rfl, by decide +kernel, rfl, by decide +kernel, by decide +kernel⟩
theorem ok_togB {f : Addr} {fd : FuncData} (F : Fun K "together" "Board.together" s_Board_together f fd) (M : Nms mg) (EO : Ex P w K mg base "InvalidOperation" CO) (tyEO : PySem.W.typeIn K (.ref CO) = some (.type "type")) :
    FnOk P w K mg base (L2.CX P w) 4 f fd ["self", "operations"] (spTogB K CG CT CB CO) := by
  refine F.okX sc_togB (fun vs H Q E h => ?_) (fun cdv A' outer s H vs Q E hr h => ?_)
  · obtain ⟨b, v, rfl, _⟩ := h
    rfl
  · obtain ⟨b, v, rfl, ty, tl⟩ := h
    have nd := sc_togB.nd
    refine ⟨_, pss_cons (ps_if (pt_not (pt_val (pe_callB call_isiT (by rfl) M.isi boot_isi (pa_cons (pv 1) (pa_cons (pe_tup (pa_cons (pe_bltn (v := V.ty "list") rfl M.list (by decide +kernel) rfl) (pa_cons (pe_bltn (v := V.ty "tuple") rfl M.tuple (by decide +kernel) rfl) pa_nil))) pa_nil)))))
      (pss_one (ps_raiseX rfl EO tyEO (hr.mono (by decide)) (takes_of rfl rfl rfl rfl) rfl (pa_cons (pv 1) pa_nil))) pss_nil) pss_never, ?_⟩
    refine ⟨_, rfl, by show 2 ≤ sizeLine; decide, fun tp ntp => ?_⟩
    obtain ⟨t, ht, hk⟩ := ty _ (same_upd ntp)
    exact ⟨v, tp, _, _, _, _, rfl, upd_same, .cons (.ty _) (.cons (.ty _) .nil), ht, hk, _, rfl, iteT ⟨_, rfl, v, rfl, fun dd H' nd s2 hx => tl H' dd ((same_upd ntp).trans s2) ((same_upd ntp).free nd) hx⟩⟩
theorem ok_binitB {f : Addr} {fd : FuncData} {dvs : List V} {kws : List (Str × V)} (F : FunD K "__init__" "Board.__init__" (defArgs s_Board_init) (defBody s_Board_init) (defScope s_Board_init) dvs kws f fd) (M : Nms mg) (T : GTxt K mg CG) {t8 : Tok} (m8 : mg "MOST_PLAYERS" = some (.int 8 t8))
    (EPs : Ex P w K mg base "InvalidPlayers" CPs) (tyEPs : PySem.W.typeIn K (.ref CPs) = some (.type "type"))
    (GCp : At P w K mg base (L2.CX P w) 3 "check_position" ["size", "position"] (spCheckPos K CP)) (GW : At P w K mg base CX0 2 "is_integer_within" ["thing", "low", "high"] (spWithin K)) (GSz : MAt P w K mg base CG CX0 1 "size" ["self"] (spSizeE CG)) :
    FnOk P w K mg base (L2.CX P w) 6 f fd ["self", "graph", "position", "players"] (spBInitB K CG CP CPs) := by
  obtain ⟨fCp, fdCp, GCp, mCp, kCp, bCp⟩ := GCp
  obtain ⟨fW, fdW, GW, mW, kW, bW⟩ := GW
  obtain ⟨fSz, fdSz, GSz, mSz, bSz⟩ := GSz
  refine F.ok sc_binit (fun vs H Q E h => ?_) (fun cdv A' outer s H vs Q E hr h => ?_)
  · obtain ⟨b, g, n, es, q, p, dq, dp, rfl, _⟩ := h
    rfl
  · obtain ⟨b, g, n, es, q, p, dq, dp, rfl, hg, hq, hlen, hp, or_⟩ := h
    have nd := sc_binit.nd
    obtain ⟨dxg, jg, nrg, Ng, og, _⟩ := hg.obj
    refine ⟨_, pss_cons (ps_expr (pe_call GCp (hr.mono (by decide)) (by rfl) mCp kCp bCp .nil (passes_call (E := E) (takes_of rfl rfl rfl rfl) (fun _ _ _ _ h => h)) (pa_cons (pe_meth0 (pv 1) T.cl mSz GSz (hr.mono (by decide)) bSz .nil pass0) (pa_cons (pv 2) pa_nil))))
      (pss_cons (ps_if (pt_not (pt_val (pe_call GW (hr.mono (by decide)) (by rfl) mW kW bW .nil pass0 (pa_cons (pv 3) (pa_cons pe_int (pa_cons (pe_glob (v := .int 8) (by rfl) m8 ⟨_, rfl⟩) pa_nil)))))) (pss_one (ps_raiseX rfl EPs tyEPs (hr.mono (by decide)) (takes_of rfl rfl rfl rfl) rfl (pa_cons (pv 3) pa_nil))) pss_nil) pss_never), ?_⟩
    refine ⟨_, rfl, g, dxg, _, rfl, og, rfl, g, n, es, rfl, hg, _, rfl, q, dq, n, rfl, hq, hlen, ?_⟩
    rcases or_ with ⟨no, tl⟩ | ⟨yes, no, tl⟩
    · exact ⟨(fun H1 s1 y => by rw [no] at y; cases y), fun H' dd s' nd' hx _ => tl H' dd s' nd' hx⟩
    · refine ⟨fun H1 s1 _ => ⟨_, rfl, p, dp, 1, 8, rfl, (hp.same s1).at, _, rfl, ?_⟩, (fun H' dd s' nd' hx y => by rw [yes] at y; cases y)⟩
      rw [no]
      exact iteT ⟨_, rfl, p, rfl, fun dd H' nd s2 hx => (tl.later s1) H' dd s2 nd hx⟩
end
end K71
set_option Elab.async false
set_option linter.all false
set_option maxRecDepth 100000
set_option maxHeartbeats 4000000
namespace FNX
open PySem PySem.Spec PyProof.Rows L2
/-- n values, and one by its name -/
def kwN {α : Type} (n : Nat) (us ws : List α) : List α := if us.length = n ∧ ws.length = 1 then us ++ ws else []
theorem kbN {K : PySem.W.Frag} {fd : FuncData} {n : Nat} {k : Str} {ps : List Str} (hn : ps.length = n + 1) (h : ∀ (s : Shared) (us : List Value) (v : Value), us.length = n → BindsTo s fd ⟨us, [(k, v)]⟩ (ps.zip (us ++ [v]))) :
    KBinds K fd ps [k] (kwN n) (kwN n) where
  to := fun s us ws _ hl => by
    unfold kwN at hl ⊢
    by_cases c : us.length = n ∧ ws.length = 1
    · rw [if_pos c]
      obtain ⟨v, rfl⟩ : ∃ v, ws = [v] := by
        match ws, c.2 with
        | [v], _ => exact ⟨v, rfl⟩
      exact h s us v c.1
    · rw [if_neg c, hn] at hl
      cases hl
  rel := fun {vs us zs ws} r rz => by
    have l1 := r.length
    have l2 := rz.length
    unfold kwN
    by_cases c : vs.length = n ∧ zs.length = 1
    · rw [if_pos c, if_pos ⟨l1 ▸ c.1, l2 ▸ c.2⟩]
      exact r.append rz
    · rw [if_neg c, if_neg (fun z => c ⟨l1.symm ▸ z.1, l2.symm ▸ z.2⟩)]
      exact .nil
def tMethK (C : Addr) (m : Str) (sp : Sp) (gV : List V → List V → List V) (E : XK) (ta : TE) (tk : TA) : TE := fun σ H Q => ta σ H fun x H1 => ∃ (a dx : Addr) (fs : List (Str × V)), x = .ref a ∧ H1 a = some (.ins C dx fs) ∧ fs.lookup m = none ∧
  tk σ H1 fun zs H2 => sp (gV [.ref a] zs) H2 Q E
section
variable {X : Cx} {CX : CXT} {k : Nat} {f C : Addr} {fd : FuncData} {ps ks : List Str} {sp : Sp} {g : List Value → List Value → List Value} {gV : List V → List V → List V} {E : XK} {o : Expr} {m : Str} {kws : List Keyword} {apos pos : Pos} {ta : TE} {tk : TA}
/-- o.m(k = v, ..) -/
theorem pe_methK0 {pl : Sem Bool} (he : PE X o ta) (c : Cls X.K C) (hm : Meth X.K C m f) (F : FnOk X.prog X.w X.K X.mg X.base CX k f fd ps sp) (hr : Room k X.A) (hb : KBinds X.K fd ps ks g gV) (hx : Passes CX X E)
    (hkw : PK X kws tk) (hall : (backToKw pos (keywordEach kws X.env)).all (·.1.isSome) = true := by rfl) (hks : (backToKw pos (keywordEach kws X.env)).filterMap (·.1) = ks := by rfl)
    (hpl : ((backTo pos (starEach [] X.env)).any (·.1) || (backToKw pos (keywordEach kws X.env)).any (·.1.isNone)) = false := by rfl)
    (ht : eval (.Call (.Attribute o m apos) [] kws pos) X.env = (do
      let ov ← eval o X.env
      standAt apos.atName
      let (f, first) ← holding [ov] (getMethod ov m pl)
      callWith pos f first (backTo pos (starEach [] X.env)) (backToKw pos (keywordEach kws X.env))) := by rfl) :
    PE X (.Call (.Attribute o m apos) [] kws pos) (tMethK C m sp gV E ta tk) := by
  refine ⟨fun pins s σ H Q I h => ?_⟩
  refine PySem.W.methodCall_KW (pl := pl) (thn (he.run pins s σ H _ I h) fun u s1 ⟨x, H1, I1, rx, a, dx, fs, ex, ea, l, q⟩ => ?_) ht
  subst ex
  obtain rfl : u = Value.ref a := rx
  refine getmeth_ok I1 ea c hm l ?_
  refine PySem.W.callWith_KW0 (first := [.ref a]) (h₀ := X.base) I1.ok.mod.kin hm.kp hall (thn (hkw.run pos pins s1 σ H1 _ I1 q) fun ws s2 ⟨zs, H2, I2, rz, q2⟩ => ⟨I2.kIn, ?_⟩) hpl
  rw [hks]
  exact run_fnk (us := [.ref a]) (vs := [.ref a]) F hr hb hx I2 (.cons rfl .nil) rz q2
end
end FNX
set_option Elab.async false
set_option linter.all false
set_option maxRecDepth 100000
set_option maxHeartbeats 8000000
namespace K71
open PySem PySem.Spec PyProof.Rows L2 FNX
def spOutB (K : PySem.W.Frag) (CG CL : Addr) : Sp := fun vs H Q E => ∃ (g q : Addr) (n : Nat) (es : List (Int × Int)) (x : List Int) (l : V) (dl : PyData), vs = [.ref g, .ref q, l] ∧ GE CG H g n es ∧ SqL K H q (x.map V.int) ∧ x.length = n ∧ RdS K H l dl ∧ within 0 10000 dl = false ∧ told CL l H E
def spRemB (K : PySem.W.Frag) (CG CT CB CL : Addr) : Sp := fun vs H Q E => ∃ (A : List Addr) (b so pk : Addr) (M : Mo) (g nl pl : Addr) (log : List En) (l : V) (dl : PyData), vs = [.ref b, l] ∧ BdAt CG CT CB A H b so pk M g nl pl log ∧ RdS K H l dl ∧ within 0 10000 dl = false ∧ told CL l H E
section
variable {P : Program} {w : World} {K : PySem.W.Frag} {mg : Str → Option Value} {base : Heap} {CG CT CB CL CP : Addr}
theorem sc_outcome : FnScope ["graph", "position", "limit", "results", "component", "result", "nodes", "length", "reached"] ["graph", "position", "limit"] (defScope s_outcome) := ⟨rfl, rfl, rfl, by decide +kernel, rfl, by decide +kernel, by decide +kernel⟩
theorem ok_outB {f : Addr} {fd : FuncData} {dvs : List V} {kws : List (Str × V)} (F : FunD K "outcome" "outcome" (defArgs s_outcome) (defBody s_outcome) (defScope s_outcome) dvs kws f fd) (M : Nms mg) (T : GTxt K mg CG)
    (GCp : At P w K mg base (L2.CX P w) 3 "check_position" ["size", "position"] (spCheckPos K CP)) (GCl : At P w K mg base (L2.CX P w) 4 "check_limit" ["limit"] (spCheckLim K CL)) (GSz : MAt P w K mg base CG CX0 1 "size" ["self"] (spSizeE CG)) :
    FnOk P w K mg base (L2.CX P w) 6 f fd ["graph", "position", "limit"] (spOutB K CG CL) := by
  obtain ⟨fCp, fdCp, GCp, mCp, kCp, bCp⟩ := GCp
  obtain ⟨fCl, fdCl, GCl, mCl, kCl, bCl⟩ := GCl
  obtain ⟨fSz, fdSz, GSz, mSz, bSz⟩ := GSz
  refine F.ok sc_outcome (fun vs H Q E h => ?_) (fun cdv A' outer s H vs Q E hr h => ?_)
  · obtain ⟨g, q, n, es, x, l, dl, rfl, _⟩ := h
    rfl
  · obtain ⟨g, q, n, es, x, l, dl, rfl, hg, hq, hlen, hl, no, tl⟩ := h
    have nd := sc_outcome.nd
    obtain ⟨dxg, jg, nrg, Ng, og, _⟩ := hg.obj
    have n16 := hg.n16
    refine ⟨_, pss_cons (ps_expr (pe_call GCp (hr.mono (by decide)) (by rfl) mCp kCp bCp .nil (passes_call (E := E) (takes_of rfl rfl rfl rfl) (fun _ _ _ _ h => h)) (pa_cons (pe_meth0 (pv 0) T.cl mSz GSz (hr.mono (by decide)) bSz .nil pass0) (pa_cons (pv 1) pa_nil))))
      (pss_cons (ps_expr (pe_call GCl (hr.mono (by decide)) (by rfl) mCl kCl bCl .nil (passes_call (E := E) (takes_of rfl rfl rfl rfl) (fun _ _ _ _ h => h)) (pa_cons (pv 2) pa_nil))) pss_never), ?_⟩
    refine ⟨_, rfl, g, dxg, _, rfl, og, rfl, g, n, es, rfl, hg, _, rfl, .ref q, posD x, n, rfl, .dat (.lst hq (dpInts x)), by show (x.map PyData.int).length ≤ 100000; rw [List.length_map]; omega, fun H1 s1 _ => ?_, fun H' dd s' nd' hx z => by rw [ilPos hlen] at z; cases z⟩
    exact ⟨_, rfl, l, dl, rfl, (hl.same s1).at, fun _ => tl.later s1, fun y => by rw [no] at y; cases y⟩
theorem sc_remain : FnScope ["self", "limit"] ["self", "limit"] (defScope s_Board_remaining) := ⟨rfl, rfl, rfl, by decide +kernel, rfl, by decide +kernel, by decide +kernel⟩
theorem ok_remB {f fO : Addr} {fd fdO : FuncData} {dvs : List V} {kws : List (Str × V)} (F : FunD K "remaining" "Board.remaining" (defArgs s_Board_remaining) (defBody s_Board_remaining) (defScope s_Board_remaining) dvs kws f fd) (S : STxt K mg CT) (B : BTxt K mg CB)
    (GO : FnOk P w K mg base (L2.CX P w) 6 fO fdO ["graph", "position", "limit"] (spOutB K CG CL)) (mO : mg "outcome" = some (.ref fO)) (kO : PySem.W.keepIn K (.ref fO) = true) (bO : KBinds K fdO ["graph", "position", "limit"] ["limit"] (kwN 2) (kwN 2)) :
    FnOk P w K mg base (L2.CX P w) 7 f fd ["self", "limit"] (spRemB K CG CT CB CL) := by
  refine F.ok sc_remain (fun vs H Q E h => ?_) (fun cdv A' outer s H vs Q E hr h => ?_)
  · obtain ⟨A, b, so, pk, M, g, nl, pl, log, l, dl, rfl, _⟩ := h
    rfl
  · obtain ⟨A, b, so, pk, ⟨n, ges, x, sc⟩, g, nl, pl, log, l, dl, rfl, bd, hl, no, tl⟩ := h
    have nd := sc_remain.nd
    obtain ⟨⟨dx, h1⟩, st, ⟨es, h3, h4⟩, _⟩ := id bd
    obtain ⟨⟨dxs, o1⟩, hg, hnum, hpts, hlen, hfew⟩ := st.all
    refine ⟨_, pss_one (ps_ret (pe_callK GO hr (by rfl) mO kO bO (passes_call (E := E) (takes_of rfl rfl rfl rfl) (fun _ _ _ _ h => h)) (pa_cons (pe_fld (pe_fld (pv 0) rfl) rfl) (pa_cons (pe_fld (pe_fld (pv 0) rfl) rfl) pa_nil)) (pk_cons (pv 1) pk_nil))), ?_⟩
    refine ⟨_, rfl, b, CB, dx, _, _, rfl, h1, B.cl, B.n1, bl_s _ _, so, CT, dxs, _, _, rfl, o1, S.cl, S.n1, sl_g _ _ _, _, rfl, b, CB, dx, _, _, rfl, h1, B.cl, B.n1, bl_s _ _, so, CT, dxs, _, _, rfl, o1, S.cl, S.n2, sl_n _ _ _, _, rfl, ?_⟩
    exact ⟨g, nl, n, ges, x, l, dl, rfl, hg, SqL.of hnum, hlen, hl, no, tl⟩
end
end K71
set_option Elab.async false
set_option linter.all false
set_option maxRecDepth 100000
set_option maxHeartbeats 8000000
namespace K71
open PySem PySem.Spec PyProof.Rows L2 FNX
structure Exm10 (K : PySem.W.Frag) (CP CPs CN CNu CE CL CO CPl CM CU : Addr) : Prop where
  x00 : PySem.W.exmOne K (.ref CP) (.ref CP) = some true
  x10 : PySem.W.exmOne K (.ref CPs) (.ref CP) = some false
  x11 : PySem.W.exmOne K (.ref CPs) (.ref CPs) = some true
  x20 : PySem.W.exmOne K (.ref CN) (.ref CP) = some false
  x21 : PySem.W.exmOne K (.ref CN) (.ref CPs) = some false
  x22 : PySem.W.exmOne K (.ref CN) (.ref CN) = some true
  x30 : PySem.W.exmOne K (.ref CNu) (.ref CP) = some false
  x31 : PySem.W.exmOne K (.ref CNu) (.ref CPs) = some false
  x32 : PySem.W.exmOne K (.ref CNu) (.ref CN) = some false
  x33 : PySem.W.exmOne K (.ref CNu) (.ref CNu) = some true
  x40 : PySem.W.exmOne K (.ref CE) (.ref CP) = some false
  x41 : PySem.W.exmOne K (.ref CE) (.ref CPs) = some false
  x42 : PySem.W.exmOne K (.ref CE) (.ref CN) = some false
  x43 : PySem.W.exmOne K (.ref CE) (.ref CNu) = some false
  x44 : PySem.W.exmOne K (.ref CE) (.ref CE) = some true
  x45 : PySem.W.exmOne K (.ref CE) (.ref CL) = some false
  x46 : PySem.W.exmOne K (.ref CE) (.ref CO) = some false
  x50 : PySem.W.exmOne K (.ref CL) (.ref CP) = some false
  x51 : PySem.W.exmOne K (.ref CL) (.ref CPs) = some false
  x52 : PySem.W.exmOne K (.ref CL) (.ref CN) = some false
  x53 : PySem.W.exmOne K (.ref CL) (.ref CNu) = some false
  x54 : PySem.W.exmOne K (.ref CL) (.ref CE) = some false
  x55 : PySem.W.exmOne K (.ref CL) (.ref CL) = some true
  x56 : PySem.W.exmOne K (.ref CL) (.ref CO) = some false
  x60 : PySem.W.exmOne K (.ref CO) (.ref CP) = some false
  x61 : PySem.W.exmOne K (.ref CO) (.ref CPs) = some false
  x62 : PySem.W.exmOne K (.ref CO) (.ref CN) = some false
  x63 : PySem.W.exmOne K (.ref CO) (.ref CNu) = some false
  x64 : PySem.W.exmOne K (.ref CO) (.ref CE) = some false
  x65 : PySem.W.exmOne K (.ref CO) (.ref CL) = some false
  x66 : PySem.W.exmOne K (.ref CO) (.ref CO) = some true
  x70 : PySem.W.exmOne K (.ref CPl) (.ref CP) = some false
  x71 : PySem.W.exmOne K (.ref CPl) (.ref CPs) = some false
  x72 : PySem.W.exmOne K (.ref CPl) (.ref CN) = some false
  x73 : PySem.W.exmOne K (.ref CPl) (.ref CNu) = some false
  x74 : PySem.W.exmOne K (.ref CPl) (.ref CE) = some false
  x75 : PySem.W.exmOne K (.ref CPl) (.ref CL) = some false
  x76 : PySem.W.exmOne K (.ref CPl) (.ref CO) = some false
  x77 : PySem.W.exmOne K (.ref CPl) (.ref CPl) = some true
  x80 : PySem.W.exmOne K (.ref CM) (.ref CP) = some false
  x81 : PySem.W.exmOne K (.ref CM) (.ref CPs) = some false
  x82 : PySem.W.exmOne K (.ref CM) (.ref CN) = some false
  x83 : PySem.W.exmOne K (.ref CM) (.ref CNu) = some false
  x84 : PySem.W.exmOne K (.ref CM) (.ref CE) = some false
  x85 : PySem.W.exmOne K (.ref CM) (.ref CL) = some false
  x86 : PySem.W.exmOne K (.ref CM) (.ref CO) = some false
  x87 : PySem.W.exmOne K (.ref CM) (.ref CPl) = some false
  x88 : PySem.W.exmOne K (.ref CM) (.ref CM) = some true
  x90 : PySem.W.exmOne K (.ref CU) (.ref CP) = some false
  x91 : PySem.W.exmOne K (.ref CU) (.ref CPs) = some false
  x92 : PySem.W.exmOne K (.ref CU) (.ref CN) = some false
  x93 : PySem.W.exmOne K (.ref CU) (.ref CNu) = some false
  x94 : PySem.W.exmOne K (.ref CU) (.ref CE) = some false
  x95 : PySem.W.exmOne K (.ref CU) (.ref CL) = some false
  x96 : PySem.W.exmOne K (.ref CU) (.ref CO) = some false
  x97 : PySem.W.exmOne K (.ref CU) (.ref CPl) = some false
  x98 : PySem.W.exmOne K (.ref CU) (.ref CM) = some false
  x99 : PySem.W.exmOne K (.ref CU) (.ref CU) = some true
section
variable {K : PySem.W.Frag} {CP CPs CN CNu CE CL CO CPl CM CU : Addr}
theorem any4 (X : Exm10 K CP CPs CN CNu CE CL CO CPl CM CU) : PySem.W.exmAny K (.ref CE) [.ref CE, .ref CL, .ref CO] = some true := by
  unfold PySem.W.exmAny PySem.W.exmAny PySem.W.exmAny PySem.W.exmAny
  rw [X.x44, X.x45, X.x46]
  rfl
theorem any5 (X : Exm10 K CP CPs CN CNu CE CL CO CPl CM CU) : PySem.W.exmAny K (.ref CL) [.ref CE, .ref CL, .ref CO] = some true := by
  unfold PySem.W.exmAny PySem.W.exmAny PySem.W.exmAny PySem.W.exmAny
  rw [X.x54, X.x55, X.x56]
  rfl
theorem any6 (X : Exm10 K CP CPs CN CNu CE CL CO CPl CM CU) : PySem.W.exmAny K (.ref CO) [.ref CE, .ref CL, .ref CO] = some true := by
  unfold PySem.W.exmAny PySem.W.exmAny PySem.W.exmAny PySem.W.exmAny
  rw [X.x64, X.x65, X.x66]
  rfl
theorem any7 (X : Exm10 K CP CPs CN CNu CE CL CO CPl CM CU) : PySem.W.exmAny K (.ref CPl) [.ref CE, .ref CL, .ref CO] = some false := by
  unfold PySem.W.exmAny PySem.W.exmAny PySem.W.exmAny PySem.W.exmAny
  rw [X.x74, X.x75, X.x76]
  rfl
theorem any8 (X : Exm10 K CP CPs CN CNu CE CL CO CPl CM CU) : PySem.W.exmAny K (.ref CM) [.ref CE, .ref CL, .ref CO] = some false := by
  unfold PySem.W.exmAny PySem.W.exmAny PySem.W.exmAny PySem.W.exmAny
  rw [X.x84, X.x85, X.x86]
  rfl
theorem any9 (X : Exm10 K CP CPs CN CNu CE CL CO CPl CM CU) : PySem.W.exmAny K (.ref CU) [.ref CE, .ref CL, .ref CO] = some false := by
  unfold PySem.W.exmAny PySem.W.exmAny PySem.W.exmAny PySem.W.exmAny
  rw [X.x94, X.x95, X.x96]
  rfl
theorem told0 (X : Exm10 K CP CPs CN CNu CE CL CO CPl CM CU) {v : V} {d : PyData} {H : Hp} {Q : VK} (hd : RdS K H v d) (sh : d.showable = true ∧ d.depth ≤ 60 ∧ d.shown.length ≤ sizeLine) (k : ∀ H' p, Same H H' → H' p = none → Q (.ref p) (upd H' p (.lst [.str "position", .str d.shown]))) : told CP v H (wErr3 K Q (clE CP CPs CN CNu CE CL CO CPl CM CU)) :=
  fun H' dd s nd hx => ⟨true, X.x00, fun _ => ⟨rfl, dd, v, d, rfl, hx, hd H' s, sh.1, sh.2.1, sh.2.2, fun p np => k H' p s np⟩, (fun z => nomatch z)⟩
theorem told1 (X : Exm10 K CP CPs CN CNu CE CL CO CPl CM CU) {v : V} {d : PyData} {H : Hp} {Q : VK} (hd : RdS K H v d) (sh : d.showable = true ∧ d.depth ≤ 60 ∧ d.shown.length ≤ sizeLine) (k : ∀ H' p, Same H H' → H' p = none → Q (.ref p) (upd H' p (.lst [.str "players", .str d.shown]))) : told CPs v H (wErr3 K Q (clE CP CPs CN CNu CE CL CO CPl CM CU)) :=
  fun H' dd s nd hx => ⟨false, X.x10, (fun z => nomatch z), fun _ => ⟨true, X.x11, fun _ => ⟨rfl, dd, v, d, rfl, hx, hd H' s, sh.1, sh.2.1, sh.2.2, fun p np => k H' p s np⟩, (fun z => nomatch z)⟩⟩
theorem told2 (X : Exm10 K CP CPs CN CNu CE CL CO CPl CM CU) {v : V} {d : PyData} {H : Hp} {Q : VK} (hd : RdS K H v d) (sh : d.showable = true ∧ d.depth ≤ 60 ∧ d.shown.length ≤ sizeLine) (k : ∀ H' p, Same H H' → H' p = none → Q (.ref p) (upd H' p (.lst [.str "node", .str d.shown]))) : told CN v H (wErr3 K Q (clE CP CPs CN CNu CE CL CO CPl CM CU)) :=
  fun H' dd s nd hx => ⟨false, X.x20, (fun z => nomatch z), fun _ => ⟨false, X.x21, (fun z => nomatch z), fun _ => ⟨true, X.x22, fun _ => ⟨rfl, dd, v, d, rfl, hx, hd H' s, sh.1, sh.2.1, sh.2.2, fun p np => k H' p s np⟩, (fun z => nomatch z)⟩⟩⟩
theorem told3 (X : Exm10 K CP CPs CN CNu CE CL CO CPl CM CU) {v : V} {d : PyData} {H : Hp} {Q : VK} (hd : RdS K H v d) (sh : d.showable = true ∧ d.depth ≤ 60 ∧ d.shown.length ≤ sizeLine) (k : ∀ H' p, Same H H' → H' p = none → Q (.ref p) (upd H' p (.lst [.str "number", .str d.shown]))) : told CNu v H (wErr3 K Q (clE CP CPs CN CNu CE CL CO CPl CM CU)) :=
  fun H' dd s nd hx => ⟨false, X.x30, (fun z => nomatch z), fun _ => ⟨false, X.x31, (fun z => nomatch z), fun _ => ⟨false, X.x32, (fun z => nomatch z), fun _ => ⟨true, X.x33, fun _ => ⟨rfl, dd, v, d, rfl, hx, hd H' s, sh.1, sh.2.1, sh.2.2, fun p np => k H' p s np⟩, (fun z => nomatch z)⟩⟩⟩⟩
theorem told4 (X : Exm10 K CP CPs CN CNu CE CL CO CPl CM CU) {v : V} {d : PyData} {H : Hp} {Q : VK} (hd : RdS K H v d) (sh : d.showable = true ∧ d.depth ≤ 60 ∧ d.shown.length ≤ sizeLine) (k : ∀ H' p, Same H H' → H' p = none → Q (.ref p) (upd H' p (.lst [.str "invalid", .str d.shown]))) : told CE v H (wErr3 K Q (clE CP CPs CN CNu CE CL CO CPl CM CU)) :=
  fun H' dd s nd hx => ⟨false, X.x40, (fun z => nomatch z), fun _ => ⟨false, X.x41, (fun z => nomatch z), fun _ => ⟨false, X.x42, (fun z => nomatch z), fun _ => ⟨false, X.x43, (fun z => nomatch z), fun _ => ⟨true, any4 X, fun _ => ⟨.inl rfl, dd, v, d, rfl, hx, hd H' s, sh.1, sh.2.1, sh.2.2, fun p np => k H' p s np⟩, (fun z => nomatch z)⟩⟩⟩⟩⟩
theorem told5 (X : Exm10 K CP CPs CN CNu CE CL CO CPl CM CU) {v : V} {d : PyData} {H : Hp} {Q : VK} (hd : RdS K H v d) (sh : d.showable = true ∧ d.depth ≤ 60 ∧ d.shown.length ≤ sizeLine) (k : ∀ H' p, Same H H' → H' p = none → Q (.ref p) (upd H' p (.lst [.str "invalid", .str d.shown]))) : told CL v H (wErr3 K Q (clE CP CPs CN CNu CE CL CO CPl CM CU)) :=
  fun H' dd s nd hx => ⟨false, X.x50, (fun z => nomatch z), fun _ => ⟨false, X.x51, (fun z => nomatch z), fun _ => ⟨false, X.x52, (fun z => nomatch z), fun _ => ⟨false, X.x53, (fun z => nomatch z), fun _ => ⟨true, any5 X, fun _ => ⟨.inr (.inl rfl), dd, v, d, rfl, hx, hd H' s, sh.1, sh.2.1, sh.2.2, fun p np => k H' p s np⟩, (fun z => nomatch z)⟩⟩⟩⟩⟩
theorem told6 (X : Exm10 K CP CPs CN CNu CE CL CO CPl CM CU) {v : V} {d : PyData} {H : Hp} {Q : VK} (hd : RdS K H v d) (sh : d.showable = true ∧ d.depth ≤ 60 ∧ d.shown.length ≤ sizeLine) (k : ∀ H' p, Same H H' → H' p = none → Q (.ref p) (upd H' p (.lst [.str "invalid", .str d.shown]))) : told CO v H (wErr3 K Q (clE CP CPs CN CNu CE CL CO CPl CM CU)) :=
  fun H' dd s nd hx => ⟨false, X.x60, (fun z => nomatch z), fun _ => ⟨false, X.x61, (fun z => nomatch z), fun _ => ⟨false, X.x62, (fun z => nomatch z), fun _ => ⟨false, X.x63, (fun z => nomatch z), fun _ => ⟨true, any6 X, fun _ => ⟨.inr (.inr rfl), dd, v, d, rfl, hx, hd H' s, sh.1, sh.2.1, sh.2.2, fun p np => k H' p s np⟩, (fun z => nomatch z)⟩⟩⟩⟩⟩
theorem told7 (X : Exm10 K CP CPs CN CNu CE CL CO CPl CM CU) {v : V} {d : PyData} {H : Hp} {Q : VK} (hd : RdS K H v d) (sh : d.showable = true ∧ d.depth ≤ 60 ∧ d.shown.length ≤ sizeLine) (k : ∀ H' p, Same H H' → H' p = none → Q (.ref p) (upd H' p (.lst [.str "player", .str d.shown]))) : told CPl v H (wErr3 K Q (clE CP CPs CN CNu CE CL CO CPl CM CU)) :=
  fun H' dd s nd hx => ⟨false, X.x70, (fun z => nomatch z), fun _ => ⟨false, X.x71, (fun z => nomatch z), fun _ => ⟨false, X.x72, (fun z => nomatch z), fun _ => ⟨false, X.x73, (fun z => nomatch z), fun _ => ⟨false, any7 X, (fun z => nomatch z), fun _ => ⟨true, X.x77, fun _ => ⟨rfl, dd, v, d, rfl, hx, hd H' s, sh.1, sh.2.1, sh.2.2, fun p np => k H' p s np⟩, (fun z => nomatch z)⟩⟩⟩⟩⟩⟩
theorem told8 (X : Exm10 K CP CPs CN CNu CE CL CO CPl CM CU) {v : V} {d : PyData} {H : Hp} {Q : VK} (hd : RdS K H v d) (sh : d.showable = true ∧ d.depth ≤ 60 ∧ d.shown.length ≤ sizeLine) (k : ∀ H' p, Same H H' → H' p = none → Q (.ref p) (upd H' p (.lst [.str "many", .str d.shown]))) : told CM v H (wErr3 K Q (clE CP CPs CN CNu CE CL CO CPl CM CU)) :=
  fun H' dd s nd hx => ⟨false, X.x80, (fun z => nomatch z), fun _ => ⟨false, X.x81, (fun z => nomatch z), fun _ => ⟨false, X.x82, (fun z => nomatch z), fun _ => ⟨false, X.x83, (fun z => nomatch z), fun _ => ⟨false, any8 X, (fun z => nomatch z), fun _ => ⟨false, X.x87, (fun z => nomatch z), fun _ => ⟨true, X.x88, fun _ => ⟨rfl, dd, v, d, rfl, hx, hd H' s, sh.1, sh.2.1, sh.2.2, fun p np => k H' p s np⟩, (fun z => nomatch z)⟩⟩⟩⟩⟩⟩⟩
theorem told9 (X : Exm10 K CP CPs CN CNu CE CL CO CPl CM CU) {H : Hp} {Q : VK} (k : ∀ p, H p = none → Q (.ref p) (upd H p (.lst [.str "undo", .str ""]))) : wErr3 K Q (clE CP CPs CN CNu CE CL CO CPl CM CU) (.ref CU) none H :=
  ⟨false, X.x90, (fun z => nomatch z), fun _ => ⟨false, X.x91, (fun z => nomatch z), fun _ => ⟨false, X.x92, (fun z => nomatch z), fun _ => ⟨false, X.x93, (fun z => nomatch z), fun _ => ⟨false, any9 X, (fun z => nomatch z), fun _ => ⟨false, X.x97, (fun z => nomatch z), fun _ => ⟨false, X.x98, (fun z => nomatch z), fun _ => ⟨true, X.x99, fun _ p np => k p np, (fun z => nomatch z)⟩⟩⟩⟩⟩⟩⟩⟩
end
end K71
set_option Elab.async false
set_option linter.all false
set_option maxRecDepth 100000
set_option maxHeartbeats 8000000
namespace K71
open PySem PySem.Spec PyProof.Rows L2 FNX
theorem GE.ext {CG : Addr} {H H' : Hp} {g : Addr} {n : Nat} {es : List (Int × Int)} (h : GE CG H g n es) (s : LamX.ExtN H H') : GE CG H' g n es := by
  obtain ⟨⟨dx, j, nr, N, h1, h2, h3, h4⟩, a, b, c, d⟩ := h
  exact ⟨⟨dx, j, nr, N, s _ _ h1 (fun _ z => by cases z), edExt h2 s, naExt h3 s, h4⟩, a, b, c, d⟩
theorem OpsAt.ext {H H' : Hp} {ts : List Addr} {ops : List Op} (h : OpsAt H ts ops) (s : LamX.ExtN H H') : OpsAt H' ts ops := ⟨h.1, fun k t e => by
  obtain ⟨op, h1, h2⟩ := h.2 k t e
  exact ⟨op, h1, s _ _ h2 fun _ z => by cases z⟩⟩
theorem EntAt.ext {H H' : Hp} {e : Addr} {en : En} (h : EntAt H e en) (s : LamX.ExtN H H') : EntAt H' e en := by
  have w : ∀ {b : Addr} {o : HO}, (∀ ps, o ≠ .tbl ps) → H b = some o → H' b = some o := fun n e => s _ _ e n
  cases en with
  | one op inv =>
    obtain ⟨o, u, iv, h1, h2, h3, h4⟩ := h
    exact ⟨o, u, iv, w (fun _ z => by cases z) h1, w (fun _ z => by cases z) h2, w (fun _ z => by cases z) h3, w (fun _ z => by cases z) h4⟩
  | many ops invs =>
    obtain ⟨o, l, u, ts, us, h1, h2, h3, h4, h5, h6⟩ := h
    exact ⟨o, l, u, ts, us, w (fun _ z => by cases z) h1, w (fun _ z => by cases z) h2, w (fun _ z => by cases z) h3, h4.ext s, w (fun _ z => by cases z) h5, h6.ext s⟩
theorem EntsAt.ext {H H' : Hp} {es : List Addr} {log : List En} (h : EntsAt H es log) (s : LamX.ExtN H H') : EntsAt H' es log := ⟨h.1, fun k e he => by
  obtain ⟨en, h1, h2⟩ := h.2 k e he
  exact ⟨en, h1, h2.ext s⟩⟩
open Classical in
theorem Stb.ext {A : List Addr} {H H1 : Hp} {Φ : Hp → Prop} (h : Stb A H Φ) (hΦ : ∀ G G', LamX.ExtN G G' → Φ G → Φ G') (s : LamX.ExtN H H1) : Stb A H1 Φ := fun H2 f => by
  refine hΦ (fun b => if ∃ ps, H b = some (.tbl ps) then H b else H2 b) H2 (fun b o e n => ?_) (h _ fun b o hb e => ?_)
  · dsimp only at e
    split at e
    · rename_i c
      obtain ⟨ps, c⟩ := c
      rw [c] at e
      exact absurd (Option.some.inj e).symm (n ps)
    · exact e
  · split
    · exact e
    · rename_i c
      exact f b o hb (s b o e fun ps z => c ⟨ps, by rw [e, z]⟩)
/-- no table of code objects is among them -/
def NoTb (A : List Addr) (H : Hp) : Prop := ∀ a ∈ A, ∃ o, H a = some o ∧ ∀ ps, o ≠ .tbl ps
theorem NoTb.same {A : List Addr} {H H' : Hp} (h : NoTb A H) (s : Same H H') : NoTb A H' := fun a ha => by
  obtain ⟨o, e, n⟩ := h a ha
  exact ⟨o, s _ _ e, n⟩
theorem NoTb.ext {A : List Addr} {H H' : Hp} (h : NoTb A H) (s : LamX.ExtN H H') : NoTb A H' := fun a ha => by
  obtain ⟨o, e, n⟩ := h a ha
  exact ⟨o, s _ _ e n, n⟩
theorem Dom.ext {A : List Addr} {H H' : Hp} (h : Dom A H) (nt : NoTb A H) (s : LamX.ExtN H H') : Dom A H' := fun a ha => by
  obtain ⟨o, e, n⟩ := h a ha
  obtain ⟨o', e', n'⟩ := nt a ha
  rw [e] at e'
  obtain rfl := Option.some.inj e'
  exact ⟨o, s _ _ e n', n⟩
theorem BdAt.ext {CG CT CB : Addr} {A : List Addr} {H H' : Hp} {b so pk : Addr} {M : Mo} {g nl pl : Addr} {log : List En} (h : BdAt CG CT CB A H b so pk M g nl pl log) (nt : NoTb A H) (s : LamX.ExtN H H') : BdAt CG CT CB A H' b so pk M g nl pl log := by
  have w : ∀ {b : Addr} {o : HO}, (∀ ps, o ≠ .tbl ps) → H b = some o → H' b = some o := fun n e => s _ _ e n
  obtain ⟨⟨dx, h1⟩, ⟨⟨dxs, o1⟩, o2, o3, o4, o5, o6, o7, o8, o9, o10, o11⟩, ⟨es, h3, h4⟩, h5, h6, h7, h8, h9⟩ := h
  exact ⟨⟨dx, w (fun _ z => by cases z) h1⟩, ⟨⟨dxs, w (fun _ z => by cases z) o1⟩, o2.ext (fun G G' s g => g.ext s) s, w (fun _ z => by cases z) o3, w (fun _ z => by cases z) o4, o5, o6, o7, o8, o9, o10, o11.ext nt s⟩, ⟨es, w (fun _ z => by cases z) h3, h4.ext (fun G G' s g => g.ext s) s⟩, h5, h6, h7, h8, h9⟩
end K71
set_option Elab.async false
set_option linter.all false
set_option maxRecDepth 100000
set_option maxHeartbeats 8000000
namespace K71
open PySem PySem.Spec PyProof.Rows L2 FNX
abbrev lam5 (Pm Pn Po Pb Pl : Addr) : List (Addr × Str) := [(Pm, (("_law_made_right" : Str) ++ ".<locals>.") ++ "<lambda>"), (Pn, (("_law_nodes_right" : Str) ++ ".<locals>.") ++ "<lambda>"), (Po, (("_law_others_right" : Str) ++ ".<locals>.") ++ "<lambda>"), (Pb, (("_law_bounds_right" : Str) ++ ".<locals>.") ++ "<lambda>"), (Pl, (("law" : Str) ++ ".<locals>.") ++ "<lambda>")]
structure Ne5 (Pm Pn Po Pb Pl : Addr) : Prop where
  mn : Pm ≠ Pn
  mo : Pm ≠ Po
  mb : Pm ≠ Pb
  ml : Pm ≠ Pl
  no : Pn ≠ Po
  nb : Pn ≠ Pb
  nl : Pn ≠ Pl
  ob : Po ≠ Pb
  ol : Po ≠ Pl
  bl : Pb ≠ Pl
section
variable {Pm Pn Po Pb Pl : Addr}
theorem lam5m (h : Ne5 Pm Pn Po Pb Pl) : ∀ p ∈ lam5 Pm Pn Po Pb Pl, p.1 = Pm → p.2 = (("_law_made_right" : Str) ++ ".<locals>.") ++ "<lambda>" := fun p hp e => by
  simp only [List.mem_cons, List.not_mem_nil, or_false] at hp
  rcases hp with rfl | rfl | rfl | rfl | rfl
  · rfl
  · exact absurd e.symm h.mn
  · exact absurd e.symm h.mo
  · exact absurd e.symm h.mb
  · exact absurd e.symm h.ml
theorem lam5n (h : Ne5 Pm Pn Po Pb Pl) : ∀ p ∈ lam5 Pm Pn Po Pb Pl, p.1 = Pn → p.2 = (("_law_nodes_right" : Str) ++ ".<locals>.") ++ "<lambda>" := fun p hp e => by
  simp only [List.mem_cons, List.not_mem_nil, or_false] at hp
  rcases hp with rfl | rfl | rfl | rfl | rfl
  · exact absurd e h.mn
  · rfl
  · exact absurd e.symm h.no
  · exact absurd e.symm h.nb
  · exact absurd e.symm h.nl
theorem lam5o (h : Ne5 Pm Pn Po Pb Pl) : ∀ p ∈ lam5 Pm Pn Po Pb Pl, p.1 = Po → p.2 = (("_law_others_right" : Str) ++ ".<locals>.") ++ "<lambda>" := fun p hp e => by
  simp only [List.mem_cons, List.not_mem_nil, or_false] at hp
  rcases hp with rfl | rfl | rfl | rfl | rfl
  · exact absurd e h.mo
  · exact absurd e h.no
  · rfl
  · exact absurd e.symm h.ob
  · exact absurd e.symm h.ol
theorem lam5b (h : Ne5 Pm Pn Po Pb Pl) : ∀ p ∈ lam5 Pm Pn Po Pb Pl, p.1 = Pb → p.2 = (("_law_bounds_right" : Str) ++ ".<locals>.") ++ "<lambda>" := fun p hp e => by
  simp only [List.mem_cons, List.not_mem_nil, or_false] at hp
  rcases hp with rfl | rfl | rfl | rfl | rfl
  · exact absurd e h.mb
  · exact absurd e h.nb
  · exact absurd e h.ob
  · rfl
  · exact absurd e.symm h.bl
theorem lam5l (h : Ne5 Pm Pn Po Pb Pl) : ∀ p ∈ lam5 Pm Pn Po Pb Pl, p.1 = Pl → p.2 = (("law" : Str) ++ ".<locals>.") ++ "<lambda>" := fun p hp e => by
  simp only [List.mem_cons, List.not_mem_nil, or_false] at hp
  rcases hp with rfl | rfl | rfl | rfl | rfl
  · exact absurd e h.ml
  · exact absurd e h.nl
  · exact absurd e h.ol
  · exact absurd e h.bl
  · rfl
end
theorem dBad {K : PySem.W.Frag} {CG CT CB CPl CN CNu C b so pk g nl pl : Addr} {T : List (Addr × Str)} {cl : List EI} {A : List Addr} {Mm : Mo} {log : List En} {key m : Str} {i : Nat} {ta : TA} {σ : L2.St} {H : Hp} {Q : VK} {args : List V} {u : V}
    (hTab : LamX.Tabs T H) (bd : BdAt CG CT CB A H b so pk Mm g nl pl log) (nt : NoTb A H) (hσ : σ[i]? = some (some (.ref b))) (hm : (bflds so pk).lookup m = none) (hta : ∀ (H1 : Hp) (R : List V → Hp → Prop), R args H1 → ta σ H1 R)
    (hb : ∀ H1, LamX.ExtN H H1 → Bad K CPl CN CNu Mm H1 key args C u) (tl : ∀ H1, LamX.ExtN H H1 → LamX.Tabs T H1 → told C u H1 (wErr3 K Q cl)) :
    LamX.tLam T (TErr3 K cl) (fun E => tMeth CB m (spMBad K CG CT CB CPl CN CNu key) [] E (tVar i) ta) σ H Q := by
  refine ⟨hTab, fun H1 x1 t1 => ?_⟩
  have bd1 := bd.ext nt x1
  obtain ⟨dx, h1⟩ := bd1.obj
  refine ⟨_, hσ, b, dx, _, rfl, h1, hm, hta H1 _ ?_⟩
  exact ⟨A, b, so, pk, Mm, g, nl, pl, log, args, C, u, by rw [List.append_nil], bd1, hb H1 x1, tl H1 x1 t1⟩
/-- the list f of the lists ps, each [word, text] -/
structure Kept (T : List (Addr × Str)) (H0 G : Hp) (f : Addr) (ps : List Addr) (wd tx : Str) : Prop where
  x : LamX.ExtN H0 G
  t : LamX.Tabs T G
  n : ∀ o, H0 f = some o → ∃ ps, o = .tbl ps
  l : G f = some (.lst (ps.map V.ref))
  e : ∀ p ∈ ps, G p = some (.lst [.str wd, .str tx])
theorem extFree {H G : Hp} {p : Addr} (x : LamX.ExtN H G) (n : G p = none) : ∀ o, H p = some o → ∃ ps, o = .tbl ps := fun o e => by
  cases o with
  | tbl ps => exact ⟨ps, rfl⟩
  | _ =>
    have := x p _ e (fun _ z => by cases z)
    rw [n] at this
    cases this
theorem Kept.first {T : List (Addr × Str)} {H0 H1 H' : Hp} {f p : Addr} {wd tx : Str} (x1 : LamX.ExtN H0 H1) (t1 : LamX.Tabs T H1) (s : Same H1 H') (np : H' p = none) (nf : (upd H' p (.lst [.str wd, .str tx])) f = none) :
    Kept T H0 (upd (upd H' p (.lst [.str wd, .str tx])) f (.lst [V.ref p])) f [p] wd tx := by
  have s2 : Same H' (upd H' p (.lst [.str wd, .str tx])) := same_upd np
  have s3 : Same (upd H' p (.lst [.str wd, .str tx])) (upd (upd H' p (.lst [.str wd, .str tx])) f (.lst [V.ref p])) := same_upd nf
  have s13 := s.trans (s2.trans s3)
  exact ⟨x1.trans (Same.ext s13), Same.tabs s13 t1, extFree (x1.trans (Same.ext (s.trans s2))) nf, upd_same, fun q hq => by rw [List.mem_singleton.mp hq]; exact s3 _ _ upd_same⟩
theorem Kept.more {T : List (Addr × Str)} {H0 G G1 G2 : Hp} {f p : Addr} {ps : List Addr} {wd tx : Str} (k : Kept T H0 G f ps wd tx) (x1 : LamX.ExtN G G1) (t1 : LamX.Tabs T G1) (s2 : Same G1 G2) (np : G2 p = none) :
    (upd G2 p (.lst [.str wd, .str tx])) f = some (.lst (ps.map V.ref)) ∧ Kept T H0 (upd (upd G2 p (.lst [.str wd, .str tx])) f (.lst (ps.map V.ref ++ [V.ref p]))) f (ps ++ [p]) wd tx := by
  have lf : G2 f = some (.lst (ps.map V.ref)) := s2 _ _ (x1 _ _ k.l (fun _ z => by cases z))
  have pf : f ≠ p := ne_of_none lf np
  have s3 : Same G2 (upd G2 p (.lst [.str wd, .str tx])) := same_upd np
  have lf3 := s3 _ _ lf
  refine ⟨lf3, ⟨fun b o e h => ?_, ?_, k.n, by rw [upd_same, List.map_append]; rfl, fun q hq => ?_⟩⟩
  · have bf : b ≠ f := fun z => by
      rw [z] at e
      obtain ⟨y, hy⟩ := k.n o e
      exact h y hy
    rw [upd_ne bf]
    exact s3 _ _ (s2 _ _ (x1 _ _ (k.x _ _ e h) h))
  · have t3 := Same.tabs (s2.trans s3) t1
    intro q hq
    obtain ⟨y, h1, h2, h3⟩ := t3 q hq
    have qf : q.1 ≠ f := fun z => by
      rw [z, lf3] at h1
      cases h1
    refine ⟨y, by rw [upd_ne qf]; exact h1, h2, fun pos cv hc => ?_⟩
    obtain ⟨c, e, h⟩ := h3 pos cv hc
    have cf : c ≠ f := fun z => by
      rw [z, lf3] at h
      cases h
    exact ⟨c, e, by rw [upd_ne cf]; exact h⟩
  · rcases List.mem_append.mp hq with hq | hq
    · have e := k.e q hq
      have qf : q ≠ f := fun z => by
        have e2 := e
        rw [z, k.l] at e2
        injection e2 with e2
        injection e2 with e2
        cases ps with
        | nil => cases hq
        | cons a as => cases e2
      rw [upd_ne qf]
      exact s3 _ _ (s2 _ _ (x1 _ _ e (fun _ z => by cases z)))
    · rw [List.mem_singleton.mp hq, upd_ne pf.symm, upd_same]
end K71
set_option Elab.async false
set_option linter.all false
set_option maxRecDepth 100000
set_option maxHeartbeats 8000000
namespace K71
open PySem PySem.Spec PyProof.Rows L2 FNX
/-- the exceptions of the law's door -/
structure Ex10 (P : Program) (w : World) (K : PySem.W.Frag) (mg : Str → Option Value) (base : Heap) (CP CPs CN CNu CE CL CO CPl CM CU : Addr) : Prop where
  e0 : Ex P w K mg base "InvalidPosition" CP
  e1 : Ex P w K mg base "InvalidPlayers" CPs
  e2 : Ex P w K mg base "InvalidNode" CN
  e3 : Ex P w K mg base "InvalidNumber" CNu
  e4 : Ex P w K mg base "InvalidEdge" CE
  e5 : Ex P w K mg base "InvalidLimit" CL
  e6 : Ex P w K mg base "InvalidOperation" CO
  e7 : Ex P w K mg base "NoPlayer" CPl
  e8 : Ex P w K mg base "TooMany" CM
  e9 : Ex0 P w K mg base "NothingToUndo" CU
def spNodes71 (K : PySem.W.Frag) (CG CT CB Pm Pn Po Pb Pl : Addr) : Sp := fun vs H Q _ => ∃ (A : List Addr) (b so pk : Addr) (M : Mo) (g nl pl : Addr), vs = [.ref b, .int (M.n : Int)] ∧ BdAt CG CT CB A H b so pk M g nl pl [] ∧ NoTb A H ∧ 1 ≤ M.n ∧ M.n ≤ 16 ∧ M.sc.length = 2 ∧
  LamX.Tabs (lam5 Pm Pn Po Pb Pl) H ∧ ∀ H', LamX.ExtN H H' → LamX.Tabs (lam5 Pm Pn Po Pb Pl) H' → Q (.bl true) H'
section
variable {P : Program} {w : World} {K : PySem.W.Frag} {mg : Str → Option Value} {base : Heap} {CG CT CB CP CPs CN CNu CE CL CO CPl CM CU : Addr}
theorem sc_nodes : FnScope ["_law_board", "_law_many", "_law_bad", "_law_found"] ["_law_board", "_law_many"] (defScope s__law_nodes_right) := ⟨rfl, rfl, rfl, by decide +kernel, rfl, by decide +kernel, by decide +kernel⟩
theorem ok_nodes {f fE c Pm Pn Po Pb Pl : Addr} {fd fdE : FuncData} (F : FunC K "_law_nodes_right" "_law_nodes_right" s__law_nodes_right f fd c) (M : Nms mg) (B : BTxt K mg CB) (hne : Ne5 Pm Pn Po Pb Pl) (TBn : LamX.TabB base mg c Pn)
    (FE : Fun K "_law_error" "_law_error" s__law_error fE fdE) (mE : mg "_law_error" = some (.ref fE)) (bE : L2.Binds K fdE ["_law_door"] [])
    (D : Ex10 P w K mg base CP CPs CN CNu CE CL CO CPl CM CU) (XE : Exm10 K CP CPs CN CNu CE CL CO CPl CM CU)
    (GFi : MAt P w K mg base CB (L2.CX P w) 11 "fire" ["self", "player", "node"] (spMBad K CG CT CB CPl CN CNu "fire")) (GPu : MAt P w K mg base CB (L2.CX P w) 11 "put" ["self", "node", "number"] (spMBad K CG CT CB CPl CN CNu "put"))
    (GAe : MAt P w K mg base CB (L2.CX P w) 11 "add_edge" ["self", "one", "two"] (spMBad K CG CT CB CPl CN CNu "add_edge")) (GRe : MAt P w K mg base CB (L2.CX P w) 11 "remove_edge" ["self", "one", "two"] (spMBad K CG CT CB CPl CN CNu "remove_edge")) :
    GOk P w K mg base 14 f fd ["_law_board", "_law_many"] (spNodes71 K CG CT CB Pm Pn Po Pb Pl) := by
  obtain ⟨fFi, fdFi, GFi, mFi, bFi⟩ := GFi
  obtain ⟨fPu, fdPu, GPu, mPu, bPu⟩ := GPu
  obtain ⟨fAe, fdAe, GAe, mAe, bAe⟩ := GAe
  obtain ⟨fRe, fdRe, GRe, mRe, bRe⟩ := GRe
  refine okGC F sc_nodes (fun vs H Q E h => ?_) (fun A0 outer s H vs Q E hgd hr14 h => ?_)
  · obtain ⟨A, b, so, pk, M, g, nl, pl, rfl, _⟩ := h
    rfl
  · obtain ⟨A, b, so, pk, Mm, g, nl, pl, rfl, bd, nt, n1, n16, sc2, hTab, kont⟩ := h
    have nd := sc_nodes.nd
    have hr := hr14
    have hr2 : Room 2 _ := hr.mono (by decide)
    have hu64 : A0.units + 3 + 64 < cLine := hr.units
    refine ⟨_, (pss_cons (ps_for PassesOwn.never rfl (pi_list (pe_lst (pa_cons (pe_un un_neg pe_int) (pa_cons (pv 1) (pa_cons pe_non (pa_cons pe_bl (pa_cons pe_str (pa_cons (pe_tup (pa_cons pe_int pa_nil)) (pa_cons (pe_op op_pow pe_int pe_int) pa_nil))))))))) (pg_name (i := 2) nd rfl (Or.inr rfl)) (pss_cons (ps_set (i := 3) nd rfl (Or.inl rfl) (pe_lst (pa_cons (pe_doorN (x := "_law_error") (T := lam5 Pm Pn Po Pb Pl) (TT := TErr3 K (clE CP CPs CN CNu CE CL CO CPl CM CU)) (by rfl) mE FE bE sc_error (Or.inl rfl) (fun cdg => err_gives hgd hr2 M.repr D.e0 D.e1 D.e2 D.e3 D.e4 D.e5 D.e6 D.e7 D.e8 D.e9) TBn rfl (List.mem_cons_of_mem _ List.mem_cons_self)
              (lam5n hne) hr (show LamX.LamS (defScope s__law_nodes_right) _ from LamX.lamS_by (by decide +kernel)) rfl (fun _ _ _ _ _ => rfl)
              (fun A outer s H E f c' hr => pe_meth (pv 0) B.cl mFi GFi (hr.mono (by decide)) bFi .nil (passes_call (E := E) (takes_of rfl rfl rfl rfl) (fun _ _ _ _ h => h)) (pa_cons pe_int (pa_cons (pv 2) pa_nil)))) pa_nil)))
      (pss_cons (ps_expr (pe_bm PySem.F.plainAttrs_list PySem.F.slot_list_append PySem.F.type_list_append mt_append (pv 3) (pa_cons (pe_doorN (x := "_law_error") (T := lam5 Pm Pn Po Pb Pl) (TT := TErr3 K (clE CP CPs CN CNu CE CL CO CPl CM CU)) (by rfl) mE FE bE sc_error (Or.inl rfl) (fun cdg => err_gives hgd hr2 M.repr D.e0 D.e1 D.e2 D.e3 D.e4 D.e5 D.e6 D.e7 D.e8 D.e9) TBn rfl (List.mem_cons_of_mem _ List.mem_cons_self)
              (lam5n hne) hr (show LamX.LamS (defScope s__law_nodes_right) _ from LamX.lamS_by (by decide +kernel)) rfl (fun _ _ _ _ _ => rfl)
              (fun A outer s H E f c' hr => pe_meth (pv 0) B.cl mPu GPu (hr.mono (by decide)) bPu .nil (passes_call (E := E) (takes_of rfl rfl rfl rfl) (fun _ _ _ _ h => h)) (pa_cons (pv 2) (pa_cons pe_non pa_nil)))) pa_nil)))
      (pss_cons (ps_expr (pe_bm PySem.F.plainAttrs_list PySem.F.slot_list_append PySem.F.type_list_append mt_append (pv 3) (pa_cons (pe_doorN (x := "_law_error") (T := lam5 Pm Pn Po Pb Pl) (TT := TErr3 K (clE CP CPs CN CNu CE CL CO CPl CM CU)) (by rfl) mE FE bE sc_error (Or.inl rfl) (fun cdg => err_gives hgd hr2 M.repr D.e0 D.e1 D.e2 D.e3 D.e4 D.e5 D.e6 D.e7 D.e8 D.e9) TBn rfl (List.mem_cons_of_mem _ List.mem_cons_self)
              (lam5n hne) hr (show LamX.LamS (defScope s__law_nodes_right) _ from LamX.lamS_by (by decide +kernel)) rfl (fun _ _ _ _ _ => rfl)
              (fun A outer s H E f c' hr => pe_meth (pv 0) B.cl mAe GAe (hr.mono (by decide)) bAe .nil (passes_call (E := E) (takes_of rfl rfl rfl rfl) (fun _ _ _ _ h => h)) (pa_cons (pv 2) (pa_cons pe_non pa_nil)))) pa_nil)))
      (pss_cons (ps_expr (pe_bm PySem.F.plainAttrs_list PySem.F.slot_list_append PySem.F.type_list_append mt_append (pv 3) (pa_cons (pe_doorN (x := "_law_error") (T := lam5 Pm Pn Po Pb Pl) (TT := TErr3 K (clE CP CPs CN CNu CE CL CO CPl CM CU)) (by rfl) mE FE bE sc_error (Or.inl rfl) (fun cdg => err_gives hgd hr2 M.repr D.e0 D.e1 D.e2 D.e3 D.e4 D.e5 D.e6 D.e7 D.e8 D.e9) TBn rfl (List.mem_cons_of_mem _ List.mem_cons_self)
              (lam5n hne) hr (show LamX.LamS (defScope s__law_nodes_right) _ from LamX.lamS_by (by decide +kernel)) rfl (fun _ _ _ _ _ => rfl)
              (fun A outer s H E f c' hr => pe_meth (pv 0) B.cl mAe GAe (hr.mono (by decide)) bAe .nil (passes_call (E := E) (takes_of rfl rfl rfl rfl) (fun _ _ _ _ h => h)) (pa_cons pe_int (pa_cons (pv 2) pa_nil)))) pa_nil)))
      (pss_cons (ps_expr (pe_bm PySem.F.plainAttrs_list PySem.F.slot_list_append PySem.F.type_list_append mt_append (pv 3) (pa_cons (pe_doorN (x := "_law_error") (T := lam5 Pm Pn Po Pb Pl) (TT := TErr3 K (clE CP CPs CN CNu CE CL CO CPl CM CU)) (by rfl) mE FE bE sc_error (Or.inl rfl) (fun cdg => err_gives hgd hr2 M.repr D.e0 D.e1 D.e2 D.e3 D.e4 D.e5 D.e6 D.e7 D.e8 D.e9) TBn rfl (List.mem_cons_of_mem _ List.mem_cons_self)
              (lam5n hne) hr (show LamX.LamS (defScope s__law_nodes_right) _ from LamX.lamS_by (by decide +kernel)) rfl (fun _ _ _ _ _ => rfl)
              (fun A outer s H E f c' hr => pe_meth (pv 0) B.cl mRe GRe (hr.mono (by decide)) bRe .nil (passes_call (E := E) (takes_of rfl rfl rfl rfl) (fun _ _ _ _ h => h)) (pa_cons (pv 2) (pa_cons pe_non pa_nil)))) pa_nil)))
      (pss_cons (ps_expr (pe_bm PySem.F.plainAttrs_list PySem.F.slot_list_append PySem.F.type_list_append mt_append (pv 3) (pa_cons (pe_doorN (x := "_law_error") (T := lam5 Pm Pn Po Pb Pl) (TT := TErr3 K (clE CP CPs CN CNu CE CL CO CPl CM CU)) (by rfl) mE FE bE sc_error (Or.inl rfl) (fun cdg => err_gives hgd hr2 M.repr D.e0 D.e1 D.e2 D.e3 D.e4 D.e5 D.e6 D.e7 D.e8 D.e9) TBn rfl (List.mem_cons_of_mem _ List.mem_cons_self)
              (lam5n hne) hr (show LamX.LamS (defScope s__law_nodes_right) _ from LamX.lamS_by (by decide +kernel)) rfl (fun _ _ _ _ _ => rfl)
              (fun A outer s H E f c' hr => pe_meth (pv 0) B.cl mRe GRe (hr.mono (by decide)) bRe .nil (passes_call (E := E) (takes_of rfl rfl rfl rfl) (fun _ _ _ _ h => h)) (pa_cons pe_int (pa_cons (pv 2) pa_nil)))) pa_nil)))
      (pss_one (ps_if (pt_cmpR (show OpR _ (compareOp .NotEq) (rNeD K) from op_neD hu64) (pv 3) (pe_op op_rep (pe_lst (pa_cons (pe_lst (pa_cons pe_str (pa_cons (pe_callB (show CallR _ (.builtin "repr") (rRepr K) from call_repr hgd hr.units) (by rfl) M.repr boot_repr1 (pa_cons (pv 2) pa_nil)) pa_nil))) pa_nil)) pe_int) (nomark _)) (pss_one (ps_ret pe_bl)) pss_nil)))))))))
      (pss_one (ps_ret pe_bl))), ?_⟩
    have sz : ∀ n : Nat, n ≤ 7 → n ≤ sizeLine := fun n h => by rw [sizeLine_eq]; omega
    refine ⟨_, rfl, _, rfl, by show 1 ≤ sizeLine; decide, fun t0 nt0 => ?_⟩
    obtain ⟨H1, q1, s1, ht0⟩ := newAt (.tup [V.int 0]) nt0
    rw [q1]
    refine ⟨10, 20, rfl, rfl, ⟨by decide, by decide +kernel⟩, ?_⟩
    refine ⟨by show 7 ≤ sizeLine; decide, fun L nL => ?_⟩
    obtain ⟨H2, q2, s2, hL⟩ := newAt (.lst [V.int (-1), V.int (Mm.n : Int), V.non, V.bl true, V.str "0", V.ref t0, V.int (10 ^ 20)]) nL
    have q2' : upd H1 L (.lst [V.int (-1), V.int (Mm.n : Int), V.non, V.bl true, V.str "0", V.ref t0, V.int (10 ^ (20 : Int).toNat)]) = H2 := q2
    rw [show (V.int _ :: _ : List V) = [V.int (-1), V.int (Mm.n : Int), V.non, V.bl true, V.str "0", V.ref t0, V.int (10 ^ (20 : Int).toNat)] from rfl, q2']
    have s02 := s1.trans s2
    refine ⟨L, rfl, ⟨_, SqL.of hL⟩, for_list (K := K) (a := L) (xs := [V.int (-1), V.int (Mm.n : Int), V.non, V.bl true, V.str "0", V.ref t0, V.int (10 ^ 20)]) (fun i σ G => ∃ v2 v3 : Option V, σ = [some (.ref b), some (.int (Mm.n : Int)), v2, v3] ∧ LamX.ExtN H2 G ∧ LamX.Tabs (lam5 Pm Pn Po Pb Pl) G)
      ⟨_, _, rfl, LamX.ExtN.refl _, Same.tabs s02 hTab⟩ (fun i σ G _ h => ?_) (fun i y σ G hi h => ?_) (fun σ G h => ?_)⟩
    · obtain ⟨_, _, _, x, _⟩ := h
      exact SqL.of (x _ _ hL (fun _ z => by cases z))
    · obtain ⟨v2, v3, rfl, xG, tG⟩ := h
      have node0 : isNode Mm.n (.int 0) = true := by
        have := @nodeNat Mm.n 0
        rw [decide_eq_true (show 0 < Mm.n by omega)] at this
        exact this
      obtain ⟨d, hd, sh, nod, can⟩ : ∃ d, (∀ G', LamX.ExtN G G' → Rd K G' y d) ∧ (d.showable = true ∧ d.depth ≤ 60 ∧ d.shown.length ≤ sizeLine) ∧ isNode Mm.n d = false ∧ (PyData.str d.shown).canLay0 = true := by
        have hlt : i < 7 := (List.getElem?_eq_some_iff.mp hi).1
        obtain rfl | rfl | rfl | rfl | rfl | rfl | rfl : i = 0 ∨ i = 1 ∨ i = 2 ∨ i = 3 ∨ i = 4 ∨ i = 5 ∨ i = 6 := by omega
        · obtain rfl := Option.some.inj hi
          exact ⟨.int (-1), fun _ _ => .dat (.int _), ⟨by decide +kernel, by decide +kernel, by decide +kernel⟩, rfl, by decide +kernel⟩
        · obtain rfl := Option.some.inj hi
          exact ⟨.int (Mm.n : Int), fun _ _ => .dat (.int _), shwLine (shwInt (Nat.lt_of_lt_of_le (show ((Mm.n : Nat) : Int).natAbs < 100 by omega) (by decide))) (by decide) (by decide), by rw [nodeNat, decide_eq_false (Nat.lt_irrefl _)], by
            have : ∀ k : Fin 17, (PyData.str (PyData.int ((k.val : Nat) : Int)).shown).canLay0 = true := by decide +kernel
            exact this ⟨Mm.n, by omega⟩⟩
        · obtain rfl := Option.some.inj hi
          exact ⟨.none, fun _ _ => .dat .non, ⟨by decide +kernel, by decide +kernel, by decide +kernel⟩, rfl, by decide +kernel⟩
        · obtain rfl := Option.some.inj hi
          exact ⟨.bool true, fun _ _ => .dat (.bl _), ⟨by decide +kernel, by decide +kernel, by decide +kernel⟩, rfl, by decide +kernel⟩
        · obtain rfl := Option.some.inj hi
          exact ⟨.str "0", fun _ _ => .dat (.str _), ⟨by decide +kernel, by decide +kernel, by decide +kernel⟩, rfl, by decide +kernel⟩
        · obtain rfl := Option.some.inj hi
          exact ⟨.tuple [.int 0], fun G' x' => .dat (.tup (SqT.of (x' _ _ (xG _ _ (s2 _ _ ht0) (fun _ z => by cases z)) (fun _ z => by cases z))) (.cons (.int _) .nil)), ⟨by decide +kernel, by decide +kernel, by decide +kernel⟩, rfl, by decide +kernel⟩
        · obtain rfl := Option.some.inj hi
          refine ⟨.int (10 ^ 20), fun _ _ => .dat (.int _), ⟨by decide +kernel, by decide +kernel, by decide +kernel⟩, ?_, by decide +kernel⟩
          show (decide ((0 : Int) ≤ 10 ^ 20) && decide ((10 : Int) ^ 20 ≤ (Mm.n : Int) - 1)) = false
          rw [decide_eq_false (show ¬ (10 : Int) ^ 20 ≤ (Mm.n : Int) - 1 by omega), Bool.and_false]
      have x0G : LamX.ExtN H G := (Same.ext s02).trans xG
      have bdG := bd.ext nt x0G
      have ntG := nt.ext x0G
      have hdS : ∀ H1, LamX.ExtN G H1 → RdS K H1 y d := fun H1 x1 H' s' => hd H' (x1.trans (Same.ext s'))
      refine dBad (C := CN) (u := y) (args := [V.int 0, y]) tG bdG ntG rfl rfl (fun H1 R r => ⟨_, rfl, r⟩) (fun H1 x1 => .fireN RdS.int (by rw [show (0 : Int) = ((0 : Nat) : Int) from rfl, nodeNat, sc2]; rfl) (hdS H1 x1) nod) (fun H1 x1 t1 => told2 XE (hdS H1 x1) sh (fun H' p1 sp np1 => ?_))
      refine ⟨by show 1 ≤ sizeLine; decide, fun fl nfl => ?_⟩
      have k1 := Kept.first x1 t1 sp np1 nfl
      obtain ⟨G1, e1⟩ : ∃ G1, upd (upd H' p1 (.lst [V.str "node", V.str d.shown])) fl (.lst [V.ref p1]) = G1 := ⟨_, rfl⟩
      rw [e1] at k1 ⊢
      clear e1 nfl np1 sp t1 x1
      refine ⟨_, rfl, .inl ⟨rfl, _, SqL.of k1.l⟩, ?_⟩
      refine dBad (C := CN) (u := y) (args := [y, .non]) k1.t (bdG.ext ntG k1.x) (ntG.ext k1.x) rfl rfl (fun H1 R r => ⟨_, rfl, r⟩) (fun H1 x1' => (fun x1 : LamX.ExtN G H1 => .putN (hdS H1 x1) nod) (k1.x.trans x1')) (fun H1 x1' t1' => told2 XE (hdS H1 (k1.x.trans x1')) sh (fun H1 p2 sp2 np2 => ?_))
      obtain ⟨l1, k2⟩ := k1.more x1' t1' sp2 np2
      refine ⟨fl, _, _, rfl, rfl, l1, by rw [List.length_map]; exact Nat.lt_of_lt_of_le (show _ < 7 by simp) (sz 7 (by decide)), ?_⟩
      obtain ⟨G2, e2⟩ : ∃ z, upd (upd H1 p2 (.lst [V.str "node", V.str d.shown])) fl (.lst (List.map V.ref ([p1] : List Addr) ++ [V.ref p2])) = z := ⟨_, rfl⟩
      rw [e2] at k2 ⊢
      clear e2 np2 sp2 t1' x1' l1
      refine ⟨_, rfl, .inl ⟨rfl, _, SqL.of k2.l⟩, ?_⟩
      refine dBad (C := CN) (u := y) (args := [y, .non]) k2.t (bdG.ext ntG k2.x) (ntG.ext k2.x) rfl rfl (fun H1 R r => ⟨_, rfl, r⟩) (fun H1 x1' => (fun x1 : LamX.ExtN G H1 => .joinA (hdS H1 x1) nod) (k2.x.trans x1')) (fun H1 x1' t1' => told2 XE (hdS H1 (k2.x.trans x1')) sh (fun H2 p3 sp3 np3 => ?_))
      obtain ⟨l2, k3⟩ := k2.more x1' t1' sp3 np3
      refine ⟨fl, _, _, rfl, rfl, l2, by rw [List.length_map]; exact Nat.lt_of_lt_of_le (show _ < 7 by simp) (sz 7 (by decide)), ?_⟩
      obtain ⟨G3, e3⟩ : ∃ z, upd (upd H2 p3 (.lst [V.str "node", V.str d.shown])) fl (.lst (List.map V.ref (([p1] : List Addr) ++ [p2]) ++ [V.ref p3])) = z := ⟨_, rfl⟩
      rw [e3] at k3 ⊢
      clear e3 np3 sp3 t1' x1' l2
      refine ⟨_, rfl, .inl ⟨rfl, _, SqL.of k3.l⟩, ?_⟩
      refine dBad (C := CN) (u := y) (args := [.int 0, y]) k3.t (bdG.ext ntG k3.x) (ntG.ext k3.x) rfl rfl (fun H1 R r => ⟨_, rfl, r⟩) (fun H1 x1' => (fun x1 : LamX.ExtN G H1 => .joinB RdS.int node0 (hdS H1 x1) nod) (k3.x.trans x1')) (fun H1 x1' t1' => told2 XE (hdS H1 (k3.x.trans x1')) sh (fun H3 p4 sp4 np4 => ?_))
      obtain ⟨l3, k4⟩ := k3.more x1' t1' sp4 np4
      refine ⟨fl, _, _, rfl, rfl, l3, by rw [List.length_map]; exact Nat.lt_of_lt_of_le (show _ < 7 by simp) (sz 7 (by decide)), ?_⟩
      obtain ⟨G4, e4⟩ : ∃ z, upd (upd H3 p4 (.lst [V.str "node", V.str d.shown])) fl (.lst (List.map V.ref ((([p1] : List Addr) ++ [p2]) ++ [p3]) ++ [V.ref p4])) = z := ⟨_, rfl⟩
      rw [e4] at k4 ⊢
      clear e4 np4 sp4 t1' x1' l3
      refine ⟨_, rfl, .inl ⟨rfl, _, SqL.of k4.l⟩, ?_⟩
      refine dBad (C := CN) (u := y) (args := [y, .non]) k4.t (bdG.ext ntG k4.x) (ntG.ext k4.x) rfl rfl (fun H1 R r => ⟨_, rfl, r⟩) (fun H1 x1' => (fun x1 : LamX.ExtN G H1 => .partA (hdS H1 x1) nod) (k4.x.trans x1')) (fun H1 x1' t1' => told2 XE (hdS H1 (k4.x.trans x1')) sh (fun H4 p5 sp5 np5 => ?_))
      obtain ⟨l4, k5⟩ := k4.more x1' t1' sp5 np5
      refine ⟨fl, _, _, rfl, rfl, l4, by rw [List.length_map]; exact Nat.lt_of_lt_of_le (show _ < 7 by simp) (sz 7 (by decide)), ?_⟩
      obtain ⟨G5, e5⟩ : ∃ z, upd (upd H4 p5 (.lst [V.str "node", V.str d.shown])) fl (.lst (List.map V.ref (((([p1] : List Addr) ++ [p2]) ++ [p3]) ++ [p4]) ++ [V.ref p5])) = z := ⟨_, rfl⟩
      rw [e5] at k5 ⊢
      clear e5 np5 sp5 t1' x1' l4
      refine ⟨_, rfl, .inl ⟨rfl, _, SqL.of k5.l⟩, ?_⟩
      refine dBad (C := CN) (u := y) (args := [.int 0, y]) k5.t (bdG.ext ntG k5.x) (ntG.ext k5.x) rfl rfl (fun H1 R r => ⟨_, rfl, r⟩) (fun H1 x1' => (fun x1 : LamX.ExtN G H1 => .partB RdS.int node0 (hdS H1 x1) nod) (k5.x.trans x1')) (fun H1 x1' t1' => told2 XE (hdS H1 (k5.x.trans x1')) sh (fun H5 p6 sp6 np6 => ?_))
      obtain ⟨l5, k6⟩ := k5.more x1' t1' sp6 np6
      refine ⟨fl, _, _, rfl, rfl, l5, by rw [List.length_map]; exact Nat.lt_of_lt_of_le (show _ < 7 by simp) (sz 7 (by decide)), ?_⟩
      obtain ⟨G6, e6⟩ : ∃ z, upd (upd H5 p6 (.lst [V.str "node", V.str d.shown])) fl (.lst (List.map V.ref ((((([p1] : List Addr) ++ [p2]) ++ [p3]) ++ [p4]) ++ [p5]) ++ [V.ref p6])) = z := ⟨_, rfl⟩
      rw [e6] at k6 ⊢
      clear e6 np6 sp6 t1' x1' l5
      refine ⟨_, rfl, _, rfl, y, d, rfl, (hd _ k6.x), sh.1, sh.2.1, sh.2.2, by show 2 ≤ sizeLine; decide, fun q nq => ?_⟩
      obtain ⟨J1, r1, z1, hq⟩ := newAt (.lst [V.str "node", V.str d.shown]) nq
      rw [r1]
      refine ⟨by show 1 ≤ sizeLine; decide, fun q2 nq2 => ?_⟩
      obtain ⟨J2, r2, z2, hq2⟩ := newAt (.lst [V.ref q]) nq2
      rw [r2]
      refine ⟨q2, (6 : Int), _, rfl, rfl, hq2, by decide, by decide, by rw [sizeLine_eq]; show 1 * 6 ≤ _; decide, fun q3 nq3 => ?_⟩
      obtain ⟨J3, r3, z3, hq3⟩ := newAt (.lst [V.ref q, V.ref q, V.ref q, V.ref q, V.ref q, V.ref q]) nq3
      rw [show (List.replicate (Int.toNat 6) [V.ref q]).flatten = [V.ref q, V.ref q, V.ref q, V.ref q, V.ref q, V.ref q] from rfl, r3]
      have zz := z1.trans (z2.trans z3)
      have row : ∀ p, J3 p = some (.lst [V.str "node", V.str d.shown]) → Dp K J3 (.ref p) (.list [.str "node", .str d.shown]) := fun p h => .lst (SqL.of h) (.cons (.str _) (.cons (.str _) .nil))
      have rq := row q ((z2.trans z3) _ _ hq)
      have rp : ∀ p ∈ [p1, p2, p3, p4, p5, p6], Dp K J3 (.ref p) (.list [.str "node", .str d.shown]) := fun p hp => row p (zz _ _ (k6.e p (by simpa using hp)))
      have lf : J3 fl = some (.lst [V.ref p1, V.ref p2, V.ref p3, V.ref p4, V.ref p5, V.ref p6]) := zz _ _ k6.l
      obtain ⟨D6, hD6⟩ : ∃ D6 : PyData, D6 = .list [.list [.str "node", .str d.shown], .list [.str "node", .str d.shown], .list [.str "node", .str d.shown], .list [.str "node", .str d.shown], .list [.str "node", .str d.shown], .list [.str "node", .str d.shown]] := ⟨_, rfl⟩
      have sh6 : SeqAt.shaped D6 = true := by
        rw [hD6]
        have c1 : (PyData.str "node").canLay0 = true := by decide +kernel
        unfold SeqAt.shaped
        simp only [PyData.canLay0, PyData.canLayAll0, PyData.depth, PyData.depthAll] at can c1 ⊢
        simp [can, c1]
      refine ⟨D6, D6, by rw [hD6]; exact .lst (SqL.of lf) (.cons (rp p1 (by simp)) (.cons (rp p2 (by simp)) (.cons (rp p3 (by simp)) (.cons (rp p4 (by simp)) (.cons (rp p5 (by simp)) (.cons (rp p6 (by simp)) .nil)))))), by rw [hD6]; exact .lst (SqL.of hq3) (.cons rq (.cons rq (.cons rq (.cons rq (.cons rq (.cons rq .nil)))))), sh6, sh6, _, rfl, ?_⟩
      rw [eqvSame sh6]
      exact iteF ⟨_, _, rfl, xG.trans (k6.x.trans (Same.ext zz)), Same.tabs zz k6.t⟩
    · obtain ⟨v2, v3, rfl, xG, tG⟩ := h
      exact kont G ((Same.ext s02).trans xG) tG
end
end K71
set_option Elab.async false
set_option linter.all false
set_option maxRecDepth 100000
set_option maxHeartbeats 8000000
namespace K71
open PySem PySem.Spec PyProof.Rows L2 FNX
theorem dPlay {K : PySem.W.Frag} {CG CT CB CPl CL b so pk g nl pl : Addr} {T : List (Addr × Str)} {cl : List EI} {A : List Addr} {Mm : Mo} {log : List En} {i : Nat} {ta : TA} {σ : L2.St} {H : Hp} {Q : VK} {p l : V} {dp : PyData}
    (hTab : LamX.Tabs T H) (bd : BdAt CG CT CB A H b so pk Mm g nl pl log) (nt : NoTb A H) (hσ : σ[i]? = some (some (.ref b))) (hta : ∀ (H1 : Hp) (R : List V → Hp → Prop), R [p, l] H1 → ta σ H1 R)
    (hp : ∀ H1, LamX.ExtN H H1 → RdS K H1 p dp)
    (tl : ∀ H1, LamX.ExtN H H1 → LamX.Tabs T H1 → (isNode Mm.sc.length dp = false ∧ told CPl p H1 (wErr3 K Q cl) ∨ isNode Mm.sc.length dp = true ∧ ∃ dl, RdS K H1 l dl ∧ within 0 10000 dl = false ∧ told CL l H1 (wErr3 K Q cl))) :
    LamX.tLam T (TErr3 K cl) (fun E => tMeth CB "play_on" (spPlayB K CG CT CB CPl CL) [] E (tVar i) ta) σ H Q := by
  refine ⟨hTab, fun H1 x1 t1 => ?_⟩
  have bd1 := bd.ext nt x1
  obtain ⟨dx, h1⟩ := bd1.obj
  refine ⟨_, hσ, b, dx, _, rfl, h1, rfl, hta H1 _ ?_⟩
  exact ⟨A, b, so, pk, Mm, g, nl, pl, log, p, l, dp, rfl, bd1, hp H1 x1, tl H1 x1 t1⟩
theorem dRem {K : PySem.W.Frag} {CG CT CB CL b so pk g nl pl : Addr} {T : List (Addr × Str)} {cl : List EI} {A : List Addr} {Mm : Mo} {log : List En} {i : Nat} {tk : TA} {σ : L2.St} {H : Hp} {Q : VK} {l : V} {dl : PyData}
    (hTab : LamX.Tabs T H) (bd : BdAt CG CT CB A H b so pk Mm g nl pl log) (nt : NoTb A H) (hσ : σ[i]? = some (some (.ref b))) (hta : ∀ (H1 : Hp) (R : List V → Hp → Prop), R [l] H1 → tk σ H1 R)
    (hl : ∀ H1, LamX.ExtN H H1 → RdS K H1 l dl) (no : within 0 10000 dl = false) (tl : ∀ H1, LamX.ExtN H H1 → LamX.Tabs T H1 → told CL l H1 (wErr3 K Q cl)) :
    LamX.tLam T (TErr3 K cl) (fun E => tMethK CB "remaining" (spRemB K CG CT CB CL) (kwN 1) E (tVar i) tk) σ H Q := by
  refine ⟨hTab, fun H1 x1 t1 => ?_⟩
  have bd1 := bd.ext nt x1
  obtain ⟨dx, h1⟩ := bd1.obj
  refine ⟨_, hσ, b, dx, _, rfl, h1, rfl, hta H1 _ ?_⟩
  exact ⟨A, b, so, pk, Mm, g, nl, pl, log, l, dl, rfl, bd1, hl H1 x1, no, tl H1 x1 t1⟩
/-- what a door told against [word, repr] -/
theorem neKept {K : PySem.W.Frag} {G : Hp} {p q : Addr} {wd tx : Str} {Q : VK} (cw : (PyData.str wd).canLay0 = true) (ct : (PyData.str tx).canLay0 = true) (hp : G p = some (.lst [.str wd, .str tx])) (hq : G q = some (.lst [.str wd, .str tx])) (k : Q (.bl false) G) : rNeD K (.ref p) (.ref q) G Q := by
  have sh : SeqAt.shaped (.list [.str wd, .str tx]) = true := by
    unfold SeqAt.shaped
    simp only [PyData.canLay0, PyData.canLayAll0, PyData.depth, PyData.depthAll] at cw ct ⊢
    simp [cw, ct]
  refine ⟨.list [.str wd, .str tx], .list [.str wd, .str tx], .lst (SqL.of hp) (.cons (.str _) (.cons (.str _) .nil)), .lst (SqL.of hq) (.cons (.str _) (.cons (.str _) .nil)), sh, sh, ?_⟩
  rw [eqvSame sh]
  exact k
end K71
set_option Elab.async false
set_option linter.all false
set_option maxRecDepth 100000
set_option maxHeartbeats 8000000
namespace K71
open PySem PySem.Spec PyProof.Rows L2 FNX
theorem dCarry {K : PySem.W.Frag} {CG CT CB CPl CNg CE CM b so pk g nl pl : Addr} {T : List (Addr × Str)} {cl : List EI} {A : List Addr} {Mm : Mo} {log : List En} {m : Str} {i : Nat} {ta : TA} {σ : L2.St} {H : Hp} {Q : VK} {kind : Op → Bool} {op : Op} {er : Er}
    (hTab : LamX.Tabs T H) (bd : BdAt CG CT CB A H b so pk Mm g nl pl log) (nt : NoTb A H) (hl : log.length < 1000) (hσ : σ[i]? = some (some (.ref b))) (hm : (bflds so pk).lookup m = none) (hta : ∀ (H1 : Hp) (R : List V → Hp → Prop), R (opV op).tail H1 → ta σ H1 R)
    (hk : kind op = true) (ok : okOp Mm op) (he : stepM Mm op = .error er) (tl : ∀ H1, LamX.ExtN H H1 → LamX.Tabs T H1 → toldEr CPl CNg CE CM er H1 (wErr3 K Q cl)) :
    LamX.tLam T (TErr3 K cl) (fun E => tMeth CB m (spCarry CG CT CB CPl CNg CE CM kind byArgs) [] E (tVar i) ta) σ H Q := by
  refine ⟨hTab, fun H1 x1 t1 => ?_⟩
  have bd1 := bd.ext nt x1
  obtain ⟨dx, h1⟩ := bd1.obj
  refine ⟨_, hσ, b, dx, _, rfl, h1, hm, hta H1 _ ?_⟩
  refine ⟨A, b, so, pk, Mm, g, nl, pl, log, op, hk, by show V.ref b :: ((opV op).tail ++ []) = V.ref b :: (opV op).tail; rw [List.append_nil], bd1, hl, ok, ?_⟩
  rw [he]
  exact tl H1 x1 t1
theorem eqKept {K : PySem.W.Frag} {G : Hp} {p q : Addr} {wd tx : Str} {Q : VK} (cw : (PyData.str wd).canLay0 = true) (ct : (PyData.str tx).canLay0 = true) (hp : G p = some (.lst [.str wd, .str tx])) (hq : G q = some (.lst [.str wd, .str tx])) (k : Q (.bl true) G) : rEqD K (.ref p) (.ref q) G Q := by
  have sh : SeqAt.shaped (.list [.str wd, .str tx]) = true := by
    unfold SeqAt.shaped
    simp only [PyData.canLay0, PyData.canLayAll0, PyData.depth, PyData.depthAll] at cw ct ⊢
    simp [cw, ct]
  refine ⟨.list [.str wd, .str tx], .list [.str wd, .str tx], .lst (SqL.of hp) (.cons (.str _) (.cons (.str _) .nil)), .lst (SqL.of hq) (.cons (.str _) (.cons (.str _) .nil)), sh, sh, ?_⟩
  rw [eqvSame sh]
  exact k
def spOthers71 (K : PySem.W.Frag) (CG CT CB Pm Pn Po Pb Pl : Addr) : Sp := fun vs H Q _ => ∃ (A : List Addr) (b so pk : Addr) (M : Mo) (g nl pl : Addr), vs = [.ref b, .int (M.n : Int)] ∧ BdAt CG CT CB A H b so pk M g nl pl [] ∧ NoTb A H ∧ 2 ≤ M.n ∧ M.n ≤ 16 ∧ M.sc.length = 2 ∧ M.es = [(0, 1)] ∧
  LamX.Tabs (lam5 Pm Pn Po Pb Pl) H ∧ ∀ H', LamX.ExtN H H' → LamX.Tabs (lam5 Pm Pn Po Pb Pl) H' → Q (.bl true) H'
section
variable {P : Program} {w : World} {K : PySem.W.Frag} {mg : Str → Option Value} {base : Heap} {CG CT CB CP CPs CN CNu CE CL CO CPl CM CU CNg : Addr}
theorem sc_others : FnScope ["_law_board", "_law_many", "_law_bad"] ["_law_board", "_law_many"] (defScope s__law_others_right) := ⟨rfl, rfl, rfl, by decide +kernel, rfl, by decide +kernel, by decide +kernel⟩
theorem ok_others {f fE c Pm Pn Po Pb Pl fRm : Addr} {fd fdE fdRm : FuncData} (F : FunC K "_law_others_right" "_law_others_right" s__law_others_right f fd c) (M : Nms mg) (B : BTxt K mg CB) (hne : Ne5 Pm Pn Po Pb Pl) (TBo : LamX.TabB base mg c Po)
    (FE : Fun K "_law_error" "_law_error" s__law_error fE fdE) (mE : mg "_law_error" = some (.ref fE)) (bE : L2.Binds K fdE ["_law_door"] [])
    (D : Ex10 P w K mg base CP CPs CN CNu CE CL CO CPl CM CU) (XE : Exm10 K CP CPs CN CNu CE CL CO CPl CM CU)
    (GFi : MAt P w K mg base CB (L2.CX P w) 11 "fire" ["self", "player", "node"] (spMBad K CG CT CB CPl CN CNu "fire")) (GPu : MAt P w K mg base CB (L2.CX P w) 11 "put" ["self", "node", "number"] (spMBad K CG CT CB CPl CN CNu "put"))
    (GAn : MAt P w K mg base CB (L2.CX P w) 11 "add_node" ["self", "number"] (spMBad K CG CT CB CPl CN CNu "add_node")) (GPy : MAt P w K mg base CB (L2.CX P w) 6 "play_on" ["self", "player", "limit"] (spPlayB K CG CT CB CPl CL))
    (GRm : FnOk P w K mg base (L2.CX P w) 7 fRm fdRm ["self", "limit"] (spRemB K CG CT CB CL)) (mRm : Meth K CB "remaining" fRm) (bRm : KBinds K fdRm ["self", "limit"] ["limit"] (kwN 1) (kwN 1))
    (GAe : MAt P w K mg base CB (L2.CX P w) 11 "add_edge" ["self", "one", "two"] (spCarry CG CT CB CPl CNg CE CM isJoin byArgs)) (GRe : MAt P w K mg base CB (L2.CX P w) 11 "remove_edge" ["self", "one", "two"] (spCarry CG CT CB CPl CNg CE CM isPart byArgs)) :
    GOk P w K mg base 14 f fd ["_law_board", "_law_many"] (spOthers71 K CG CT CB Pm Pn Po Pb Pl) := by
  obtain ⟨fFi, fdFi, GFi, mFi, bFi⟩ := GFi
  obtain ⟨fPu, fdPu, GPu, mPu, bPu⟩ := GPu
  obtain ⟨fAn, fdAn, GAn, mAn, bAn⟩ := GAn
  obtain ⟨fPy, fdPy, GPy, mPy, bPy⟩ := GPy
  obtain ⟨fAe, fdAe, GAe, mAe, bAe⟩ := GAe
  obtain ⟨fRe, fdRe, GRe, mRe, bRe⟩ := GRe
  refine okGC F sc_others (fun vs H Q E h => ?_) (fun A0 outer s H vs Q E hgd hr14 h => ?_)
  · obtain ⟨A, b, so, pk, M, g, nl, pl, rfl, _⟩ := h
    rfl
  · obtain ⟨A, b, so, pk, Mm, g, nl, pl, rfl, bd, nt, n1, n16, sc2, ees, hTab, kont⟩ := h
    have nd := sc_others.nd
    have hr := hr14
    have hr2 : Room 2 _ := hr.mono (by decide)
    have hu64 : A0.units + 3 + 64 < cLine := hr.units
    have nodeN : isNode Mm.n (.int ((Mm.n : Int) - 1)) = true := by rw [show ((Mm.n : Int) - 1) = ((Mm.n - 1 : Nat) : Int) by omega, nodeNat, decide_eq_true (by omega)]
    refine ⟨_, (pss_cons (ps_for PassesOwn.never rfl (pi_list (pe_lst (pa_cons pe_non (pa_cons pe_bl (pa_cons pe_str (pa_cons (pe_tup (pa_cons pe_int pa_nil)) (pa_cons (pe_lst (pa_cons pe_int pa_nil)) pa_nil))))))) (pg_name (i := 2) nd rfl (Or.inr rfl)) (pss_cons (ps_if (pt_cmpR (show OpR _ (compareOp .NotEq) (rNeD K) from op_neD hu64) (pe_doorN (x := "_law_error") (T := lam5 Pm Pn Po Pb Pl) (TT := TErr3 K (clE CP CPs CN CNu CE CL CO CPl CM CU)) (by rfl) mE FE bE sc_error (Or.inl rfl) (fun cdg => err_gives hgd hr2 M.repr D.e0 D.e1 D.e2 D.e3 D.e4 D.e5 D.e6 D.e7 D.e8 D.e9) TBo rfl (List.mem_cons_of_mem _ (List.mem_cons_of_mem _ List.mem_cons_self))
              (lam5o hne) hr (show LamX.LamS (defScope s__law_others_right) _ from LamX.lamS_by (by decide +kernel)) rfl (fun _ _ _ _ _ => rfl)
              (fun A outer s H E f c' hr => pe_meth (pv 0) B.cl mPu GPu (hr.mono (by decide)) bPu .nil (passes_call (E := E) (takes_of rfl rfl rfl rfl) (fun _ _ _ _ h => h)) (pa_cons (pe_op op_sub (pv 1) pe_int) (pa_cons (pv 2) pa_nil)))) (pe_lst (pa_cons pe_str (pa_cons (pe_callB (show CallR _ (.builtin "repr") (rRepr K) from call_repr hgd hr.units) (by rfl) M.repr boot_repr1 (pa_cons (pv 2) pa_nil)) pa_nil))) (nomark _)) (pss_one (ps_ret pe_bl)) pss_nil)
      (pss_one (ps_if (pt_cmpR (show OpR _ (compareOp .NotEq) (rNeD K) from op_neD hu64) (pe_doorN (x := "_law_error") (T := lam5 Pm Pn Po Pb Pl) (TT := TErr3 K (clE CP CPs CN CNu CE CL CO CPl CM CU)) (by rfl) mE FE bE sc_error (Or.inl rfl) (fun cdg => err_gives hgd hr2 M.repr D.e0 D.e1 D.e2 D.e3 D.e4 D.e5 D.e6 D.e7 D.e8 D.e9) TBo rfl (List.mem_cons_of_mem _ (List.mem_cons_of_mem _ List.mem_cons_self))
              (lam5o hne) hr (show LamX.LamS (defScope s__law_others_right) _ from LamX.lamS_by (by decide +kernel)) rfl (fun _ _ _ _ _ => rfl)
              (fun A outer s H E f c' hr => pe_meth (pv 0) B.cl mAn GAn (hr.mono (by decide)) bAn .nil (passes_call (E := E) (takes_of rfl rfl rfl rfl) (fun _ _ _ _ h => h)) (pa_cons (pv 2) pa_nil))) (pe_lst (pa_cons pe_str (pa_cons (pe_callB (show CallR _ (.builtin "repr") (rRepr K) from call_repr hgd hr.units) (by rfl) M.repr boot_repr1 (pa_cons (pv 2) pa_nil)) pa_nil))) (nomark _)) (pss_one (ps_ret pe_bl)) pss_nil))))
      (pss_cons (ps_for PassesOwn.never rfl (pi_list (pe_lst (pa_cons (pe_un un_neg pe_int) (pa_cons pe_int (pa_cons pe_non (pa_cons pe_bl (pa_cons pe_str (pa_cons (pe_tup (pa_cons pe_int pa_nil)) pa_nil)))))))) (pg_name (i := 2) nd rfl (Or.inr rfl)) (pss_cons (ps_if (pt_cmpR (show OpR _ (compareOp .NotEq) (rNeD K) from op_neD hu64) (pe_doorN (x := "_law_error") (T := lam5 Pm Pn Po Pb Pl) (TT := TErr3 K (clE CP CPs CN CNu CE CL CO CPl CM CU)) (by rfl) mE FE bE sc_error (Or.inl rfl) (fun cdg => err_gives hgd hr2 M.repr D.e0 D.e1 D.e2 D.e3 D.e4 D.e5 D.e6 D.e7 D.e8 D.e9) TBo rfl (List.mem_cons_of_mem _ (List.mem_cons_of_mem _ List.mem_cons_self))
              (lam5o hne) hr (show LamX.LamS (defScope s__law_others_right) _ from LamX.lamS_by (by decide +kernel)) rfl (fun _ _ _ _ _ => rfl)
              (fun A outer s H E f c' hr => pe_meth (pv 0) B.cl mFi GFi (hr.mono (by decide)) bFi .nil (passes_call (E := E) (takes_of rfl rfl rfl rfl) (fun _ _ _ _ h => h)) (pa_cons (pv 2) (pa_cons pe_non pa_nil)))) (pe_lst (pa_cons pe_str (pa_cons (pe_callB (show CallR _ (.builtin "repr") (rRepr K) from call_repr hgd hr.units) (by rfl) M.repr boot_repr1 (pa_cons (pv 2) pa_nil)) pa_nil))) (nomark _)) (pss_one (ps_ret pe_bl)) pss_nil)
      (pss_one (ps_if (pt_cmpR (show OpR _ (compareOp .NotEq) (rNeD K) from op_neD hu64) (pe_doorN (x := "_law_error") (T := lam5 Pm Pn Po Pb Pl) (TT := TErr3 K (clE CP CPs CN CNu CE CL CO CPl CM CU)) (by rfl) mE FE bE sc_error (Or.inl rfl) (fun cdg => err_gives hgd hr2 M.repr D.e0 D.e1 D.e2 D.e3 D.e4 D.e5 D.e6 D.e7 D.e8 D.e9) TBo rfl (List.mem_cons_of_mem _ (List.mem_cons_of_mem _ List.mem_cons_self))
              (lam5o hne) hr (show LamX.LamS (defScope s__law_others_right) _ from LamX.lamS_by (by decide +kernel)) rfl (fun _ _ _ _ _ => rfl)
              (fun A outer s H E f c' hr => pe_meth (pv 0) B.cl mPy GPy (hr.mono (by decide)) bPy .nil (passes_call (E := E) (takes_of rfl rfl rfl rfl) (fun _ _ _ _ h => h)) (pa_cons (pv 2) (pa_cons pe_non pa_nil)))) (pe_lst (pa_cons pe_str (pa_cons (pe_callB (show CallR _ (.builtin "repr") (rRepr K) from call_repr hgd hr.units) (by rfl) M.repr boot_repr1 (pa_cons (pv 2) pa_nil)) pa_nil))) (nomark _)) (pss_one (ps_ret pe_bl)) pss_nil))))
      (pss_cons (ps_for PassesOwn.never rfl (pi_list (pe_lst (pa_cons (pe_un un_neg pe_int) (pa_cons pe_int (pa_cons pe_non (pa_cons pe_bl (pa_cons pe_str pa_nil))))))) (pg_name (i := 2) nd rfl (Or.inr rfl)) (pss_cons (ps_if (pt_cmpR (show OpR _ (compareOp .NotEq) (rNeD K) from op_neD hu64) (pe_doorN (x := "_law_error") (T := lam5 Pm Pn Po Pb Pl) (TT := TErr3 K (clE CP CPs CN CNu CE CL CO CPl CM CU)) (by rfl) mE FE bE sc_error (Or.inl rfl) (fun cdg => err_gives hgd hr2 M.repr D.e0 D.e1 D.e2 D.e3 D.e4 D.e5 D.e6 D.e7 D.e8 D.e9) TBo rfl (List.mem_cons_of_mem _ (List.mem_cons_of_mem _ List.mem_cons_self))
              (lam5o hne) hr (show LamX.LamS (defScope s__law_others_right) _ from LamX.lamS_by (by decide +kernel)) rfl (fun _ _ _ _ _ => rfl)
              (fun A outer s H E f c' hr => pe_meth (pv 0) B.cl mPy GPy (hr.mono (by decide)) bPy .nil (passes_call (E := E) (takes_of rfl rfl rfl rfl) (fun _ _ _ _ h => h)) (pa_cons pe_int (pa_cons (pv 2) pa_nil)))) (pe_lst (pa_cons pe_str (pa_cons (pe_callB (show CallR _ (.builtin "repr") (rRepr K) from call_repr hgd hr.units) (by rfl) M.repr boot_repr1 (pa_cons (pv 2) pa_nil)) pa_nil))) (nomark _)) (pss_one (ps_ret pe_bl)) pss_nil)
      (pss_one (ps_if (pt_cmpR (show OpR _ (compareOp .NotEq) (rNeD K) from op_neD hu64) (pe_doorN (x := "_law_error") (T := lam5 Pm Pn Po Pb Pl) (TT := TErr3 K (clE CP CPs CN CNu CE CL CO CPl CM CU)) (by rfl) mE FE bE sc_error (Or.inl rfl) (fun cdg => err_gives hgd hr2 M.repr D.e0 D.e1 D.e2 D.e3 D.e4 D.e5 D.e6 D.e7 D.e8 D.e9) TBo rfl (List.mem_cons_of_mem _ (List.mem_cons_of_mem _ List.mem_cons_self))
              (lam5o hne) hr (show LamX.LamS (defScope s__law_others_right) _ from LamX.lamS_by (by decide +kernel)) rfl (fun _ _ _ _ _ => rfl)
              (fun A outer s H E f c' hr => pe_methK0 (pv 0) B.cl mRm GRm (hr.mono (by decide)) bRm (passes_call (E := E) (takes_of rfl rfl rfl rfl) (fun _ _ _ _ h => h)) (pk_cons (pv 2) pk_nil))) (pe_lst (pa_cons pe_str (pa_cons (pe_callB (show CallR _ (.builtin "repr") (rRepr K) from call_repr hgd hr.units) (by rfl) M.repr boot_repr1 (pa_cons (pv 2) pa_nil)) pa_nil))) (nomark _)) (pss_one (ps_ret pe_bl)) pss_nil))))
      (pss_cons (ps_if (pt_cmpR (show OpR _ (compareOp .NotEq) (rNeD K) from op_neD hu64) (pe_doorN (x := "_law_error") (T := lam5 Pm Pn Po Pb Pl) (TT := TErr3 K (clE CP CPs CN CNu CE CL CO CPl CM CU)) (by rfl) mE FE bE sc_error (Or.inl rfl) (fun cdg => err_gives hgd hr2 M.repr D.e0 D.e1 D.e2 D.e3 D.e4 D.e5 D.e6 D.e7 D.e8 D.e9) TBo rfl (List.mem_cons_of_mem _ (List.mem_cons_of_mem _ List.mem_cons_self))
              (lam5o hne) hr (show LamX.LamS (defScope s__law_others_right) _ from LamX.lamS_by (by decide +kernel)) rfl (fun _ _ _ _ _ => rfl)
              (fun A outer s H E f c' hr => pe_meth (pv 0) B.cl mAe GAe (hr.mono (by decide)) bAe .nil (passes_call (E := E) (takes_of rfl rfl rfl rfl) (fun _ _ _ _ h => h)) (pa_cons pe_int (pa_cons pe_int pa_nil)))) (pe_lst (pa_cons pe_str (pa_cons pe_str pa_nil))) (nomark _)) (pss_one (ps_ret pe_bl)) pss_nil)
      (pss_one (ps_ret (pe_cmpR (show OpR _ (compareOp .Eq) (rEqD K) from op_eqD hu64) (pe_doorN (x := "_law_error") (T := lam5 Pm Pn Po Pb Pl) (TT := TErr3 K (clE CP CPs CN CNu CE CL CO CPl CM CU)) (by rfl) mE FE bE sc_error (Or.inl rfl) (fun cdg => err_gives hgd hr2 M.repr D.e0 D.e1 D.e2 D.e3 D.e4 D.e5 D.e6 D.e7 D.e8 D.e9) TBo rfl (List.mem_cons_of_mem _ (List.mem_cons_of_mem _ List.mem_cons_self))
              (lam5o hne) hr (show LamX.LamS (defScope s__law_others_right) _ from LamX.lamS_by (by decide +kernel)) rfl (fun _ _ _ _ _ => rfl)
              (fun A outer s H E f c' hr => pe_meth (pv 0) B.cl mRe GRe (hr.mono (by decide)) bRe .nil (passes_call (E := E) (takes_of rfl rfl rfl rfl) (fun _ _ _ _ h => h)) (pa_cons pe_int (pa_cons pe_int pa_nil)))) (pe_lst (pa_cons pe_str (pa_cons pe_str pa_nil))) (nomark _)))))))), ?_⟩
    refine ⟨by show 1 ≤ sizeLine; decide, fun t0 nt0 => ?_⟩
    obtain ⟨A0, qA0, sA0, ht0⟩ := newAt (.tup [V.int 1]) nt0
    rw [qA0]
    refine ⟨by show 1 ≤ sizeLine; decide, fun l0 nl0 => ?_⟩
    obtain ⟨A1, qA1, sA1, hl0⟩ := newAt (.lst [V.int 1]) nl0
    rw [qA1]
    refine ⟨by show 5 ≤ sizeLine; decide, fun L0 nL0 => ?_⟩
    obtain ⟨A2, qA2, sA2, hL0⟩ := newAt (.lst [V.non, V.bl true, V.str "1", V.ref t0, V.ref l0]) nL0
    rw [show (V.non :: _ : List V) = [V.non, V.bl true, V.str "1", V.ref t0, V.ref l0] from rfl, qA2]
    have S0 := (sA0.trans (sA1.trans sA2))
    refine ⟨L0, rfl, ⟨_, SqL.of hL0⟩, for_list (K := K) (a := L0) (xs := [V.non, V.bl true, V.str "1", V.ref t0, V.ref l0]) (fun i σ G => ∃ v2 : Option V, σ = [some (.ref b), some (.int (Mm.n : Int)), v2] ∧ LamX.ExtN A2 G ∧ LamX.Tabs (lam5 Pm Pn Po Pb Pl) G) ⟨_, rfl, LamX.ExtN.refl _, Same.tabs S0 hTab⟩ (fun i σ G _ h => ?_) (fun i y σ G hi h => ?_) (fun σ G h => ?_)⟩
    · obtain ⟨_, _, x, _⟩ := h
      exact SqL.of (x _ _ hL0 (fun _ z => by cases z))
    · obtain ⟨v2, rfl, xG, tG⟩ := h
      obtain ⟨d, hd, sh, nod, can⟩ : ∃ d, (∀ G', LamX.ExtN G G' → Rd K G' y d) ∧ (d.showable = true ∧ d.depth ≤ 60 ∧ d.shown.length ≤ sizeLine) ∧ isI d = false ∧ (PyData.str d.shown).canLay0 = true := by
        have hlt : i < 5 := (List.getElem?_eq_some_iff.mp hi).1
        obtain rfl | rfl | rfl | rfl | rfl : i = 0 ∨ i = 1 ∨ i = 2 ∨ i = 3 ∨ i = 4 := by omega
        · obtain rfl := Option.some.inj hi
          exact ⟨.none, fun _ _ => .dat .non, ⟨by decide +kernel, by decide +kernel, by decide +kernel⟩, rfl, by decide +kernel⟩
        · obtain rfl := Option.some.inj hi
          exact ⟨.bool true, fun _ _ => .dat (.bl _), ⟨by decide +kernel, by decide +kernel, by decide +kernel⟩, rfl, by decide +kernel⟩
        · obtain rfl := Option.some.inj hi
          exact ⟨.str "1", fun _ _ => .dat (.str _), ⟨by decide +kernel, by decide +kernel, by decide +kernel⟩, rfl, by decide +kernel⟩
        · obtain rfl := Option.some.inj hi
          exact ⟨.tuple [.int 1], fun G' x' => .dat (.tup (SqT.of (x' _ _ (xG _ _ (sA2 _ _ (sA1 _ _ ht0)) (fun _ z => by cases z)) (fun _ z => by cases z))) (.cons (.int _) .nil)), ⟨by decide +kernel, by decide +kernel, by decide +kernel⟩, rfl, by decide +kernel⟩
        · obtain rfl := Option.some.inj hi
          exact ⟨.list [.int 1], fun G' x' => .dat (.lst (SqL.of (x' _ _ (xG _ _ (sA2 _ _ hl0) (fun _ z => by cases z)) (fun _ z => by cases z))) (.cons (.int _) .nil)), ⟨by decide +kernel, by decide +kernel, by decide +kernel⟩, rfl, by decide +kernel⟩
      have x0G : LamX.ExtN H G := (LamX.ExtN.refl H).trans ((Same.ext S0).trans xG)
      have hdS : ∀ H1, LamX.ExtN G H1 → RdS K H1 y d := fun H1 x1 H' s' => hd H' (x1.trans (Same.ext s'))
      refine dBad (C := CNu) (u := y) (args := [V.int ((Mm.n : Int) - 1), y]) tG (bd.ext nt (x0G.trans (LamX.ExtN.refl G))) (nt.ext (x0G.trans (LamX.ExtN.refl G))) rfl rfl (fun H1 R r => ⟨_, rfl, _, _, rfl, rfl, _, rfl, r⟩) (fun H1 x1 => .putZ RdS.int nodeN (hdS H1 ((LamX.ExtN.refl G).trans x1)) nod) (fun H1 x1 t1 => told3 XE (hdS H1 ((LamX.ExtN.refl G).trans x1)) sh (fun H' p sp np => ?_))
      obtain ⟨B0, b0, sb0, hb0⟩ := newAt (.lst [V.str "number", V.str d.shown]) np
      rw [b0]
      refine ⟨_, rfl, y, d, rfl, hd _ ((LamX.ExtN.refl G).trans (x1.trans (Same.ext (sp.trans sb0)))), sh.1, sh.2.1, sh.2.2, by show 2 ≤ sizeLine; decide, fun q nq => ?_⟩
      obtain ⟨E0, e0, se0, he0⟩ := newAt (.lst [V.str "number", V.str d.shown]) nq
      rw [e0]
      refine neKept (by decide +kernel) can (se0 _ _ hb0) he0 ⟨_, rfl, iteF ?_⟩
      have X0 : LamX.ExtN G E0 := (LamX.ExtN.refl G).trans (x1.trans (Same.ext (sp.trans (sb0.trans se0))))
      have t0_ := Same.tabs (sp.trans (sb0.trans se0)) t1
      clear sp np nq t1 x1
      refine dBad (C := CNu) (u := y) (args := [y]) t0_ (bd.ext nt (x0G.trans X0)) (nt.ext (x0G.trans X0)) rfl rfl (fun H1 R r => ⟨_, rfl, r⟩) (fun H1 x1 => .addZ (hdS H1 (X0.trans x1)) nod) (fun H1 x1 t1 => told3 XE (hdS H1 (X0.trans x1)) sh (fun H' p sp np => ?_))
      obtain ⟨B1, b1, sb1, hb1⟩ := newAt (.lst [V.str "number", V.str d.shown]) np
      rw [b1]
      refine ⟨_, rfl, y, d, rfl, hd _ (X0.trans (x1.trans (Same.ext (sp.trans sb1)))), sh.1, sh.2.1, sh.2.2, by show 2 ≤ sizeLine; decide, fun q nq => ?_⟩
      obtain ⟨E1, e1, se1, he1⟩ := newAt (.lst [V.str "number", V.str d.shown]) nq
      rw [e1]
      refine neKept (by decide +kernel) can (se1 _ _ hb1) he1 ⟨_, rfl, iteF ?_⟩
      have X1 : LamX.ExtN G E1 := X0.trans (x1.trans (Same.ext (sp.trans (sb1.trans se1))))
      have t1_ := Same.tabs (sp.trans (sb1.trans se1)) t1
      clear sp np nq t1 x1
      exact ⟨_, rfl, xG.trans X1, t1_⟩
    obtain ⟨v2, rfl, xA, tab0⟩ := h
    have X0A : LamX.ExtN H _ := (LamX.ExtN.refl H).trans ((Same.ext S0).trans xA)
    refine ⟨_, rfl, ?_⟩
    refine ⟨by show 1 ≤ sizeLine; decide, fun t1 nt1 => ?_⟩
    obtain ⟨B0, qB0, sB0, ht1⟩ := newAt (.tup [V.int 0]) nt1
    rw [qB0]
    refine ⟨by show 6 ≤ sizeLine; decide, fun L1 nL1 => ?_⟩
    obtain ⟨B1, qB1, sB1, hL1⟩ := newAt (.lst [V.int (-1), V.int 2, V.non, V.bl true, V.str "0", V.ref t1]) nL1
    rw [show (V.int _ :: _ : List V) = [V.int (-1), V.int 2, V.non, V.bl true, V.str "0", V.ref t1] from rfl, qB1]
    have S1 := (sB0.trans sB1)
    refine ⟨L1, rfl, ⟨_, SqL.of hL1⟩, for_list (K := K) (a := L1) (xs := [V.int (-1), V.int 2, V.non, V.bl true, V.str "0", V.ref t1]) (fun i σ G => ∃ v2 : Option V, σ = [some (.ref b), some (.int (Mm.n : Int)), v2] ∧ LamX.ExtN B1 G ∧ LamX.Tabs (lam5 Pm Pn Po Pb Pl) G) ⟨_, rfl, LamX.ExtN.refl _, Same.tabs S1 tab0⟩ (fun i σ G _ h => ?_) (fun i y σ G hi h => ?_) (fun σ G h => ?_)⟩
    · obtain ⟨_, _, x, _⟩ := h
      exact SqL.of (x _ _ hL1 (fun _ z => by cases z))
    · obtain ⟨v2, rfl, xG, tG⟩ := h
      obtain ⟨d, hd, sh, nod, can⟩ : ∃ d, (∀ G', LamX.ExtN G G' → Rd K G' y d) ∧ (d.showable = true ∧ d.depth ≤ 60 ∧ d.shown.length ≤ sizeLine) ∧ isNode 2 d = false ∧ (PyData.str d.shown).canLay0 = true := by
        have hlt : i < 6 := (List.getElem?_eq_some_iff.mp hi).1
        obtain rfl | rfl | rfl | rfl | rfl | rfl : i = 0 ∨ i = 1 ∨ i = 2 ∨ i = 3 ∨ i = 4 ∨ i = 5 := by omega
        · obtain rfl := Option.some.inj hi
          exact ⟨.int (-1), fun _ _ => .dat (.int _), ⟨by decide +kernel, by decide +kernel, by decide +kernel⟩, rfl, by decide +kernel⟩
        · obtain rfl := Option.some.inj hi
          exact ⟨.int 2, fun _ _ => .dat (.int _), ⟨by decide +kernel, by decide +kernel, by decide +kernel⟩, rfl, by decide +kernel⟩
        · obtain rfl := Option.some.inj hi
          exact ⟨.none, fun _ _ => .dat .non, ⟨by decide +kernel, by decide +kernel, by decide +kernel⟩, rfl, by decide +kernel⟩
        · obtain rfl := Option.some.inj hi
          exact ⟨.bool true, fun _ _ => .dat (.bl _), ⟨by decide +kernel, by decide +kernel, by decide +kernel⟩, rfl, by decide +kernel⟩
        · obtain rfl := Option.some.inj hi
          exact ⟨.str "0", fun _ _ => .dat (.str _), ⟨by decide +kernel, by decide +kernel, by decide +kernel⟩, rfl, by decide +kernel⟩
        · obtain rfl := Option.some.inj hi
          exact ⟨.tuple [.int 0], fun G' x' => .dat (.tup (SqT.of (x' _ _ (xG _ _ (sB1 _ _ ht1) (fun _ z => by cases z)) (fun _ z => by cases z))) (.cons (.int _) .nil)), ⟨by decide +kernel, by decide +kernel, by decide +kernel⟩, rfl, by decide +kernel⟩
      have x0G : LamX.ExtN H G := X0A.trans ((Same.ext S1).trans xG)
      have hdS : ∀ H1, LamX.ExtN G H1 → RdS K H1 y d := fun H1 x1 H' s' => hd H' (x1.trans (Same.ext s'))
      refine dBad (C := CPl) (u := y) (args := [y, V.non]) tG (bd.ext nt (x0G.trans (LamX.ExtN.refl G))) (nt.ext (x0G.trans (LamX.ExtN.refl G))) rfl rfl (fun H1 R r => ⟨_, rfl, r⟩) (fun H1 x1 => .fireP (hdS H1 ((LamX.ExtN.refl G).trans x1)) (by rw [sc2]; exact nod)) (fun H1 x1 t1 => told7 XE (hdS H1 ((LamX.ExtN.refl G).trans x1)) sh (fun H' p sp np => ?_))
      obtain ⟨B0, b0, sb0, hb0⟩ := newAt (.lst [V.str "player", V.str d.shown]) np
      rw [b0]
      refine ⟨_, rfl, y, d, rfl, hd _ ((LamX.ExtN.refl G).trans (x1.trans (Same.ext (sp.trans sb0)))), sh.1, sh.2.1, sh.2.2, by show 2 ≤ sizeLine; decide, fun q nq => ?_⟩
      obtain ⟨E0, e0, se0, he0⟩ := newAt (.lst [V.str "player", V.str d.shown]) nq
      rw [e0]
      refine neKept (by decide +kernel) can (se0 _ _ hb0) he0 ⟨_, rfl, iteF ?_⟩
      have X0 : LamX.ExtN G E0 := (LamX.ExtN.refl G).trans (x1.trans (Same.ext (sp.trans (sb0.trans se0))))
      have t0_ := Same.tabs (sp.trans (sb0.trans se0)) t1
      clear sp np nq t1 x1
      refine dPlay (p := y) (l := V.non) t0_ (bd.ext nt (x0G.trans X0)) (nt.ext (x0G.trans X0)) rfl (fun H1 R r => ⟨_, rfl, r⟩) (fun H1 x1 => hdS H1 (X0.trans x1)) (fun H1 x1 t1 => .inl ⟨by rw [sc2]; exact nod, told7 XE (hdS H1 (X0.trans x1)) sh (fun H' p sp np => ?_)⟩)
      obtain ⟨B1, b1, sb1, hb1⟩ := newAt (.lst [V.str "player", V.str d.shown]) np
      rw [b1]
      refine ⟨_, rfl, y, d, rfl, hd _ (X0.trans (x1.trans (Same.ext (sp.trans sb1)))), sh.1, sh.2.1, sh.2.2, by show 2 ≤ sizeLine; decide, fun q nq => ?_⟩
      obtain ⟨E1, e1, se1, he1⟩ := newAt (.lst [V.str "player", V.str d.shown]) nq
      rw [e1]
      refine neKept (by decide +kernel) can (se1 _ _ hb1) he1 ⟨_, rfl, iteF ?_⟩
      have X1 : LamX.ExtN G E1 := X0.trans (x1.trans (Same.ext (sp.trans (sb1.trans se1))))
      have t1_ := Same.tabs (sp.trans (sb1.trans se1)) t1
      clear sp np nq t1 x1
      exact ⟨_, rfl, xG.trans X1, t1_⟩
    obtain ⟨v2, rfl, xB, tab1⟩ := h
    have X0B : LamX.ExtN H _ := X0A.trans ((Same.ext S1).trans xB)
    refine ⟨_, rfl, ?_⟩
    refine ⟨by show 5 ≤ sizeLine; decide, fun L2 nL2 => ?_⟩
    obtain ⟨C0, qC0, sC0, hL2⟩ := newAt (.lst [V.int (-1), V.int 10001, V.non, V.bl true, V.str "5"]) nL2
    rw [show (V.int _ :: _ : List V) = [V.int (-1), V.int 10001, V.non, V.bl true, V.str "5"] from rfl, qC0]
    have S2 := sC0
    refine ⟨L2, rfl, ⟨_, SqL.of hL2⟩, for_list (K := K) (a := L2) (xs := [V.int (-1), V.int 10001, V.non, V.bl true, V.str "5"]) (fun i σ G => ∃ v2 : Option V, σ = [some (.ref b), some (.int (Mm.n : Int)), v2] ∧ LamX.ExtN C0 G ∧ LamX.Tabs (lam5 Pm Pn Po Pb Pl) G) ⟨_, rfl, LamX.ExtN.refl _, Same.tabs S2 tab1⟩ (fun i σ G _ h => ?_) (fun i y σ G hi h => ?_) (fun σ G h => ?_)⟩
    · obtain ⟨_, _, x, _⟩ := h
      exact SqL.of (x _ _ hL2 (fun _ z => by cases z))
    · obtain ⟨v2, rfl, xG, tG⟩ := h
      obtain ⟨d, hd, sh, nod, can⟩ : ∃ d, (∀ G', LamX.ExtN G G' → Rd K G' y d) ∧ (d.showable = true ∧ d.depth ≤ 60 ∧ d.shown.length ≤ sizeLine) ∧ within 0 10000 d = false ∧ (PyData.str d.shown).canLay0 = true := by
        have hlt : i < 5 := (List.getElem?_eq_some_iff.mp hi).1
        obtain rfl | rfl | rfl | rfl | rfl : i = 0 ∨ i = 1 ∨ i = 2 ∨ i = 3 ∨ i = 4 := by omega
        · obtain rfl := Option.some.inj hi
          exact ⟨.int (-1), fun _ _ => .dat (.int _), ⟨by decide +kernel, by decide +kernel, by decide +kernel⟩, rfl, by decide +kernel⟩
        · obtain rfl := Option.some.inj hi
          exact ⟨.int 10001, fun _ _ => .dat (.int _), ⟨by decide +kernel, by decide +kernel, by decide +kernel⟩, rfl, by decide +kernel⟩
        · obtain rfl := Option.some.inj hi
          exact ⟨.none, fun _ _ => .dat .non, ⟨by decide +kernel, by decide +kernel, by decide +kernel⟩, rfl, by decide +kernel⟩
        · obtain rfl := Option.some.inj hi
          exact ⟨.bool true, fun _ _ => .dat (.bl _), ⟨by decide +kernel, by decide +kernel, by decide +kernel⟩, rfl, by decide +kernel⟩
        · obtain rfl := Option.some.inj hi
          exact ⟨.str "5", fun _ _ => .dat (.str _), ⟨by decide +kernel, by decide +kernel, by decide +kernel⟩, rfl, by decide +kernel⟩
      have x0G : LamX.ExtN H G := X0B.trans ((Same.ext S2).trans xG)
      have hdS : ∀ H1, LamX.ExtN G H1 → RdS K H1 y d := fun H1 x1 H' s' => hd H' (x1.trans (Same.ext s'))
      refine dPlay (p := V.int 1) (l := y) tG (bd.ext nt (x0G.trans (LamX.ExtN.refl G))) (nt.ext (x0G.trans (LamX.ExtN.refl G))) rfl (fun H1 R r => ⟨_, rfl, r⟩) (fun H1 x1 => RdS.int) (fun H1 x1 t1 => .inr ⟨by rw [sc2]; rfl, d, hdS H1 ((LamX.ExtN.refl G).trans x1), nod, told5 XE (hdS H1 ((LamX.ExtN.refl G).trans x1)) sh (fun H' p sp np => ?_)⟩)
      obtain ⟨B0, b0, sb0, hb0⟩ := newAt (.lst [V.str "invalid", V.str d.shown]) np
      rw [b0]
      refine ⟨_, rfl, y, d, rfl, hd _ ((LamX.ExtN.refl G).trans (x1.trans (Same.ext (sp.trans sb0)))), sh.1, sh.2.1, sh.2.2, by show 2 ≤ sizeLine; decide, fun q nq => ?_⟩
      obtain ⟨E0, e0, se0, he0⟩ := newAt (.lst [V.str "invalid", V.str d.shown]) nq
      rw [e0]
      refine neKept (by decide +kernel) can (se0 _ _ hb0) he0 ⟨_, rfl, iteF ?_⟩
      have X0 : LamX.ExtN G E0 := (LamX.ExtN.refl G).trans (x1.trans (Same.ext (sp.trans (sb0.trans se0))))
      have t0_ := Same.tabs (sp.trans (sb0.trans se0)) t1
      clear sp np nq t1 x1
      refine dRem (l := y) t0_ (bd.ext nt (x0G.trans X0)) (nt.ext (x0G.trans X0)) rfl (fun H1 R r => ⟨_, rfl, r⟩) (fun H1 x1 => hdS H1 (X0.trans x1)) nod (fun H1 x1 t1 => told5 XE (hdS H1 (X0.trans x1)) sh (fun H' p sp np => ?_))
      obtain ⟨B1, b1, sb1, hb1⟩ := newAt (.lst [V.str "invalid", V.str d.shown]) np
      rw [b1]
      refine ⟨_, rfl, y, d, rfl, hd _ (X0.trans (x1.trans (Same.ext (sp.trans sb1)))), sh.1, sh.2.1, sh.2.2, by show 2 ≤ sizeLine; decide, fun q nq => ?_⟩
      obtain ⟨E1, e1, se1, he1⟩ := newAt (.lst [V.str "invalid", V.str d.shown]) nq
      rw [e1]
      refine neKept (by decide +kernel) can (se1 _ _ hb1) he1 ⟨_, rfl, iteF ?_⟩
      have X1 : LamX.ExtN G E1 := X0.trans (x1.trans (Same.ext (sp.trans (sb1.trans se1))))
      have t1_ := Same.tabs (sp.trans (sb1.trans se1)) t1
      clear sp np nq t1 x1
      exact ⟨_, rfl, xG.trans X1, t1_⟩
    obtain ⟨v2, rfl, xC, tab2⟩ := h
    have X0C : LamX.ExtN H _ := X0B.trans ((Same.ext S2).trans xC)
    have e10 : edg 1 0 = ((0 : Int), (1 : Int)) := by decide
    have told_e : ∀ (G : Hp) (i j : Nat) (Q2 : VK), (PyData.tuple [.int (i : Int), .int (j : Int)]).showable = true ∧ (PyData.tuple [.int (i : Int), .int (j : Int)]).depth ≤ 60 ∧ (PyData.tuple [.int (i : Int), .int (j : Int)]).shown.length ≤ sizeLine →
        (∀ H' p, Same G H' → H' p = none → Q2 (.ref p) (upd H' p (.lst [.str "invalid", .str (PyData.tuple [.int (i : Int), .int (j : Int)]).shown]))) → toldEr CPl CNg CE CM (.edge i j) G (wErr3 K Q2 (clE CP CPs CN CNu CE CL CO CPl CM CU)) := fun G i j Q2 sh k =>
      fun t H' s' ht => told4 XE (d := .tuple [.int (i : Int), .int (j : Int)]) (fun H2 s2 => .dat (.tup (SqT.of (s2 _ _ ht)) (.cons (.int _) (.cons (.int _) .nil)))) sh (fun H2 p s2 np => k H2 p (s'.trans s2) np)
    refine dCarry (op := .join 1 0) (er := .edge 1 0) tab2 (bd.ext nt X0C) (nt.ext X0C) (by decide) rfl rfl (fun H1 R r => r) rfl ⟨by show 1 < Mm.n; omega, by show 0 < Mm.n; omega⟩ (by unfold stepM; dsimp only; rw [if_pos (.inr (by rw [ees, e10]; simp))]) (fun H1 x1 t1 => told_e H1 1 0 _ ⟨by decide +kernel, by decide +kernel, by decide +kernel⟩ (fun H' p sp np => ?_))
    obtain ⟨B0, b0, sb0, hb0⟩ := newAt (.lst [V.str "invalid", V.str (PyData.tuple [.int ((1 : Nat) : Int), .int ((0 : Nat) : Int)]).shown]) np
    rw [b0]
    have t10 : (PyData.tuple [.int ((1 : Nat) : Int), .int ((0 : Nat) : Int)]).shown = "(1, 0)" := by decide +kernel
    rw [t10] at hb0
    refine ⟨by show 2 ≤ sizeLine; decide, fun q nq => ?_⟩
    obtain ⟨E0, e0, se0, he0⟩ := newAt (.lst [V.str "invalid", V.str "(1, 0)"]) nq
    rw [e0]
    refine neKept (by decide +kernel) (by decide +kernel) (se0 _ _ hb0) he0 ⟨_, rfl, iteF ?_⟩
    have X9 : LamX.ExtN H E0 := X0C.trans (x1.trans (Same.ext (sp.trans (sb0.trans se0))))
    have tb9 := Same.tabs (sp.trans (sb0.trans se0)) t1
    clear sp np nq t1 x1
    have e11 : edg 1 1 = ((1 : Int), (1 : Int)) := by decide
    refine dCarry (op := .part 1 1) (er := .edge 1 1) tb9 (bd.ext nt X9) (nt.ext X9) (by decide) rfl rfl (fun H1 R r => r) rfl ⟨by show 1 < Mm.n; omega, by show 1 < Mm.n; omega⟩ (by unfold stepM; dsimp only; rw [if_neg (by rw [ees, e11]; decide)]) (fun H1 x1 t1 => told_e H1 1 1 _ ⟨by decide +kernel, by decide +kernel, by decide +kernel⟩ (fun H' p sp np => ?_))
    obtain ⟨B1, b1, sb1, hb1⟩ := newAt (.lst [V.str "invalid", V.str (PyData.tuple [.int ((1 : Nat) : Int), .int ((1 : Nat) : Int)]).shown]) np
    rw [b1]
    have t11 : (PyData.tuple [.int ((1 : Nat) : Int), .int ((1 : Nat) : Int)]).shown = "(1, 1)" := by decide +kernel
    rw [t11] at hb1
    refine ⟨by show 2 ≤ sizeLine; decide, fun q nq => ?_⟩
    obtain ⟨E1, e1, se1, he1⟩ := newAt (.lst [V.str "invalid", V.str "(1, 1)"]) nq
    rw [e1]
    exact eqKept (by decide +kernel) (by decide +kernel) (se1 _ _ hb1) he1 (kont E1 (X9.trans (x1.trans (Same.ext (sp.trans (sb1.trans se1))))) (Same.tabs (sp.trans (sb1.trans se1)) t1))
end
end K71
set_option Elab.async false
set_option linter.all false
set_option maxRecDepth 100000
set_option maxHeartbeats 8000000
namespace K71
open PySem PySem.Spec PyProof.Rows L2 FNX
theorem dMake {K : PySem.W.Frag} {CG CB CP CPs g : Addr} {n : Nat} {es : List (Int × Int)} {T : List (Addr × Str)} {cl : List EI} {ta : TA} {σ : L2.St} {H : Hp} {Q : VK} {q p : V} {dq dp : PyData}
    (hTab : LamX.Tabs T H) (hg : GE CG H g n es) (hta : ∀ (H1 : Hp) (R : List V → Hp → Prop), R [.ref g, q, p] H1 → ta σ H1 R) (hq : ∀ H1, LamX.ExtN H H1 → RdS K H1 q dq) (lq : lenD dq ≤ 100000) (hp : ∀ H1, LamX.ExtN H H1 → RdS K H1 p dp)
    (tl : ∀ H1, LamX.ExtN H H1 → LamX.Tabs T H1 → (isIL n dq = false ∧ told CP q H1 (wErr3 K Q cl) ∨ isIL n dq = true ∧ within 1 8 dp = false ∧ told CPs p H1 (wErr3 K Q cl))) :
    LamX.tLam T (TErr3 K cl) (fun E => tMake CB (spBInitB K CG CP CPs) [] E ta) σ H Q := by
  refine ⟨hTab, fun H1 x1 t1 => hta H1 _ fun b dx nb ndx ne => ?_⟩
  have sx := preS (CG := CB) nb ndx ne
  refine ⟨b, g, n, es, q, p, dq, dp, by rw [List.append_nil], (hg.ext x1).same sx, ((hq H1 x1).same sx).at, lq, (hp H1 x1).same sx, ?_⟩
  rcases tl H1 x1 t1 with ⟨a, t⟩ | ⟨a, c, t⟩
  · exact .inl ⟨a, t.later sx⟩
  · exact .inr ⟨a, c, t.later sx⟩
/-- what a door told against [word, repr], told apart by texts -/
theorem neTexts {K : PySem.W.Frag} {G : Hp} {p q : Addr} {wd tx : Str} {Q : VK} (hp : G p = some (.lst [.str wd, .str tx])) (hq : G q = some (.lst [.str wd, .str tx])) (k : Q (.bl false) G) : rNeS K (.ref p) (.ref q) G Q :=
  ⟨p, q, [wd, tx], rfl, rfl, SqL.of hp, SqL.of hq, k⟩
end K71
set_option Elab.async false
set_option linter.all false
set_option maxRecDepth 100000
set_option maxHeartbeats 8000000
namespace K71
open PySem PySem.Spec PyProof.Rows L2 FNX
theorem dpTrues {K : PySem.W.Frag} {H : Hp} : ∀ n : Nat, DpAll K H (List.replicate n (V.bl true)) (List.replicate n (PyData.bool true))
  | 0 => .nil
  | n + 1 => .cons (.bl _) (dpTrues n)
theorem repV (c : V) (n : Nat) : (List.replicate n [c]).flatten = List.replicate n c := by
  induction n with
  | zero => rfl
  | succ n ih =>
    rw [List.replicate_succ, List.flatten_cons, ih, List.replicate_succ]
    rfl
def spMade71 (K : PySem.W.Frag) (CG Pm Pn Po Pb Pl : Addr) : Sp := fun vs H Q _ => ∃ (g h : Addr) (n : Nat) (es : List (Int × Int)) (x : List Int), vs = [.ref g, .ref h] ∧ GE CG H g n es ∧ H h = some (.lst (x.map V.int)) ∧ x.length = n ∧ 1 ≤ n ∧ n ≤ 16 ∧ (∀ v ∈ x, v.natAbs ≤ 100) ∧
  LamX.Tabs (lam5 Pm Pn Po Pb Pl) H ∧ ∀ H', LamX.ExtN H H' → LamX.Tabs (lam5 Pm Pn Po Pb Pl) H' → Q (.bl true) H'
section
variable {P : Program} {w : World} {K : PySem.W.Frag} {mg : Str → Option Value} {base : Heap} {CG CT CB CP CPs CN CNu CE CL CO CPl CM CU : Addr}
theorem sc_made : FnScope ["_law_graph", "_law_here", "_law_bad"] ["_law_graph", "_law_here"] (defScope s__law_made_right) := ⟨rfl, rfl, rfl, by decide +kernel, rfl, by decide +kernel, by decide +kernel⟩
theorem ok_made {f fE c Pm Pn Po Pb Pl fBI : Addr} {fd fdE fdBI : FuncData} {t1 : Tok} (F : FunC K "_law_made_right" "_law_made_right" s__law_made_right f fd c) (M : Nms mg) (B : BTxt K mg CB) (hne : Ne5 Pm Pn Po Pb Pl) (TBm : LamX.TabB base mg c Pm)
    (FE : Fun K "_law_error" "_law_error" s__law_error fE fdE) (mE : mg "_law_error" = some (.ref fE)) (bE : L2.Binds K fdE ["_law_door"] [])
    (D : Ex10 P w K mg base CP CPs CN CNu CE CL CO CPl CM CU) (XE : Exm10 K CP CPs CN CNu CE CL CO CPl CM CU)
    (GSc : MAt P w K mg base CB CX0 1 "scores" ["self"] (spBoardSco CG CT CB)) (MKB : Mk K CB fBI) (GBI : FnOk P w K mg base (L2.CX P w) 6 fBI fdBI ["self", "graph", "position", "players"] (spBInit K CG CT CB)) (GBb : FnOk P w K mg base (L2.CX P w) 6 fBI fdBI ["self", "graph", "position", "players"] (spBInitB K CG CP CPs))
    (bBI : L2.Binds K fdBI ["self", "graph", "position", "players"] []) (bBD : L2.Binds K fdBI ["self", "graph", "position", "players"] [.int 1 t1]) :
    GOk P w K mg base 14 f fd ["_law_graph", "_law_here"] (spMade71 K CG Pm Pn Po Pb Pl) := by
  obtain ⟨fSc, fdSc, GSc, mSc, bSc⟩ := GSc
  refine okGC F sc_made (fun vs H Q E h => ?_) (fun A0 outer s H vs Q E hgd hr14 h => ?_)
  · obtain ⟨g, h, n, es, x, rfl, _⟩ := h
    rfl
  · obtain ⟨g, h, n, es, x, rfl, hg, hh, hlen, n1, n16, bx, hTab, kont⟩ := h
    have nd := sc_made.nd
    have hr := hr14
    have hr2 : Room 2 _ := hr.mono (by decide)
    have hu64 : A0.units + 3 + 64 < cLine := hr.units
    refine ⟨_, (pss_cons (ps_for PassesOwn.never rfl (pi_list (pe_lst (pa_cons pe_non (pa_cons (pe_op op_cat (pv 1) (pe_lst (pa_cons pe_int pa_nil))) (pa_cons (pe_callTy call_tuple_of (by rfl) M.tuple (by decide +kernel) (pa_cons (pv 1) pa_nil)) (pa_cons (pe_op op_rep (pe_lst (pa_cons pe_bl pa_nil)) (pe_callB call_len_seq (by rfl) M.len boot_len1 (pa_cons (pv 1) pa_nil))) (pa_cons pe_dnewK pa_nil))))))) (pg_name (i := 2) nd rfl (Or.inr rfl)) (pss_one (ps_if (pt_cmpR (show OpR _ (compareOp .NotEq) (rNeS K) from op_neS hu64) (pe_doorN (x := "_law_error") (T := lam5 Pm Pn Po Pb Pl) (TT := TErr3 K (clE CP CPs CN CNu CE CL CO CPl CM CU)) (by rfl) mE FE bE sc_error (Or.inl rfl) (fun cdg => err_gives hgd hr2 M.repr D.e0 D.e1 D.e2 D.e3 D.e4 D.e5 D.e6 D.e7 D.e8 D.e9) TBm rfl List.mem_cons_self
              (lam5m hne) hr (show LamX.LamS (defScope s__law_made_right) _ from LamX.lamS_by (by decide +kernel)) rfl (fun _ _ _ _ _ => rfl)
              (fun A outer s H E f c' hr => (pe_make MKB GBb (hr.mono (by decide)) (by rfl) B.mgC bBI .nil (passes_call (E := E) (takes_of rfl rfl rfl rfl) (fun _ _ _ _ h => h)) (pa_cons (pv 0) (pa_cons (pv 2) (pa_cons pe_int pa_nil)))))) (pe_lst (pa_cons pe_str (pa_cons (pe_callB (show CallR _ (.builtin "repr") (rRepr K) from call_repr hgd hr.units) (by rfl) M.repr boot_repr1 (pa_cons (pv 2) pa_nil)) pa_nil))) (nomark _)) (pss_one (ps_ret pe_bl)) pss_nil)))
      (pss_cons (ps_for PassesOwn.never rfl (pi_list (pe_lst (pa_cons pe_int (pa_cons pe_int (pa_cons (pe_un un_neg pe_int) (pa_cons pe_non (pa_cons pe_bl (pa_cons pe_str (pa_cons (pe_lst (pa_cons pe_int pa_nil)) pa_nil))))))))) (pg_name (i := 2) nd rfl (Or.inr rfl)) (pss_one (ps_if (pt_cmpR (show OpR _ (compareOp .NotEq) (rNeS K) from op_neS hu64) (pe_doorN (x := "_law_error") (T := lam5 Pm Pn Po Pb Pl) (TT := TErr3 K (clE CP CPs CN CNu CE CL CO CPl CM CU)) (by rfl) mE FE bE sc_error (Or.inl rfl) (fun cdg => err_gives hgd hr2 M.repr D.e0 D.e1 D.e2 D.e3 D.e4 D.e5 D.e6 D.e7 D.e8 D.e9) TBm rfl List.mem_cons_self
              (lam5m hne) hr (show LamX.LamS (defScope s__law_made_right) _ from LamX.lamS_by (by decide +kernel)) rfl (fun _ _ _ _ _ => rfl)
              (fun A outer s H E f c' hr => (pe_make MKB GBb (hr.mono (by decide)) (by rfl) B.mgC bBI .nil (passes_call (E := E) (takes_of rfl rfl rfl rfl) (fun _ _ _ _ h => h)) (pa_cons (pv 0) (pa_cons (pv 1) (pa_cons (pv 2) pa_nil)))))) (pe_lst (pa_cons pe_str (pa_cons (pe_callB (show CallR _ (.builtin "repr") (rRepr K) from call_repr hgd hr.units) (by rfl) M.repr boot_repr1 (pa_cons (pv 2) pa_nil)) pa_nil))) (nomark _)) (pss_one (ps_ret pe_bl)) pss_nil)))
      (pss_one (ps_ret (pe_and (pe_cmpR (show OpR _ (compareOp .Eq) (rEqD K) from op_eqD hu64) (pe_meth0 (pe_make MKB GBI (hr.mono (by decide)) (by rfl) B.mgC bBI .nil passL (pa_cons (pv 0) (pa_cons (pv 1) (pa_cons pe_int pa_nil)))) B.cl mSc GSc (hr.mono (by decide)) bSc .nil pass0) (pe_op op_rep (pe_lst (pa_cons pe_int pa_nil)) pe_int) (nomark _)) (pe_one (pe_cmpR (show OpR _ (compareOp .Eq) (rEqD K) from op_eqD hu64) (pe_meth0 (pe_make MKB GBI (hr.mono (by decide)) (by rfl) B.mgC bBD (show Vals [V.int 1] [.int 1 t1] from .cons ⟨_, rfl⟩ .nil) passL (pa_cons (pv 0) (pa_cons (pv 1) pa_nil))) B.cl mSc GSc (hr.mono (by decide)) bSc .nil pass0) (pe_lst (pa_cons pe_int pa_nil)) (nomark _)))))))), ?_⟩
    refine ⟨_, rfl, by show 1 ≤ sizeLine; decide, fun z0 nz0 => ?_⟩
    obtain ⟨A1, a1, s1, hz0⟩ := newAt (.lst [V.int 0]) nz0
    rw [a1]
    refine ⟨h, z0, _, _, rfl, rfl, s1 _ _ hh, hz0, by rw [List.length_map, sizeLine_eq]; show _ + 1 ≤ _; omega, fun c1 nc1 => ?_⟩
    obtain ⟨A2, a2, s2, hc1⟩ := newAt (.lst (x.map V.int ++ [V.int 0])) nc1
    rw [a2]
    refine ⟨_, rfl, h, _, rfl, .inl ⟨SqL.of (s2 _ _ (s1 _ _ hh)), fun tp ntp => ?_⟩⟩
    obtain ⟨A3, a3, s3, htp⟩ := newAt (.tup (x.map V.int)) ntp
    rw [a3]
    have s13 := s1.trans (s2.trans s3)
    refine ⟨by show 1 ≤ sizeLine; decide, fun b0 nb0 => ?_⟩
    obtain ⟨A4, a4, s4, hb0⟩ := newAt (.lst [V.bl true]) nb0
    rw [a4]
    refine ⟨_, rfl, h, _, rfl, .inl (SqL.of ((s13.trans s4) _ _ hh)), b0, _, _, rfl, rfl, hb0, by rw [List.length_map]; omega, by rw [List.length_map]; omega, by rw [List.length_map, sizeLine_eq, Int.toNat_natCast]; show 1 * _ ≤ _; omega, fun bb nbb => ?_⟩
    rw [List.length_map, Int.toNat_natCast, repV, hlen]
    obtain ⟨A5, a5, s5, hbb⟩ := newAt (.lst (List.replicate n (V.bl true))) nbb
    rw [a5]
    intro dd ndd
    obtain ⟨A6, a6, s6, hdd⟩ := newAt (.dK []) ndd
    rw [a6]
    refine ⟨by show 5 ≤ sizeLine; decide, fun L nL => ?_⟩
    obtain ⟨A7, a7, s7, hL⟩ := newAt (.lst [V.non, V.ref c1, V.ref tp, V.ref bb, V.ref dd]) nL
    rw [a7]
    have s67 := s6.trans s7
    have s57 := s5.trans s67
    have s47 := s4.trans s57
    have s37 := s3.trans s47
    have S0 := s1.trans (s2.trans (s3.trans s47))
    have hc7 := s3.trans s47 _ _ hc1
    have ht7 := s47 _ _ htp
    have hb7 := s67 _ _ hbb
    have hd7 := s7 _ _ hdd
    have hh7 := S0 _ _ hh
    have big : (100000 : Nat) ≤ sizeLine := by rw [sizeLine_eq]; decide
    refine ⟨L, rfl, ⟨_, SqL.of hL⟩, for_list (K := K) (a := L) (xs := [V.non, V.ref c1, V.ref tp, V.ref bb, V.ref dd]) (fun i σ G => ∃ v2 : Option V, σ = [some (.ref g), some (.ref h), v2] ∧ LamX.ExtN A7 G ∧ LamX.Tabs (lam5 Pm Pn Po Pb Pl) G) ⟨_, rfl, LamX.ExtN.refl _, Same.tabs S0 hTab⟩ (fun i σ G _ h => ?_) (fun i y σ G hi h => ?_) (fun σ G h => ?_)⟩
    · obtain ⟨_, _, x, _⟩ := h
      exact SqL.of (x _ _ hL (fun _ z => by cases z))
    · obtain ⟨v2, rfl, xG, tG⟩ := h
      have it : ∀ {u : Addr} {o : HO} {G' : Hp}, LamX.ExtN G G' → A7 u = some o → (∀ ps, o ≠ .tbl ps) → G' u = some o := fun x' e no => x' _ _ (xG _ _ e no) no
      have allI : ∀ v ∈ x, (Int.natAbs v) < 10 ^ 12 := fun v hv => Nat.lt_of_le_of_lt (bx v hv) (by decide)
      have shI : ∀ (y : List Int) (k : Nat), (∀ v ∈ y, (Int.natAbs v) < 10 ^ 12) → y.length ≤ 17 → Shw 1 100000 (posD y) := fun y k hy hl => (shwList (k := 0) (L := 13) (m := 17) (fun e he => by
        obtain ⟨v, hv, rfl⟩ := List.mem_map.mp he
        exact shwInt (hy v hv)) (by rw [List.length_map]; exact hl)).mono (by decide) (by decide)
      obtain ⟨d, hd, sh, ld, nod⟩ : ∃ d, (∀ G', LamX.ExtN G G' → Rd K G' y d) ∧ (d.showable = true ∧ d.depth ≤ 60 ∧ d.shown.length ≤ sizeLine) ∧ lenD d ≤ 100000 ∧ isIL n d = false := by
        have hlt : i < 5 := (List.getElem?_eq_some_iff.mp hi).1
        obtain rfl | rfl | rfl | rfl | rfl : i = 0 ∨ i = 1 ∨ i = 2 ∨ i = 3 ∨ i = 4 := by omega
        · obtain rfl := Option.some.inj hi
          exact ⟨.none, fun _ _ => .dat .non, ⟨by decide +kernel, by decide +kernel, by decide +kernel⟩, by decide, rfl⟩
        · obtain rfl := Option.some.inj hi
          refine ⟨posD (x ++ [0]), fun G' x' => .dat (.lst (SqL.of (by have := it x' hc7 (fun _ z => by cases z); rw [this, List.map_append]; rfl)) (dpInts (x ++ [0]))), shwLine (shI (x ++ [0]) 0 (fun v hv => by rcases List.mem_append.mp hv with hv | hv; exact allI v hv; rw [List.mem_singleton.mp hv]; decide) (by rw [List.length_append]; show _ + 1 ≤ _; omega)) (by decide) (by decide), ?_, ?_⟩
          · show ((x ++ [0]).map PyData.int).length ≤ _
            rw [List.length_map, List.length_append]
            show _ + 1 ≤ _
            omega
          · show (decide (((x ++ [0]).map PyData.int).length = n) && _) = false
            rw [decide_eq_false (by rw [List.length_map, List.length_append]; show ¬ _ + 1 = _; omega), Bool.false_and]
        · obtain rfl := Option.some.inj hi
          refine ⟨.tuple (x.map PyData.int), fun G' x' => .dat (.tup (SqT.of (it x' ht7 (fun _ z => by cases z))) (dpInts x)), ?_, ?_, rfl⟩
          · exact shwLine ((shwTup (k := 0) (L := 13) (m := 17) (fun e he => by
              obtain ⟨v, hv, rfl⟩ := List.mem_map.mp he
              exact shwInt (allI v hv)) (by rw [List.length_map]; omega)).mono (k' := 1) (L' := 100000) (by decide) (by decide)) (by decide) (by decide)
          · exact Nat.zero_le _
        · obtain rfl := Option.some.inj hi
          refine ⟨.list (List.replicate n (.bool true)), fun G' x' => .dat (.lst (SqL.of (it x' hb7 (fun _ z => by cases z))) (dpTrues n)), ?_, ?_, ?_⟩
          · have : ∀ k : Fin 17, (PyData.list (List.replicate k.val (.bool true))).showable = true ∧ (PyData.list (List.replicate k.val (.bool true))).depth ≤ 60 ∧ (PyData.list (List.replicate k.val (.bool true))).shown.length ≤ sizeLine := by decide +kernel
            exact this ⟨n, by omega⟩
          · show (List.replicate n (PyData.bool true)).length ≤ _
            rw [List.length_replicate]
            omega
          · have : ∀ k : Fin 17, 1 ≤ k.val → isIL k.val (.list (List.replicate k.val (.bool true))) = false := by decide +kernel
            exact this ⟨n, by omega⟩ n1
        · obtain rfl := Option.some.inj hi
          exact ⟨.dict [], fun G' x' => .dct [] (it x' hd7 (fun _ z => by cases z)), ⟨by decide +kernel, by decide +kernel, by decide +kernel⟩, by decide, rfl⟩
      have x0G : LamX.ExtN H G := (Same.ext S0).trans xG
      have hdS : ∀ H1, LamX.ExtN G H1 → RdS K H1 y d := fun H1 x1 H' s' => hd H' (x1.trans (Same.ext s'))
      refine dMake (q := y) (p := V.int 0) (dq := d) (dp := .int 0) tG (hg.ext x0G) (fun H1 R r => ⟨_, rfl, _, rfl, r⟩) hdS ld (fun _ _ => RdS.int) (fun H1 x1 t1 => .inl ⟨nod, told0 XE (hdS H1 x1) sh (fun H' p sp np => ?_)⟩)
      obtain ⟨B0, b0', sb0, hB0⟩ := newAt (.lst [V.str "position", V.str d.shown]) np
      rw [b0']
      refine ⟨_, rfl, y, d, rfl, hd _ (x1.trans (Same.ext (sp.trans sb0))), sh.1, sh.2.1, sh.2.2, by show 2 ≤ sizeLine; decide, fun q nq => ?_⟩
      obtain ⟨E0, e0, se0, hE0⟩ := newAt (.lst [V.str "position", V.str d.shown]) nq
      rw [e0]
      refine neTexts (se0 _ _ hB0) hE0 ⟨_, rfl, iteF ?_⟩
      have sA := sp.trans (sb0.trans se0)
      exact ⟨_, rfl, xG.trans (x1.trans (Same.ext sA)), Same.tabs sA t1⟩
    obtain ⟨v2, rfl, xA, tA⟩ := h
    have x0A := (Same.ext S0).trans xA
    clear xA hd7 hb7 ht7 hc7 hL a7 s7 nL s67 s57 s47 s37 S0 hdd a6 s6 ndd hbb a5 s5 nbb hb0 a4 s4 nb0 s13 htp a3 s3 ntp hc1 a2 s2 nc1 hz0 a1 s1 nz0
    have hhJ := x0A _ _ hh (fun _ z => by cases z)
    refine ⟨_, rfl, ?_⟩
    refine ⟨by show 1 ≤ sizeLine; decide, fun l1 nl1 => ?_⟩
    obtain ⟨J1, j1, s1, hl1⟩ := newAt (.lst [V.int 1]) nl1
    rw [j1]
    refine ⟨by show 7 ≤ sizeLine; decide, fun L nL => ?_⟩
    obtain ⟨J2, j2, s2, hL⟩ := newAt (.lst [V.int 0, V.int 9, V.int (-1), V.non, V.bl true, V.str "1", V.ref l1]) nL
    rw [show (V.int _ :: _ : List V) = [V.int 0, V.int 9, V.int (-1), V.non, V.bl true, V.str "1", V.ref l1] from rfl, j2]
    have S0 := s1.trans s2
    have hl1' := s2 _ _ hl1
    refine ⟨L, rfl, ⟨_, SqL.of hL⟩, for_list (K := K) (a := L) (xs := [V.int 0, V.int 9, V.int (-1), V.non, V.bl true, V.str "1", V.ref l1]) (fun i σ G => ∃ v2 : Option V, σ = [some (.ref g), some (.ref h), v2] ∧ LamX.ExtN J2 G ∧ LamX.Tabs (lam5 Pm Pn Po Pb Pl) G) ⟨_, rfl, LamX.ExtN.refl _, Same.tabs S0 tA⟩ (fun i σ G _ h => ?_) (fun i y σ G hi h => ?_) (fun σ G h => ?_)⟩
    · obtain ⟨_, _, x, _⟩ := h
      exact SqL.of (x _ _ hL (fun _ z => by cases z))
    · obtain ⟨v2, rfl, xG, tG⟩ := h
      obtain ⟨d, hd, sh, nod⟩ : ∃ d, (∀ G', LamX.ExtN G G' → Rd K G' y d) ∧ (d.showable = true ∧ d.depth ≤ 60 ∧ d.shown.length ≤ sizeLine) ∧ within 1 8 d = false := by
        have hlt : i < 7 := (List.getElem?_eq_some_iff.mp hi).1
        obtain rfl | rfl | rfl | rfl | rfl | rfl | rfl : i = 0 ∨ i = 1 ∨ i = 2 ∨ i = 3 ∨ i = 4 ∨ i = 5 ∨ i = 6 := by omega
        · obtain rfl := Option.some.inj hi
          exact ⟨.int 0, fun _ _ => .dat (.int _), ⟨by decide +kernel, by decide +kernel, by decide +kernel⟩, rfl⟩
        · obtain rfl := Option.some.inj hi
          exact ⟨.int 9, fun _ _ => .dat (.int _), ⟨by decide +kernel, by decide +kernel, by decide +kernel⟩, rfl⟩
        · obtain rfl := Option.some.inj hi
          exact ⟨.int (-1), fun _ _ => .dat (.int _), ⟨by decide +kernel, by decide +kernel, by decide +kernel⟩, rfl⟩
        · obtain rfl := Option.some.inj hi
          exact ⟨.none, fun _ _ => .dat .non, ⟨by decide +kernel, by decide +kernel, by decide +kernel⟩, rfl⟩
        · obtain rfl := Option.some.inj hi
          exact ⟨.bool true, fun _ _ => .dat (.bl _), ⟨by decide +kernel, by decide +kernel, by decide +kernel⟩, rfl⟩
        · obtain rfl := Option.some.inj hi
          exact ⟨.str "1", fun _ _ => .dat (.str _), ⟨by decide +kernel, by decide +kernel, by decide +kernel⟩, rfl⟩
        · obtain rfl := Option.some.inj hi
          exact ⟨.list [.int 1], fun G' x' => .dat (.lst (SqL.of (x' _ _ (xG _ _ hl1' (fun _ z => by cases z)) (fun _ z => by cases z))) (.cons (.int _) .nil)), ⟨by decide +kernel, by decide +kernel, by decide +kernel⟩, rfl⟩
      have x0G : LamX.ExtN H G := x0A.trans ((Same.ext S0).trans xG)
      have hdS : ∀ H1, LamX.ExtN G H1 → RdS K H1 y d := fun H1 x1 H' s' => hd H' (x1.trans (Same.ext s'))
      have hqS : ∀ H1, LamX.ExtN G H1 → RdS K H1 (.ref h) (posD x) := fun H1 x1 H' s' => .dat (.lst (SqL.of (s' _ _ (x1 _ _ (x0G _ _ hh (fun _ z => by cases z)) (fun _ z => by cases z)))) (dpInts x))
      refine dMake (q := V.ref h) (p := y) (dq := posD x) (dp := d) tG (hg.ext x0G) (fun H1 R r => ⟨_, rfl, _, rfl, _, rfl, r⟩) hqS (by show (x.map PyData.int).length ≤ _; rw [List.length_map]; omega) hdS (fun H1 x1 t1 => .inr ⟨ilPos hlen, nod, told1 XE (hdS H1 x1) sh (fun H' p sp np => ?_)⟩)
      obtain ⟨B0, b0', sb0, hB0⟩ := newAt (.lst [V.str "players", V.str d.shown]) np
      rw [b0']
      refine ⟨_, rfl, y, d, rfl, hd _ (x1.trans (Same.ext (sp.trans sb0))), sh.1, sh.2.1, sh.2.2, by show 2 ≤ sizeLine; decide, fun q nq => ?_⟩
      obtain ⟨E0, e0, se0, hE0⟩ := newAt (.lst [V.str "players", V.str d.shown]) nq
      rw [e0]
      refine neTexts (se0 _ _ hB0) hE0 ⟨_, rfl, iteF ?_⟩
      have sA := sp.trans (sb0.trans se0)
      exact ⟨_, rfl, xG.trans (x1.trans (Same.ext sA)), Same.tabs sA t1⟩
    obtain ⟨v2, rfl, xB, tB⟩ := h
    have x0B := x0A.trans ((Same.ext S0).trans xB)
    have hgB := hg.ext x0B
    have hhB := x0B _ _ hh (fun _ z => by cases z)
    refine ⟨_, rfl, _, rfl, ?_⟩
    intro b dx nb ndx ne
    have sx := preS (CG := CB) nb ndx ne
    obtain ⟨K1, k1⟩ : ∃ z, upd (upd G dx (.own b)) b (.ins CB dx []) = z := ⟨_, rfl⟩
    have hb1 : K1 b = some (.ins CB dx []) := by rw [← k1, upd_same]
    rw [k1] at sx ⊢
    have g0 : Stb [] G (fun H' => GE CG H' g n es) := fun H' f => hgB.same (fun b o e => f b o (by simp) e)
    refine ⟨[b], b, dx, g, h, n, es, x, 8, rfl, hb1, by simp, fun z hz => by rw [List.mem_singleton.mp hz]; exact ⟨_, hb1, fun _ z => by cases z⟩, Stb.new (L := [b]) g0 (sameFr sx) (fun z hz => by rw [List.mem_singleton.mp hz]; exact nb), SqL.of (sx _ _ hhB), hlen, by decide, by decide, fun so nl pl pk K2 f2 nso nnl npl npk bd => ⟨rfl, ?_⟩⟩
    obtain ⟨dx2, hb2⟩ := bd.obj
    refine ⟨b, dx2, _, rfl, hb2, rfl, _, b, so, pk, _, g, nl, pl, _, rfl, bd, fun q K3 nq sq hq => ?_⟩
    have x13 : LamX.ExtN G K3 := fun u o e no => sq _ _ (f2 u o (ne_of_none e nb) (sx _ _ e))
    refine ⟨by show 1 ≤ sizeLine; decide, fun z nz => ?_⟩
    obtain ⟨K4, k4, s4, hz⟩ := newAt (.lst [V.int 0]) nz
    rw [k4]
    refine ⟨z, (8 : Int), _, rfl, rfl, hz, by decide, by decide, by rw [sizeLine_eq]; show 1 * 8 ≤ _; decide, fun r nr => ?_⟩
    obtain ⟨K5, k5, s5, hr5⟩ := newAt (.lst ((List.replicate 8 (0 : Int)).map V.int)) nr
    rw [show (List.replicate (Int.toNat 8) [V.int 0]).flatten = (List.replicate 8 (0 : Int)).map V.int from rfl, k5]
    refine ⟨posD (List.replicate 8 0), posD (List.replicate 8 0), .lst (SqL.of ((s4.trans s5) _ _ hq)) (dpInts _), .lst (SqL.of hr5) (dpInts _), by decide +kernel, by decide +kernel, ?_⟩
    rw [show PyData.eqv (posD (List.replicate 8 0)) (posD (List.replicate 8 0)) = true from by decide +kernel]
    refine ⟨_, rfl, iteT ?_⟩
    have x05 : LamX.ExtN H K5 := x0B.trans (x13.trans (Same.ext (s4.trans s5)))
    have t5 : LamX.Tabs (lam5 Pm Pn Po Pb Pl) K5 := Same.tabs (s4.trans s5) (Same.tabs sq (Same.tabs (fun u o e => f2 u o (ne_of_none e nb) (sx _ _ e)) tB))
    have hg5 := hg.ext x05
    have hh5 := x05 _ _ hh (fun _ z => by cases z)
    refine ⟨_, rfl, _, rfl, ?_⟩
    intro b2 dy nb2 ndy ne2
    have sy := preS (CG := CB) nb2 ndy ne2
    obtain ⟨N1, e1⟩ : ∃ z, upd (upd K5 dy (.own b2)) b2 (.ins CB dy []) = z := ⟨_, rfl⟩
    have hb3 : N1 b2 = some (.ins CB dy []) := by rw [← e1, upd_same]
    rw [e1] at sy ⊢
    have g1 : Stb [] K5 (fun H' => GE CG H' g n es) := fun H' f => hg5.same (fun b o e => f b o (by simp) e)
    refine ⟨[b2], b2, dy, g, h, n, es, x, 1, rfl, hb3, by simp, fun z hz => by rw [List.mem_singleton.mp hz]; exact ⟨_, hb3, fun _ z => by cases z⟩, Stb.new (L := [b2]) g1 (sameFr sy) (fun z hz => by rw [List.mem_singleton.mp hz]; exact nb2), SqL.of (sy _ _ hh5), hlen, by decide, by decide, fun so nl pl pk N2 f3 nso nnl npl npk bd2 => ⟨rfl, ?_⟩⟩
    obtain ⟨dy2, hb4⟩ := bd2.obj
    refine ⟨b2, dy2, _, rfl, hb4, rfl, _, b2, so, pk, _, g, nl, pl, _, rfl, bd2, fun q2 N3 nq2 sq2 hq2 => ?_⟩
    refine ⟨by show 1 ≤ sizeLine; decide, fun z2 nz2 => ?_⟩
    obtain ⟨N4, n4, s6, hz2⟩ := newAt (.lst [V.int 0]) nz2
    rw [n4]
    refine ⟨posD (List.replicate 1 0), posD (List.replicate 1 0), .lst (SqL.of (s6 _ _ hq2)) (dpInts _), .lst (SqL.of hz2) (dpInts [0]), by decide +kernel, by decide +kernel, ?_⟩
    rw [show PyData.eqv (posD (List.replicate 1 0)) (posD (List.replicate 1 0)) = true from by decide +kernel]
    have x53 : LamX.ExtN K5 N4 := fun u o e no => s6 _ _ (sq2 _ _ (f3 u o (ne_of_none e nb2) (sy _ _ e)))
    exact kont N4 (x05.trans x53) (Same.tabs s6 (Same.tabs sq2 (Same.tabs (fun u o e => f3 u o (ne_of_none e nb2) (sy _ _ e)) t5)))
end
end K71
set_option Elab.async false
set_option linter.all false
set_option maxRecDepth 100000
set_option maxHeartbeats 8000000
namespace K71
open PySem PySem.Spec PyProof.Rows L2 FNX
theorem dUndo {K : PySem.W.Frag} {CG CT CB CU b so pk g nl pl : Addr} {T : List (Addr × Str)} {cl : List EI} {A : List Addr} {Mm : Mo} {i : Nat} {σ : L2.St} {H : Hp} {Q : VK}
    (hTab : LamX.Tabs T H) (bd : BdAt CG CT CB A H b so pk Mm g nl pl []) (nt : NoTb A H) (hσ : σ[i]? = some (some (.ref b))) (tl : ∀ H1, LamX.ExtN H H1 → LamX.Tabs T H1 → wErr3 K Q cl (.ref CU) none H1) :
    LamX.tLam T (TErr3 K cl) (fun E => tMeth CB "undo" (spUndoB CG CT CB CU) [] E (tVar i) tNil) σ H Q := by
  refine ⟨hTab, fun H1 x1 t1 => ?_⟩
  have bd1 := bd.ext nt x1
  obtain ⟨dx, h1⟩ := bd1.obj
  exact ⟨_, hσ, b, dx, _, rfl, h1, rfl, A, b, so, pk, Mm, g, nl, pl, rfl, bd1, tl H1 x1 t1⟩
theorem dTog {K : PySem.W.Frag} {CG CT CB CO b so pk g nl pl : Addr} {T : List (Addr × Str)} {cl : List EI} {A : List Addr} {Mm : Mo} {log : List En} {i : Nat} {ta : TA} {σ : L2.St} {H : Hp} {Q : VK} {v : V}
    (hTab : LamX.Tabs T H) (bd : BdAt CG CT CB A H b so pk Mm g nl pl log) (nt : NoTb A H) (hσ : σ[i]? = some (some (.ref b))) (hta : ∀ (H1 : Hp) (R : List V → Hp → Prop), R [v] H1 → ta σ H1 R)
    (no : ∀ H1, LamX.ExtN H H1 → NoSq K H1 v) (tl : ∀ H1, LamX.ExtN H H1 → LamX.Tabs T H1 → told CO v H1 (wErr3 K Q cl)) :
    LamX.tLam T (TErr3 K cl) (fun E => tMeth CB "together" (spTogB K CG CT CB CO) [] E (tVar i) ta) σ H Q := by
  refine ⟨hTab, fun H1 x1 t1 => ?_⟩
  have bd1 := bd.ext nt x1
  obtain ⟨dx, h1⟩ := bd1.obj
  exact ⟨_, hσ, b, dx, _, rfl, h1, rfl, hta H1 _ ⟨b, v, by rw [List.append_nil], no H1 x1, tl H1 x1 t1⟩⟩
end K71
set_option Elab.async false
set_option linter.all false
set_option maxRecDepth 100000
set_option maxHeartbeats 8000000
namespace K71
open PySem PySem.Spec PyProof.Rows L2 FNX
def EmpK (K : PySem.W.Frag) (e : Addr) : Prop := ∀ H, SqT K H e [] ∧ TyX K H (.ref e) (.type "tuple")
theorem empK_of {K : PySem.W.Frag} {e : Addr} {od : Option Addr} {n : Nat} {sl : Array (Option Value)} (h : K.lookup e = some ⟨.type "tuple", od, .seq #[] n, sl⟩) : EmpK K e := fun H =>
  ⟨.inr ⟨_, #[], n, h, rfl, rfl, Nat.zero_le _, .nil⟩, .kTuple h rfl⟩
def spEdgesE (K : PySem.W.Frag) : Sp := fun vs H Q _ => ∃ (n : Nat) (e : Addr), vs = [.int (n : Int), .ref e] ∧ EmpK K e ∧ ∀ q H', H q = none → Same H H' → H' q = some (.lst []) → Q (.ref q) H'
def spGIE (K : PySem.W.Frag) (CG : Addr) : Sp := fun vs H Q _ => ∃ (x dx e : Addr) (n : Nat), vs = [.ref x, .int (n : Int), .ref e] ∧ H x = some (.ins CG dx []) ∧ EmpK K e ∧ 1 ≤ n ∧ n ≤ 16 ∧
  ∀ H' j nr N, (∀ b o, b ≠ x → H b = some o → H' b = some o) → H' x = some (.ins CG dx (gflds (n : Int) j nr)) → EdgesAt H' j [] → NAt H' nr N → IsNear n [] N → H j = none → (∀ H2, (∀ b o, H b = none → H' b = some o → H2 b = some o) → NAt H2 nr N) → Q .non H'
section
variable {P : Program} {w : World} {K : PySem.W.Frag} {mg : Str → Option Value} {base : Heap} {CG CS CM CE : Addr}
theorem ok_checkedE {f : Addr} {fd : FuncData} (F : Fun K "checked_edges" "checked_edges" s_checked_edges f fd) (M : Nms mg) : FnOk P w K mg base (L2.CX P w) 5 f fd ["size", "edges"] (spEdgesE K) := by
  refine F.okX sc_checked_edges (fun vs H Q E h => ?_) (fun cdv A outer s H vs Q E hr h => ?_)
  · obtain ⟨n, v, rfl, _⟩ := h
    rfl
  · obtain ⟨n, p, rfl, he, k⟩ := h
    refine ⟨_, pss_cons (ps_if (pt_not (pt_val (pe_callB call_isiT (by rfl) M.isi boot_isi (pa_cons (pv 1) (pa_cons (pe_tup (pa_cons (pe_bltn (v := V.ty "list") rfl M.list (by decide +kernel) rfl)
          (pa_cons (pe_bltn (v := V.ty "tuple") rfl M.tuple (by decide +kernel) rfl) pa_nil))) pa_nil))))) (pss_one ps_never) pss_nil)
      (pss_cons (ps_set (i := 2) sc_checked_edges.nd rfl (Or.inl rfl) (pe_lst pa_nil))
      (pss_cons (ps_for PassesOwn.leaving rfl (pi_tup (pv 1)) (pg_name (i := 3) sc_checked_edges.nd rfl (Or.inl rfl)) pss_never)
      (pss_one (ps_ret (pe_callB (show CallR _ (.builtin "sorted") (rSortedPO K) from cr_sortedPO) (by rfl) M.sorted boot_sorted1 (pa_cons (pv 2) pa_nil)))))), ?_⟩
    refine ⟨_, rfl, by show 2 ≤ sizeLine; decide, fun tp ntp => ⟨.ref p, tp, _, _, _, _, rfl, upd_same, .cons (.ty _) (.cons (.ty _) .nil), (he _).2, kitTT K, _, rfl, iteF ?_⟩⟩
    refine ⟨by show 0 ≤ sizeLine; decide, fun fo nfo => ?_⟩
    have s0 := (same_upd ntp (o := .tup [V.ty "list", V.ty "tuple"])).trans (same_upd nfo (o := .lst []))
    refine ⟨_, rfl, p, rfl, ⟨_, (he _).1⟩, for_tup (K := K) (a := p) (xs := []) (fun i σ H' => σ = [some (.int n), some (.ref p), some (.ref fo), none, none] ∧ H' = upd (upd H tp (.tup [V.ty "list", V.ty "tuple"])) fo (.lst [])) ⟨rfl, rfl⟩ (fun i σ H' _ h => (he _).1) (fun i y σ H' hi h => ?_) (fun σ H' h => ?_)⟩
    · cases hi
    · obtain ⟨rfl, rfl⟩ := h
      refine ⟨_, rfl, fo, [], keyE H, rfl, SqL.of upd_same, fun y hy => (by cases hy), fun ys q hsrt hstb nq => ?_⟩
      have e : ys = [] := List.length_eq_zero_iff.mp hstb.perm.length_eq
      subst e
      exact k q _ (s0.free nq) (s0.trans (same_upd nq)) upd_same
theorem ok_giE {f : Addr} {fd : FuncData} {dvs : List V} {kws : List (Str × V)} (F : FunD K "__init__" "Graph.__init__" (defArgs s_Graph_init) (defBody s_Graph_init) (defScope s_Graph_init) dvs kws f fd) (T : GTxt K mg CG) (M : Nms mg)
    {t16 t40 : Tok} (m16 : mg "MOST_NODES" = some (.int 16 t16)) (m40 : mg "MOST_EDGES" = some (.int 40 t40))
    (GW : At P w K mg base CX0 2 "is_integer_within" ["thing", "low", "high"] (spWithin K)) (GE' : At P w K mg base (L2.CX P w) 5 "checked_edges" ["size", "edges"] (spEdgesE K)) (GN : At P w K mg base CX0 1 "neighbour_lists" ["size", "edges"] (spNear K)) :
    FnOk P w K mg base (L2.CX P w) 6 f fd ["self", "size", "edges"] (spGIE K CG) := by
  obtain ⟨gw, gwd, GW, mW, kW, bW⟩ := GW
  obtain ⟨ge, ged, GE', mE, kE, bE⟩ := GE'
  obtain ⟨gn, gnd, GN, mN, kN, bN⟩ := GN
  refine F.ok sc_ginit (fun vs H Q E h => ?_) (fun cdv A outer s H vs Q E hr h => ?_)
  · obtain ⟨x, dx, e, n, rfl, _⟩ := h
    rfl
  · obtain ⟨x, dx, e, n, rfl, hx, he, n1, n16, k⟩ := h
    have hr2 : Room 2 _ := hr.mono (by decide)
    have hr1 : Room 1 _ := hr.mono (by decide)
    refine ⟨_, pss_cons (ps_if (pt_not (pt_val (pe_call GW hr2 (by rfl) mW kW bW .nil pass0 (pa_cons (pv 1) (pa_cons pe_int (pa_cons (pe_glob (v := .int 16) (by rfl) m16 ⟨_, rfl⟩) pa_nil)))))) (pss_one ps_never) pss_nil)
      (pss_cons (ps_set (i := 3) sc_ginit.nd rfl (Or.inl rfl) (pe_call GE' hr (by rfl) mE kE bE .nil (passes_call (E := E) (takes_of rfl rfl rfl rfl) (fun _ _ _ _ h => h)) (pa_cons (pv 1) (pa_cons (pv 2) pa_nil))))
      (pss_cons (ps_if (pt_cmpR op_gt (pe_callB call_len_seq (by rfl) M.len boot_len1 (pa_cons (pv 3) pa_nil)) (pe_glob (v := .int 40) (by rfl) m40 ⟨_, rfl⟩) (nomark _)) (pss_one ps_never) pss_nil)
      (pss_cons (ps_fld (pv 0) (pv 1) rfl)
      (pss_cons (ps_fld (pv 0) (pv 3) rfl)
      (pss_one (ps_fld (pv 0) (pe_call GN hr1 (by rfl) mN kN bN .nil pass0 (pa_cons (pv 1) (pa_cons (pv 3) pa_nil))) rfl)))))), ?_⟩
    refine ⟨_, rfl, .int n, .int n, 1, 16, rfl, .dat (.int n), _, rfl, ?_⟩
    have hw : within 1 16 (.int (n : Int)) = true := by
      show (decide ((1 : Int) ≤ n) && decide ((n : Int) ≤ 16)) = true
      rw [decide_eq_true (by omega), decide_eq_true (by omega)]
      rfl
    rw [hw]
    refine iteF ?_
    refine ⟨_, rfl, _, rfl, n, e, rfl, he, fun q H1 nq s1 hq => ?_⟩
    refine ⟨_, rfl, q, _, rfl, .inl (SqL.of hq), _, _, rfl, rfl, _, rfl, ?_⟩
    refine iteF ?_
    have nxq : q ≠ x := (ne_of_none hx nq).symm
    refine ⟨_, rfl, _, rfl, x, CG, dx, _, rfl, s1 _ _ hx, T.cl, T.n1, by decide, ?_⟩
    refine ⟨_, rfl, _, rfl, x, CG, dx, _, rfl, upd_same, T.cl, T.n2, (by show 1 < 1000; decide), ?_⟩
    have hx1 := s1 _ _ hx
    have good : GoodE n [] := ⟨fun e he => (by cases he), List.nodup_nil, by decide⟩
    have t0 : ∀ G : Hp, TupsAt G [] [] := fun G => ⟨rfl, fun k t e => by simp at e⟩
    refine ⟨_, rfl, _, rfl, n, q, [], rfl, ⟨[], by rw [upd_ne nxq, upd_ne nxq]; exact hq, t0 _⟩, good, by omega, fun r H2 N nr s2 hN near => ?_⟩
    have hx2 := s2 _ _ (upd_same (H := upd H1 x (.ins CG dx (putF "node_count" (.int n) []))) (a := x) (o := .ins CG dx (putF "joined" (.ref q) (putF "node_count" (.int n) []))))
    refine ⟨_, rfl, x, CG, dx, _, rfl, hx2, T.cl, T.n3, (by show 2 < 1000; decide), ?_⟩
    have up : ∀ b o, b ≠ x → H1 b = some o → H2 b = some o := fun b o hb e => s2 _ _ (by rw [upd_ne hb, upd_ne hb]; exact e)
    refine k _ q r N (fun b o hb e => ?_) ?_ ⟨[], ?_, t0 _⟩ ?_ near nq (fun H3 h3 => ?_)
    · rw [upd_ne hb]
      exact up b o hb (s1 _ _ e)
    · rw [upd_same]
      rfl
    · rw [upd_ne nxq]
      exact up q _ nxq hq
    · refine hN _ fun b o hb e => ?_
      have bx : b ≠ x := fun z => by
        rw [z, upd_same] at hb
        cases hb
      rw [upd_ne bx]
      exact e
    · refine hN _ fun b o hb e => ?_
      have bx : b ≠ x := fun z => by
        rw [z, upd_same] at hb
        cases hb
      rw [upd_ne bx, upd_ne bx] at hb
      exact h3 b o (s1.free hb) (by rw [upd_ne bx]; exact e)
end
end K71
set_option Elab.async false
set_option linter.all false
set_option maxRecDepth 100000
set_option maxHeartbeats 8000000
namespace K71
open PySem PySem.Spec PyProof.Rows L2 FNX
def PairsTo (H' : Hp) (Z : Addr) (es : List (Int × Int)) (F : Int × Int → Int × Int) (i : Nat) (H2 : Hp) : Prop := Same H' H2 ∧ ∃ us : List Addr, H2 Z = some (.lst (us.map V.ref)) ∧ TupsAt H2 us ((es.take i).map F)
theorem pairsZero {H' : Hp} {Z : Addr} {es : List (Int × Int)} {F : Int × Int → Int × Int} (nZ : H' Z = none) : PairsTo H' Z es F 0 (upd H' Z (.lst [])) := ⟨same_upd nZ, [], upd_same, ⟨rfl, fun k t e => by simp at e⟩⟩
theorem pairsStep {H' H2 : Hp} {Z T : Addr} {es : List (Int × Int)} {F : Int × Int → Int × Int} {i : Nat} {e : Int × Int} (nZ : H' Z = none) (h : PairsTo H' Z es F i H2) (hei : es[i]? = some e) (l : es.length ≤ 1000) (nT : H2 T = none) :
    ∃ xs, (upd H2 T (.tup [V.int (F e).1, V.int (F e).2])) Z = some (.lst xs) ∧ xs.length < sizeLine ∧ PairsTo H' Z es F (i + 1) (upd (upd H2 T (.tup [V.int (F e).1, V.int (F e).2])) Z (.lst (xs ++ [V.ref T]))) := by
  obtain ⟨sm, us, f1, f2⟩ := h
  have s3 := same_upd nT (o := .tup [V.int (F e).1, V.int (F e).2])
  have lus : us.length ≤ 1000 := by
    rw [f2.1, List.length_map, List.length_take]
    omega
  have tp := (f2.same s3).push (t := T) (e := F e) upd_same
  refine ⟨_, s3 _ _ f1, by rw [List.length_map, sizeLine_eq]; omega, fun b o z => ?_, us ++ [T], by rw [upd_same, List.map_append]; rfl, ?_⟩
  · rw [upd_ne (ne_of_none z nZ)]
    exact s3 _ _ (sm _ _ z)
  · rw [takeMore hei, List.map_append]
    refine ⟨tp.1, fun k t hk => ?_⟩
    obtain ⟨z, z1, z2⟩ := tp.2 k t hk
    exact ⟨z, z1, by rw [upd_ne (ne_of z2 (s3 _ _ f1) (by intro y; cases y))]; exact z2⟩
theorem cutRef (ts : List Addr) (k : Nat) (h : k ≤ ts.length) : cutV (ts.map V.ref) none (some (k : Int)) = (ts.take k).map V.ref := by
  unfold cutV
  rw [HT.sIx_none, List.drop_zero, Nat.sub_zero, HT.sIx_nat, List.length_map, Nat.min_eq_left h, List.map_take]
theorem TupsAt.take {H : Hp} {ts : List Addr} {es : List (Int × Int)} (h : TupsAt H ts es) (k : Nat) : TupsAt H (ts.take k) (es.take k) := ⟨by rw [List.length_take, List.length_take, h.1], fun i t e => by
  have hi : i < k := by
    have := (List.getElem?_eq_some_iff.mp e).1
    rw [List.length_take] at this
    omega
  rw [List.getElem?_take, if_pos hi] at e
  obtain ⟨z, z1, z2⟩ := h.2 i t e
  exact ⟨z, by rw [List.getElem?_take, if_pos hi]; exact z1, z2⟩⟩
theorem GoodU.take {n : Nat} {es : List (Int × Int)} (h : GoodU n es) (k : Nat) : GoodU n (es.take k) := ⟨fun e he => h.node e (List.mem_of_mem_take he), by
  rw [List.map_take]
  exact h.once.sublist (List.take_sublist _ _), by
  have := h.few
  rw [List.length_take]
  omega⟩
def denseE (j : Nat) : List (Int × Int) := (List.range j).flatMap fun a : Nat => (List.range a).map fun b : Nat => ((a : Int), (b : Int))
theorem denseSucc (j : Nat) : denseE (j + 1) = denseE j ++ (List.range j).map fun b : Nat => ((j : Int), (b : Int)) := by
  unfold denseE
  rw [List.range_succ, List.flatMap_append]
  simp
theorem denseLe10 : ∀ j, j ≤ 10 → (denseE j).length ≤ 45 := by decide +kernel
theorem denseGood10 : GoodU 10 (denseE 10) := ⟨by decide +kernel, by decide +kernel, by decide +kernel⟩
theorem dense10 : (denseE 10).length = 45 := by decide +kernel
theorem dense40 : ((denseE 10).take 40).length = 40 := by rw [List.length_take, dense10]; decide
theorem dense40no : (5, 9) ∉ ((denseE 10).take 40).map ordP := by decide +kernel
theorem dense40yes : (0, 1) ∈ ((denseE 10).take 40).map ordP := by decide +kernel
theorem dense41 : (denseE 10)[41]? = some ((9 : Int), (5 : Int)) := by decide +kernel
/-- a door on a method that fails by itself, its arguments read in the heap of the call -/
theorem dCarryX {K : PySem.W.Frag} {CG CT CB CPl CNg CE CM b so pk g nl pl : Addr} {T : List (Addr × Str)} {cl : List EI} {A : List Addr} {Mm : Mo} {log : List En} {m : Str} {i : Nat} {ta : TA} {σ : L2.St} {H : Hp} {Q : VK} {kind : Op → Bool} {op : Op} {er : Er}
    (hTab : LamX.Tabs T H) (bd : BdAt CG CT CB A H b so pk Mm g nl pl log) (nt : NoTb A H) (hl : log.length < 1000) (hσ : σ[i]? = some (some (.ref b))) (hm : (bflds so pk).lookup m = none) (hta : ∀ (H1 : Hp), LamX.ExtN H H1 → ∀ (R : List V → Hp → Prop), R (opV op).tail H1 → ta σ H1 R)
    (hk : kind op = true) (ok : okOp Mm op) (he : stepM Mm op = .error er) (tl : ∀ H1, LamX.ExtN H H1 → LamX.Tabs T H1 → toldEr CPl CNg CE CM er H1 (wErr3 K Q cl)) :
    LamX.tLam T (TErr3 K cl) (fun E => tMeth CB m (spCarry CG CT CB CPl CNg CE CM kind byArgs) [] E (tVar i) ta) σ H Q := by
  refine ⟨hTab, fun H1 x1 t1 => ?_⟩
  have bd1 := bd.ext nt x1
  obtain ⟨dx, h1⟩ := bd1.obj
  refine ⟨_, hσ, b, dx, _, rfl, h1, hm, hta H1 x1 _ ?_⟩
  refine ⟨A, b, so, pk, Mm, g, nl, pl, log, op, hk, by show V.ref b :: ((opV op).tail ++ []) = V.ref b :: (opV op).tail; rw [List.append_nil], bd1, hl, ok, ?_⟩
  rw [he]
  exact tl H1 x1 t1
theorem bdTb {CG CT CB : Addr} {H : Hp} {b so pk : Addr} {M : Mo} {g nl pl : Addr} {log : List En} (bd : BdAt CG CT CB [so, nl, pl, pk, b] H b so pk M g nl pl log) : NoTb [so, nl, pl, pk, b] H := fun a ha => by
  obtain ⟨⟨dx, h1⟩, ⟨⟨dxs, o1⟩, o2, o3, o4, _⟩, ⟨es, h3, h4⟩, _⟩ := bd
  simp only [List.mem_cons, List.not_mem_nil, or_false] at ha
  rcases ha with rfl | rfl | rfl | rfl | rfl
  · exact ⟨_, o1, fun _ z => by cases z⟩
  · exact ⟨_, o3, fun _ z => by cases z⟩
  · exact ⟨_, o4, fun _ z => by cases z⟩
  · exact ⟨_, h3, fun _ z => by cases z⟩
  · exact ⟨_, h1, fun _ z => by cases z⟩
def spBounds71 (K : PySem.W.Frag) (Pm Pn Po Pb Pl : Addr) : Sp := fun vs H Q _ => vs = [] ∧ LamX.Tabs (lam5 Pm Pn Po Pb Pl) H ∧ ∀ H', LamX.ExtN H H' → LamX.Tabs (lam5 Pm Pn Po Pb Pl) H' → Q (.bl true) H'
section
variable {P : Program} {w : World} {K : PySem.W.Frag} {mg : Str → Option Value} {base : Heap} {CG CT CB CP CPs CN CNu CE CL CO CPl CM CU CNg CS : Addr}
theorem sc_bounds : FnScope ["_law_full", "_law_pairs", "_law_one", "_law_dense", "_law_two"] [] (defScope s__law_bounds_right) := ⟨rfl, rfl, rfl, by decide +kernel, rfl, by decide +kernel, by decide +kernel⟩
theorem ok_bounds {f fE c Pm Pn Po Pb Pl fBI fI eT : Addr} {fd fdE fdBI fdI : FuncData} {t1 : Tok} (F : FunC K "_law_bounds_right" "_law_bounds_right" s__law_bounds_right f fd c) (M : Nms mg) (T : GTxt K mg CG) (B : BTxt K mg CB) (hne : Ne5 Pm Pn Po Pb Pl) (TBb : LamX.TabB base mg c Pb)
    (FE : Fun K "_law_error" "_law_error" s__law_error fE fdE) (mE : mg "_law_error" = some (.ref fE)) (bE : L2.Binds K fdE ["_law_door"] [])
    (D : Ex10 P w K mg base CP CPs CN CNu CE CL CO CPl CM CU) (XE : Exm10 K CP CPs CN CNu CE CL CO CPl CM CU)
    (GAn : MAt P w K mg base CB (L2.CX P w) 11 "add_node" ["self", "number"] (spCarry CG CT CB CPl CNg CE CM isAdd byArgs)) (GAe : MAt P w K mg base CB (L2.CX P w) 11 "add_edge" ["self", "one", "two"] (spCarry CG CT CB CPl CNg CE CM isJoin byArgs))
    (GLg : MAt P w K mg base CB CX0 2 "log" ["self"] (spBoardLog CG CT CB)) (MKB : Mk K CB fBI) (GBI : FnOk P w K mg base (L2.CX P w) 6 fBI fdBI ["self", "graph", "position", "players"] (spBInit K CG CT CB))
    (bBD : L2.Binds K fdBI ["self", "graph", "position", "players"] [.int 1 t1]) (MK : Mk K CG fI) (GI : FnOk P w K mg base (L2.CX P w) 6 fI fdI ["self", "size", "edges"] (spGI01 K CG CS CM CE)) (bI : L2.Binds K fdI ["self", "size", "edges"] [])
    (GIE : FnOk P w K mg base (L2.CX P w) 6 fI fdI ["self", "size", "edges"] (spGIE K CG)) (bIE : L2.Binds K fdI ["self", "size", "edges"] [.ref eT]) (hE : EmpK K eT) :
    GOk P w K mg base 14 f fd [] (spBounds71 K Pm Pn Po Pb Pl) := by
  obtain ⟨fAn, fdAn, GAn, mAn, bAn⟩ := GAn
  obtain ⟨fAe, fdAe, GAe, mAe, bAe⟩ := GAe
  obtain ⟨fLg, fdLg, GLg, mLg, bLg⟩ := GLg
  refine okGC F sc_bounds (fun vs H Q E h => ?_) (fun A0 outer s H vs Q E hgd hr14 h => ?_)
  · obtain ⟨rfl, _⟩ := h
    rfl
  · obtain ⟨rfl, hTab, kont⟩ := h
    have nd := sc_bounds.nd
    have hr := hr14
    have hr2 : Room 2 _ := hr.mono (by decide)
    have hu64 : A0.units + 3 + 64 < cLine := hr.units
    refine ⟨_, (pss_cons (ps_set (i := 0) nd rfl (Or.inr rfl) (pe_make MKB GBI (hr.mono (by decide)) (by rfl) B.mgC bBD (show Vals [V.int 1] [.int 1 t1] from .cons ⟨_, rfl⟩ .nil) passL (pa_cons (pe_make MK GIE (hr.mono (by decide)) (by rfl) T.mgC bIE (show Vals [V.ref eT] [.ref eT] from .cons rfl .nil) passL (pa_cons pe_int pa_nil)) (pa_cons (pe_op op_rep (pe_lst (pa_cons pe_int pa_nil)) pe_int) pa_nil))))
      (pss_cons (ps_set (i := 1) nd rfl (Or.inr rfl) (pe_lst pa_nil))
      (pss_cons (ps_for PassesOwn.never rfl (pi_range1 rfl M.range (pa_cons pe_int pa_nil)) (pg_name (i := 2) nd rfl (Or.inr rfl)) (pss_one (ps_set (i := 1) nd rfl (Or.inr rfl) (pe_op op_cat (pv 1) (pe_lc (own := [("_law_two", 4)]) (g := gName 4) (tt := tYes) rfl nd (pi_range1 rfl M.range (pa_cons (pv 2) pa_nil)) (blkOk_by (own := [("_law_two", 4)]) (N := ["_law_full", "_law_pairs", "_law_one", "_law_dense", "_law_two"]) (sc := defScope s__law_bounds_right) (by decide +kernel)) (fun _ _ _ _ _ => pg_name (i := 4) nd rfl (Or.inl rfl)) (fun _ _ _ _ _ => pts_nil) (fun _ _ _ _ _ => (pe_tup (pa_cons (pv 2) (pa_cons (pv 4) pa_nil)))))))))
      (pss_cons (ps_set (i := 3) nd rfl (Or.inr rfl) (pe_make MKB GBI (hr.mono (by decide)) (by rfl) B.mgC bBD (show Vals [V.int 1] [.int 1 t1] from .cons ⟨_, rfl⟩ .nil) passL (pa_cons (pe_make MK GI (hr.mono (by decide)) (by rfl) T.mgC bI .nil passL (pa_cons pe_int (pa_cons (pe_slice sl_list (pv 1) po_none (po_some pe_int)) pa_nil))) (pa_cons (pe_op op_rep (pe_lst (pa_cons pe_int pa_nil)) pe_int) pa_nil))))
      (pss_cons (ps_if (pt_cmpR (show OpR _ (compareOp .NotEq) (rNeD K) from op_neD hu64) (pe_doorN (x := "_law_error") (T := lam5 Pm Pn Po Pb Pl) (TT := TErr3 K (clE CP CPs CN CNu CE CL CO CPl CM CU)) (by rfl) mE FE bE sc_error (Or.inl rfl) (fun cdg => err_gives hgd hr2 M.repr D.e0 D.e1 D.e2 D.e3 D.e4 D.e5 D.e6 D.e7 D.e8 D.e9) TBb rfl (List.mem_cons_of_mem _ (List.mem_cons_of_mem _ (List.mem_cons_of_mem _ List.mem_cons_self)))
              (lam5b hne) hr (show LamX.LamS (defScope s__law_bounds_right) _ from LamX.lamS_by (by decide +kernel)) rfl (fun _ _ _ _ _ => rfl)
              (fun A outer s H E f c' hr => pe_meth (pv 0) B.cl mAn GAn (hr.mono (by decide)) bAn .nil (passes_call (E := E) (takes_of rfl rfl rfl rfl) (fun _ _ _ _ h => h)) (pa_cons pe_int pa_nil))) (pe_lst (pa_cons pe_str (pa_cons pe_str pa_nil))) (nomark _)) (pss_one (ps_ret pe_bl)) pss_nil)
      (pss_cons (ps_if (pt_cmpR (show OpR _ (compareOp .NotEq) (rNeD K) from op_neD hu64) (pe_doorN (x := "_law_error") (T := lam5 Pm Pn Po Pb Pl) (TT := TErr3 K (clE CP CPs CN CNu CE CL CO CPl CM CU)) (by rfl) mE FE bE sc_error (Or.inl rfl) (fun cdg => err_gives hgd hr2 M.repr D.e0 D.e1 D.e2 D.e3 D.e4 D.e5 D.e6 D.e7 D.e8 D.e9) TBb rfl (List.mem_cons_of_mem _ (List.mem_cons_of_mem _ (List.mem_cons_of_mem _ List.mem_cons_self)))
              (lam5b hne) hr (show LamX.LamS (defScope s__law_bounds_right) _ from LamX.lamS_by (by decide +kernel)) rfl (fun _ _ _ _ _ => rfl)
              (fun A outer s H E f c' hr => pe_meth (pv 3) B.cl mAe GAe (hr.mono (by decide)) bAe .nil (passes_call (E := E) (takes_of rfl rfl rfl rfl) (fun _ _ _ _ h => h)) (pa_cons (pe_ix (r := rIxT K) ix_tup (pe_ix (r := rIxL K) ix_list (pv 1) pe_int (fun _ _ => rfl)) pe_int (fun _ _ => rfl)) (pa_cons (pe_ix (r := rIxT K) ix_tup (pe_ix (r := rIxL K) ix_list (pv 1) pe_int (fun _ _ => rfl)) pe_int (fun _ _ => rfl)) pa_nil)))) (pe_lst (pa_cons pe_str (pa_cons pe_str pa_nil))) (nomark _)) (pss_one (ps_ret pe_bl)) pss_nil)
      (pss_cons (ps_if (pt_cmpR (show OpR _ (compareOp .NotEq) (rNeD K) from op_neD hu64) (pe_doorN (x := "_law_error") (T := lam5 Pm Pn Po Pb Pl) (TT := TErr3 K (clE CP CPs CN CNu CE CL CO CPl CM CU)) (by rfl) mE FE bE sc_error (Or.inl rfl) (fun cdg => err_gives hgd hr2 M.repr D.e0 D.e1 D.e2 D.e3 D.e4 D.e5 D.e6 D.e7 D.e8 D.e9) TBb rfl (List.mem_cons_of_mem _ (List.mem_cons_of_mem _ (List.mem_cons_of_mem _ List.mem_cons_self)))
              (lam5b hne) hr (show LamX.LamS (defScope s__law_bounds_right) _ from LamX.lamS_by (by decide +kernel)) rfl (fun _ _ _ _ _ => rfl)
              (fun A outer s H E f c' hr => pe_meth (pv 3) B.cl mAe GAe (hr.mono (by decide)) bAe .nil (passes_call (E := E) (takes_of rfl rfl rfl rfl) (fun _ _ _ _ h => h)) (pa_cons pe_int (pa_cons pe_int pa_nil)))) (pe_lst (pa_cons pe_str (pa_cons pe_str pa_nil))) (nomark _)) (pss_one (ps_ret pe_bl)) pss_nil)
      (pss_one (ps_ret (pe_and (pe_cmpR (show OpR _ (compareOp .Eq) (rEqD K) from op_eqD hu64) (pe_meth0 (pv 0) B.cl mLg GLg (hr.mono (by decide)) bLg .nil pass0) (pe_lst pa_nil) (nomark _)) (pe_one (pe_cmpR (show OpR _ (compareOp .Eq) (rEqD K) from op_eqD hu64) (pe_meth0 (pv 3) B.cl mLg GLg (hr.mono (by decide)) bLg .nil pass0) (pe_lst pa_nil) (nomark _))))))))))))), ?_⟩
    intro g dx nx ndx ne
    have good0 : GoodU 16 [] := ⟨fun e he => (by cases he), List.nodup_nil, by decide⟩
    refine ⟨g, dx, eT, 16, rfl, upd_same, hE, by decide, by decide, fun H1 j nr N up hx hj hN near nj nn => ⟨rfl, ?_⟩⟩
    obtain ⟨s01, hG⟩ := made (es := []) (es' := []) nx ndx ne good0 (by decide) (by decide) (by decide) up hx hj hN near List.Perm.nil List.Pairwise.nil
    clear up hx hj hN near nj nn nx ndx ne
    refine ⟨by show 1 ≤ sizeLine; decide, fun z nz => ?_⟩
    obtain ⟨H2, q2, s2, hz⟩ := newAt (.lst [V.int 0]) nz
    rw [q2]
    refine ⟨z, (16 : Int), _, rfl, rfl, hz, by decide, by decide, by rw [sizeLine_eq]; show 1 * 16 ≤ _; decide, fun r nr => ?_⟩
    obtain ⟨H3, q3, s3, hr3⟩ := newAt (.lst ((List.replicate 16 (0 : Int)).map V.int)) nr
    rw [show (List.replicate (Int.toNat 16) [V.int 0]).flatten = (List.replicate 16 (0 : Int)).map V.int from rfl, q3]
    intro b dx1 nb ndx1 ne1
    have sx1 := preS (CG := CB) nb ndx1 ne1
    obtain ⟨H4, q4⟩ : ∃ z, upd (upd H3 dx1 (.own b)) b (.ins CB dx1 []) = z := ⟨_, rfl⟩
    have hb4 : H4 b = some (.ins CB dx1 []) := by rw [← q4, upd_same]
    rw [q4] at sx1 ⊢
    have s03 := s01.trans (s2.trans s3)
    have g0 : Stb [] H3 (fun H' => GE CG H' g 16 []) := fun H' f => (hG.same (s2.trans s3)).same (fun u o e => f u o (by simp) e)
    refine ⟨[b], b, dx1, g, r, 16, [], List.replicate 16 0, 1, rfl, hb4, by simp, (fun z hz => by rw [List.mem_singleton.mp hz]; exact ⟨_, hb4, fun _ z => by cases z⟩), Stb.new (L := [b]) g0 (sameFr sx1) (fun z hz => by rw [List.mem_singleton.mp hz]; exact nb), SqL.of (sx1 _ _ hr3), rfl, by decide, by decide, fun so nl pl pk H5 f5 nso nnl npl npk bd => ⟨rfl, ?_⟩⟩
    have s35 : Same H3 H5 := fun u o e => f5 u o (ne_of_none e nb) (sx1 _ _ e)
    have s05 := s03.trans s35
    have nt := bdTb bd
    clear q4 sx1 f5 nso nnl npl npk hb4 nb ndx1 ne1 q3 hr3 nr q2 hz nz g0 hG
    refine ⟨by show 0 ≤ sizeLine; decide, fun d0 nd0 => ?_⟩
    obtain ⟨J0, w0, j0, u0⟩ := newAt (.lst []) nd0
    rw [w0]
    refine ⟨10, rfl, by decide, by decide, for_range (lo := 0) (fun j σ H' => ∃ (D : Addr) (o1 : Option V), σ = [some (.ref b), some (.ref D), o1, none, none] ∧ Same H5 H' ∧ EdgesAt H' D (denseE j))
      ⟨d0, none, rfl, j0, ⟨[], u0, rfl, fun k t e => by simp at e⟩⟩ ?_ ?_⟩
    · rintro j σ H' hj ⟨D, o1, rfl, sm, hD⟩
      have hj8 : j < 10 := hj
      obtain ⟨td, d1, d2⟩ := id hD
      rw [Int.zero_add]
      refine ⟨_, rfl, _, rfl, (j : Int), rfl, by omega, by omega, fun Z nZ => ?_⟩
      refine lc_range (lo := 0) (n := j) (PairsTo H' Z ((List.range j).map fun b : Nat => ((j : Int), (b : Int))) id) (pairsZero nZ) (fun k H4 hk hP => ?_) (fun H4 hP => ?_)
      · rw [Int.zero_add]
        have hk' : k < j := by omega
        refine ⟨rfl, ?_⟩
        refine ⟨_, rfl, _, rfl, by show 2 ≤ sizeLine; decide, fun T nT => ?_⟩
        exact pairsStep (e := ((j : Int), (k : Int))) nZ hP (by rw [List.getElem?_map, List.getElem?_range hk']; rfl) (by rw [List.length_map, List.length_range]; omega) nT
      obtain ⟨s4, us, f1, f2⟩ := hP
      rw [List.take_of_length_le (by rw [List.length_map, List.length_range]; omega), List.map_id] at f2
      have lus : us.length = j := by rw [f2.1, List.length_map, List.length_range]
      have ltd : td.length ≤ 45 := by rw [d2.1]; exact denseLe10 j (by omega)
      refine ⟨D, Z, _, _, rfl, rfl, s4 _ _ d1, f1, by rw [List.length_map, List.length_map, sizeLine_eq]; omega, fun R nR => ?_⟩
      have sR := same_upd nR (o := .lst (td.map V.ref ++ us.map V.ref))
      have hR := edApp (p := R) ((d2.same s4).same sR) (f2.same sR) (by rw [upd_same, List.map_append])
      exact ⟨R, some (.int (j : Int)), rfl, sm.trans (s4.trans sR), by rw [denseSucc]; exact hR⟩
    rintro σ G0 ⟨D, o1, rfl, s50, hD⟩
    have hD : EdgesAt G0 D (denseE 10) := hD
    obtain ⟨td, d1, d2⟩ := id hD
    have ltd : td.length = 45 := by rw [d2.1]; exact dense10
    clear w0 j0 u0 nd0
    refine ⟨_, rfl, (40 : Int), rfl, D, _, rfl, SqL.of d1, fun C nC => ?_⟩
    rw [show cutV (td.map V.ref) none (some (40 : Int)) = (td.take 40).map V.ref from cutRef td 40 (by omega)]
    obtain ⟨G1, q1, s1, hC⟩ := newAt (.lst ((td.take 40).map V.ref)) nC
    rw [q1]
    have hC : EdgesAt G1 C ((denseE 10).take 40) := ⟨_, hC, (d2.take 40).same s1⟩
    intro g1 dx2 nx2 ndx2 ne2
    have sx2 := preS (CG := CG) nx2 ndx2 ne2
    obtain ⟨tc, c1, c2⟩ := id (hC.same sx2)
    have l40 := dense40
    refine ⟨g1, dx2, .int ((10 : Nat) : Int), .ref C, rfl, upd_same, .inr ⟨10, rfl, by decide, by decide, .inr (.inr ⟨(denseE 10).take 40, ⟨C, tc, rfl, .inl c1, c2, denseGood10.take 40⟩, fun h => by omega, fun _ G2 j2 nr2 N2 es2 up2 hx2 hj2 hN2 near2 pe2 sE2 _ _ => ⟨rfl, ?_⟩⟩)⟩⟩
    obtain ⟨s12, hG1⟩ := made nx2 ndx2 ne2 (denseGood10.take 40) (by decide) (by decide) (by omega) up2 hx2 hj2 hN2 near2 pe2 sE2
    have l2 : es2.length = 40 := by rw [pe2.length_eq, List.length_map, l40]
    have mem59 : edg 9 5 ∉ es2 := fun h => dense40no (pe2.mem_iff.mp h)
    have mem01 : edg 1 0 ∈ es2 := pe2.mem_iff.mpr dense40yes
    clear sx2 c1 c2 up2 hx2 hj2 hN2 near2 nx2 ndx2 ne2 q1 nC hC
    refine ⟨by show 1 ≤ sizeLine; decide, fun z nz => ?_⟩
    obtain ⟨G3, q3, s3, hz⟩ := newAt (.lst [V.int 0]) nz
    rw [q3]
    refine ⟨z, (10 : Int), _, rfl, rfl, hz, by decide, by decide, by rw [sizeLine_eq]; show 1 * 10 ≤ _; decide, fun r nr => ?_⟩
    obtain ⟨G4, q4, s4, hr4⟩ := newAt (.lst ((List.replicate 10 (0 : Int)).map V.int)) nr
    rw [show (List.replicate (Int.toNat 10) [V.int 0]).flatten = (List.replicate 10 (0 : Int)).map V.int from rfl, q4]
    intro b1 dx3 nb ndx3 ne3
    have sx3 := preS (CG := CB) nb ndx3 ne3
    obtain ⟨G5, q5⟩ : ∃ z, upd (upd G4 dx3 (.own b1)) b1 (.ins CB dx3 []) = z := ⟨_, rfl⟩
    have hb5 : G5 b1 = some (.ins CB dx3 []) := by rw [← q5, upd_same]
    rw [q5] at sx3 ⊢
    have g0 : Stb [] G4 (fun H' => GE CG H' g1 10 es2) := fun H' f => (hG1.same (s3.trans s4)).same (fun u o e => f u o (by simp) e)
    refine ⟨[b1], b1, dx3, g1, r, 10, es2, List.replicate 10 0, 1, rfl, hb5, by simp, (fun z hz => by rw [List.mem_singleton.mp hz]; exact ⟨_, hb5, fun _ z => by cases z⟩), Stb.new (L := [b1]) g0 (sameFr sx3) (fun z hz => by rw [List.mem_singleton.mp hz]; exact nb), SqL.of (sx3 _ _ hr4), rfl, by decide, by decide, fun so1 nl1 pl1 pk1 G6 f6 nso nnl npl npk bd1 => ⟨rfl, ?_⟩⟩
    have s46 : Same G4 G6 := fun u o e => f6 u o (ne_of_none e nb) (sx3 _ _ e)
    have s06 : Same G0 G6 := s1.trans (s12.trans (s3.trans (s4.trans s46)))
    have nt1 := bdTb bd1
    have bdG := bd.same (s50.trans s06)
    have ntG := nt.same (s50.trans s06)
    have X6 : LamX.ExtN H G6 := Same.ext (s05.trans (s50.trans s06))
    have tab6 := Same.tabs (s05.trans (s50.trans s06)) hTab
    have d16 := s06 _ _ d1
    have d26 := d2.same s06
    clear sx3 f6 nso nnl npl npk hb5 nb ndx3 ne3 q5 q4 hr4 nr q3 hz nz g0 hG1 bd nt d1 d2 hD s06 s46 s12 s1 s50 s05 s03 s01
    refine dCarry (op := .add 1) (er := .many 17) tab6 bdG ntG (by decide) rfl rfl (fun H1 R r => r) rfl trivial rfl (fun H1 x1 t1 => told8 XE (d := .int 17) (fun _ _ => .dat (.int _)) ⟨by decide +kernel, by decide +kernel, by decide +kernel⟩ (fun H' p sp np => ?_))
    obtain ⟨B0, b0, sb0, hb0⟩ := newAt (.lst [V.str "many", V.str (PyData.int 17).shown]) np
    rw [b0]
    have t17 : (PyData.int 17).shown = "17" := by decide +kernel
    rw [t17] at hb0
    refine ⟨by show 2 ≤ sizeLine; decide, fun q nq => ?_⟩
    obtain ⟨E0, e0, se0, he0⟩ := newAt (.lst [V.str "many", V.str "17"]) nq
    rw [e0]
    refine neKept (by decide +kernel) (by decide +kernel) (se0 _ _ hb0) he0 ⟨_, rfl, iteF ?_⟩
    have Y0 : LamX.ExtN G6 E0 := x1.trans (Same.ext (sp.trans (sb0.trans se0)))
    have tb0 := Same.tabs (sp.trans (sb0.trans se0)) t1
    clear sp np nq t1 x1
    obtain ⟨t41, ht41⟩ : ∃ t, td[41]? = some t := ⟨_, List.getElem?_eq_getElem (by omega)⟩
    obtain ⟨e41, he41, hT41⟩ := d26.2 41 t41 ht41
    obtain rfl : ((9 : Int), (5 : Int)) = e41 := Option.some.inj (dense41.symm.trans he41)
    have i41 : (td.map V.ref)[41]? = some (V.ref t41) := by rw [List.getElem?_map, ht41]; rfl
    refine dCarryX (op := .join 9 5) (er := .many 41) tb0 (bd1.ext nt1 Y0) (nt1.ext Y0) (by decide) rfl rfl (fun H1 x1 R r => ?_) rfl ⟨by show 9 < 10; decide, by show 5 < 10; decide⟩ (by unfold stepM; dsimp only; rw [if_neg (by rintro (h | h); cases h; exact mem59 h), if_pos (by omega)]) (fun H1 x1 t1 => told8 XE (d := .int 41) (fun _ _ => .dat (.int _)) ⟨by decide +kernel, by decide +kernel, by decide +kernel⟩ (fun H' p sp np => ?_))
    · have hD1 := x1 _ _ (Y0 _ _ d16 (fun _ z => by cases z)) (fun _ z => by cases z)
      have hT1 := x1 _ _ (Y0 _ _ hT41 (fun _ z => by cases z)) (fun _ z => by cases z)
      refine ⟨_, rfl, D, _, (41 : Int), _, rfl, rfl, SqL.of hD1, ?_, t41, _, (0 : Int), _, rfl, rfl, SqT.of hT1, atI_nat (j := 0) rfl, ?_⟩
      · exact (atI_nat (j := 41) i41)
      · exact ⟨_, rfl, D, _, (41 : Int), _, rfl, rfl, SqL.of hD1, atI_nat (j := 41) i41, t41, _, (1 : Int), _, rfl, rfl, SqT.of hT1, atI_nat (j := 1) rfl, r⟩
    obtain ⟨B1, b1', sb1, hb1⟩ := newAt (.lst [V.str "many", V.str (PyData.int 41).shown]) np
    rw [b1']
    have t41' : (PyData.int 41).shown = "41" := by decide +kernel
    rw [t41'] at hb1
    refine ⟨by show 2 ≤ sizeLine; decide, fun q nq => ?_⟩
    obtain ⟨E1, e1, se1, he1⟩ := newAt (.lst [V.str "many", V.str "41"]) nq
    rw [e1]
    refine neKept (by decide +kernel) (by decide +kernel) (se1 _ _ hb1) he1 ⟨_, rfl, iteF ?_⟩
    have Y1 : LamX.ExtN G6 E1 := Y0.trans (x1.trans (Same.ext (sp.trans (sb1.trans se1))))
    have tb1 := Same.tabs (sp.trans (sb1.trans se1)) t1
    clear sp np nq t1 x1
    have told_e : ∀ (G : Hp) (i j : Nat) (Q2 : VK), (PyData.tuple [.int (i : Int), .int (j : Int)]).showable = true ∧ (PyData.tuple [.int (i : Int), .int (j : Int)]).depth ≤ 60 ∧ (PyData.tuple [.int (i : Int), .int (j : Int)]).shown.length ≤ sizeLine →
        (∀ H' p, Same G H' → H' p = none → Q2 (.ref p) (upd H' p (.lst [.str "invalid", .str (PyData.tuple [.int (i : Int), .int (j : Int)]).shown]))) → toldEr CPl CNg CE CM (.edge i j) G (wErr3 K Q2 (clE CP CPs CN CNu CE CL CO CPl CM CU)) := fun G i j Q2 sh k =>
      fun t H' s' ht => told4 XE (d := .tuple [.int (i : Int), .int (j : Int)]) (fun H2 s2 => .dat (.tup (SqT.of (s2 _ _ ht)) (.cons (.int _) (.cons (.int _) .nil)))) sh (fun H2 p s2 np => k H2 p (s'.trans s2) np)
    refine dCarry (op := .join 1 0) (er := .edge 1 0) tb1 (bd1.ext nt1 Y1) (nt1.ext Y1) (by decide) rfl rfl (fun H1 R r => r) rfl ⟨by show 1 < 10; decide, by show 0 < 10; decide⟩ (by unfold stepM; dsimp only; rw [if_pos (.inr mem01)]) (fun H1 x1 t1 => told_e H1 1 0 _ ⟨by decide +kernel, by decide +kernel, by decide +kernel⟩ (fun H' p sp np => ?_))
    obtain ⟨B2, b2, sb2, hb2⟩ := newAt (.lst [V.str "invalid", V.str (PyData.tuple [.int ((1 : Nat) : Int), .int ((0 : Nat) : Int)]).shown]) np
    rw [b2]
    have t10 : (PyData.tuple [.int ((1 : Nat) : Int), .int ((0 : Nat) : Int)]).shown = "(1, 0)" := by decide +kernel
    rw [t10] at hb2
    refine ⟨by show 2 ≤ sizeLine; decide, fun q nq => ?_⟩
    obtain ⟨E2, e2, se2, he2⟩ := newAt (.lst [V.str "invalid", V.str "(1, 0)"]) nq
    rw [e2]
    refine neKept (by decide +kernel) (by decide +kernel) (se2 _ _ hb2) he2 ⟨_, rfl, iteF ?_⟩
    have Y2 : LamX.ExtN G6 E2 := Y1.trans (x1.trans (Same.ext (sp.trans (sb2.trans se2))))
    have tb2 := Same.tabs (sp.trans (sb2.trans se2)) t1
    clear sp np nq t1 x1
    have bdA := bdG.ext ntG Y2
    have bdB := bd1.ext nt1 Y2
    obtain ⟨dxA, hA⟩ := bdA.obj
    obtain ⟨dxB, hB⟩ := bdB.obj
    have nil0 : Ones [] [] := rfl
    refine ⟨_, rfl, b, dxA, _, rfl, hA, rfl, _, b, so, pk, _, g, nl, pl, _, [], rfl, bdA, nil0, fun q ts L1 nq sq hq ho => ?_⟩
    obtain rfl : ts = [] := List.length_eq_zero_iff.mp ho.1
    refine ⟨by show 0 ≤ sizeLine; decide, fun r nr => ?_⟩
    obtain ⟨L2, l2', sl2, hl2⟩ := newAt (.lst []) nr
    rw [l2']
    refine ⟨.list [], .list [], .lst (SqL.of (sl2 _ _ hq)) .nil, .lst (SqL.of hl2) .nil, by decide +kernel, by decide +kernel, ?_⟩
    rw [show PyData.eqv (.list []) (.list []) = true from by decide +kernel]
    refine ⟨_, rfl, iteT ?_⟩
    have sA := sq.trans sl2
    refine ⟨_, rfl, b1, dxB, _, rfl, sA _ _ hB, rfl, _, b1, so1, pk1, _, g1, nl1, pl1, _, [], rfl, bdB.same sA, nil0, fun q2 ts2 L3 nq2 sq2 hq2 ho2 => ?_⟩
    obtain rfl : ts2 = [] := List.length_eq_zero_iff.mp ho2.1
    refine ⟨by show 0 ≤ sizeLine; decide, fun r2 nr2 => ?_⟩
    obtain ⟨L4, l4', sl4, hl4⟩ := newAt (.lst []) nr2
    rw [l4']
    refine ⟨.list [], .list [], .lst (SqL.of (sl4 _ _ hq2)) .nil, .lst (SqL.of hl4) .nil, by decide +kernel, by decide +kernel, ?_⟩
    rw [show PyData.eqv (.list []) (.list []) = true from by decide +kernel]
    exact kont L4 (X6.trans (Y2.trans (Same.ext (sA.trans (sq2.trans sl4))))) (Same.tabs (sA.trans (sq2.trans sl4)) tb2)
end
end K71
set_option Elab.async false
set_option linter.all false
set_option maxRecDepth 100000
set_option maxHeartbeats 8000000
namespace K71
open PySem PySem.Spec PyProof.Rows L2 FNX
theorem shapedThree (x : List Int) : SeqAt.shaped (.list [posD x, posD [0, 0], .list []]) = true := by
  unfold SeqAt.shaped
  have h1 : PyData.canLay0 (posD x) = true := layInts x
  have h2 : PyData.depth (posD x) ≤ 1 := by
    show PyData.depthAll (x.map PyData.int) + 1 ≤ 1
    have z := depInts x
    omega
  have e1 : PyData.canLay0 (.list [posD x, posD [0, 0], .list []]) = true := by
    show (PyData.canLay0 (posD x) && PyData.canLayAll0 [posD [0, 0], .list []]) = true
    rw [h1]
    decide +kernel
  have e2 : PyData.depth (.list [posD x, posD [0, 0], .list []]) ≤ 64 := by
    show max (PyData.depth (posD x)) (PyData.depthAll [posD [0, 0], .list []]) + 1 ≤ 64
    have z : PyData.depthAll [posD [0, 0], .list []] ≤ 5 := by decide +kernel
    omega
  rw [e1, decide_eq_true e2]
  rfl
def RGraph (CG : Addr) (a b : Addr) (H : Hp) : Prop := ∃ n es, GE CG H a n es ∧ GE CG H b n es
theorem ok_geq71 {P : Program} {w : World} {K : PySem.W.Frag} {mg : Str → Option Value} {base : Heap} {CG : Addr} {f : Addr} {fd : FuncData} (F : Fun K "__eq__" "Graph.__eq__" s_Graph_eq f fd) (T : GTxt K mg CG) (M : Nms mg) (IC : C8.InsC K CG) : FnOk P w K mg base CX0 1 f fd ["self", "other"] (spEq (RGraph CG)) := by
  have sc : FnScope ["self", "other"] ["self", "other"] (defScope s_Graph_eq) := ⟨rfl, rfl, rfl, by decide +kernel, rfl, by decide +kernel, by decide +kernel⟩
  refine F.ok sc (fun vs H Q E h => ?_) (fun cdv A outer s H vs Q E hr h => ?_)
  · obtain ⟨a, b, rfl, _⟩ := h
    rfl
  · obtain ⟨a, b, rfl, ⟨n, es, ⟨⟨dx, j, nr, N, h1, ⟨ts, h2, h3⟩, _⟩, _, _, _, _⟩, ⟨⟨dx', j', nr', N', h1', ⟨ts', h2', h3'⟩, _⟩, _, _, _, _⟩⟩, k⟩ := h
    have hu64 : A.units + 3 + 64 < cLine := hr.units
    refine ⟨_, pss_one (ps_ret (pe_and (pe_callB (C8.call_isC IC) (by rfl) M.isi boot_isi (pa_cons (pv 1) (pa_cons (pe_glob (v := .ref CG) (by rfl) T.mgC rfl) pa_nil)))
      (pe_and (pe_cmpR op_eq (pe_fld (pv 0) rfl) (pe_fld (pv 1) rfl) (nomark _)) (pe_one (pe_cmpR (op_eqD hu64) (pe_fld (pv 0) rfl) (pe_fld (pv 1) rfl) (nomark _)))))), ?_⟩
    refine ⟨_, rfl, b, dx', _, rfl, h1', _, rfl, iteT ?_⟩
    refine ⟨_, rfl, a, CG, dx, _, _, rfl, h1, T.cl, T.n1, gl_n _ _ _, _, rfl, b, CG, dx', _, _, rfl, h1', T.cl, T.n1, gl_n _ _ _, rfl, _, rfl, ?_⟩
    rw [decide_eq_true rfl]
    refine iteT ?_
    refine ⟨_, rfl, a, CG, dx, _, _, rfl, h1, T.cl, T.n2, gl_j _ _ _, _, rfl, b, CG, dx', _, _, rfl, h1', T.cl, T.n2, gl_j _ _ _, .list (es.map pairD), .list (es.map pairD), .lst (SqL.of h2) (dpTups h3), .lst (SqL.of h2') (dpTups h3'), shapedPairs _, shapedPairs _, ?_⟩
    rw [show PyData.eqv (.list (es.map pairD)) (.list (es.map pairD)) = true from eqvSame (shapedPairs _)]
    exact k H (fun _ _ e => e)
theorem tabs5 {H : Hp} {cm cn co cb cl Pm Pn Po Pb Pl : Addr} (h : ∀ p ∈ [(cl, Pl), (cm, Pm), (cn, Pn), (co, Po), (cb, Pb)], H p.2 = some (.tbl #[])) : LamX.Tabs (lam5 Pm Pn Po Pb Pl) H := fun p hp => by
  simp only [List.mem_cons, List.not_mem_nil, or_false] at hp
  rcases hp with rfl | rfl | rfl | rfl | rfl
  · exact .nil (h (cm, Pm) (by simp))
  · exact .nil (h (cn, Pn) (by simp))
  · exact .nil (h (co, Po) (by simp))
  · exact .nil (h (cb, Pb) (by simp))
  · exact .nil (h (cl, Pl) (by simp))
section
variable {P : Program} {w : World} {K : PySem.W.Frag} {mg : Str → Option Value} {base : Heap} {CG CT CB CP CPs CN CNu CE CL CO CPl CM CU CNg CS : Addr}
theorem sc_law : FnScope ["_law_script", "_law_k", "_law_pool_here", "_law_many", "_law_graph", "_law_here", "_law_board", "_law_bad", "_law_node"] ["_law_script"] (defScope s_law) := ⟨rfl, rfl, rfl, by decide +kernel, rfl, by decide +kernel, by decide +kernel⟩
theorem ok_law {f fE cm cn co cb cl Pm Pn Po Pb Pl fBI fI fQ : Addr} {fd fdE fdBI fdI fdQ : FuncData} (F : FunC K "law" "law" s_law f fd cl) (M : Nms mg) (T : GTxt K mg CG) (B : BTxt K mg CB) (hne : Ne5 Pm Pn Po Pb Pl) (TBl : LamX.TabB base mg cl Pl)
    (FE : Fun K "_law_error" "_law_error" s__law_error fE fdE) (mE : mg "_law_error" = some (.ref fE)) (bE : L2.Binds K fdE ["_law_door"] [])
    (D : Ex10 P w K mg base CP CPs CN CNu CE CL CO CPl CM CU) (XE : Exm10 K CP CPs CN CNu CE CL CO CPl CM CU)
    (GP : At P w K mg base CX0 1 "_law_pool" ["_law_script", "_law_k"] (spPool K)) (GT : At P w K mg base CX0 1 "_law_take" ["_law_pool_here", "_law_sides"] spTake)
    (GBo : AtG P w K mg base 14 "_law_bounds_right" [] (spBounds71 K Pm Pn Po Pb Pl)) (GMa : AtG P w K mg base 14 "_law_made_right" ["_law_graph", "_law_here"] (spMade71 K CG Pm Pn Po Pb Pl))
    (GNo : AtG P w K mg base 14 "_law_nodes_right" ["_law_board", "_law_many"] (spNodes71 K CG CT CB Pm Pn Po Pb Pl)) (GOt : AtG P w K mg base 14 "_law_others_right" ["_law_board", "_law_many"] (spOthers71 K CG CT CB Pm Pn Po Pb Pl))
    (GUn : MAt P w K mg base CB (L2.CX P w) 4 "undo" ["self"] (spUndoB CG CT CB CU)) (GTo : MAt P w K mg base CB (L2.CX P w) 4 "together" ["self", "operations"] (spTogB K CG CT CB CO))
    (GBp : MAt P w K mg base CB CX0 1 "position" ["self"] (spBoardPos CG CT CB)) (GBs : MAt P w K mg base CB CX0 1 "scores" ["self"] (spBoardSco CG CT CB)) (GLg : MAt P w K mg base CB CX0 2 "log" ["self"] (spBoardLog CG CT CB)) (GBg : MAt P w K mg base CB CX0 1 "graph" ["self"] (spBoardGr CG CT CB))
    (GQ : FnOk P w K mg base CX0 1 fQ fdQ ["self", "other"] (spEq (RGraph CG))) (mQ : Meth K CG "__eq__" fQ) (bQ : L2.Binds K fdQ ["self", "other"] []) (hne1 : PySem.W.findIn K (.ref CG) "__ne__" = some (some (.builtin "object.__ne__"))) (hmO : PySem.W.mroIn K CG (.type "object") = some true)
    (MKB : Mk K CB fBI) (GBI : FnOk P w K mg base (L2.CX P w) 6 fBI fdBI ["self", "graph", "position", "players"] (spBInit K CG CT CB)) (bBI : L2.Binds K fdBI ["self", "graph", "position", "players"] [])
    (MK : Mk K CG fI) (GI : FnOk P w K mg base (L2.CX P w) 6 fI fdI ["self", "size", "edges"] (spGI01 K CG CS CM CE)) (bI : L2.Binds K fdI ["self", "size", "edges"] []) :
    GOk P w K mg base 15 f fd ["_law_script"] (spLawT K [(cl, Pl), (cm, Pm), (cn, Pn), (co, Po), (cb, Pb)]) := by
  obtain ⟨fP, fdP, GP, mP, kP, bP⟩ := GP
  obtain ⟨fT, fdT, GT, mT, kT, bT⟩ := GT
  obtain ⟨fBo, fdBo, GBo, mBo, kBo, bBo⟩ := GBo
  obtain ⟨fMa, fdMa, GMa, mMa, kMa, bMa⟩ := GMa
  obtain ⟨fNo, fdNo, GNo, mNo, kNo, bNo⟩ := GNo
  obtain ⟨fOt, fdOt, GOt, mOt, kOt, bOt⟩ := GOt
  obtain ⟨fUn, fdUn, GUn, mUn, bUn⟩ := GUn
  obtain ⟨fTo, fdTo, GTo, mTo, bTo⟩ := GTo
  obtain ⟨fBp, fdBp, GBp, mBp, bBp⟩ := GBp
  obtain ⟨fBs, fdBs, GBs, mBs, bBs⟩ := GBs
  obtain ⟨fLg, fdLg, GLg, mLg, bLg⟩ := GLg
  obtain ⟨fBg, fdBg, GBg, mBg, bBg⟩ := GBg
  refine okGC F sc_law (fun vs H Q E h => ?_) (fun A0 outer s H vs Q E hgd hr14 h => ?_)
  · obtain ⟨a, ns, rfl, _⟩ := h
    rfl
  · obtain ⟨a0, ns, rfl, hS, hlen, hT0, kont⟩ := h
    have nd := sc_law.nd
    have hr := hr14
    have hr2 : Room 2 _ := hr.mono (by decide)
    have hu64 : A0.units + 3 + 64 < cLine := hr.units
    refine ⟨_, (pss_cons (ps_if (pt_not (pt_val (pe_callG0 hgd GBo hr (by rfl) mBo kBo bBo pass0))) (pss_one (ps_ret pe_bl)) pss_nil)
      (pss_cons (ps_for PassesOwn.never rfl (pi_range1 rfl M.range (pa_cons (pe_callB (call_max2 rfl) (by rfl) M.max boot_max1 (pa_cons pe_int (pa_cons (pe_callB (call_min2 rfl) (by rfl) M.min boot_min1 (pa_cons (pe_callB call_len_seq (by rfl) M.len boot_len1 (pa_cons (pv 0) pa_nil)) (pa_cons pe_int pa_nil))) pa_nil))) pa_nil)) (pg_name (i := 1) nd rfl (Or.inl rfl)) (pss_cons (ps_set (i := 2) nd rfl (Or.inr rfl) (pe_call GP (hr.mono (by decide)) (by rfl) mP kP bP .nil pass0 (pa_cons (pv 0) (pa_cons (pv 1) pa_nil))))
      (pss_cons (ps_set (i := 3) nd rfl (Or.inl rfl) (pe_op op_add pe_int (pe_call GT (hr.mono (by decide)) (by rfl) mT kT bT .nil pass0 (pa_cons (pv 2) (pa_cons pe_int pa_nil)))))
      (pss_cons (ps_par (i := 4) (j := 5) (by rfl) nd rfl rfl (by decide) rfl rfl (pa_cons (pe_make MK GI (hr.mono (by decide)) (by rfl) T.mgC bI .nil passL (pa_cons (pv 3) (pa_cons (pe_lst (pa_cons (pe_tup (pa_cons pe_int (pa_cons pe_int pa_nil))) pa_nil)) pa_nil))) (pa_cons (pe_lc (own := [("_law_node", 8)]) (g := gName 8) (tt := tYes) rfl nd (pi_range1 rfl M.range (pa_cons (pv 3) pa_nil)) (blkOk_by (own := [("_law_node", 8)]) (N := ["_law_script", "_law_k", "_law_pool_here", "_law_many", "_law_graph", "_law_here", "_law_board", "_law_bad", "_law_node"]) (sc := defScope s_law) (by decide +kernel)) (fun _ _ _ _ _ => pg_name (i := 8) nd rfl (Or.inl rfl)) (fun _ _ _ _ _ => pts_nil) (fun _ _ _ _ _ => (pe_op op_sub (pe_call GT (hr.mono (by decide)) (by rfl) mT kT bT .nil pass0 (pa_cons (pv 2) (pa_cons pe_int pa_nil))) pe_int))) pa_nil)) (by rfl))
      (pss_cons (ps_set (i := 6) nd rfl (Or.inr rfl) (pe_make MKB GBI (hr.mono (by decide)) (by rfl) B.mgC bBI .nil passL (pa_cons (pv 4) (pa_cons (pv 5) (pa_cons pe_int pa_nil)))))
      (pss_cons (ps_if (PW.pt (pw_or (pt_not (pt_val (pe_callG hgd GMa hr (by rfl) mMa kMa bMa pass0 (pa_cons (pv 4) (pa_cons (pv 5) pa_nil))))) (pw_or1 (pt_not (pt_val (pe_callG hgd GNo hr (by rfl) mNo kNo bNo pass0 (pa_cons (pv 6) (pa_cons (pv 3) pa_nil)))))))) (pss_one (ps_ret pe_bl)) pss_nil)
      (pss_cons (ps_if (PW.pt (pw_or (pt_not (pt_val (pe_callG hgd GOt hr (by rfl) mOt kOt bOt pass0 (pa_cons (pv 6) (pa_cons (pv 3) pa_nil))))) (pw_or1 (pt_cmpR (show OpR _ (compareOp .NotEq) (rNeD K) from op_neD hu64) (pe_doorN (x := "_law_error") (T := lam5 Pm Pn Po Pb Pl) (TT := TErr3 K (clE CP CPs CN CNu CE CL CO CPl CM CU)) (by rfl) mE FE bE sc_error (Or.inl rfl) (fun cdg => err_gives hgd hr2 M.repr D.e0 D.e1 D.e2 D.e3 D.e4 D.e5 D.e6 D.e7 D.e8 D.e9) TBl rfl (List.mem_cons_of_mem _ (List.mem_cons_of_mem _ (List.mem_cons_of_mem _ (List.mem_cons_of_mem _ List.mem_cons_self))))
              (lam5l hne) hr (show LamX.LamS (defScope s_law) _ from LamX.lamS_by (by decide +kernel)) rfl (fun _ _ _ _ _ => rfl)
              (fun A outer s H E f c' hr => pe_meth0 (pv 6) B.cl mUn GUn (hr.mono (by decide)) bUn .nil (passes_call (E := E) (takes_of rfl rfl rfl rfl) (fun _ _ _ _ h => h)))) (pe_lst (pa_cons pe_str (pa_cons pe_str pa_nil))) (nomark _))))) (pss_one (ps_ret pe_bl)) pss_nil)
      (pss_cons (ps_for PassesOwn.never rfl (pi_list (pe_lst (pa_cons pe_non (pa_cons pe_int (pa_cons pe_dnewK (pa_cons pe_str (pa_cons pe_int pa_nil))))))) (pg_name (i := 7) nd rfl (Or.inr rfl)) (pss_one (ps_if (pt_cmpR (show OpR _ (compareOp .NotEq) (rNeD K) from op_neD hu64) (pe_doorN (x := "_law_error") (T := lam5 Pm Pn Po Pb Pl) (TT := TErr3 K (clE CP CPs CN CNu CE CL CO CPl CM CU)) (by rfl) mE FE bE sc_error (Or.inl rfl) (fun cdg => err_gives hgd hr2 M.repr D.e0 D.e1 D.e2 D.e3 D.e4 D.e5 D.e6 D.e7 D.e8 D.e9) TBl rfl (List.mem_cons_of_mem _ (List.mem_cons_of_mem _ (List.mem_cons_of_mem _ (List.mem_cons_of_mem _ List.mem_cons_self))))
              (lam5l hne) hr (show LamX.LamS (defScope s_law) _ from LamX.lamS_by (by decide +kernel)) rfl (fun _ _ _ _ _ => rfl)
              (fun A outer s H E f c' hr => pe_meth (pv 6) B.cl mTo GTo (hr.mono (by decide)) bTo .nil (passes_call (E := E) (takes_of rfl rfl rfl rfl) (fun _ _ _ _ h => h)) (pa_cons (pv 7) pa_nil))) (pe_lst (pa_cons pe_str (pa_cons (pe_callB (show CallR _ (.builtin "repr") (rRepr K) from call_repr hgd hr.units) (by rfl) M.repr boot_repr1 (pa_cons (pv 7) pa_nil)) pa_nil))) (nomark _)) (pss_one (ps_ret pe_bl)) pss_nil)))
      (pss_one (ps_if (PW.pt (pw_or (pt_cmpR (show OpR _ (compareOp .NotEq) (rNeD K) from op_neD hu64) (pe_lst (pa_cons (pe_meth0 (pv 6) B.cl mBp GBp (hr.mono (by decide)) bBp .nil pass0) (pa_cons (pe_meth0 (pv 6) B.cl mBs GBs (hr.mono (by decide)) bBs .nil pass0) (pa_cons (pe_meth0 (pv 6) B.cl mLg GLg (hr.mono (by decide)) bLg .nil pass0) pa_nil)))) (pe_lst (pa_cons (pv 5) (pa_cons (pe_lst (pa_cons pe_int (pa_cons pe_int pa_nil))) (pa_cons (pe_lst pa_nil) pa_nil)))) (nomark _)) (pw_or1 (pt_cmpR (show OpR _ (compareOp .NotEq) (rNeG (DIns CG (RGraph CG))) from op_neG (rcNG_ins (E := L2.E0) GQ mQ.1 hne1 hmO mQ.fn bQ pass0) hr2) (pe_meth0 (pv 6) B.cl mBg GBg (hr.mono (by decide)) bBg .nil pass0) (pv 4) (nomark _))))) (pss_one (ps_ret pe_bl)) pss_nil))))))))))
      (pss_one (ps_ret pe_bl)))), ?_⟩
    have bnd : ∀ l : Nat, 1 ≤ (if (if (4 : Int) < (l : Int) then (4 : Int) else (l : Int)) > 1 then (if (4 : Int) < (l : Int) then (4 : Int) else (l : Int)) else 1) ∧
        (if (if (4 : Int) < (l : Int) then (4 : Int) else (l : Int)) > 1 then (if (4 : Int) < (l : Int) then (4 : Int) else (l : Int)) else 1) ≤ 4 := fun l => by
      split <;> split <;> omega
    have bl := bnd (ns.map V.int).length
    refine ⟨rfl, tabs5 hT0, fun HB xB tB => ⟨_, rfl, iteF ?_⟩⟩
    have hSB := sqLExt hS xB
    refine ⟨_, rfl, a0, _, rfl, .inl hSB, _, _, rfl, _, _, rfl, _, rfl, by omega, by omega, for_range (lo := 0) (fun i σ H' => ∃ v1 v2 v3 v4 v5 v6 v7 v8 : Option V,
      σ = [some (.ref a0), v1, v2, v3, v4, v5, v6, v7, v8] ∧ SqL K H' a0 (ns.map V.int) ∧ LamX.Tabs (lam5 Pm Pn Po Pb Pl) H') ⟨none, none, none, none, none, none, none, none, rfl, hSB, tB⟩ ?_ ?_⟩
    case refine_2 =>
      rintro σ H' ⟨v1, v2, v3, v4, v5, v6, v7, v8, rfl, _⟩
      exact kont H'
    clear hS hT0 kont bl bnd hSB xB tB
    rintro i σ H0 hi ⟨v1, v2, v3, v4, v5, v6, v7, v8, rfl, hS0, hTab⟩
    refine ⟨_, rfl, _, rfl, a0, ns, (0 : Int) + i, rfl, hS0, by omega, by omega, fun p H1 np s1 hp1 => ?_⟩
    refine ⟨_, rfl, p, 5, rfl, hp1, by decide, by decide, fun r H2 r0 r5 hp2 t2 => ⟨_, _, rfl, rfl, ?_⟩⟩
    obtain ⟨n, hn⟩ : ∃ n : Nat, (2 : Int) + r = (n : Int) := ⟨(2 + r).toNat, by omega⟩
    have n2 : 2 ≤ n := by omega
    have n6 : n ≤ 6 := by omega
    rw [show ((fun i j : Int => V.int (i + j)) 2 r) = V.int (n : Int) from congrArg V.int hn]
    refine ⟨_, rfl, ?_⟩
    refine ⟨by show 2 ≤ sizeLine; decide, fun t nt => ?_⟩
    obtain ⟨H3, q3, s3, ht⟩ := newAt (.tup [V.int 0, V.int 1]) nt
    rw [q3]
    refine ⟨by show 1 ≤ sizeLine; decide, fun l nl => ?_⟩
    obtain ⟨H4, q4, s4, hl⟩ := newAt (.lst [V.ref t]) nl
    rw [q4]
    intro g dx nx ndx ne
    have sx := preS (CG := CG) nx ndx ne
    have tp : TupsAt H4 [t] [((0 : Int), (1 : Int))] := ⟨rfl, fun k u e => by
      cases k with
      | zero => obtain rfl := Option.some.inj e; exact ⟨_, rfl, s4 _ _ ht⟩
      | succ k => simp at e⟩
    have good : GoodU n [((0 : Int), (1 : Int))] := ⟨fun e he => by rw [List.mem_singleton.mp he]; dsimp only; omega, by decide, by decide⟩
    refine ⟨g, dx, _, .ref l, rfl, upd_same, .inr ⟨n, rfl, by omega, by omega, .inr (.inr ⟨[((0 : Int), (1 : Int))], ⟨l, [t], rfl, .inl (sx _ _ hl), tp.same sx, good⟩, fun h => by exfalso; exact absurd h (by decide), fun _ H5 j nr N es' up hx hj hN near pe sE nj nn => ⟨rfl, ?_⟩⟩)⟩⟩
    obtain rfl : es' = [((0 : Int), (1 : Int))] := List.perm_singleton.mp pe
    have goodE : GoodE n [((0 : Int), (1 : Int))] := ⟨fun e he => by rw [List.mem_singleton.mp he]; dsimp only; omega, by decide, by decide⟩
    have hp4 := hp2.same (s3.trans s4)
    have D4 : Dom [p] H4 := fun z hz => by
      rw [List.mem_singleton.mp hz]
      obtain ⟨u, w', e, _⟩ := hp4
      exact ⟨_, e, fun _ z => by cases z⟩
    obtain ⟨s45, gr5⟩ := graphNew D4 nx ndx ne up hx hj near sE nj nn goodE (by omega) (by omega)
    clear sx up hx hj hN near pe sE q3 q4 tp nx ndx ne nj nn D4 hp4
    have s25 := s3.trans (s4.trans s45)
    have hp5 := hp2.same s25
    refine ⟨_, rfl, n, rfl, by omega, by omega, fun L nL => ?_⟩
    have pL := hp5.ne nL
    refine lc_range (lo := 0) (n := n) (fun i H' => SameX p H5 H' ∧ PoolAt H' p ∧ ∃ x : List Int, H' L = some (.lst (x.map V.int)) ∧ x.length = i ∧ ∀ o ∈ x, o.natAbs ≤ 100)
      ⟨Same.x (same_upd nL), hp5.same (same_upd nL), [], upd_same, rfl, by simp⟩ (fun i H' hi h => ?_) (fun H6 h => ?_)
    · obtain ⟨sX, hpp, x, e1, e2, e3⟩ := h
      refine ⟨rfl, ?_⟩
      refine ⟨_, rfl, p, 9, rfl, hpp, by decide, by decide, fun z J z0 z9 hp' tk => ⟨_, _, rfl, rfl, ?_⟩⟩
      have hL2 : J L = some (.lst (x.map V.int)) := (tk L pL.symm).trans e1
      refine ⟨_, hL2, by rw [List.length_map, e2, sizeLine_eq]; omega, fun b o hb e => ?_, ?_, x ++ [z - 4], by rw [upd_same, List.map_append]; rfl, by rw [List.length_append, e2]; rfl, fun o ho => ?_⟩
      · rw [upd_ne (ne_of_none e nL)]
        exact (tk b hb).trans (sX b o hb e)
      · obtain ⟨c1, c2, y, w'⟩ := hp'
        exact ⟨c1, c2, by rw [upd_ne pL]; exact y, w'⟩
      · rcases List.mem_append.mp ho with ho | ho
        · exact e3 o ho
        · rw [List.mem_singleton.mp ho]
          omega
    obtain ⟨sX, hp6, x, hL6, lx, bx⟩ := h
    have hG6 : GE CG H6 g n [((0 : Int), (1 : Int))] := gr5 _ fun b o hb e => sX b o (fun z => hb (by rw [z]; simp)) e
    have x06 : ∀ b o, H0 b = some o → H6 b = some o := fun b o e => by
      have bp : b ≠ p := ne_of_none e np
      exact sX b o bp (s25 _ _ ((t2 b bp).trans (s1 _ _ e)))
    have hS6 : SqL K H6 a0 (ns.map V.int) := sqLExt hS0 (Same.ext (fun b o e => x06 b o e))
    have tab6 : LamX.Tabs (lam5 Pm Pn Po Pb Pl) H6 := Same.tabs (fun b o e => x06 b o e) hTab
    clear sX hp6 hp5 gr5 s25 s45 s4 s3 ht hl t2 hp2 hp1 s1 np
    refine ⟨_, _, rfl, ?_⟩
    refine ⟨_, rfl, _, rfl, ?_⟩
    intro b dx1 nb ndx1 ne1
    have sx1 := preS (CG := CB) nb ndx1 ne1
    obtain ⟨H7, q7⟩ : ∃ z, upd (upd H6 dx1 (.own b)) b (.ins CB dx1 []) = z := ⟨_, rfl⟩
    have hb7 : H7 b = some (.ins CB dx1 []) := by rw [← q7, upd_same]
    rw [q7] at sx1 ⊢
    have g0 : Stb [] H6 (fun H' => GE CG H' g n [((0 : Int), (1 : Int))]) := fun H' f => hG6.same (fun u o e => f u o (by simp) e)
    refine ⟨[b], b, dx1, g, L, n, [((0 : Int), (1 : Int))], x, 2, rfl, hb7, by simp, (fun z hz => by rw [List.mem_singleton.mp hz]; exact ⟨_, hb7, fun _ z => by cases z⟩), Stb.new (L := [b]) g0 (sameFr sx1) (fun z hz => by rw [List.mem_singleton.mp hz]; exact nb), SqL.of (sx1 _ _ hL6), lx, by decide, by decide, fun so nl pl pk H8 f8 nso nnl npl npk bd => ⟨rfl, ?_⟩⟩
    have s68 : Same H6 H8 := fun u o e => f8 u o (ne_of_none e nb) (sx1 _ _ e)
    have nt := bdTb bd
    have hG8 := hG6.same s68
    have hL8 := s68 _ _ hL6
    have tab8 := Same.tabs s68 tab6
    have hS8 := sqLExt hS6 (Same.ext s68)
    clear q7 sx1 f8 nso nnl npl npk hb7 nb ndx1 ne1 g0 hG6 hL6 tab6 hS6 s68
    refine ⟨_, rfl, _, rfl, g, L, n, _, x, rfl, hG8, hL8, lx, by omega, by omega, bx, tab8, fun H9 x9 t9 => ⟨_, rfl, iteF ?_⟩⟩
    refine ⟨_, rfl, _, rfl, _, b, so, pk, _, g, nl, pl, rfl, bd.ext nt x9, nt.ext x9, by show 1 ≤ n; omega, by show n ≤ 16; omega, rfl, t9, fun Ha xa ta => ⟨_, rfl, iteF ?_⟩⟩
    have X8a := x9.trans xa
    refine ⟨_, rfl, _, rfl, _, b, so, pk, _, g, nl, pl, rfl, bd.ext nt X8a, nt.ext X8a, n2, by show n ≤ 16; omega, rfl, rfl, ta, fun Hb xb tb => ⟨_, rfl, iteF ?_⟩⟩
    have X8b := X8a.trans xb
    refine dUndo tb (bd.ext nt X8b) (nt.ext X8b) rfl (fun H1 x1 t1 => told9 XE (fun u nu => ?_))
    obtain ⟨B0, b0, sb0, hb0⟩ := newAt (.lst [V.str "undo", V.str ""]) nu
    rw [b0]
    refine ⟨by show 2 ≤ sizeLine; decide, fun q nq => ?_⟩
    obtain ⟨E0, e0, se0, he0⟩ := newAt (.lst [V.str "undo", V.str ""]) nq
    rw [e0]
    refine neKept (by decide +kernel) (by decide +kernel) (se0 _ _ hb0) he0 ⟨_, rfl, iteF ?_⟩
    have X8e : LamX.ExtN H8 E0 := X8b.trans (x1.trans (Same.ext (sb0.trans se0)))
    have te := Same.tabs (sb0.trans se0) t1
    clear nu nq t1 x1 tb xb ta xa t9 x9 X8b X8a b0 e0 hb0 he0
    intro dd ndd
    obtain ⟨J1, j1, sj1, hdd⟩ := newAt (.dK []) ndd
    rw [j1]
    refine ⟨by show 5 ≤ sizeLine; decide, fun W nW => ?_⟩
    obtain ⟨J2, j2, sj2, hW⟩ := newAt (.lst [V.non, V.int 5, V.ref dd, V.str "operations", V.int 7]) nW
    rw [show (V.non :: _ : List V) = [V.non, V.int 5, V.ref dd, V.str "operations", V.int 7] from rfl, j2]
    have sJ := sj1.trans sj2
    have hd2 := sj2 _ _ hdd
    refine ⟨W, rfl, ⟨_, SqL.of hW⟩, for_list (K := K) (a := W) (xs := [V.non, V.int 5, V.ref dd, V.str "operations", V.int 7]) (fun j σ G => ∃ v7' : Option V, σ = [some (.ref a0), some (.int (0 + (i : Int))), some (.ref p), some (.int (n : Int)), some (.ref g), some (.ref L), some (.ref b), v7', v8] ∧ LamX.ExtN J2 G ∧ LamX.Tabs (lam5 Pm Pn Po Pb Pl) G)
      ⟨_, rfl, LamX.ExtN.refl _, Same.tabs sJ te⟩ (fun j σ G _ h => ?_) (fun j y σ G hj h => ?_) (fun σ G h => ?_)⟩
    · obtain ⟨_, _, xG, _⟩ := h
      exact SqL.of (xG _ _ hW (fun _ z => by cases z))
    · obtain ⟨v7', rfl, xG, tG⟩ := h
      have kit : ∀ t : String, PySem.W.kitOne K (.type t) (.type "list") = some false → PySem.W.kitOne K (.type t) (.type "tuple") = some false → PySem.W.kitAny K (.type t) [.type "list", .type "tuple"] = some false := fun t h1 h2 =>
        kitAny_cons (b := false) h1 (fun _ => kitAny_cons (b := false) h2 (fun _ => rfl) (fun h => by cases h)) (fun h => by cases h)
      obtain ⟨d, hd, nsq, sh, can⟩ : ∃ d, (∀ G', LamX.ExtN G G' → Rd K G' y d) ∧ (∀ G', LamX.ExtN G G' → NoSq K G' y) ∧ (d.showable = true ∧ d.depth ≤ 60 ∧ d.shown.length ≤ sizeLine) ∧ (PyData.str d.shown).canLay0 = true := by
        have hlt : j < 5 := (List.getElem?_eq_some_iff.mp hj).1
        obtain rfl | rfl | rfl | rfl | rfl : j = 0 ∨ j = 1 ∨ j = 2 ∨ j = 3 ∨ j = 4 := by omega
        · obtain rfl := Option.some.inj hj
          exact ⟨.none, fun _ _ => .dat .non, fun _ _ _ _ => ⟨_, .base .non, kit _ (kit_ty (by decide +kernel)) (kit_ty (by decide +kernel))⟩, ⟨by decide +kernel, by decide +kernel, by decide +kernel⟩, by decide +kernel⟩
        · obtain rfl := Option.some.inj hj
          exact ⟨.int 5, fun _ _ => .dat (.int _), fun _ _ _ _ => ⟨_, .base (.int _), kit _ (kit_ty (by decide +kernel)) (kit_ty (by decide +kernel))⟩, ⟨by decide +kernel, by decide +kernel, by decide +kernel⟩, by decide +kernel⟩
        · obtain rfl := Option.some.inj hj
          have hz : ∀ G', LamX.ExtN G G' → G' dd = some (.dK []) := fun G' x' => x' _ _ (xG _ _ hd2 (fun _ z => by cases z)) (fun _ z => by cases z)
          exact ⟨.dict [], fun G' x' => .dct [] (hz G' x'), fun G' x' G2 s2 => ⟨_, .base (.dK (s2 _ _ (hz G' x'))), kit _ (kit_ty (by decide +kernel)) (kit_ty (by decide +kernel))⟩, ⟨by decide +kernel, by decide +kernel, by decide +kernel⟩, by decide +kernel⟩
        · obtain rfl := Option.some.inj hj
          exact ⟨.str "operations", fun _ _ => .dat (.str _), fun _ _ _ _ => ⟨_, .base (.str _), kit _ (kit_ty (by decide +kernel)) (kit_ty (by decide +kernel))⟩, ⟨by decide +kernel, by decide +kernel, by decide +kernel⟩, by decide +kernel⟩
        · obtain rfl := Option.some.inj hj
          exact ⟨.int 7, fun _ _ => .dat (.int _), fun _ _ _ _ => ⟨_, .base (.int _), kit _ (kit_ty (by decide +kernel)) (kit_ty (by decide +kernel))⟩, ⟨by decide +kernel, by decide +kernel, by decide +kernel⟩, by decide +kernel⟩
      have X8G : LamX.ExtN H8 G := X8e.trans ((Same.ext sJ).trans xG)
      have hdS : ∀ H1, LamX.ExtN G H1 → RdS K H1 y d := fun H1 x1 H' s' => hd H' (x1.trans (Same.ext s'))
      refine dTog (v := y) tG (bd.ext nt X8G) (nt.ext X8G) rfl (fun H1 R r => ⟨_, rfl, r⟩) (fun H1 x1 => nsq H1 x1) (fun H1 x1 t1 => told6 XE (hdS H1 x1) sh (fun H' u su nu => ?_))
      obtain ⟨B1, b1, sb1, hb1⟩ := newAt (.lst [V.str "invalid", V.str d.shown]) nu
      rw [b1]
      refine ⟨_, rfl, y, d, rfl, hd _ (x1.trans (Same.ext (su.trans sb1))), sh.1, sh.2.1, sh.2.2, by show 2 ≤ sizeLine; decide, fun q nq => ?_⟩
      obtain ⟨E1, e1, se1, he1⟩ := newAt (.lst [V.str "invalid", V.str d.shown]) nq
      rw [e1]
      refine neKept (by decide +kernel) can (se1 _ _ hb1) he1 ⟨_, rfl, iteF ?_⟩
      have sA := su.trans (sb1.trans se1)
      exact ⟨_, rfl, xG.trans (x1.trans (Same.ext sA)), Same.tabs sA t1⟩
    obtain ⟨v7', rfl, xG, tG⟩ := h
    have X8G : LamX.ExtN H8 G := X8e.trans ((Same.ext sJ).trans xG)
    have bdG := bd.ext nt X8G
    have ntG := nt.ext X8G
    have hGG := hG8.ext X8G
    have hLG := X8G _ _ hL8 (fun _ z => by cases z)
    have hSG := sqLExt hS8 X8G
    clear X8e te hdd j1 ndd hW j2 nW sJ hd2 xG X8G hG8 hL8 hS8 bd nt tab8 sj1 sj2
    obtain ⟨dxb, hbG⟩ := bdG.obj
    refine ⟨_, rfl, b, dxb, _, rfl, hbG, rfl, _, b, so, pk, _, g, nl, pl, _, rfl, bdG, fun q1 K1 nq1 sq1 hq1 => ?_⟩
    refine ⟨_, rfl, b, dxb, _, rfl, sq1 _ _ hbG, rfl, _, b, so, pk, _, g, nl, pl, _, rfl, bdG.same sq1, fun q2 K2 nq2 sq2 hq2 => ?_⟩
    have s12 := sq1.trans sq2
    have nil0 : Ones [] [] := rfl
    refine ⟨_, rfl, b, dxb, _, rfl, s12 _ _ hbG, rfl, _, b, so, pk, _, g, nl, pl, _, [], rfl, bdG.same s12, nil0, fun q3 ts K3 nq3 sq3 hq3 ho => ?_⟩
    obtain rfl : ts = [] := List.length_eq_zero_iff.mp ho.1
    refine ⟨by show 3 ≤ sizeLine; decide, fun u nu => ?_⟩
    obtain ⟨K4, k4, s4, hu⟩ := newAt (.lst [V.ref q1, V.ref q2, V.ref q3]) nu
    rw [k4]
    refine ⟨_, rfl, by show 2 ≤ sizeLine; decide, fun z nz => ?_⟩
    obtain ⟨K5, k5, s5, hz⟩ := newAt (.lst [V.int 0, V.int 0]) nz
    rw [k5]
    refine ⟨by show 0 ≤ sizeLine; decide, fun e ne => ?_⟩
    obtain ⟨K6, k6, s6, he⟩ := newAt (.lst []) ne
    rw [k6]
    refine ⟨by show 3 ≤ sizeLine; decide, fun u2 nu2 => ?_⟩
    obtain ⟨K7, k7, s7, hu2⟩ := newAt (.lst [V.ref L, V.ref z, V.ref e]) nu2
    rw [k7]
    have s37 := s4.trans (s5.trans (s6.trans s7))
    have sG7 := s12.trans (sq3.trans s37)
    have shp : SeqAt.shaped (.list [posD x, posD [0, 0], .list []]) = true := shapedThree x
    refine ⟨.list [posD x, posD [0, 0], .list []], .list [posD x, posD [0, 0], .list []], .lst (SqL.of ((s5.trans (s6.trans s7)) _ _ hu)) (.cons (.lst (SqL.of ((sq2.trans (sq3.trans s37)) _ _ hq1)) (dpInts _)) (.cons (.lst (SqL.of ((sq3.trans s37) _ _ hq2)) (dpInts [0, 0])) (.cons (.lst (SqL.of (s37 _ _ hq3)) .nil) .nil))), .lst (SqL.of hu2) (.cons (.lst (SqL.of (sG7 _ _ hLG)) (dpInts _)) (.cons (.lst (SqL.of ((s6.trans s7) _ _ hz)) (dpInts [0, 0])) (.cons (.lst (SqL.of (s7 _ _ he)) .nil) .nil))), shp, shp, ?_⟩
    rw [eqvSame shp]
    refine ⟨_, rfl, iteF ?_⟩
    have bd7 := bdG.same sG7
    have hG7 := hGG.same sG7
    obtain ⟨dxg, jg, nrg, Ng, og, _⟩ := hG7.obj
    refine ⟨_, rfl, b, dxb, _, rfl, sG7 _ _ hbG, rfl, _, b, so, pk, _, g, nl, pl, _, rfl, bd7, _, rfl, ⟨g, g, dxg, dxg, _, _, rfl, rfl, og, og, ⟨n, _, hG7, hG7⟩⟩, fun H' e => ⟨_, rfl, iteF ?_⟩⟩
    have sE : Same G H' := fun b o h => e b o (sG7 _ _ h)
    exact ⟨_, _, _, _, _, _, _, _, rfl, sqLExt hSG (Same.ext sE), Same.tabs sE tG⟩
end
end K71
set_option Elab.async false
set_option linter.all false
set_option maxRecDepth 100000
set_option maxHeartbeats 8000000
namespace FNX
open PySem PySem.Spec PyProof.Rows L2
section
variable {K : PySem.W.Frag} {h : Heap} {mg : Str → Option Value} {x qual : Str} {C f N T e : Addr} {st : Stmt} {od an odT : Option Addr} {oc kV doc pm cd ct ocT : Value} {sl slT : Array (Option Value)} {nT : Nat}
/-- an `__init__` without defaults -/
def In0 (K : PySem.W.Frag) (C : Addr) (qual : Str) (st : Stmt) (f : Addr) : Prop := Mk K C f ∧ ∃ fd, Fun K "__init__" qual st f fd
/-- an `__init__` with one int for a default -/
def InI (K : PySem.W.Frag) (C : Addr) (qual : Str) (st : Stmt) (f : Addr) (i : Int) : Prop := Mk K C f ∧ ∃ fd, FunD K "__init__" qual (defArgs st) (defBody st) (defScope st) [.int i] [] f fd
/-- a dict of the top whose values are defs -/
structure DctF (K : PySem.W.Frag) (w : World) (a : Addr) : Prop where
  ex : ∃ es n, List.lookup a K = some { cls := .type "dict", data := .dict es n } ∧ PySem.W.KeysLit w.params es.toList
theorem DctF.at {w : World} {a f : Addr} {x : Str} (d : DctF K w a) (h : PySem.W.nsIn K a x = some (some (.ref f))) : KDct K w a x (.ref f) := by
  obtain ⟨es, n, h1, h2⟩ := d.ex
  exact ⟨es, n, .ref f, h1, h2, h, rfl⟩
end
end FNX
set_option Elab.async false
set_option linter.all false
set_option maxRecDepth 100000
set_option maxHeartbeats 8000000
namespace K71
open PySem PySem.Spec PyProof.Rows L2 FNX
theorem chainIx : Chain "IndexError" ixTail := ⟨by decide +kernel, by decide +kernel, by decide +kernel, by decide +kernel, rfl, passIndex⟩
theorem scNothing : FnScope ["self"] ["self"] (defScope s_NothingToUndo_init) := ⟨rfl, rfl, rfl, by decide +kernel, rfl, by decide +kernel, by decide +kernel⟩
theorem nothing_ok {P : Program} {w : World} {K : PySem.W.Frag} {mg : Str → Option Value} {base : Heap} {qual : Str} {f C : Addr} {fd : FuncData} (F : Fun K "__init__" qual s_NothingToUndo_init f fd) (T : XC0 K C) (hm : mg "IndexError" = none) :
    FnOk P w K mg base CX0 1 f fd ["self"] (sp0 C) := by
  refine F.ok scNothing (fun vs H Q E h => ?_) (fun cdv A outer s H vs Q E hr h => ?_)
  · obtain ⟨a, rfl, _⟩ := h
    rfl
  · obtain ⟨a, rfl, ha, k⟩ := h
    exact ⟨_, pss_one (ps_expr (pe_ixinit rfl hm T.vI (pa_cons (pv 0) pa_nil))), _, rfl, a, C, rfl, T, ha, k⟩
structure Cl0 (K : PySem.W.Frag) (mg : Str → Option Value) (C : Addr) : Prop where
  x0 : XC0 K C
  mgC : mg "NothingToUndo" = some (.ref C)
  mkd : ∃ qual f fd, PySem.W.findIn K (.ref C) "__init__" = some (some (.ref f)) ∧ PySem.W.typeIn K (.ref f) = some (.type "function") ∧ Fun K "__init__" qual s_NothingToUndo_init f fd
theorem Cl0.ex {P : Program} {w : World} {K : PySem.W.Frag} {mg : Str → Option Value} {base : Heap} {C : Addr} (c : Cl0 K mg C) (hm : mg "IndexError" = none) : Ex0 P w K mg base "NothingToUndo" C := by
  obtain ⟨qual, f, fd, h1, h2, F⟩ := c.mkd
  exact ⟨c.x0, c.mgC, f, fd, h1, h2, nothing_ok F c.x0 hm, F.binds (ps := ["self"]) fun _ _ _ _ _ _ us hl => match us, hl with | [_], _ => rfl⟩
theorem funD_of {K : PySem.W.Frag} {x qual : Str} {st : Stmt} {f : Addr} {fd : FuncData} (F : Fun K x qual st f fd) : FunD K x qual (defArgs st) (defBody st) (defScope st) [] [] f fd := by
  obtain ⟨oc, od, kV, doc, pm, an, cdv, ct, osl, h1, h2, h3⟩ := F.ex
  exact ⟨⟨oc, od, .none, kV, doc, pm, an, cdv, ct, osl, h1, h2, h3, .inl ⟨rfl, rfl⟩, .inl rfl⟩, F.kp⟩
end K71
set_option Elab.async false
set_option linter.all false
set_option maxRecDepth 100000
set_option maxHeartbeats 8000000
namespace K71
open PySem PySem.Spec PyProof.Rows L2 FNX
section
variable {P : Program} {w : World} {K : PySem.W.Frag} {mg : Str → Option Value} {base : Heap} {CG : Addr} {CX : CXT} {k : Nat} {x qual : Str} {st : Stmt} {f : Addr} {ps : List Str} {sp : Sp}
theorem at_of (F : FnF K mg x st f) (ok : ∀ fd, Fun K x x st f fd → FnOk P w K mg base CX k f fd ps sp)
    (b : ∀ (kV doc pm : Value) (an : Option Addr) (cdv ct : Value) (us : List Value), us.length = ps.length → bindArgs (PySem.W.fnOf x x (defArgs st) (defBody st) (defScope st) .none kV doc pm an cdv ct) ⟨us, []⟩ = pure (ps.zip us)) : At P w K mg base CX k x ps sp := by
  obtain ⟨g, fd, F⟩ := F
  exact ⟨f, fd, ok fd F, g, F.kp, F.binds b⟩
theorem mat_of (F : MtF K CG x qual st f) (ok : ∀ fd, Fun K x qual st f fd → FnOk P w K mg base CX k f fd ps sp)
    (b : ∀ (kV doc pm : Value) (an : Option Addr) (cdv ct : Value) (us : List Value), us.length = ps.length → bindArgs (PySem.W.fnOf x qual (defArgs st) (defBody st) (defScope st) .none kV doc pm an cdv ct) ⟨us, []⟩ = pure (ps.zip us)) : MAt P w K mg base CG CX k x ps sp := by
  obtain ⟨m, fd, F⟩ := F
  exact ⟨f, fd, ok fd F, m, F.binds b⟩
end
theorem tInvalidPosition : InitTxt s_InvalidPosition_init := ⟨⟨rfl, rfl, rfl, by decide +kernel, rfl, by decide +kernel, by decide +kernel⟩, ⟨_, _, _, _, rfl⟩, fun _ _ _ _ _ _ _ us hl => match us, hl with | [_, _], _ => rfl, fun _ _ _ _ _ _ _ _ _ => rfl⟩
theorem tInvalidPlayers : InitTxt s_InvalidPlayers_init := ⟨⟨rfl, rfl, rfl, by decide +kernel, rfl, by decide +kernel, by decide +kernel⟩, ⟨_, _, _, _, rfl⟩, fun _ _ _ _ _ _ _ us hl => match us, hl with | [_, _], _ => rfl, fun _ _ _ _ _ _ _ _ _ => rfl⟩
theorem tInvalidNode : InitTxt s_InvalidNode_init := ⟨⟨rfl, rfl, rfl, by decide +kernel, rfl, by decide +kernel, by decide +kernel⟩, ⟨_, _, _, _, rfl⟩, fun _ _ _ _ _ _ _ us hl => match us, hl with | [_, _], _ => rfl, fun _ _ _ _ _ _ _ _ _ => rfl⟩
theorem tInvalidNumber : InitTxt s_InvalidNumber_init := ⟨⟨rfl, rfl, rfl, by decide +kernel, rfl, by decide +kernel, by decide +kernel⟩, ⟨_, _, _, _, rfl⟩, fun _ _ _ _ _ _ _ us hl => match us, hl with | [_, _], _ => rfl, fun _ _ _ _ _ _ _ _ _ => rfl⟩
theorem tInvalidEdge : InitTxt s_InvalidEdge_init := ⟨⟨rfl, rfl, rfl, by decide +kernel, rfl, by decide +kernel, by decide +kernel⟩, ⟨_, _, _, _, rfl⟩, fun _ _ _ _ _ _ _ us hl => match us, hl with | [_, _], _ => rfl, fun _ _ _ _ _ _ _ _ _ => rfl⟩
theorem tInvalidLimit : InitTxt s_InvalidLimit_init := ⟨⟨rfl, rfl, rfl, by decide +kernel, rfl, by decide +kernel, by decide +kernel⟩, ⟨_, _, _, _, rfl⟩, fun _ _ _ _ _ _ _ us hl => match us, hl with | [_, _], _ => rfl, fun _ _ _ _ _ _ _ _ _ => rfl⟩
theorem tInvalidOperation : InitTxt s_InvalidOperation_init := ⟨⟨rfl, rfl, rfl, by decide +kernel, rfl, by decide +kernel, by decide +kernel⟩, ⟨_, _, _, _, rfl⟩, fun _ _ _ _ _ _ _ us hl => match us, hl with | [_, _], _ => rfl, fun _ _ _ _ _ _ _ _ _ => rfl⟩
theorem tNoPlayer : InitTxt s_NoPlayer_init := ⟨⟨rfl, rfl, rfl, by decide +kernel, rfl, by decide +kernel, by decide +kernel⟩, ⟨_, _, _, _, rfl⟩, fun _ _ _ _ _ _ _ us hl => match us, hl with | [_, _], _ => rfl, fun _ _ _ _ _ _ _ _ _ => rfl⟩
theorem tTooMany : InitTxt s_TooMany_init := ⟨⟨rfl, rfl, rfl, by decide +kernel, rfl, by decide +kernel, by decide +kernel⟩, ⟨_, _, _, _, rfl⟩, fun _ _ _ _ _ _ _ us hl => match us, hl with | [_, _], _ => rfl, fun _ _ _ _ _ _ _ _ _ => rfl⟩
theorem tInvalidSize : InitTxt s_InvalidSize_init := ⟨⟨rfl, rfl, rfl, by decide +kernel, rfl, by decide +kernel, by decide +kernel⟩, ⟨_, _, _, _, rfl⟩, fun _ _ _ _ _ _ _ us hl => match us, hl with | [_, _], _ => rfl, fun _ _ _ _ _ _ _ _ _ => rfl⟩
theorem tNotNegative : InitTxt s_NotNegative_init := ⟨⟨rfl, rfl, rfl, by decide +kernel, rfl, by decide +kernel, by decide +kernel⟩, ⟨_, _, _, _, rfl⟩, fun _ _ _ _ _ _ _ us hl => match us, hl with | [_, _], _ => rfl, fun _ _ _ _ _ _ _ _ _ => rfl⟩
theorem all_mk {l : PySem.W.OpenLaw} {w : World} {K : PySem.W.Frag} {h : Heap} {mg : Str → Option Value} {fa fL cL tL fE fD0 cD0 tD0 fD1 cD1 tD1 fD2 cD2 tD2 fD3 cD3 tD3 f0 f1 f2 f3 f4 f5 f6 f7 f8 f9 f10 f11 f12 f13 f14 f15 f16 f17 f18 f19 f20 f21 f22 f23 f24 f25 f26 f27 f28 f29 f30 f31 f32 f33 f34 f35 f36 f37 f38 f39 f40 f41 c0 c1 c2 c3 c4 c5 c6 c7 c8 c9 c10 c11 CG fI eT CT fI0 CB fI1 aA : Addr} {t0 t1 t2 t3 : Tok} (X : K.In h) (G : h.Ns mainGlobals mg) (hfa : mg "law" = some (.ref fa))
    (C0 : Cl K mg "InvalidPosition" c0) (ty0 : PySem.W.typeIn K (.ref c0) = some (.type "type"))
    (C1 : Cl K mg "InvalidPlayers" c1) (ty1 : PySem.W.typeIn K (.ref c1) = some (.type "type"))
    (C2 : Cl K mg "InvalidNode" c2) (ty2 : PySem.W.typeIn K (.ref c2) = some (.type "type"))
    (C3 : Cl K mg "InvalidNumber" c3) (ty3 : PySem.W.typeIn K (.ref c3) = some (.type "type"))
    (C4 : Cl K mg "InvalidEdge" c4) (ty4 : PySem.W.typeIn K (.ref c4) = some (.type "type"))
    (C5 : Cl K mg "InvalidLimit" c5) (ty5 : PySem.W.typeIn K (.ref c5) = some (.type "type"))
    (C6 : Cl K mg "InvalidOperation" c6) (ty6 : PySem.W.typeIn K (.ref c6) = some (.type "type"))
    (C7 : Cl K mg "NoPlayer" c7) (ty7 : PySem.W.typeIn K (.ref c7) = some (.type "type"))
    (C8 : Cl K mg "TooMany" c8) (ty8 : PySem.W.typeIn K (.ref c8) = some (.type "type"))
    (C9 : Cl0 K mg c9) (ty9 : PySem.W.typeIn K (.ref c9) = some (.type "type"))
    (C10 : Cl K mg "InvalidSize" c10) (ty10 : PySem.W.typeIn K (.ref c10) = some (.type "type"))
    (C11 : Cl K mg "NotNegative" c11) (ty11 : PySem.W.typeIn K (.ref c11) = some (.type "type"))
    (gG : PySem.W.nsIn K mainGlobals "Graph" = some (some (.ref CG)))
    (cl : Cls K CG) (n1 : PySem.W.findIn K (.ref CG) "node_count" = some none) (n2 : PySem.W.findIn K (.ref CG) "joined" = some none) (n3 : PySem.W.findIn K (.ref CG) "near" = some none) (FI : InF K CG "Graph.__init__" s_Graph_init fI eT)
    (gC0 : PySem.W.nsIn K mainGlobals "State" = some (some (.ref CT))) (cl0 : Cls K CT) (nC0_0 : PySem.W.findIn K (.ref CT) "drawn" = some none) (nC0_1 : PySem.W.findIn K (.ref CT) "numbers" = some none) (nC0_2 : PySem.W.findIn K (.ref CT) "points" = some none)
    (FC0 : In0 K CT "State.__init__" s_State_init fI0)
    (gC1 : PySem.W.nsIn K mainGlobals "Board" = some (some (.ref CB))) (cl1 : Cls K CB) (nC1_0 : PySem.W.findIn K (.ref CB) "state" = some none) (nC1_1 : PySem.W.findIn K (.ref CB) "past" = some none)
    (FC1 : InI K CB "Board.__init__" s_Board_init fI1 1)
    (g0 : PySem.W.findIn K (.ref CG) "__class__" = some (some (.builtin "object.__class__")))
    (g1 : PySem.W.specialIn K (.builtin "object.__class__") "__get__" = some (some (.builtin "getset_descriptor.__get__")))
    (g2 : PySem.W.takesIn K (.builtin "object.__class__") = some true)
    (g3 : PySem.W.mroIn K CG (.type "object") = some true)
    (g4 : PySem.W.kitOne K (.ref CG) (.ref CG) = some true)
    (g5 : PySem.W.findIn K (.ref CG) "__ne__" = some (some (.builtin "object.__ne__")))
    (g6 : EmpK K eT)
    (F0 : FnF K mg "is_integer" s_is_integer f0)
    (F1 : FnF K mg "is_integer_within" s_is_integer_within f1)
    (F2 : FnF K mg "is_integer_list" s_is_integer_list f2)
    (F3 : FnF K mg "is_node" s_is_node f3)
    (F4 : FnF K mg "check_node" s_check_node f4)
    (F5 : FnF K mg "check_position" s_check_position f5)
    (F6 : FnF K mg "check_limit" s_check_limit f6)
    (F7 : FnF K mg "check_number" s_check_number f7)
    (F8 : FnF K mg "check_player" s_check_player f8)
    (F9 : FnF K mg "flip_in_place" s_flip_in_place f9)
    (F10 : FnF K mg "is_edge" s_is_edge f10)
    (F11 : FnF K mg "checked_edges" s_checked_edges f11)
    (F12 : FnF K mg "neighbour_lists" s_neighbour_lists f12)
    (F13 : MtF K CG "size" "Graph.size" s_Graph_size f13)
    (F14 : MtF K CG "edges" "Graph.edges" s_Graph_edges f14)
    (F15 : MtF K CG "neighbours" "Graph.neighbours" s_Graph_neighbours f15)
    (F16 : MtF K CG "__eq__" "Graph.__eq__" s_Graph_eq f16)
    (F17 : FnF K mg "fire_node" s_fire_node f17)
    (F18 : FnF K mg "put_number" s_put_number f18)
    (F19 : FnF K mg "append_node" s_append_node f19)
    (F20 : FnF K mg "checked_edge" s_checked_edge f20)
    (F21 : FnF K mg "join_nodes" s_join_nodes f21)
    (F22 : FnF K mg "part_nodes" s_part_nodes f22)
    (F23 : FnF K mg "perform" s_perform f23)
    (F24 : MtF K CB "carry_out" "Board.carry_out" s_Board_carry_out f24)
    (F25 : MtF K CB "fire" "Board.fire" s_Board_fire f25)
    (F26 : MtF K CB "put" "Board.put" s_Board_put f26)
    (F27 : MtF K CB "add_node" "Board.add_node" s_Board_add_node f27)
    (F28 : MtF K CB "add_edge" "Board.add_edge" s_Board_add_edge f28)
    (F29 : MtF K CB "remove_edge" "Board.remove_edge" s_Board_remove_edge f29)
    (F30 : MtF K CB "undo" "Board.undo" s_Board_undo f30)
    (F31 : MtF K CB "play_on" "Board.play_on" s_Board_play_on f31)
    (F32 : MtF K CB "together" "Board.together" s_Board_together f32)
    (F33 : MtF K CB "graph" "Board.graph" s_Board_graph f33)
    (F34 : MtF K CB "position" "Board.position" s_Board_position f34)
    (F35 : MtF K CB "scores" "Board.scores" s_Board_scores f35)
    (F36 : FnF K mg "written" s_written f36)
    (F37 : MtF K CB "log" "Board.log" s_Board_log f37)
    (F38 : FnF K mg "outcome" s_outcome f38)
    (F39 : MtF K CB "remaining" "Board.remaining" s_Board_remaining f39)
    (F40 : FnF K mg "_law_pool" s__law_pool f40)
    (F41 : FnF K mg "_law_take" s__law_take f41)
    (FE : FnF K mg "_law_error" s__law_error fE)
    (FD0 : FnC K mg "_law_made_right" s__law_made_right fD0 cD0 tD0)
    (FD1 : FnC K mg "_law_nodes_right" s__law_nodes_right fD1 cD1 tD1)
    (FD2 : FnC K mg "_law_others_right" s__law_others_right fD2 cD2 tD2)
    (FD3 : FnC K mg "_law_bounds_right" s__law_bounds_right fD3 cD3 tD3)
    (hne0 : tL ≠ tD0)
    (hne1 : tL ≠ tD1)
    (hne2 : tL ≠ tD2)
    (hne3 : tL ≠ tD3)
    (hne_0_1 : tD0 ≠ tD1)
    (hne_0_2 : tD0 ≠ tD2)
    (hne_0_3 : tD0 ≠ tD3)
    (hne_1_2 : tD1 ≠ tD2)
    (hne_1_3 : tD1 ≠ tD3)
    (hne_2_3 : tD2 ≠ tD3)
    (FL : FnC K mg "law" s_law fL cL tL)
    (gA : PySem.W.nsIn K mainGlobals "ACTIONS" = some (some (.ref aA))) (dA : DctF K w aA)
    (kA0 : PySem.W.nsIn K aA "fire" = some (some (.ref f17)))
    (kA1 : PySem.W.nsIn K aA "put" = some (some (.ref f18)))
    (kA2 : PySem.W.nsIn K aA "add_node" = some (some (.ref f19)))
    (kA3 : PySem.W.nsIn K aA "add_edge" = some (some (.ref f21)))
    (kA4 : PySem.W.nsIn K aA "remove_edge" = some (some (.ref f22)))
    (i0 : PySem.W.nsIn K mainGlobals "MOST_NODES" = some (some (.int 16 t0)))
    (i1 : PySem.W.nsIn K mainGlobals "MOST_EDGES" = some (some (.int 40 t1)))
    (i2 : PySem.W.nsIn K mainGlobals "MOST_PLAYERS" = some (some (.int 8 t2)))
    (i3 : PySem.W.nsIn K mainGlobals "MOST_FIRINGS" = some (some (.int 10000 t3)))
    (z0 : PySem.W.nsIn K mainGlobals "isinstance" = some none)
    (z1 : PySem.W.nsIn K mainGlobals "int" = some none)
    (z2 : PySem.W.nsIn K mainGlobals "bool" = some none)
    (z3 : PySem.W.nsIn K mainGlobals "list" = some none)
    (z4 : PySem.W.nsIn K mainGlobals "tuple" = some none)
    (z5 : PySem.W.nsIn K mainGlobals "len" = some none)
    (z6 : PySem.W.nsIn K mainGlobals "all" = some none)
    (z7 : PySem.W.nsIn K mainGlobals "range" = some none)
    (z8 : PySem.W.nsIn K mainGlobals "enumerate" = some none)
    (z9 : PySem.W.nsIn K mainGlobals "min" = some none)
    (z10 : PySem.W.nsIn K mainGlobals "max" = some none)
    (z11 : PySem.W.nsIn K mainGlobals "sorted" = some none)
    (z12 : PySem.W.nsIn K mainGlobals "repr" = some none)
    (z13 : PySem.W.nsIn K mainGlobals "IndexError" = some none)
    (x0 : PySem.W.exmOne K (.ref c0) (.ref c0) = some true)
    (x1 : PySem.W.exmOne K (.ref c1) (.ref c0) = some false)
    (x2 : PySem.W.exmOne K (.ref c1) (.ref c1) = some true)
    (x3 : PySem.W.exmOne K (.ref c2) (.ref c0) = some false)
    (x4 : PySem.W.exmOne K (.ref c2) (.ref c1) = some false)
    (x5 : PySem.W.exmOne K (.ref c2) (.ref c2) = some true)
    (x6 : PySem.W.exmOne K (.ref c3) (.ref c0) = some false)
    (x7 : PySem.W.exmOne K (.ref c3) (.ref c1) = some false)
    (x8 : PySem.W.exmOne K (.ref c3) (.ref c2) = some false)
    (x9 : PySem.W.exmOne K (.ref c3) (.ref c3) = some true)
    (x10 : PySem.W.exmOne K (.ref c4) (.ref c0) = some false)
    (x11 : PySem.W.exmOne K (.ref c4) (.ref c1) = some false)
    (x12 : PySem.W.exmOne K (.ref c4) (.ref c2) = some false)
    (x13 : PySem.W.exmOne K (.ref c4) (.ref c3) = some false)
    (x14 : PySem.W.exmOne K (.ref c4) (.ref c4) = some true)
    (x15 : PySem.W.exmOne K (.ref c4) (.ref c5) = some false)
    (x16 : PySem.W.exmOne K (.ref c4) (.ref c6) = some false)
    (x17 : PySem.W.exmOne K (.ref c5) (.ref c0) = some false)
    (x18 : PySem.W.exmOne K (.ref c5) (.ref c1) = some false)
    (x19 : PySem.W.exmOne K (.ref c5) (.ref c2) = some false)
    (x20 : PySem.W.exmOne K (.ref c5) (.ref c3) = some false)
    (x21 : PySem.W.exmOne K (.ref c5) (.ref c4) = some false)
    (x22 : PySem.W.exmOne K (.ref c5) (.ref c5) = some true)
    (x23 : PySem.W.exmOne K (.ref c5) (.ref c6) = some false)
    (x24 : PySem.W.exmOne K (.ref c6) (.ref c0) = some false)
    (x25 : PySem.W.exmOne K (.ref c6) (.ref c1) = some false)
    (x26 : PySem.W.exmOne K (.ref c6) (.ref c2) = some false)
    (x27 : PySem.W.exmOne K (.ref c6) (.ref c3) = some false)
    (x28 : PySem.W.exmOne K (.ref c6) (.ref c4) = some false)
    (x29 : PySem.W.exmOne K (.ref c6) (.ref c5) = some false)
    (x30 : PySem.W.exmOne K (.ref c6) (.ref c6) = some true)
    (x31 : PySem.W.exmOne K (.ref c7) (.ref c0) = some false)
    (x32 : PySem.W.exmOne K (.ref c7) (.ref c1) = some false)
    (x33 : PySem.W.exmOne K (.ref c7) (.ref c2) = some false)
    (x34 : PySem.W.exmOne K (.ref c7) (.ref c3) = some false)
    (x35 : PySem.W.exmOne K (.ref c7) (.ref c4) = some false)
    (x36 : PySem.W.exmOne K (.ref c7) (.ref c5) = some false)
    (x37 : PySem.W.exmOne K (.ref c7) (.ref c6) = some false)
    (x38 : PySem.W.exmOne K (.ref c7) (.ref c7) = some true)
    (x39 : PySem.W.exmOne K (.ref c8) (.ref c0) = some false)
    (x40 : PySem.W.exmOne K (.ref c8) (.ref c1) = some false)
    (x41 : PySem.W.exmOne K (.ref c8) (.ref c2) = some false)
    (x42 : PySem.W.exmOne K (.ref c8) (.ref c3) = some false)
    (x43 : PySem.W.exmOne K (.ref c8) (.ref c4) = some false)
    (x44 : PySem.W.exmOne K (.ref c8) (.ref c5) = some false)
    (x45 : PySem.W.exmOne K (.ref c8) (.ref c6) = some false)
    (x46 : PySem.W.exmOne K (.ref c8) (.ref c7) = some false)
    (x47 : PySem.W.exmOne K (.ref c8) (.ref c8) = some true)
    (x48 : PySem.W.exmOne K (.ref c9) (.ref c0) = some false)
    (x49 : PySem.W.exmOne K (.ref c9) (.ref c1) = some false)
    (x50 : PySem.W.exmOne K (.ref c9) (.ref c2) = some false)
    (x51 : PySem.W.exmOne K (.ref c9) (.ref c3) = some false)
    (x52 : PySem.W.exmOne K (.ref c9) (.ref c4) = some false)
    (x53 : PySem.W.exmOne K (.ref c9) (.ref c5) = some false)
    (x54 : PySem.W.exmOne K (.ref c9) (.ref c6) = some false)
    (x55 : PySem.W.exmOne K (.ref c9) (.ref c7) = some false)
    (x56 : PySem.W.exmOne K (.ref c9) (.ref c8) = some false)
    (x57 : PySem.W.exmOne K (.ref c9) (.ref c9) = some true)
    : ∃ (fd : FuncData) (cs : List (Addr × Addr)), (∀ p ∈ cs, ∃ y, Door K mg ["law", "_law_made_right", "_law_nodes_right", "_law_others_right", "_law_bounds_right"] y p.1 p.2) ∧ (∀ (s : Shared) (v : Value), BindsTo s fd ⟨[v], []⟩ [("_law_script", v)]) ∧
        (∀ (H : Hp) (a : Addr) (ns : List Int), ns.length ≤ 63 → (∀ p ∈ cs, H p.2 = some (.tbl #[])) → SqL K H a (ns.map V.int) → spLawT K cs [.ref a] H (fun v _ => v = .bl true) fun _ _ _ => False) ∧
        ∀ base : Heap, K.In base → base.Ns mainGlobals mg → (∀ p ∈ cs, LamX.TabB base mg p.1 p.2) → GOk l.prog w K mg base 15 fa fd ["_law_script"] (spLawT K cs) := by
  obtain ⟨gL, ⟨fdL, FL⟩, DL⟩ := FL
  have e := hfa.symm.trans gL
  cases e
  obtain ⟨gE, fdE, FE⟩ := FE
  obtain ⟨gD0, ⟨fdD0, FD0⟩, DD0⟩ := FD0
  obtain ⟨gD1, ⟨fdD1, FD1⟩, DD1⟩ := FD1
  obtain ⟨gD2, ⟨fdD2, FD2⟩, DD2⟩ := FD2
  obtain ⟨gD3, ⟨fdD3, FD3⟩, DD3⟩ := FD3
  refine ⟨fdL, [(cL, tL), (cD0, tD0), (cD1, tD1), (cD2, tD2), (cD3, tD3)], fun p hp => by rcases List.mem_cons.mp hp with rfl | hp; exact ⟨_, DL.more List.mem_cons_self⟩; rcases List.mem_cons.mp hp with rfl | hp; exact ⟨_, DD0.more (List.mem_cons_of_mem _ List.mem_cons_self)⟩; rcases List.mem_cons.mp hp with rfl | hp; exact ⟨_, DD1.more (List.mem_cons_of_mem _ (List.mem_cons_of_mem _ List.mem_cons_self))⟩; rcases List.mem_cons.mp hp with rfl | hp; exact ⟨_, DD2.more (List.mem_cons_of_mem _ (List.mem_cons_of_mem _ (List.mem_cons_of_mem _ List.mem_cons_self)))⟩; rw [List.mem_singleton.mp hp]; exact ⟨_, DD3.more (List.mem_cons_of_mem _ (List.mem_cons_of_mem _ (List.mem_cons_of_mem _ (List.mem_cons_of_mem _ List.mem_cons_self))))⟩, fun s v => ?_, fun H a ns hl hT hS => ⟨a, ns, rfl, hS, hl, hT, fun _ => rfl⟩, fun base KB NB TBs => ?_⟩
  · obtain ⟨oc, od, kV, doc, pm, an, ct, osl, rfl, _, _⟩ := FL.ex
    exact .of_eq rfl
  have TB := TBs (cL, tL) List.mem_cons_self
  have TD0 := TBs (cD0, tD0) (List.mem_cons_of_mem _ List.mem_cons_self)
  have TD1 := TBs (cD1, tD1) (List.mem_cons_of_mem _ (List.mem_cons_of_mem _ List.mem_cons_self))
  have TD2 := TBs (cD2, tD2) (List.mem_cons_of_mem _ (List.mem_cons_of_mem _ (List.mem_cons_of_mem _ List.mem_cons_self)))
  have TD3 := TBs (cD3, tD3) (List.mem_cons_of_mem _ (List.mem_cons_of_mem _ (List.mem_cons_of_mem _ (List.mem_cons_of_mem _ List.mem_cons_self))))
  have bE : L2.Binds K fdE ["_law_door"] [] := FE.binds (fun _ _ _ _ _ _ us hl => match us, hl with | [_], _ => rfl)
  have no : ∀ {x : Str}, PySem.W.nsIn K mainGlobals x = some none → mg x = none := fun z => PySem.W.mg_none_of X G z
  have M : Nms mg := {isi := no z0, int := no z1, bool := no z2, list := no z3, tuple := no z4, len := no z5, all := no z6, range := no z7, enumerate := no z8, min := no z9, max := no z10, sorted := no z11, repr := no z12 }
  have n_IndexError : mg "IndexError" = none := no z13
  have i_MOST_NODES := PySem.W.mg_of X G i0
  have i_MOST_EDGES := PySem.W.mg_of X G i1
  have i_MOST_PLAYERS := PySem.W.mg_of X G i2
  have i_MOST_FIRINGS := PySem.W.mg_of X G i3
  have T : GTxt K mg CG := ⟨cl, n1, n2, n3, PySem.W.mg_of X G gG⟩
  have S : STxt K mg CT := ⟨cl0, nC0_0, nC0_1, nC0_2, PySem.W.mg_of X G gC0⟩
  have B : BTxt K mg CB := ⟨cl1, nC1_0, nC1_1, PySem.W.mg_of X G gC1⟩
  have mA := PySem.W.mg_of X G gA
  have EP : Ex l.prog w K mg base "InvalidPosition" c0 := C0.ex
  have EPs : Ex l.prog w K mg base "InvalidPlayers" c1 := C1.ex
  have EN : Ex l.prog w K mg base "InvalidNode" c2 := C2.ex
  have EU : Ex l.prog w K mg base "InvalidNumber" c3 := C3.ex
  have EE : Ex l.prog w K mg base "InvalidEdge" c4 := C4.ex
  have ELi : Ex l.prog w K mg base "InvalidLimit" c5 := C5.ex
  have EO : Ex l.prog w K mg base "InvalidOperation" c6 := C6.ex
  have EL : Ex l.prog w K mg base "NoPlayer" c7 := C7.ex
  have EM : Ex l.prog w K mg base "TooMany" c8 := C8.ex
  have EX : Ex0 l.prog w K mg base "NothingToUndo" c9 := C9.ex n_IndexError
  have ES : Ex l.prog w K mg base "InvalidSize" c10 := C10.ex
  have EG : Ex l.prog w K mg base "NotNegative" c11 := C11.ex

  have a_is_integer : At l.prog w K mg base CX0 1 "is_integer" ["thing"] (spIsInteger K) := at_of F0 (fun fd F => ok_is_integer F M) (fun _ _ _ _ _ _ us hl => match us, hl with | [_], _ => rfl)
  have a_is_integer_within : At l.prog w K mg base CX0 2 "is_integer_within" ["thing", "low", "high"] (spWithin K) := at_of F1 (fun fd F => ok_within F a_is_integer) (fun _ _ _ _ _ _ us hl => match us, hl with | [_, _, _], _ => rfl)
  have a_is_integer_list : At l.prog w K mg base CX0 2 "is_integer_list" ["thing", "length"] (spIntList K) := at_of F2 (fun fd F => ok_int_list F M a_is_integer) (fun _ _ _ _ _ _ us hl => match us, hl with | [_, _], _ => rfl)
  have a_is_node : At l.prog w K mg base CX0 3 "is_node" ["size", "thing"] (spIsNode K) := at_of F3 (fun fd F => ok_is_node F a_is_integer_within) (fun _ _ _ _ _ _ us hl => match us, hl with | [_, _], _ => rfl)
  have a_check_node : At l.prog w K mg base (L2.CX l.prog w) 4 "check_node" ["size", "node"] (spCheckNodeY K c2) := at_of F4 (fun fd F => ok_check_nodeY F EN ty2 a_is_node) (fun _ _ _ _ _ _ us hl => match us, hl with | [_, _], _ => rfl)
  have a_check_position : At l.prog w K mg base (L2.CX l.prog w) 3 "check_position" ["size", "position"] (spCheckPos K c0) := at_of F5 (fun fd F => ok_check_position F EP ty0 a_is_integer_list) (fun _ _ _ _ _ _ us hl => match us, hl with | [_, _], _ => rfl)
  have a_check_limit : At l.prog w K mg base (L2.CX l.prog w) 4 "check_limit" ["limit"] (spCheckLim K c5) := at_of F6 (fun fd F => ok_check_limitB F ELi ty5 i_MOST_FIRINGS a_is_integer_within) (fun _ _ _ _ _ _ us hl => match us, hl with | [_], _ => rfl)
  have a_check_number : At l.prog w K mg base (L2.CX l.prog w) 3 "check_number" ["number"] (spCheckNu K c3) := at_of F7 (fun fd F => ok_check_number F EU ty3 a_is_integer) (fun _ _ _ _ _ _ us hl => match us, hl with | [_], _ => rfl)
  have a_check_player : At l.prog w K mg base (L2.CX l.prog w) 4 "check_player" ["count", "player"] (spCheckPl K c7) := at_of F8 (fun fd F => ok_check_player F EL ty7 a_is_integer_within) (fun _ _ _ _ _ _ us hl => match us, hl with | [_, _], _ => rfl)
  have a_flip_in_place : At l.prog w K mg base CX0 1 "flip_in_place" ["numbers", "node", "near"] spFlip := at_of F9 (fun fd F => ok_flip F) (fun _ _ _ _ _ _ us hl => match us, hl with | [_, _, _], _ => rfl)
  have a_is_edge : At l.prog w K mg base CX0 4 "is_edge" ["size", "thing"] (spIsEdgeD K) := at_of F10 (fun fd F => ok_is_edgeD F M a_is_node) (fun _ _ _ _ _ _ us hl => match us, hl with | [_, _], _ => rfl)
  have a_checked_edges : At l.prog w K mg base (L2.CX l.prog w) 5 "checked_edges" ["size", "edges"] (spEdges01 K c4) := at_of F11 (fun fd F => ok_checked01 F M EE ty4 a_is_edge) (fun _ _ _ _ _ _ us hl => match us, hl with | [_, _], _ => rfl)
  have a_checked_edgesE : At l.prog w K mg base (L2.CX l.prog w) 5 "checked_edges" ["size", "edges"] (spEdgesE K) := at_of F11 (fun fd F => ok_checkedE F M) (fun _ _ _ _ _ _ us hl => match us, hl with | [_, _], _ => rfl)
  have a_neighbour_lists : At l.prog w K mg base CX0 1 "neighbour_lists" ["size", "edges"] (spNear K) := at_of F12 (fun fd F => ok_near F M) (fun _ _ _ _ _ _ us hl => match us, hl with | [_, _], _ => rfl)
  have a_size : MAt l.prog w K mg base CG CX0 1 "size" ["self"] (spSizeE CG) := mat_of F13 (fun fd F => ok_gsizeE F T) (fun _ _ _ _ _ _ us hl => match us, hl with | [_], _ => rfl)
  have a_edges : MAt l.prog w K mg base CG CX0 1 "edges" ["self"] (spEdgesOf CG) := mat_of F14 (fun fd F => ok_gedges F T M) (fun _ _ _ _ _ _ us hl => match us, hl with | [_], _ => rfl)
  have a_neighbours : MAt l.prog w K mg base CG (L2.CX l.prog w) 5 "neighbours" ["self", "node"] (spNb K CG c2) := mat_of F15 (fun fd F => ok_nbY F T M a_check_node) (fun _ _ _ _ _ _ us hl => match us, hl with | [_, _], _ => rfl)
  have a___eq__ : MAt l.prog w K mg base CG CX0 1 "__eq__" ["self", "other"] (spEq (RGraph CG)) := mat_of F16 (fun fd F => ok_geq71 F T M ⟨cl, g0, g1, g2, g3, g4⟩) (fun _ _ _ _ _ _ us hl => match us, hl with | [_, _], _ => rfl)
  obtain ⟨MK, fdI, FI⟩ := FI
  have GI := ok_gi01 (P := l.prog) (w := w) (base := base) FI T M i_MOST_NODES i_MOST_EDGES ES ty10 EM ty8 a_is_integer_within a_checked_edges a_neighbour_lists
  have GIE := ok_giE (P := l.prog) (w := w) (base := base) FI T M i_MOST_NODES i_MOST_EDGES a_is_integer_within a_checked_edgesE a_neighbour_lists
  have bI : L2.Binds K fdI ["self", "size", "edges"] [] := by
    obtain ⟨ds, hd, hb⟩ := FI.binds1 (ps := ["self", "size", "edges"]) 3 1 (by simp) rfl (fun T kV doc pm an cdv ct us its h1 h2 => match us, its, h1, h2 with | [_, _, _], [_], _, _ => ⟨_, rfl, rfl⟩)
    cases hd
    exact hb
  have bIE : L2.Binds K fdI ["self", "size", "edges"] [.ref eT] := by
    obtain ⟨ds, hd, hb⟩ := FI.binds1 (ps := ["self", "size", "edges"]) 2 0 (by simp) rfl (fun T kV doc pm an cdv ct us its h1 h2 => match us, its, h1, h2 with | [_, _], [_], _, _ => ⟨_, rfl, rfl⟩)
    cases hd with
    | cons r rs =>
      cases rs
      cases r
      exact hb
  obtain ⟨MKS, fdSI, FSI⟩ := FC0
  have GSI := ok_sinit (P := l.prog) (w := w) (base := base) FSI S M
  have bSI : L2.Binds K fdSI ["self", "drawn", "numbers", "points"] [] := FSI.binds (fun _ _ _ _ _ _ us hl => match us, hl with | [_, _, _, _], _ => rfl)
  obtain ⟨MKB, fdBI, FBI⟩ := FC1
  have GBI := ok_binit (P := l.prog) (w := w) (base := base) FBI M T S B i_MOST_PLAYERS a_check_position a_is_integer_within a_size MKS GSI bSI
  have GBb := ok_binitB (P := l.prog) (w := w) (base := base) FBI M T i_MOST_PLAYERS EPs ty1 a_check_position a_is_integer_within a_size
  have bBI : L2.Binds K fdBI ["self", "graph", "position", "players"] [] := by
    obtain ⟨ds, hd, hb⟩ := FBI.binds1 (ps := ["self", "graph", "position", "players"]) 4 1 (by simp) rfl (fun T kV doc pm an cdv ct us its h1 h2 => match us, its, h1, h2 with | [_, _, _, _], [_], _, _ => ⟨_, rfl, rfl⟩)
    cases hd
    exact hb
  obtain ⟨tB1, bBD⟩ : ∃ t1 : Tok, L2.Binds K fdBI ["self", "graph", "position", "players"] [.int 1 t1] := by
    obtain ⟨ds, hd, hb⟩ := FBI.binds1 (ps := ["self", "graph", "position", "players"]) 3 0 (by simp) rfl (fun T kV doc pm an cdv ct us its h1 h2 => match us, its, h1, h2 with | [_, _, _], [_], _, _ => ⟨_, rfl, rfl⟩)
    cases hd with
    | cons r rs =>
      cases rs
      obtain ⟨t1, rfl⟩ := r
      exact ⟨t1, hb⟩
  have a_fire_node : At l.prog w K mg base (L2.CX l.prog w) 8 "fire_node" ["state", "player", "node"] (spAct CG CT c7 c11 c4 c8 isFire) := at_of F17 (fun fd F => ok_fire_node F M T S EG ty11 a_check_player a_check_node a_size a_neighbours a_flip_in_place) (fun _ _ _ _ _ _ us hl => match us, hl with | [_, _, _], _ => rfl)
  have a_fire_nodeB : At l.prog w K mg base (L2.CX l.prog w) 8 "fire_node" ["state", "player", "node"] (spABad K CG CT c7 c2 c3 "fire") := at_of F17 (fun fd F => ok_fire_nodeB F M T S EG ty11 a_check_player a_check_node a_size a_neighbours a_flip_in_place) (fun _ _ _ _ _ _ us hl => match us, hl with | [_, _, _], _ => rfl)
  have a_put_number : At l.prog w K mg base (L2.CX l.prog w) 8 "put_number" ["state", "node", "number"] (spAct CG CT c7 c11 c4 c8 isPut) := at_of F18 (fun fd F => ok_put_number F M T S a_check_number a_check_node a_size) (fun _ _ _ _ _ _ us hl => match us, hl with | [_, _, _], _ => rfl)
  have a_put_numberB : At l.prog w K mg base (L2.CX l.prog w) 8 "put_number" ["state", "node", "number"] (spABad K CG CT c7 c2 c3 "put") := at_of F18 (fun fd F => ok_put_numberB F M T S a_check_number a_check_node a_size) (fun _ _ _ _ _ _ us hl => match us, hl with | [_, _, _], _ => rfl)
  have a_append_node : At l.prog w K mg base (L2.CX l.prog w) 8 "append_node" ["state", "number"] (spAct CG CT c7 c11 c4 c8 isAdd) := at_of F19 (fun fd F => ok_append_node F M T S i_MOST_NODES EM ty8 a_check_number a_size a_edges MK GI bI) (fun _ _ _ _ _ _ us hl => match us, hl with | [_, _], _ => rfl)
  have a_append_nodeB : At l.prog w K mg base (L2.CX l.prog w) 8 "append_node" ["state", "number"] (spABad K CG CT c7 c2 c3 "add_node") := at_of F19 (fun fd F => ok_append_nodeB F M T S i_MOST_NODES EM ty8 a_check_number a_size a_edges MK GI bI) (fun _ _ _ _ _ _ us hl => match us, hl with | [_, _], _ => rfl)
  have a_checked_edge : At l.prog w K mg base (L2.CX l.prog w) 6 "checked_edge" ["state", "one", "two"] (spCe CG CT) := at_of F20 (fun fd F => ok_checked_edge F M T S a_check_node a_size) (fun _ _ _ _ _ _ us hl => match us, hl with | [_, _, _], _ => rfl)
  have a_checked_edgeB : At l.prog w K mg base (L2.CX l.prog w) 6 "checked_edge" ["state", "one", "two"] (spCeBad K CG CT c2) := at_of F20 (fun fd F => ok_checked_edgeB F M T S a_check_node a_size) (fun _ _ _ _ _ _ us hl => match us, hl with | [_, _, _], _ => rfl)
  have a_join_nodes : At l.prog w K mg base (L2.CX l.prog w) 8 "join_nodes" ["state", "one", "two"] (spAct CG CT c7 c11 c4 c8 isJoin) := at_of F21 (fun fd F => ok_join_nodes F M T S EE ty4 a_checked_edge a_size a_edges MK GI bI) (fun _ _ _ _ _ _ us hl => match us, hl with | [_, _, _], _ => rfl)
  have a_join_nodesB : At l.prog w K mg base (L2.CX l.prog w) 8 "join_nodes" ["state", "one", "two"] (spABad K CG CT c7 c2 c3 "add_edge") := at_of F21 (fun fd F => ok_join_nodesB F M T S EE ty4 a_checked_edgeB a_size a_edges MK GI bI) (fun _ _ _ _ _ _ us hl => match us, hl with | [_, _, _], _ => rfl)
  have a_part_nodes : At l.prog w K mg base (L2.CX l.prog w) 8 "part_nodes" ["state", "one", "two"] (spAct CG CT c7 c11 c4 c8 isPart) := at_of F22 (fun fd F => ok_part_nodes F M T S EE ty4 a_checked_edge a_size a_edges MK GI bI) (fun _ _ _ _ _ _ us hl => match us, hl with | [_, _, _], _ => rfl)
  have a_part_nodesB : At l.prog w K mg base (L2.CX l.prog w) 8 "part_nodes" ["state", "one", "two"] (spABad K CG CT c7 c2 c3 "remove_edge") := at_of F22 (fun fd F => ok_part_nodesB F M T S EE ty4 a_checked_edgeB a_size a_edges MK GI bI) (fun _ _ _ _ _ _ us hl => match us, hl with | [_, _, _], _ => rfl)
  have a_perform : At l.prog w K mg base (L2.CX l.prog w) 9 "perform" ["state", "operation"] (spPerform CG CT c7 c11 c4 c8) := at_of F23 (fun fd F => ok_perform F KB mA (dA.at kA0) (dA.at kA1) (dA.at kA2) (dA.at kA3) (dA.at kA4) F17.1 F18.1 F19.1 F21.1 F22.1 a_fire_node a_put_number a_append_node a_join_nodes a_part_nodes) (fun _ _ _ _ _ _ us hl => match us, hl with | [_, _], _ => rfl)
  have a_performB : At l.prog w K mg base (L2.CX l.prog w) 9 "perform" ["state", "operation"] (spPBad K CG CT c7 c2 c3) := at_of F23 (fun fd F => ok_performB F KB mA (dA.at kA0) (dA.at kA1) (dA.at kA2) (dA.at kA3) (dA.at kA4) F17.1 F18.1 F19.1 F21.1 F22.1 a_fire_nodeB a_put_numberB a_append_nodeB a_join_nodesB a_part_nodesB) (fun _ _ _ _ _ _ us hl => match us, hl with | [_, _], _ => rfl)
  have a_Board_carry_out : MAt l.prog w K mg base CB (L2.CX l.prog w) 10 "carry_out" ["self", "operation"] (spCarry CG CT CB c7 c11 c4 c8 isFive byTup) := mat_of F24 (fun fd F => ok_carry F B a_perform) (fun _ _ _ _ _ _ us hl => match us, hl with | [_, _], _ => rfl)
  have a_carryB : MAt l.prog w K mg base CB (L2.CX l.prog w) 10 "carry_out" ["self", "operation"] (spCBad K CG CT CB c7 c2 c3) := mat_of F24 (fun fd F => ok_carryB F B a_performB) (fun _ _ _ _ _ _ us hl => match us, hl with | [_, _], _ => rfl)
  have a_Board_fire : MAt l.prog w K mg base CB (L2.CX l.prog w) 11 "fire" ["self", "player", "node"] (spMBad K CG CT CB c7 c2 c3 "fire") := mat_of F25 (fun fd F => ok_bfireB F B a_carryB) (fun _ _ _ _ _ _ us hl => match us, hl with | [_, _, _], _ => rfl)
  have a_Board_put : MAt l.prog w K mg base CB (L2.CX l.prog w) 11 "put" ["self", "node", "number"] (spMBad K CG CT CB c7 c2 c3 "put") := mat_of F26 (fun fd F => ok_bputB F B a_carryB) (fun _ _ _ _ _ _ us hl => match us, hl with | [_, _, _], _ => rfl)
  have a_Board_add_node : MAt l.prog w K mg base CB (L2.CX l.prog w) 11 "add_node" ["self", "number"] (spCarry CG CT CB c7 c11 c4 c8 isAdd byArgs) := mat_of F27 (fun fd F => ok_badd_node F B a_Board_carry_out) (fun _ _ _ _ _ _ us hl => match us, hl with | [_, _], _ => rfl)
  have a_add_nodeB : MAt l.prog w K mg base CB (L2.CX l.prog w) 11 "add_node" ["self", "number"] (spMBad K CG CT CB c7 c2 c3 "add_node") := mat_of F27 (fun fd F => ok_badd_nodeB F B a_carryB) (fun _ _ _ _ _ _ us hl => match us, hl with | [_, _], _ => rfl)
  have a_Board_add_edge : MAt l.prog w K mg base CB (L2.CX l.prog w) 11 "add_edge" ["self", "one", "two"] (spCarry CG CT CB c7 c11 c4 c8 isJoin byArgs) := mat_of F28 (fun fd F => ok_badd_edge F B a_Board_carry_out) (fun _ _ _ _ _ _ us hl => match us, hl with | [_, _, _], _ => rfl)
  have a_add_edgeB : MAt l.prog w K mg base CB (L2.CX l.prog w) 11 "add_edge" ["self", "one", "two"] (spMBad K CG CT CB c7 c2 c3 "add_edge") := mat_of F28 (fun fd F => ok_badd_edgeB F B a_carryB) (fun _ _ _ _ _ _ us hl => match us, hl with | [_, _, _], _ => rfl)
  have a_Board_remove_edge : MAt l.prog w K mg base CB (L2.CX l.prog w) 11 "remove_edge" ["self", "one", "two"] (spCarry CG CT CB c7 c11 c4 c8 isPart byArgs) := mat_of F29 (fun fd F => ok_bremove_edge F B a_Board_carry_out) (fun _ _ _ _ _ _ us hl => match us, hl with | [_, _, _], _ => rfl)
  have a_remove_edgeB : MAt l.prog w K mg base CB (L2.CX l.prog w) 11 "remove_edge" ["self", "one", "two"] (spMBad K CG CT CB c7 c2 c3 "remove_edge") := mat_of F29 (fun fd F => ok_bremove_edgeB F B a_carryB) (fun _ _ _ _ _ _ us hl => match us, hl with | [_, _, _], _ => rfl)
  have a_Board_undo : MAt l.prog w K mg base CB (L2.CX l.prog w) 4 "undo" ["self"] (spUndoB CG CT CB c9) := mat_of F30 (fun fd F => ok_undoB F B EX ty9) (fun _ _ _ _ _ _ us hl => match us, hl with | [_], _ => rfl)
  have a_Board_play_on : MAt l.prog w K mg base CB (L2.CX l.prog w) 6 "play_on" ["self", "player", "limit"] (spPlayB K CG CT CB c7 c5) := mat_of F31 (fun fd F => ok_playB F M S B a_check_player a_check_limit) (fun _ _ _ _ _ _ us hl => match us, hl with | [_, _, _], _ => rfl)
  have a_Board_together : MAt l.prog w K mg base CB (L2.CX l.prog w) 4 "together" ["self", "operations"] (spTogB K CG CT CB c6) := mat_of F32 (fun fd F => ok_togB F M EO ty6) (fun _ _ _ _ _ _ us hl => match us, hl with | [_, _], _ => rfl)
  have a_Board_graph : MAt l.prog w K mg base CB CX0 1 "graph" ["self"] (spBoardGr CG CT CB) := mat_of F33 (fun fd F => ok_bgraph F S B) (fun _ _ _ _ _ _ us hl => match us, hl with | [_], _ => rfl)
  have a_Board_position : MAt l.prog w K mg base CB CX0 1 "position" ["self"] (spBoardPos CG CT CB) := mat_of F34 (fun fd F => ok_bpos F M S B) (fun _ _ _ _ _ _ us hl => match us, hl with | [_], _ => rfl)
  have a_Board_scores : MAt l.prog w K mg base CB CX0 1 "scores" ["self"] (spBoardSco CG CT CB) := mat_of F35 (fun fd F => ok_bsco F M S B) (fun _ _ _ _ _ _ us hl => match us, hl with | [_], _ => rfl)
  have a_written : At l.prog w K mg base CX0 1 "written" ["operation"] (spWritten K) := at_of F36 (fun fd F => ok_written F M) (fun _ _ _ _ _ _ us hl => match us, hl with | [_], _ => rfl)
  have a_Board_log : MAt l.prog w K mg base CB CX0 2 "log" ["self"] (spBoardLog CG CT CB) := mat_of F37 (fun fd F => ok_blog F B a_written) (fun _ _ _ _ _ _ us hl => match us, hl with | [_], _ => rfl)
  obtain ⟨gO, fdO, FO⟩ := F38
  have GO := ok_outB (P := l.prog) (w := w) (base := base) (CG := CG) (CL := c5) (funD_of FO) M T a_check_position a_check_limit a_size
  have bO : KBinds K fdO ["graph", "position", "limit"] ["limit"] (kwN 2) (kwN 2) := by
    obtain ⟨oc, od, kV, doc, pm, an, cdv, ct, osl, rfl, _, _⟩ := FO.ex
    exact kbN rfl (fun s us v h => match us, h with | [_, _], _ => .of_eq rfl)
  obtain ⟨mR, fdR, FR⟩ := F39
  have GR := ok_remB (P := l.prog) (w := w) (base := base) (CG := CG) (CL := c5) (funD_of FR) S B GO gO FO.kp bO
  have bR : KBinds K fdR ["self", "limit"] ["limit"] (kwN 1) (kwN 1) := by
    obtain ⟨oc, od, kV, doc, pm, an, cdv, ct, osl, rfl, _, _⟩ := FR.ex
    exact kbN rfl (fun s us v h => match us, h with | [_], _ => .of_eq rfl)
  obtain ⟨fQ, fdQ, GQ, mQ, bQ⟩ := a___eq__
  have D10 : Ex10 l.prog w K mg base c0 c1 c2 c3 c4 c5 c6 c7 c8 c9 := ⟨EP, EPs, EN, EU, EE, ELi, EO, EL, EM, EX⟩
  have X10 : Exm10 K c0 c1 c2 c3 c4 c5 c6 c7 c8 c9 := ⟨x0, x1, x2, x3, x4, x5, x6, x7, x8, x9, x10, x11, x12, x13, x14, x15, x16, x17, x18, x19, x20, x21, x22, x23, x24, x25, x26, x27, x28, x29, x30, x31, x32, x33, x34, x35, x36, x37, x38, x39, x40, x41, x42, x43, x44, x45, x46, x47, x48, x49, x50, x51, x52, x53, x54, x55, x56, x57⟩
  have N5 : Ne5 tD0 tD1 tD2 tD3 tL := ⟨hne_0_1, hne_0_2, hne_0_3, hne0.symm, hne_1_2, hne_1_3, hne1.symm, hne_2_3, hne2.symm, hne3.symm⟩
  have a__law_pool : At l.prog w K mg base CX0 1 "_law_pool" ["_law_script", "_law_k"] (spPool K) := at_of F40 (fun fd F => ok_pool F M.len) (fun _ _ _ _ _ _ us hl => match us, hl with | [_, _], _ => rfl)
  have a__law_take : At l.prog w K mg base CX0 1 "_law_take" ["_law_pool_here", "_law_sides"] spTake := at_of F41 (fun fd F => ok_take F) (fun _ _ _ _ _ _ us hl => match us, hl with | [_, _], _ => rfl)
  have a__law_made_right : AtG l.prog w K mg base 14 "_law_made_right" ["_law_graph", "_law_here"] (spMade71 K CG tD0 tD1 tD2 tD3 tL) := ⟨fD0, fdD0, ok_made FD0 M B N5 TD0 FE gE bE D10 X10 a_Board_scores MKB GBI GBb bBI bBD, gD0, FD0.kp, FD0.fn.binds (fun _ _ _ _ _ _ us hl => match us, hl with | [_, _], _ => rfl)⟩
  have a__law_nodes_right : AtG l.prog w K mg base 14 "_law_nodes_right" ["_law_board", "_law_many"] (spNodes71 K CG CT CB tD0 tD1 tD2 tD3 tL) := ⟨fD1, fdD1, ok_nodes FD1 M B N5 TD1 FE gE bE D10 X10 a_Board_fire a_Board_put a_add_edgeB a_remove_edgeB, gD1, FD1.kp, FD1.fn.binds (fun _ _ _ _ _ _ us hl => match us, hl with | [_, _], _ => rfl)⟩
  have a__law_others_right : AtG l.prog w K mg base 14 "_law_others_right" ["_law_board", "_law_many"] (spOthers71 K CG CT CB tD0 tD1 tD2 tD3 tL) := ⟨fD2, fdD2, ok_others FD2 M B N5 TD2 FE gE bE D10 X10 a_Board_fire a_Board_put a_add_nodeB a_Board_play_on GR mR bR a_Board_add_edge a_Board_remove_edge, gD2, FD2.kp, FD2.fn.binds (fun _ _ _ _ _ _ us hl => match us, hl with | [_, _], _ => rfl)⟩
  have a__law_bounds_right : AtG l.prog w K mg base 14 "_law_bounds_right" [] (spBounds71 K tD0 tD1 tD2 tD3 tL) := ⟨fD3, fdD3, ok_bounds FD3 M T B N5 TD3 FE gE bE D10 X10 a_Board_add_node a_Board_add_edge a_Board_log MKB GBI bBD MK GI bI GIE bIE g6, gD3, FD3.kp, FD3.fn.binds (fun _ _ _ _ _ _ us hl => match us, hl with | [], _ => rfl)⟩
  exact ok_law FL M T B N5 TB FE gE bE D10 X10 a__law_pool a__law_take a__law_bounds_right a__law_made_right a__law_nodes_right a__law_others_right a_Board_undo a_Board_together a_Board_position a_Board_scores a_Board_log a_Board_graph GQ mQ bQ g5 g3 MKB GBI bBI MK GI bI
end K71
set_option Elab.async false
set_option linter.all false
set_option maxRecDepth 100000
set_option maxHeartbeats 8000000
namespace FNX
open PySem PySem.Spec PyProof.Rows L2 He
/-- tests over what the head leaves -/
abbrev Ts : Type := List (PySem.W.Frag → Bool)
def allT (ts : Ts) (K : PySem.W.Frag) : Bool := ts.all fun b => b K
theorem allT_at {ts : Ts} {K : PySem.W.Frag} (h : allT ts K = true) (i : Nat) {b : PySem.W.Frag → Bool} (e : ts[i]? = some b := by rfl) : b K = true := List.all_eq_true.mp h b (List.mem_of_getElem? e)
section
variable {K : PySem.W.Frag} {h : Heap} {mg : Str → Option Value} {fa : List Fa} {fn : List DefD} {x qual m : Str} {st : Stmt}
theorem FunD.plain {f : Addr} {fd : FuncData} (F : FunD K x qual (defArgs st) (defBody st) (defScope st) [] [] f fd) : Fun K x qual st f fd := by
  obtain ⟨oc, od, dV, kV, doc, pm, an, cdv, ct, osl, h1, h2, h3, h4, _⟩ := F.ex
  rcases h4 with ⟨_, rfl⟩ | ⟨n, _⟩
  · exact ⟨⟨oc, od, kV, doc, pm, an, cdv, ct, osl, h1, h2, h3⟩, F.kp⟩
  · exact absurd rfl n
/-- a def, as a datum -/
abbrev dF (x : Str) (st : Stmt) : DefD := ⟨(x, none), x, x, defArgs st, defBody st, defScope st, [], []⟩
abbrev dM (C m qual : Str) (st : Stmt) : DefD := ⟨(C, some m), m, qual, defArgs st, defBody st, defScope st, [], []⟩
abbrev dMd (C m qual : Str) (st : Stmt) (ds : List Dv) : DefD := ⟨(C, some m), m, qual, defArgs st, defBody st, defScope st, ds, []⟩
theorem xF (X : K.In h) (G : h.Ns mainGlobals mg) (c : SaysD fa fn K) (i j : Nat) (hi : fa[i]? = some (.glo x)) (hj : fn[j]? = some (dF x st)) : FnF K mg x st (ga K x) := by
  obtain ⟨fd, F⟩ := c.def_ j hj
  exact ⟨glo_ok X G (c.fact i hi), fd, FunD.plain F⟩
theorem xM {C : Str} (c : SaysD fa fn K) (i j : Nat) (hi : fa[i]? = some (.meth C m)) (hj : fn[j]? = some (dM C m qual st)) : MtF K (ga K C) m qual st (ma K (ga K C) m) := by
  obtain ⟨fd, F⟩ := c.def_ j hj
  exact ⟨meth_ok (c.fact i hi), fd, FunD.plain F⟩
theorem xIn0 {C : Str} (c : SaysD fa fn K) (i j : Nat) (hi : fa[i]? = some (.mkr C)) (hj : fn[j]? = some (dM C "__init__" qual st)) : In0 K (ga K C) qual st (ma K (ga K C) "__init__") := by
  obtain ⟨fd, F⟩ := c.def_ j hj
  exact ⟨mkr_ok (c.fact i hi), fd, FunD.plain F⟩
theorem xInI {C : Str} {z : Int} (c : SaysD fa fn K) (i j : Nat) (hi : fa[i]? = some (.mkr C)) (hj : fn[j]? = some (dMd C "__init__" qual st [.int z])) : InI K (ga K C) qual st (ma K (ga K C) "__init__") z := by
  obtain ⟨fd, F⟩ := c.def_ j hj
  exact ⟨mkr_ok (c.fact i hi), fd, F⟩
theorem xInF {C : Str} (c : SaysD fa fn K) (i j : Nat) (hi : fa[i]? = some (.mkr C)) (hj : fn[j]? = some (dMd C "__init__" qual st [.adr (dflAt (C, some "__init__") 0)])) :
    InF K (ga K C) qual st (ma K (ga K C) "__init__") (dflAt (C, some "__init__") 0 K) := by
  obtain ⟨fd, F⟩ := c.def_ j hj
  exact ⟨mkr_ok (c.fact i hi), fd, F⟩
theorem xFC (X : K.In h) (G : h.Ns mainGlobals mg) (c : SaysD fa fn K) (i j : Nat) (hi : fa[i]? = some (.glo x)) (hj : fn[j]? = some (dF x st)) (hd : PySem.W.codeHdIn K (cT K (x, none)).1 (cT K (x, none)).2 = true) (no : K.lookup (cT K (x, none)).2 = none)
    (ne : (cT K (x, none)).2 ≠ 0) : FnC K mg x st (ga K x) (cT K (x, none)).1 (cT K (x, none)).2 := by
  obtain ⟨fd, F⟩ := c.def_ j hj
  have g := glo_ok X G (c.fact i hi)
  obtain ⟨oc, od, dV, kV, doc, pm, an, cdv, ct, osl, h1, h2, h3, h4, _⟩ := F.ex
  obtain ⟨cd, rfl⟩ := codeIn_ref h3
  have e : codeOf K (x, none) = cd := codeOf_eq (p := (x, none)) h2 (by rw [h1])
  rcases h4 with ⟨_, rfl⟩ | ⟨n, _⟩
  case inr => exact absurd rfl n
  have e1 : (cT K (x, none)).1 = cd := e
  have e2 : (cT K (x, none)).2 = tabOf K cd := by show tabOf K (codeOf K (x, none)) = _; rw [e]
  rw [e1] at hd ⊢
  refine ⟨g, ⟨fd, ⟨oc, od, kV, doc, pm, an, ct, osl, h1, h2, h3⟩, F.kp⟩, List.mem_singleton.mpr rfl, ?_, hd, no⟩
  rw [e2] at ne ⊢
  unfold tabOf at ne ⊢
  cases q : K.lookup cd with
  | none => rw [q] at ne; exact absurd rfl ne
  | some o =>
    obtain ⟨oc', od', dt, osl'⟩ := o
    rw [q] at ne
    cases dt with
    | fields vs =>
      dsimp only at ne ⊢
      cases z : vs.getD 11 .none with
      | ref P =>
        refine ⟨_, _, fd, oc', od', vs, osl', g, h2, rfl, by rw [h1], rfl, ?_⟩
        rw [Array.getD_eq_getD_getElem?] at z
        cases y : vs[11]? with
        | none => rw [y] at z; cases z
        | some v => rw [y] at z; exact congrArg some z
      | _ => rw [z] at ne; exact absurd rfl ne
    | _ => exact absurd rfl ne
def okVal : List Value → Bool
  | [.ref _, .type a, .type b, .type c, .type d] => a == "ValueError" && (b == "Exception" && (c == "BaseException" && d == "object"))
  | _ => false
theorem okVal_chain {bm : List Value} (h : okVal bm = true) : Chain "ValueError" bm := by
  unfold okVal at h
  split at h
  · simp only [Bool.and_eq_true, beq_iff_eq] at h
    obtain ⟨rfl, rfl, rfl, rfl⟩ := h
    exact chainVal
  · cases h
def okTys : List String → List Value → Bool
  | [], [] => true
  | t :: ts, .type a :: bm => a == t && okTys ts bm
  | _, _ => false
theorem okTys_eq : ∀ {ts : List String} {bm : List Value}, okTys ts bm = true → bm = ts.map Value.type
  | [], [], _ => rfl
  | t :: ts, .type a :: bm, h => by
    unfold okTys at h
    simp only [Bool.and_eq_true, beq_iff_eq] at h
    rw [h.1, okTys_eq h.2]
    rfl
def xcB (ok : List Value → Bool) (newId : String) (K : PySem.W.Frag) (C : Addr) : Bool := match K.lookup C with
  | some ⟨.type t, _, .cls cd, sl⟩ => (match cd.mro, sl.toList with
    | .ref C' :: bm, [_, _, _, _, some (.builtin n), _] => t == "type" && (C' == C && (n == newId && (!cd.hasDel && (cd.hasDict && ok bm))))
    | _, _ => false)
  | _ => false
theorem xc_cls {ok : List Value → Bool} {newId : String} {C : Addr} (q : xcB ok newId K C = true) : ∃ nm qn N bs bm sn sub ab col dd k0 k1 k2 k3 k5, K.lookup C = some (excClassObj nm qn C N bs bm true sn sub ab col dd k0 k1 k2 k3 k5 newId) ∧ ok bm = true := by
  unfold xcB at q
  split at q
  · rename_i t dd cd sl ho
    split at q
    · rename_i C' bm k0 k1 k2 k3 n k5 hm hs
      simp only [Bool.and_eq_true, beq_iff_eq, Bool.not_eq_true'] at q
      obtain ⟨rfl, rfl, rfl, hdel, hdict, hok⟩ := q
      obtain ⟨nm, bs, mro, ns, qn, hd, sn, sub, ab, col, del⟩ := cd
      dsimp only at hm hdel hdict
      subst hm hdel hdict
      have hsl : sl = #[k0, k1, k2, k3, some (.builtin n), k5] := by
        obtain ⟨l⟩ := sl
        simp only at hs
        rw [hs]
      subst hsl
      exact ⟨nm, qn, ns, bs, bm, sn, sub, ab, col, dd, k0, k1, k2, k3, k5, ho, hok⟩
    · cases q
  · cases q
/-- the rest of what is asked of such a class -/
def xrB (K : PySem.W.Frag) (C : Addr) : Bool := decide (PySem.W.findIn K (.ref C) "__setattr__" = some (some (.builtin "object.__setattr__"))) && (decide (PySem.W.findIn K (.ref C) "__getattribute__" = some (some (.builtin "BaseException.__getattribute__"))) &&
  (decide (PySem.W.findIn K (.ref C) "__getattr__" = some none) && (decide (PySem.W.findIn K (.ref C) "value" = some none) && (decide (PySem.W.subIn K (.ref C) (.type "BaseException") = some true) && (PySem.W.keepIn K (.ref C) &&
  (PySem.W.hasDictIn K C && (PySem.W.isClsIn K C && (decide (PySem.W.findIn K (.ref C) "__class__" = some (some (.builtin "object.__class__"))) && (decide (PySem.W.mroIn K C (.type "object") = some true) &&
  (decide (PySem.W.typeIn K (.ref C) = some (.type "type")) && (decide (PySem.W.findIn K (.ref C) "__init__" = some (some (.ref (ma K C "__init__")))) && decide (PySem.W.typeIn K (.ref (ma K C "__init__")) = some (.type "function")))))))))))))
theorem xc_of {B newId initId : String} {bmB : List Value} {ok : List Value → Bool} {C : Addr} (F : ExcBaseFacts B newId initId bmB) (L : ∀ bm, ok bm = true → Chain B bm) (q : xcB ok newId K C = true) (r : xrB K C = true) :
    XC K C ∧ PySem.W.typeIn K (.ref C) = some (.type "type") ∧ PySem.W.findIn K (.ref C) "__init__" = some (some (.ref (ma K C "__init__"))) ∧ PySem.W.typeIn K (.ref (ma K C "__init__")) = some (.type "function") := by
  obtain ⟨nm, qn, N, bs, bm, sn, sub, ab, col, dd, k0, k1, k2, k3, k5, hC, hok⟩ := xc_cls q
  unfold xrB at r
  simp only [Bool.and_eq_true, decide_eq_true_eq] at r
  obtain ⟨r1, r2, r3, r4, r5, r6, r7, r8, r9, r10, r11, r12, r13⟩ := r
  exact ⟨mkXC F (L bm hok) hC r1 r2 r3 r4 r5 r6 r7 r8 r9 r10, r11, r12, r13⟩
theorem xCl {B newId initId : String} {bmB : List Value} {ok : List Value → Bool} (F : ExcBaseFacts B newId initId bmB) (L : ∀ bm, ok bm = true → Chain B bm) (X : K.In h) (G : h.Ns mainGlobals mg) (c : SaysD fa fn K) (i j : Nat)
    (hi : fa[i]? = some (.glo x)) (hj : fn[j]? = some (dM x "__init__" qual st)) (t : InitTxt st) (q : xcB ok newId K (ga K x) = true) (r : xrB K (ga K x) = true) : Cl K mg x (ga K x) := by
  obtain ⟨xc, _, a1, t1⟩ := xc_of F L q r
  obtain ⟨fd, f⟩ := c.def_ j hj
  exact ⟨xc, glo_ok X G (c.fact i hi), st, qual, _, fd, t, a1, t1, FunD.plain f⟩
def lookTys : List String := ["LookupError", "Exception", "BaseException", "object"]
def runTys : List String := ["RuntimeError", "Exception", "BaseException", "object"]
def overTys : List String := ["OverflowError", "ArithmeticError", "Exception", "BaseException", "object"]
theorem chL : ∀ bm, okTys lookTys bm = true → Chain "LookupError" bm := fun bm h => by rw [okTys_eq h]; exact chainLook
theorem chR : ∀ bm, okTys runTys bm = true → Chain "RuntimeError" bm := fun bm h => by rw [okTys_eq h]; exact chainRun
theorem chO : ∀ bm, okTys overTys bm = true → Chain "OverflowError" bm := fun bm h => by rw [okTys_eq h]; exact chainOver
theorem chV : ∀ bm, okVal bm = true → Chain "ValueError" bm := fun bm h => okVal_chain h
def nsTok (K : PySem.W.Frag) (a : Addr) (x : Str) : Tok := match PySem.W.nsIn K a x with
  | some (some (.int _ t)) => t
  | _ => default
def nsIntB (K : PySem.W.Frag) (a : Addr) (x : Str) (v : Int) : Bool := match PySem.W.nsIn K a x with
  | some (some (.int u _)) => decide (u = v)
  | _ => false
theorem nsInt {a : Addr} {v : Int} (q : nsIntB K a x v = true) : PySem.W.nsIn K a x = some (some (.int v (nsTok K a x))) := by
  unfold nsIntB at q
  unfold nsTok
  split at q
  · rename_i u t e
    rw [e, of_decide_eq_true q]
  · cases q
theorem dctX {w : World} {a : Addr} (e : ∃ es n, KDict K w a es n) : DctF K w a := by
  obtain ⟨es, n, D⟩ := e
  exact ⟨es, n, D.at_, D.lit⟩
def ixTys : List String := ["IndexError", "LookupError", "Exception", "BaseException", "object"]
def empB (K : PySem.W.Frag) (e : Addr) : Bool := match K.lookup e with
  | some ⟨.type t, _, .seq its _, _⟩ => t == "tuple" && its.isEmpty
  | _ => false
theorem emp_at {e : Addr} (q : empB K e = true) : ∃ od n sl, K.lookup e = some ⟨.type "tuple", od, .seq #[] n, sl⟩ := by
  unfold empB at q
  split at q
  · rename_i t od its n sl ho
    simp only [Bool.and_eq_true, beq_iff_eq, Array.isEmpty_iff] at q
    obtain ⟨rfl, rfl⟩ := q
    exact ⟨_, _, _, ho⟩
  · cases q
end
section
variable {l : PySem.W.OpenLaw} {n k : Nat} {q : Program} {loose : List Str} {XP : (Str → Option Value) → Heap → Prop} {YP : World → Heap → Prop} {d : DefRec} {x : Str}
theorem walkXK (xs : List Str) (hn : l.most = some n) (hn2 : n ≤ sizeLine) (hdf : d.params.defaults = []) (hr : Room k callerA) (hxs : xs.all (fun y => (recsOf q).any fun e => e.name == y) = true)
    (F : ∀ (w : World) (mg : Str → Option Value) (fa : Addr) (h : Heap), YP w h → h.Ns mainGlobals mg → mg d.name = some (.ref fa) →
      ∃ K : PySem.W.Frag, K.In h ∧ ∃ (fd : FuncData) (cs : List (Addr × Addr)) (sp : Sp), (∀ p ∈ cs, ∃ y, Door K mg xs y p.1 p.2) ∧ (∀ (s : Shared) (u : Value), BindsTo s fd ⟨[u], []⟩ [(x, u)]) ∧
        (∀ (H : Hp) (a : Addr) (ns : List Int), ns.length ≤ n → (∀ p ∈ cs, H p.2 = some (.tbl #[])) → SqL K H a (ns.map V.int) → sp [.ref a] H (fun v _ => v = .bl true) fun _ _ _ => False) ∧
        ∀ base : Heap, K.In base → base.Ns mainGlobals mg → (∀ p ∈ cs, LamX.TabB base mg p.1 p.2) → GOk l.prog w K mg base k fa fd [x] sp) :
    PySem.W.WalkO q loose XP YP l.row.toRowW d [] (fun f vs => PySem.call f vs) := by
  refine Att.attach_call hn hdf fun w s₀ s₁ mg mb fa o pm cd doc a vs ns G Y ho hd hcd hmg hobj hints hlen hg => ?_
  obtain ⟨K, KX, fd, cs, sp, hD, hb, hsp, hF⟩ := F w mg fa _ Y G.T.g hmg
  refine lawCalledT KX G.T.g G.T.b G.T.builtins G.T.nolimit hg (fun p hp => ?_) (fun p hp => ?_) (fun p hp => ?_) G.T.bmain hobj hints (Nat.le_trans hlen hn2) hr hF hb fun H hH hS => hsp H a ns hlen hH hS
  · obtain ⟨y, D⟩ := hD p hp
    obtain ⟨r, hr1, hr2⟩ := List.any_eq_true.mp (List.all_eq_true.mp hxs y D.mem)
    obtain rfl : r.name = y := beq_iff_eq.mp hr2
    obtain ⟨f', o', fd', c', P', t1, t2, t3, t4, _, t6⟩ := G.T.tab r hr1
    obtain ⟨f2, o2, fd2, e2, dd2, us2, sl2, d1, d2, d3, d4, d5, d6⟩ := D.fn
    obtain rfl : f2 = f' := by
      rw [d1] at t1
      injection t1 with t1
      injection t1
    obtain rfl : o2 = o' := Option.some.inj ((KX _ _ d2).symm.trans t2)
    rw [d3] at t3
    injection t3 with t3
    rw [← t3, d4] at t4
    injection t4 with t4
    obtain ⟨⟨o3, v3, g1, _, g3, g4⟩, g5⟩ := t6
    rw [← t4, KX _ _ d5] at g1
    obtain rfl := Option.some.inj g1
    injection g3 with g3
    rw [← g3, d6] at g4
    injection g4 with g4
    injection g4 with g4
    rw [g4]
    exact g5
  · obtain ⟨y, D⟩ := hD p hp
    exact D.no
  · obtain ⟨y, D⟩ := hD p hp
    exact PySem.W.codeHd_of_K KX D.hd
end
end FNX
set_option Elab.async false
set_option linter.all false
set_option maxRecDepth 100000
set_option maxHeartbeats 8000000
namespace FNX
open PySem PySem.Spec PyProof.Rows L2 He
/-- all that K tells is told by L -/
def Le (K L : PySem.W.Frag) : Prop := ∀ a o, K.lookup a = some o → L.lookup a = some o
section
variable {K L : PySem.W.Frag} (le : Le K L)
include le
theorem nsIn_le {a : Addr} {x : Str} {r : Option Value} (h : PySem.W.nsIn K a x = some r) : PySem.W.nsIn L a x = some r := by
  unfold PySem.W.nsIn at h ⊢
  cases e : K.lookup a with
  | none => rw [e] at h; cases h
  | some o => rw [e] at h; rw [le _ _ e]; exact h
theorem ownIn_le {x : Str} {v : Value} {r : Option Value} (h : PySem.W.ownIn K x v = some r) : PySem.W.ownIn L x v = some r := by
  unfold PySem.W.ownIn at h ⊢
  split at h
  · exact h
  · rename_i a
    cases e : K.lookup a with
    | none => rw [e] at h; cases h
    | some o =>
      rw [e] at h
      rw [le _ _ e]
      obtain ⟨oc, od, dt, sl⟩ := o
      cases dt with
      | cls cd => exact nsIn_le le h
      | _ => cases h
  · exact h
theorem alongIn_le {x : Str} : ∀ {l : List Value} {r : Option Value}, PySem.W.alongIn K x l = some r → PySem.W.alongIn L x l = some r
  | [], r, h => h
  | c :: l, r, h => by
    unfold PySem.W.alongIn at h ⊢
    cases e : PySem.W.ownIn K x c with
    | none => rw [e] at h; cases h
    | some y =>
      rw [e] at h
      rw [ownIn_le le e]
      cases y with
      | none => exact alongIn_le h
      | some v => exact h
theorem findIn_le {t : Value} {x : Str} {r : Option Value} (h : PySem.W.findIn K t x = some r) : PySem.W.findIn L t x = some r := by
  unfold PySem.W.findIn at h ⊢
  split at h
  · exact h
  · rename_i a
    cases e : K.lookup a with
    | none => rw [e] at h; cases h
    | some o =>
      rw [e] at h
      rw [le _ _ e]
      obtain ⟨oc, od, dt, sl⟩ := o
      cases dt with
      | cls cd => exact alongIn_le le h
      | _ => cases h
  · cases h
theorem typeIn_le {v t : Value} (h : PySem.W.typeIn K v = some t) : PySem.W.typeIn L v = some t := by
  cases v with
  | ref a =>
    obtain ⟨o, e, q⟩ := Option.map_eq_some_iff.mp h
    exact Option.map_eq_some_iff.mpr ⟨o, le _ _ e, q⟩
  | _ => exact h
theorem specialIn_le {v : Value} {x : Str} {r : Option Value} (h : PySem.W.specialIn K v x = some r) : PySem.W.specialIn L v x = some r := by
  obtain ⟨t, a, b⟩ := Option.bind_eq_some_iff.mp h
  exact Option.bind_eq_some_iff.mpr ⟨t, typeIn_le le a, findIn_le le b⟩
theorem takesIn_le {v : Value} {r : Bool} (h : PySem.W.takesIn K v = some r) : PySem.W.takesIn L v = some r := by
  unfold PySem.W.takesIn at h ⊢
  cases e : PySem.W.specialIn K v "__set__" with
  | none => rw [e] at h; cases h
  | some y =>
    rw [e] at h
    rw [specialIn_le le e]
    cases y with
    | some u => exact h
    | none =>
      obtain ⟨z, hz, q⟩ := Option.map_eq_some_iff.mp h
      exact Option.map_eq_some_iff.mpr ⟨z, specialIn_le le hz, q⟩
theorem clsIn_le {C : Addr} {cd : ClassData} (h : PySem.W.clsIn K C = some cd) : PySem.W.clsIn L C = some cd := by
  unfold PySem.W.clsIn at h ⊢
  cases e : K.lookup C with
  | none => rw [e] at h; cases h
  | some o => rw [e] at h; rw [le _ _ e]; exact h
theorem mroIn_le {C : Addr} {b : Value} {r : Bool} (h : PySem.W.mroIn K C b = some r) : PySem.W.mroIn L C b = some r := by
  obtain ⟨t, a, q⟩ := Option.bind_eq_some_iff.mp h
  exact Option.bind_eq_some_iff.mpr ⟨t, clsIn_le le a, q⟩
theorem subIn_le {t b : Value} {r : Bool} (h : PySem.W.subIn K t b = some r) : PySem.W.subIn L t b = some r := by
  cases t with
  | ref C => exact mroIn_le le h
  | type T => exact h
  | _ => cases h
theorem anyCls_le {C : Addr} {p : ClassData → Bool} (h : (PySem.W.clsIn K C).any p = true) : (PySem.W.clsIn L C).any p = true := by
  cases e : PySem.W.clsIn K C with
  | none => rw [e] at h; cases h
  | some cd => rw [e] at h; rw [clsIn_le le e]; exact h
theorem isCls_le {C : Addr} (h : (PySem.W.clsIn K C).isSome = true) : (PySem.W.clsIn L C).isSome = true := by
  cases e : PySem.W.clsIn K C with
  | none => rw [e] at h; cases h
  | some cd => rw [clsIn_le le e]; rfl
theorem kitCls_le {t c : Value} {r : Bool} (h : PySem.W.kitCls K t c = some r) : PySem.W.kitCls L t c = some r := by
  unfold PySem.W.kitCls at h ⊢
  split at h
  · split at h
    · rename_i C z
      rw [Bool.and_eq_true] at z
      rw [if_pos (by rw [Bool.and_eq_true]; exact ⟨isCls_le le z.1, beq_iff_eq.mpr (typeIn_le le (beq_iff_eq.mp z.2))⟩)]
      exact subIn_le le h
    · cases h
  · split at h
    · rename_i z
      rw [if_pos z]
      exact subIn_le le h
    · cases h
  · cases h
theorem kitOne_le {t c : Value} {r : Bool} (h : PySem.W.kitOne K t c = some r) : PySem.W.kitOne L t c = some r := by
  unfold PySem.W.kitOne at h ⊢
  split at h
  · rename_i z
    rw [if_pos z]
    exact h
  · rename_i z
    rw [if_neg z]
    exact kitCls_le le h
theorem exmOne_le {t c : Value} {r : Bool} (h : PySem.W.exmOne K t c = some r) : PySem.W.exmOne L t c = some r := by
  unfold PySem.W.exmOne at h ⊢
  split at h
  · rename_i z
    rw [if_pos (beq_iff_eq.mpr (subIn_le le (beq_iff_eq.mp z)))]
    exact kitCls_le le h
  · cases h
theorem keepIn_le {v : Value} (h : PySem.W.keepIn K v = true) : PySem.W.keepIn L v = true := by
  unfold PySem.W.keepIn at h ⊢
  split at h
  · rename_i a
    cases e : K.lookup a with
    | none => rw [e] at h; cases h
    | some o =>
      rw [e] at h
      rw [le _ _ e]
      obtain ⟨oc, od, dt, sl⟩ := o
      cases dt with
      | func fd => rfl
      | cls cd => exact beq_iff_eq.mpr (specialIn_le le (beq_iff_eq.mp h))
      | _ => cases h
  · cases h
theorem isFn_le {v : Value} (h : PySem.W.isFn K v = true) : PySem.W.isFn L v = true := beq_iff_eq.mpr (typeIn_le le (beq_iff_eq.mp h))
theorem instIn_le {v b : Value} {r : Bool} (h : PySem.W.instIn K v b = some r) : PySem.W.instIn L v b = some r := by
  obtain ⟨t, a, q⟩ := Option.bind_eq_some_iff.mp h
  exact Option.bind_eq_some_iff.mpr ⟨t, typeIn_le le a, subIn_le le q⟩
theorem makesIn_le {C : Addr} (h : PySem.W.makesIn K C = true) : PySem.W.makesIn L C = true := by
  unfold PySem.W.makesIn at h ⊢
  cases e : K.lookup C with
  | none => rw [e] at h; cases h
  | some o =>
    rw [e] at h
    rw [le _ _ e]
    obtain ⟨oc, od, dt, sl⟩ := o
    cases dt with
    | cls cd =>
      simp only [Bool.and_eq_true, beq_iff_eq] at h ⊢
      obtain ⟨⟨h1, h2⟩, h3⟩ := h
      exact ⟨⟨h1, specialIn_le le h2⟩, instIn_le le h3⟩
    | _ => cases h
theorem codeIn_le {v : Value} {q : Str} (h : PySem.W.codeIn K v q = true) : PySem.W.codeIn L v q = true := by
  unfold PySem.W.codeIn at h ⊢
  split at h
  · rename_i c
    cases e : K.lookup c with
    | none => rw [e] at h; cases h
    | some o => rw [e] at h; rw [le _ _ e]; exact h
  · cases h
theorem codeHdIn_le {c P : Addr} (h : PySem.W.codeHdIn K c P = true) : PySem.W.codeHdIn L c P = true := by
  unfold PySem.W.codeHdIn at h ⊢
  cases e : K.lookup c with
  | none => rw [e] at h; cases h
  | some o => rw [e] at h; rw [le _ _ e]; exact h
theorem ga_le {x : Str} {a : Addr} (h : PySem.W.nsIn K mainGlobals x = some (some (.ref a))) : ga L x = a := by
  unfold ga
  rw [nsIn_le le h]
theorem dflV_le {dV : Value} {dvs : List V} (h : DflV K dV dvs) : DflV L dV dvs := by
  rcases h with h | ⟨n, T, o, its, m, h1, h2, h3, h4⟩
  · exact .inl h
  · exact .inr ⟨n, T, o, its, m, h1, le _ _ h2, h3, h4⟩
theorem kwdV_le {kV : Value} {kws : List (Str × V)} (h : KwdV K kV kws) : KwdV L kV kws := by
  rcases h with h | ⟨D, h1, h2⟩
  · exact .inl h
  · exact .inr ⟨D, h1, fun q hq => by
      obtain ⟨u, a, b⟩ := h2 q hq
      exact ⟨u, nsIn_le le a, b⟩⟩
theorem funD_le {x qual : Str} {ps : Arguments} {body : List Stmt} {sc : Scope} {dvs : List V} {kws : List (Str × V)} {f : Addr} {fd : FuncData} (F : FunD K x qual ps body sc dvs kws f fd) : FunD L x qual ps body sc dvs kws f fd := by
  obtain ⟨oc, od, dV, kV, doc, pm, an, cdv, ct, osl, h1, h2, h3, h4, h5⟩ := F.ex
  exact ⟨⟨oc, od, dV, kV, doc, pm, an, cdv, ct, osl, h1, le _ _ h2, codeIn_le le h3, dflV_le le h4, kwdV_le le h5⟩, keepIn_le le F.kp⟩
theorem fun_le {x qual : Str} {st : Stmt} {f : Addr} {fd : FuncData} (F : Fun K x qual st f fd) : Fun L x qual st f fd := by
  obtain ⟨oc, od, kV, doc, pm, an, cdv, ct, osl, h1, h2, h3⟩ := F.ex
  exact ⟨⟨oc, od, kV, doc, pm, an, cdv, ct, osl, h1, le _ _ h2, codeIn_le le h3⟩, keepIn_le le F.kp⟩
theorem fnF_le {mg : Str → Option Value} {x : Str} {st : Stmt} {f : Addr} (F : FnF K mg x st f) : FnF L mg x st f := ⟨F.1, F.2.choose, fun_le le F.2.choose_spec⟩
theorem meth_le {C : Addr} {m : Str} {f : Addr} (h : Meth K C m f) : Meth L C m f := ⟨findIn_le le h.1, isFn_le le h.2, keepIn_le le h.3⟩
theorem mtF_le {C : Addr} {x qual : Str} {st : Stmt} {f : Addr} (F : MtF K C x qual st f) : MtF L C x qual st f := ⟨meth_le le F.1, F.2.choose, fun_le le F.2.choose_spec⟩
theorem mk_le {C f : Addr} (h : Mk K C f) : Mk L C f := ⟨makesIn_le le h.1, findIn_le le h.2, isFn_le le h.3, keepIn_le le h.4⟩
theorem in0_le {C : Addr} {qual : Str} {st : Stmt} {f : Addr} (F : In0 K C qual st f) : In0 L C qual st f := ⟨mk_le le F.1, F.2.choose, fun_le le F.2.choose_spec⟩
theorem inI_le {C : Addr} {qual : Str} {st : Stmt} {f : Addr} {i : Int} (F : InI K C qual st f i) : InI L C qual st f i := ⟨mk_le le F.1, F.2.choose, funD_le le F.2.choose_spec⟩
theorem inF_le {C : Addr} {qual : Str} {st : Stmt} {f e : Addr} (F : InF K C qual st f e) : InF L C qual st f e := ⟨mk_le le F.1, F.2.choose, funD_le le F.2.choose_spec⟩
theorem cls_le {C : Addr} (h : Cls K C) : Cls L C := by
  obtain ⟨h1, h2, h3, h4⟩ := h
  refine ⟨?_, anyCls_le le h2, anyCls_le le h3, findIn_le le h4⟩
  unfold PySem.W.plainGet at h1 ⊢
  simp only [Bool.and_eq_true, beq_iff_eq] at h1 ⊢
  exact ⟨findIn_le le h1.1, findIn_le le h1.2⟩
theorem xc_le {C : Addr} (h : XC K C) : XC L C := by
  obtain ⟨nm, q, N, bs, bm, sn, sub, ab, col, dd, k0, k1, k2, k3, k5, B, newId, initId, bmB, h1, h2, h3⟩ := h.cls
  exact ⟨⟨nm, q, N, bs, bm, sn, sub, ab, col, dd, k0, k1, k2, k3, k5, B, newId, initId, bmB, le _ _ h1, h2, h3⟩, findIn_le le h.sa, findIn_le le h.ga, findIn_le le h.gg, findIn_le le h.noV, subIn_le le h.exC, keepIn_le le h.kC, anyCls_le le h.hdC, isCls_le le h.ic, findIn_le le h.cC, mroIn_le le h.mC⟩
theorem cl_le {mg : Str → Option Value} {x : Str} {C : Addr} (h : Cl K mg x C) : Cl L mg x C := by
  obtain ⟨st, qual, f, fd, t, h1, h2, F⟩ := h.mkd
  exact ⟨xc_le le h.xc, h.mgC, st, qual, f, fd, t, findIn_le le h1, typeIn_le le h2, fun_le le F⟩
theorem door_le {mg : Str → Option Value} {xs : List Str} {x : Str} {c Pt : Addr} (D : Door K mg xs x c Pt) (no : L.lookup Pt = none) : Door L mg xs x c Pt := by
  obtain ⟨f, o, fd, e, dd, us, sl, d1, d2, d3, d4, d5, d6⟩ := D.fn
  exact ⟨D.mem, ⟨f, o, fd, e, dd, us, sl, d1, le _ _ d2, d3, d4, le _ _ d5, d6⟩, codeHdIn_le le D.hd, no⟩
theorem fnC_le {mg : Str → Option Value} {x : Str} {st : Stmt} {f c Pt : Addr} (F : FnC K mg x st f c Pt) (no : L.lookup Pt = none) : FnC L mg x st f c Pt := by
  obtain ⟨g, ⟨fd, G⟩, D⟩ := F
  obtain ⟨oc, od, kV, doc, pm, an, ct, osl, h1, h2, h3⟩ := G.ex
  exact ⟨g, ⟨fd, ⟨oc, od, kV, doc, pm, an, ct, osl, h1, le _ _ h2, codeIn_le le h3⟩, keepIn_le le G.kp⟩, door_le le D no⟩
theorem dctF_le {w : World} {a : Addr} (D : DctF K w a) : DctF L w a := by
  obtain ⟨es, n, h1, h2⟩ := D.ex
  exact ⟨es, n, le _ _ h1, h2⟩
end
section
variable {K L : PySem.W.Frag} {mg : Str → Option Value} {x C qual m : Str} {st : Stmt} (le : Le K L)
include le
theorem glo_at (e : (Fa.glo x).ok K = true) : PySem.W.nsIn L mainGlobals x = some (some (.ref (ga L x))) := by rw [ga_le le (eqO_ok e)]; exact nsIn_le le (eqO_ok e)
theorem fnF_at (e : (Fa.glo x).ok K = true) (F : FnF K mg x st (ga K x)) : FnF L mg x st (ga L x) := by rw [ga_le le (eqO_ok e)]; exact fnF_le le F
theorem cl_at (e : (Fa.glo x).ok K = true) (F : Cl K mg x (ga K x)) : Cl L mg x (ga L x) := by rw [ga_le le (eqO_ok e)]; exact cl_le le F
theorem cls_at (e : (Fa.glo C).ok K = true) (F : Cls K (ga K C)) : Cls L (ga L C) := by rw [ga_le le (eqO_ok e)]; exact cls_le le F
theorem no_at {a : Str} (e : (Fa.glo C).ok K = true) (F : PySem.W.findIn K (.ref (ga K C)) a = some none) : PySem.W.findIn L (.ref (ga L C)) a = some none := by rw [ga_le le (eqO_ok e)]; exact findIn_le le F
theorem mtF_at {f : Addr} (e : (Fa.glo C).ok K = true) (F : MtF K (ga K C) m qual st f) : MtF L (ga L C) m qual st f := by rw [ga_le le (eqO_ok e)]; exact mtF_le le F
theorem in0_at {f : Addr} (e : (Fa.glo C).ok K = true) (F : In0 K (ga K C) qual st f) : In0 L (ga L C) qual st f := by rw [ga_le le (eqO_ok e)]; exact in0_le le F
theorem inI_at {f : Addr} {i : Int} (e : (Fa.glo C).ok K = true) (F : InI K (ga K C) qual st f i) : InI L (ga L C) qual st f i := by rw [ga_le le (eqO_ok e)]; exact inI_le le F
theorem inF_at {f d : Addr} (e : (Fa.glo C).ok K = true) (F : InF K (ga K C) qual st f d) : InF L (ga L C) qual st f d := by rw [ga_le le (eqO_ok e)]; exact inF_le le F
theorem ty_at {t : Value} (e : (Fa.glo C).ok K = true) (F : PySem.W.typeIn K (.ref (ga K C)) = some t) : PySem.W.typeIn L (.ref (ga L C)) = some t := by rw [ga_le le (eqO_ok e)]; exact typeIn_le le F
theorem exm_at {y : Str} {b : Bool} (e : (Fa.glo x).ok K = true) (e2 : (Fa.glo y).ok K = true) (F : PySem.W.exmOne K (.ref (ga K x)) (.ref (ga K y)) = some b) : PySem.W.exmOne L (.ref (ga L x)) (.ref (ga L y)) = some b := by
  rw [ga_le le (eqO_ok e), ga_le le (eqO_ok e2)]
  exact exmOne_le le F
theorem val_at {A : Str} {k : Str} (e : (Fa.glo A).ok K = true) (e2 : (Fa.glo x).ok K = true) (F : PySem.W.nsIn K (ga K A) k = some (some (.ref (ga K x)))) : PySem.W.nsIn L (ga L A) k = some (some (.ref (ga L x))) := by
  rw [ga_le le (eqO_ok e), ga_le le (eqO_ok e2)]
  exact nsIn_le le F
theorem dct_at {w : World} {A : Str} (e : (Fa.glo A).ok K = true) (F : DctF K w (ga K A)) : DctF L w (ga L A) := by rw [ga_le le (eqO_ok e)]; exact dctF_le le F
theorem frT_out {a : Addr} (h : L.lookup a = none) : K.lookup a = none := by
  cases e : K.lookup a with
  | none => rfl
  | some o => rw [le _ _ e] at h; cases h
theorem free_at (e : (Fa.free x).ok K = true) : PySem.W.nsIn L mainGlobals x = some none := nsIn_le le (eqO_ok e)
end
abbrev Gt : Type := Addr → Option Obj
theorem frT_get {g : Gt} {a : Addr} {o : Obj} (h : g a = some o) (t : emptyTab o = false) : ∀ {as : List Addr}, a ∈ as → (frT g as).lookup a = some o
  | [], hm => by cases hm
  | b :: r, hm => by
    by_cases e : b = a
    · subst e
      have : frT g (b :: r) = (b, o) :: frT g r := by
        unfold frT frG
        rw [List.filterMap_cons, h]
        show List.filter _ ((b, o) :: _) = _
        rw [List.filter_cons_of_pos (by simpa using t)]
      rw [this, List.lookup_cons, beq_self_eq_true]
    · have hr : a ∈ r := (List.mem_cons.mp hm).resolve_left (fun z => e z.symm)
      have ih := frT_get h t hr
      have nb : (a == b) = false := beq_eq_false_iff_ne.mpr fun z => e z.symm
      cases hb : g b with
      | none =>
        have : frT g (b :: r) = frT g r := by unfold frT frG; rw [List.filterMap_cons, hb]; rfl
        rw [this]
        exact ih
      | some u =>
        cases tu : emptyTab u with
        | true =>
          have : frT g (b :: r) = frT g r := by
            unfold frT frG
            rw [List.filterMap_cons, hb]
            show List.filter _ ((b, u) :: _) = _
            rw [List.filter_cons_of_neg (by simpa using tu)]
          rw [this]
          exact ih
        | false =>
          have : frT g (b :: r) = (b, u) :: frT g r := by
            unfold frT frG
            rw [List.filterMap_cons, hb]
            show List.filter _ ((b, u) :: _) = _
            rw [List.filter_cons_of_pos (by simpa using tu)]
          rw [this, List.lookup_cons, nb]
          exact ih
theorem frT_le {g : Gt} {as bs : List Addr} (h : ∀ a ∈ as, a ∈ bs) : Le (frT g as) (frT g bs) := fun a o e => by
  have ⟨h1, h2⟩ := frT_mem e
  have hm : a ∈ as := by
    have z := lookup_mem e
    unfold frT frG at z
    obtain ⟨z, _⟩ := List.mem_filter.mp z
    obtain ⟨b, hb, q⟩ := List.mem_filterMap.mp z
    obtain ⟨u, _, q2⟩ := Option.map_eq_some_iff.mp q
    injection q2 with q2
    rw [← q2]
    exact hb
  exact frT_get h1 h2 (h a hm)
structure Part where
  as : Gt → List Addr
  fa : List Fa
  fn : List DefD
  tb : List Tab
  ts : Ts
  tf : List Defn
abbrev AlP : Type := AlT × Bool
def obsP (p : Part) (g : Gt) : AlP := (obsT p.fa p.fn p.tb (frT g (p.as g)), allT p.ts (frT g (p.as g)) && tabsB g p.tf (frT g (p.as g)))
def valP (w : World) (p : Part) : AlP := (valT p.fn p.tb w, true)
/-- what is told of a part -/
structure SaysP (p : Part) (w : World) (g : Gt) (K : PySem.W.Frag) : Prop where
  le : Le (frT g (p.as g)) K
  t : SaysT p.fa p.fn p.tb w (frT g (p.as g))
  more : allT p.ts (frT g (p.as g)) = true
  hd : ∀ q ∈ p.tf, PySem.W.codeHdIn (frT g (p.as g)) (cT (frT g (p.as g)) q).1 (cT (frT g (p.as g)) q).2 = true
  out : ∀ q ∈ p.tf, K.lookup (cT (frT g (p.as g)) q).2 = none
theorem saysP_of {ps : List Part} {w : World} {g : Gt} (e : (ps.map fun p => obsP p g) = ps.map (valP w)) : ∀ p ∈ ps, SaysP p w g (frT g (ps.flatMap fun p => p.as g)) := fun p hp => by
  have ep : obsP p g = valP w p := List.map_inj_left.mp e p hp
  have e1 : obsT p.fa p.fn p.tb (frT g (p.as g)) = valT p.fn p.tb w := congrArg (fun z : AlP => z.1) ep
  have e2 : (allT p.ts (frT g (p.as g)) && tabsB g p.tf (frT g (p.as g))) = true := congrArg (fun z : AlP => z.2) ep
  obtain ⟨h1, h2⟩ := ba e2
  have key : ∀ q ∈ p.tf, PySem.W.codeHdIn (frT g (p.as g)) (cT (frT g (p.as g)) q).1 (cT (frT g (p.as g)) q).2 = true ∧ ∃ o, g (cT (frT g (p.as g)) q).2 = some o ∧ emptyTab o = true := fun q hq => by
    obtain ⟨h3, h4⟩ := ba (List.all_eq_true.mp h2 q hq)
    refine ⟨h3, ?_⟩
    cases z : g (cT (frT g (p.as g)) q).2 with
    | none => rw [z] at h4; cases h4
    | some o => rw [z] at h4; exact ⟨o, rfl, h4⟩
  exact ⟨frT_le fun a ha => List.mem_flatMap.mpr ⟨p, hp, ha⟩, e1, h1, fun q hq => (key q hq).1, fun q hq => by
    obtain ⟨_, o, z, y⟩ := key q hq
    exact frT_none z y⟩
def hookP (ps : List Part) : PySem.W.Hook where
  α := List AlP
  obs := fun s => ps.map fun p => obsP p s.heap.get?
  val := fun w => ps.map (valP w)
  says := fun w h => ∃ (K : PySem.W.Frag) (g : Gt), K.In h ∧ ∀ p ∈ ps, SaysP p w g K
  of := fun _ s e => ⟨_, s.heap.get?, frT_in, saysP_of e⟩
  keeps := fun _ _ _ ⟨K, g, hK, c⟩ k => ⟨K, g, PySem.W.Frag.In.keeps hK k, c⟩
theorem hookP_eq {ps : List Part} {g : Gt} {s : Shared} (h : ∀ a, g a = s.heap.get? a) : (ps.map fun p => obsP p g) = (hookP ps).obs s := by
  have e : g = s.heap.get? := funext h
  rw [e] <;> rfl
theorem le_in {K L : PySem.W.Frag} {h : Heap} (le : Le K L) (X : L.In h) : K.In h := fun a o e => X a o (le a o e)
/-- a def of the module, its code -/
def asF (g : Gt) (x : Str) : List Addr := [ga (frT g [mainGlobals]) x, codeOf (frT g [mainGlobals, ga (frT g [mainGlobals]) x]) (x, none)]
/-- a class, those above it, their dicts -/
def asC (g : Gt) (C : Addr) : List Addr := match g C with
  | some ⟨_, _, .cls cd, _⟩ => cd.mro.flatMap fun v => match v with
    | .ref B => (match g B with
      | some ⟨_, _, .cls cb, _⟩ => [B, cb.ns]
      | _ => [B])
    | _ => []
  | _ => []
/-- a method, its code, the tuple of its defaults -/
def asM (g : Gt) (C m : Str) : List Addr :=
  let K := frT g (mainGlobals :: asC g (ga (frT g [mainGlobals]) C))
  let f := ma K (ga K C) m
  f :: match g f with
    | some ⟨_, _, .func fd, _⟩ => (match fd.code with
      | .ref c => [c]
      | _ => []) ++ (match fd.defaults with
      | .ref T => T :: (match g T with
        | some o => refsO o
        | none => [])
      | _ => [])
    | _ => []
def asCN (g : Gt) (C : Str) : List Addr := asC g (ga (frT g [mainGlobals]) C)
end FNX
set_option Elab.async false
set_option linter.all false
set_option maxRecDepth 100000
set_option maxHeartbeats 0
namespace K71
open PySem PySem.Spec PyProof.Rows L2 He FNX
abbrev HR : PySem.W.OpenRow := PySem.W.OpenLaw.row PySem.Challenge.rw_firenegatives_k71_boards_refuse
abbrev hq : Program := PySem.W.view HR.prog [105, 106, 107, 108, 109]
def hnames0 : List PySem.Str := ["_wall",
  "__name__",
  "GraphError",
  "InvalidSize",
  "InvalidEdge",
  "InvalidNode",
  "InvalidPosition",
  "InvalidLimit",
  "InvalidPlayers",
  "InvalidNumber",
  "InvalidOperation",
  "NoPlayer",
  "NothingToUndo",
  "NotNegative",
  "NotConnected",
  "TooMany",
  "MOST_FIRINGS",
  "is_integer",
  "is_integer_within",
  "is_integer_list",
  "is_node",
  "check_node",
  "check_position",
  "check_limit",
  "check_number",
  "check_player",
  "negatives",
  "has_ended",
  "run",
  "all_neighbours"]
def hnames1 : List PySem.Str := ["flip_in_place",
  "run_in_place",
  "first_negative",
  "MOST_NODES",
  "MOST_EDGES",
  "Graph",
  "is_edge",
  "checked_edges",
  "neighbour_lists",
  "component_of",
  "ARGUMENTS",
  "State",
  "check_operation",
  "perform",
  "fire_node",
  "take_back",
  "put_number",
  "append_node",
  "drop_node",
  "join_nodes",
  "part_nodes",
  "checked_edge",
  "ACTIONS",
  "LEGGED_WEIGHTS",
  "worth",
  "excess",
  "is_balanced_on",
  "find_weights",
  "core_of",
  "forest_weights"]
def hnames2 : List PySem.Str := ["ways_from",
  "weights_along",
  "leg_weights",
  "leg_of",
  "unit",
  "closed_list",
  "forms_within",
  "kind",
  "classify",
  "check_connected",
  "is_balanced",
  "representatives",
  "alone",
  "picked",
  "put_back",
  "spread",
  "never_ends",
  "scaled_shares",
  "settled_part",
  "near_jump",
  "nearest",
  "firings",
  "outcome",
  "outcomes_alone",
  "tame_outcome",
  "wild_outcome",
  "MOST_PLAYERS",
  "Board",
  "written",
  "_law_pool"]
def hnames3 : List PySem.Str := ["_law_take",
  "_law_error"]
def hnames : List PySem.Str := hnames0 ++ (hnames1 ++ (hnames2 ++ (hnames3)))
def keys0 : List Str := ["fire", "take_back", "put", "add_node", "drop_node", "add_edge", "remove_edge"]
def hfa0_0 : List Fa := [.glo "InvalidPosition"]
def hfa0_ : List Fa := hfa0_0
def hfn0_0 : List DefD := [dM "InvalidPosition" "__init__" "InvalidPosition.__init__" s_InvalidPosition_init]
def hfn0_ : List DefD := hfn0_0
def hts0_0 : Ts := [fun K => xcB okVal "ValueError.__new__" K (ga K "InvalidPosition"),
  fun K => xrB K (ga K "InvalidPosition"),
  fun K => decide (PySem.W.typeIn K (.ref (ga K "InvalidPosition")) = some (.type "type"))]
def hts0_ : Ts := hts0_0
def hp0 : Part := ⟨fun g => [mainGlobals] ++ (asCN g "InvalidPosition" ++ (asM g "InvalidPosition" "__init__")), hfa0_, hfn0_, [], hts0_, []⟩
def hfa1_0 : List Fa := [.glo "InvalidPlayers"]
def hfa1_ : List Fa := hfa1_0
def hfn1_0 : List DefD := [dM "InvalidPlayers" "__init__" "InvalidPlayers.__init__" s_InvalidPlayers_init]
def hfn1_ : List DefD := hfn1_0
def hts1_0 : Ts := [fun K => xcB okVal "ValueError.__new__" K (ga K "InvalidPlayers"),
  fun K => xrB K (ga K "InvalidPlayers"),
  fun K => decide (PySem.W.typeIn K (.ref (ga K "InvalidPlayers")) = some (.type "type"))]
def hts1_ : Ts := hts1_0
def hp1 : Part := ⟨fun g => [mainGlobals] ++ (asCN g "InvalidPlayers" ++ (asM g "InvalidPlayers" "__init__")), hfa1_, hfn1_, [], hts1_, []⟩
def hfa2_0 : List Fa := [.glo "InvalidNode"]
def hfa2_ : List Fa := hfa2_0
def hfn2_0 : List DefD := [dM "InvalidNode" "__init__" "InvalidNode.__init__" s_InvalidNode_init]
def hfn2_ : List DefD := hfn2_0
def hts2_0 : Ts := [fun K => xcB okVal "ValueError.__new__" K (ga K "InvalidNode"),
  fun K => xrB K (ga K "InvalidNode"),
  fun K => decide (PySem.W.typeIn K (.ref (ga K "InvalidNode")) = some (.type "type"))]
def hts2_ : Ts := hts2_0
def hp2 : Part := ⟨fun g => [mainGlobals] ++ (asCN g "InvalidNode" ++ (asM g "InvalidNode" "__init__")), hfa2_, hfn2_, [], hts2_, []⟩
def hfa3_0 : List Fa := [.glo "InvalidNumber"]
def hfa3_ : List Fa := hfa3_0
def hfn3_0 : List DefD := [dM "InvalidNumber" "__init__" "InvalidNumber.__init__" s_InvalidNumber_init]
def hfn3_ : List DefD := hfn3_0
def hts3_0 : Ts := [fun K => xcB okVal "ValueError.__new__" K (ga K "InvalidNumber"),
  fun K => xrB K (ga K "InvalidNumber"),
  fun K => decide (PySem.W.typeIn K (.ref (ga K "InvalidNumber")) = some (.type "type"))]
def hts3_ : Ts := hts3_0
def hp3 : Part := ⟨fun g => [mainGlobals] ++ (asCN g "InvalidNumber" ++ (asM g "InvalidNumber" "__init__")), hfa3_, hfn3_, [], hts3_, []⟩
def hfa4_0 : List Fa := [.glo "InvalidEdge"]
def hfa4_ : List Fa := hfa4_0
def hfn4_0 : List DefD := [dM "InvalidEdge" "__init__" "InvalidEdge.__init__" s_InvalidEdge_init]
def hfn4_ : List DefD := hfn4_0
def hts4_0 : Ts := [fun K => xcB okVal "ValueError.__new__" K (ga K "InvalidEdge"),
  fun K => xrB K (ga K "InvalidEdge"),
  fun K => decide (PySem.W.typeIn K (.ref (ga K "InvalidEdge")) = some (.type "type"))]
def hts4_ : Ts := hts4_0
def hp4 : Part := ⟨fun g => [mainGlobals] ++ (asCN g "InvalidEdge" ++ (asM g "InvalidEdge" "__init__")), hfa4_, hfn4_, [], hts4_, []⟩
def hfa5_0 : List Fa := [.glo "InvalidLimit"]
def hfa5_ : List Fa := hfa5_0
def hfn5_0 : List DefD := [dM "InvalidLimit" "__init__" "InvalidLimit.__init__" s_InvalidLimit_init]
def hfn5_ : List DefD := hfn5_0
def hts5_0 : Ts := [fun K => xcB okVal "ValueError.__new__" K (ga K "InvalidLimit"),
  fun K => xrB K (ga K "InvalidLimit"),
  fun K => decide (PySem.W.typeIn K (.ref (ga K "InvalidLimit")) = some (.type "type"))]
def hts5_ : Ts := hts5_0
def hp5 : Part := ⟨fun g => [mainGlobals] ++ (asCN g "InvalidLimit" ++ (asM g "InvalidLimit" "__init__")), hfa5_, hfn5_, [], hts5_, []⟩
def hfa6_0 : List Fa := [.glo "InvalidOperation"]
def hfa6_ : List Fa := hfa6_0
def hfn6_0 : List DefD := [dM "InvalidOperation" "__init__" "InvalidOperation.__init__" s_InvalidOperation_init]
def hfn6_ : List DefD := hfn6_0
def hts6_0 : Ts := [fun K => xcB okVal "ValueError.__new__" K (ga K "InvalidOperation"),
  fun K => xrB K (ga K "InvalidOperation"),
  fun K => decide (PySem.W.typeIn K (.ref (ga K "InvalidOperation")) = some (.type "type"))]
def hts6_ : Ts := hts6_0
def hp6 : Part := ⟨fun g => [mainGlobals] ++ (asCN g "InvalidOperation" ++ (asM g "InvalidOperation" "__init__")), hfa6_, hfn6_, [], hts6_, []⟩
def hfa7_0 : List Fa := [.glo "NoPlayer"]
def hfa7_ : List Fa := hfa7_0
def hfn7_0 : List DefD := [dM "NoPlayer" "__init__" "NoPlayer.__init__" s_NoPlayer_init]
def hfn7_ : List DefD := hfn7_0
def hts7_0 : Ts := [fun K => xcB (okTys lookTys) "LookupError.__new__" K (ga K "NoPlayer"),
  fun K => xrB K (ga K "NoPlayer"),
  fun K => decide (PySem.W.typeIn K (.ref (ga K "NoPlayer")) = some (.type "type"))]
def hts7_ : Ts := hts7_0
def hp7 : Part := ⟨fun g => [mainGlobals] ++ (asCN g "NoPlayer" ++ (asM g "NoPlayer" "__init__")), hfa7_, hfn7_, [], hts7_, []⟩
def hfa8_0 : List Fa := [.glo "TooMany"]
def hfa8_ : List Fa := hfa8_0
def hfn8_0 : List DefD := [dM "TooMany" "__init__" "TooMany.__init__" s_TooMany_init]
def hfn8_ : List DefD := hfn8_0
def hts8_0 : Ts := [fun K => xcB (okTys overTys) "OverflowError.__new__" K (ga K "TooMany"),
  fun K => xrB K (ga K "TooMany"),
  fun K => decide (PySem.W.typeIn K (.ref (ga K "TooMany")) = some (.type "type"))]
def hts8_ : Ts := hts8_0
def hp8 : Part := ⟨fun g => [mainGlobals] ++ (asCN g "TooMany" ++ (asM g "TooMany" "__init__")), hfa8_, hfn8_, [], hts8_, []⟩
def hfa9_0 : List Fa := [.glo "NothingToUndo"]
def hfa9_ : List Fa := hfa9_0
def hfn9_0 : List DefD := [dM "NothingToUndo" "__init__" "NothingToUndo.__init__" s_NothingToUndo_init]
def hfn9_ : List DefD := hfn9_0
def hts9_0 : Ts := [fun K => decide (PySem.W.findIn K (.type "type") "__init__" = PySem.W.findIn K (.type "type") "__init__"),
  fun K => xcB (okTys ixTys) "IndexError.__new__" K (ga K "NothingToUndo"),
  fun K => xrB K (ga K "NothingToUndo"),
  fun K => decide (PySem.W.typeIn K (.ref (ga K "NothingToUndo")) = some (.type "type"))]
def hts9_ : Ts := hts9_0
def hp9 : Part := ⟨fun g => [mainGlobals] ++ (asCN g "NothingToUndo" ++ (asM g "NothingToUndo" "__init__")), hfa9_, hfn9_, [], hts9_, []⟩
def hfa10_0 : List Fa := [.glo "InvalidSize"]
def hfa10_ : List Fa := hfa10_0
def hfn10_0 : List DefD := [dM "InvalidSize" "__init__" "InvalidSize.__init__" s_InvalidSize_init]
def hfn10_ : List DefD := hfn10_0
def hts10_0 : Ts := [fun K => xcB okVal "ValueError.__new__" K (ga K "InvalidSize"),
  fun K => xrB K (ga K "InvalidSize"),
  fun K => decide (PySem.W.typeIn K (.ref (ga K "InvalidSize")) = some (.type "type"))]
def hts10_ : Ts := hts10_0
def hp10 : Part := ⟨fun g => [mainGlobals] ++ (asCN g "InvalidSize" ++ (asM g "InvalidSize" "__init__")), hfa10_, hfn10_, [], hts10_, []⟩
def hfa11_0 : List Fa := [.glo "NotNegative"]
def hfa11_ : List Fa := hfa11_0
def hfn11_0 : List DefD := [dM "NotNegative" "__init__" "NotNegative.__init__" s_NotNegative_init]
def hfn11_ : List DefD := hfn11_0
def hts11_0 : Ts := [fun K => xcB (okTys runTys) "RuntimeError.__new__" K (ga K "NotNegative"),
  fun K => xrB K (ga K "NotNegative"),
  fun K => decide (PySem.W.typeIn K (.ref (ga K "NotNegative")) = some (.type "type"))]
def hts11_ : Ts := hts11_0
def hp11 : Part := ⟨fun g => [mainGlobals] ++ (asCN g "NotNegative" ++ (asM g "NotNegative" "__init__")), hfa11_, hfn11_, [], hts11_, []⟩
def hfa12_0 : List Fa := [.glo "Graph",
  .cls "Graph",
  .noat "Graph" "node_count",
  .noat "Graph" "joined",
  .noat "Graph" "near",
  .mkr "Graph"]
def hfa12_ : List Fa := hfa12_0
def hfn12_0 : List DefD := [dMd "Graph" "__init__" "Graph.__init__" s_Graph_init [.adr (dflAt ("Graph", some "__init__") 0)]]
def hfn12_ : List DefD := hfn12_0
def hts12_0 : Ts := [fun K => decide (PySem.W.findIn K (.ref (ga K "Graph")) "__class__" = some (some (.builtin "object.__class__"))),
  fun K => decide (PySem.W.specialIn K (.builtin "object.__class__") "__get__" = some (some (.builtin "getset_descriptor.__get__"))),
  fun K => decide (PySem.W.takesIn K (.builtin "object.__class__") = some true),
  fun K => decide (PySem.W.mroIn K (ga K "Graph") (.type "object") = some true),
  fun K => decide (PySem.W.kitOne K (.ref (ga K "Graph")) (.ref (ga K "Graph")) = some true),
  fun K => decide (PySem.W.findIn K (.ref (ga K "Graph")) "__ne__" = some (some (.builtin "object.__ne__"))),
  fun K => empB K (dflAt ("Graph", some "__init__") 0 K)]
def hts12_ : Ts := hts12_0
def hp12 : Part := ⟨fun g => [mainGlobals] ++ (asCN g "Graph" ++ (asM g "Graph" "__init__")), hfa12_, hfn12_, [], hts12_, []⟩
def hfa13_0 : List Fa := [.glo "State",
  .cls "State",
  .noat "State" "drawn",
  .noat "State" "numbers",
  .noat "State" "points",
  .mkr "State"]
def hfa13_ : List Fa := hfa13_0
def hfn13_0 : List DefD := [dM "State" "__init__" "State.__init__" s_State_init]
def hfn13_ : List DefD := hfn13_0
def hts13_0 : Ts := []
def hts13_ : Ts := hts13_0
def hp13 : Part := ⟨fun g => [mainGlobals] ++ (asCN g "State" ++ (asM g "State" "__init__")), hfa13_, hfn13_, [], hts13_, []⟩
def hfa14_0 : List Fa := [.glo "Board",
  .cls "Board",
  .noat "Board" "state",
  .noat "Board" "past",
  .mkr "Board"]
def hfa14_ : List Fa := hfa14_0
def hfn14_0 : List DefD := [dMd "Board" "__init__" "Board.__init__" s_Board_init [.int 1]]
def hfn14_ : List DefD := hfn14_0
def hts14_0 : Ts := []
def hts14_ : Ts := hts14_0
def hp14 : Part := ⟨fun g => [mainGlobals] ++ (asCN g "Board" ++ (asM g "Board" "__init__")), hfa14_, hfn14_, [], hts14_, []⟩
def hfa15_0 : List Fa := [.glo "is_integer",
  .glo "is_integer_within",
  .glo "is_integer_list",
  .glo "is_node",
  .glo "check_node",
  .glo "check_position",
  .glo "check_limit",
  .glo "check_number",
  .glo "check_player",
  .glo "flip_in_place"]
def hfa15_ : List Fa := hfa15_0
def hfn15_0 : List DefD := [dF "is_integer" s_is_integer,
  dF "is_integer_within" s_is_integer_within,
  dF "is_integer_list" s_is_integer_list,
  dF "is_node" s_is_node,
  dF "check_node" s_check_node,
  dF "check_position" s_check_position,
  dF "check_limit" s_check_limit,
  dF "check_number" s_check_number,
  dF "check_player" s_check_player,
  dF "flip_in_place" s_flip_in_place]
def hfn15_ : List DefD := hfn15_0
def hts15_0 : Ts := []
def hts15_ : Ts := hts15_0
def hp15 : Part := ⟨fun g => [mainGlobals] ++ (asF g "is_integer" ++ (asF g "is_integer_within" ++ (asF g "is_integer_list" ++ (asF g "is_node" ++ (asF g "check_node" ++ (asF g "check_position" ++ (asF g "check_limit" ++ (asF g "check_number" ++ (asF g "check_player" ++ (asF g "flip_in_place")))))))))), hfa15_, hfn15_, [], hts15_, []⟩
def hfa16_0 : List Fa := [.glo "is_edge",
  .glo "checked_edges",
  .glo "neighbour_lists",
  .glo "fire_node",
  .glo "put_number",
  .glo "append_node",
  .glo "checked_edge",
  .glo "join_nodes",
  .glo "part_nodes",
  .glo "perform"]
def hfa16_ : List Fa := hfa16_0
def hfn16_0 : List DefD := [dF "is_edge" s_is_edge,
  dF "checked_edges" s_checked_edges,
  dF "neighbour_lists" s_neighbour_lists,
  dF "fire_node" s_fire_node,
  dF "put_number" s_put_number,
  dF "append_node" s_append_node,
  dF "checked_edge" s_checked_edge,
  dF "join_nodes" s_join_nodes,
  dF "part_nodes" s_part_nodes,
  dF "perform" s_perform]
def hfn16_ : List DefD := hfn16_0
def hts16_0 : Ts := []
def hts16_ : Ts := hts16_0
def hp16 : Part := ⟨fun g => [mainGlobals] ++ (asF g "is_edge" ++ (asF g "checked_edges" ++ (asF g "neighbour_lists" ++ (asF g "fire_node" ++ (asF g "put_number" ++ (asF g "append_node" ++ (asF g "checked_edge" ++ (asF g "join_nodes" ++ (asF g "part_nodes" ++ (asF g "perform")))))))))), hfa16_, hfn16_, [], hts16_, []⟩
def hfa17_0 : List Fa := [.glo "Graph",
  .meth "Graph" "size",
  .meth "Graph" "edges",
  .meth "Graph" "neighbours",
  .meth "Graph" "__eq__"]
def hfa17_ : List Fa := hfa17_0
def hfn17_0 : List DefD := [dM "Graph" "size" "Graph.size" s_Graph_size,
  dM "Graph" "edges" "Graph.edges" s_Graph_edges,
  dM "Graph" "neighbours" "Graph.neighbours" s_Graph_neighbours,
  dM "Graph" "__eq__" "Graph.__eq__" s_Graph_eq]
def hfn17_ : List DefD := hfn17_0
def hts17_0 : Ts := []
def hts17_ : Ts := hts17_0
def hp17 : Part := ⟨fun g => [mainGlobals] ++ (asCN g "Graph" ++ (asM g "Graph" "size" ++ (asM g "Graph" "edges" ++ (asM g "Graph" "neighbours" ++ (asM g "Graph" "__eq__"))))), hfa17_, hfn17_, [], hts17_, []⟩
def hfa18_0 : List Fa := [.glo "Board",
  .meth "Board" "carry_out",
  .meth "Board" "fire",
  .meth "Board" "put",
  .meth "Board" "add_node",
  .meth "Board" "add_edge",
  .meth "Board" "remove_edge",
  .meth "Board" "undo",
  .meth "Board" "play_on",
  .meth "Board" "together",
  .meth "Board" "graph"]
def hfa18_ : List Fa := hfa18_0
def hfn18_0 : List DefD := [dM "Board" "carry_out" "Board.carry_out" s_Board_carry_out,
  dM "Board" "fire" "Board.fire" s_Board_fire,
  dM "Board" "put" "Board.put" s_Board_put,
  dM "Board" "add_node" "Board.add_node" s_Board_add_node,
  dM "Board" "add_edge" "Board.add_edge" s_Board_add_edge,
  dM "Board" "remove_edge" "Board.remove_edge" s_Board_remove_edge,
  dM "Board" "undo" "Board.undo" s_Board_undo,
  dM "Board" "play_on" "Board.play_on" s_Board_play_on,
  dM "Board" "together" "Board.together" s_Board_together,
  dM "Board" "graph" "Board.graph" s_Board_graph]
def hfn18_ : List DefD := hfn18_0
def hts18_0 : Ts := []
def hts18_ : Ts := hts18_0
def hp18 : Part := ⟨fun g => [mainGlobals] ++ (asCN g "Board" ++ (asM g "Board" "carry_out" ++ (asM g "Board" "fire" ++ (asM g "Board" "put" ++ (asM g "Board" "add_node" ++ (asM g "Board" "add_edge" ++ (asM g "Board" "remove_edge" ++ (asM g "Board" "undo" ++ (asM g "Board" "play_on" ++ (asM g "Board" "together" ++ (asM g "Board" "graph"))))))))))), hfa18_, hfn18_, [], hts18_, []⟩
def hfa19_0 : List Fa := [.glo "Board",
  .meth "Board" "position",
  .meth "Board" "scores",
  .meth "Board" "log",
  .meth "Board" "remaining"]
def hfa19_ : List Fa := hfa19_0
def hfn19_0 : List DefD := [dM "Board" "position" "Board.position" s_Board_position,
  dM "Board" "scores" "Board.scores" s_Board_scores,
  dM "Board" "log" "Board.log" s_Board_log,
  dM "Board" "remaining" "Board.remaining" s_Board_remaining]
def hfn19_ : List DefD := hfn19_0
def hts19_0 : Ts := []
def hts19_ : Ts := hts19_0
def hp19 : Part := ⟨fun g => [mainGlobals] ++ (asCN g "Board" ++ (asM g "Board" "position" ++ (asM g "Board" "scores" ++ (asM g "Board" "log" ++ (asM g "Board" "remaining"))))), hfa19_, hfn19_, [], hts19_, []⟩
def hfa20_0 : List Fa := [.glo "written",
  .glo "outcome",
  .glo "_law_pool",
  .glo "_law_take",
  .glo "_law_error"]
def hfa20_ : List Fa := hfa20_0
def hfn20_0 : List DefD := [dF "written" s_written,
  dF "outcome" s_outcome,
  dF "_law_pool" s__law_pool,
  dF "_law_take" s__law_take,
  dF "_law_error" s__law_error]
def hfn20_ : List DefD := hfn20_0
def hts20_0 : Ts := []
def hts20_ : Ts := hts20_0
def hp20 : Part := ⟨fun g => [mainGlobals] ++ (asF g "written" ++ (asF g "outcome" ++ (asF g "_law_pool" ++ (asF g "_law_take" ++ (asF g "_law_error"))))), hfa20_, hfn20_, [], hts20_, []⟩
def hfa21_0 : List Fa := [.glo "_law_made_right",
  .glo "_law_nodes_right",
  .glo "_law_others_right",
  .glo "_law_bounds_right",
  .glo "law"]
def hfa21_ : List Fa := hfa21_0
def hfn21_0 : List DefD := [dF "_law_made_right" s__law_made_right,
  dF "_law_nodes_right" s__law_nodes_right,
  dF "_law_others_right" s__law_others_right,
  dF "_law_bounds_right" s__law_bounds_right,
  dF "law" s_law]
def hfn21_ : List DefD := hfn21_0
def hts21_0 : Ts := [fun K => decide ((cT K ("_law_made_right", none)).2 ≠ 0),
  fun K => decide ((cT K ("_law_nodes_right", none)).2 ≠ 0),
  fun K => decide ((cT K ("_law_others_right", none)).2 ≠ 0),
  fun K => decide ((cT K ("_law_bounds_right", none)).2 ≠ 0),
  fun K => decide ((cT K ("law", none)).2 ≠ (cT K ("_law_made_right", none)).2),
  fun K => decide ((cT K ("law", none)).2 ≠ (cT K ("_law_nodes_right", none)).2),
  fun K => decide ((cT K ("law", none)).2 ≠ (cT K ("_law_others_right", none)).2),
  fun K => decide ((cT K ("law", none)).2 ≠ (cT K ("_law_bounds_right", none)).2),
  fun K => decide ((cT K ("_law_made_right", none)).2 ≠ (cT K ("_law_nodes_right", none)).2),
  fun K => decide ((cT K ("_law_made_right", none)).2 ≠ (cT K ("_law_others_right", none)).2),
  fun K => decide ((cT K ("_law_made_right", none)).2 ≠ (cT K ("_law_bounds_right", none)).2),
  fun K => decide ((cT K ("_law_nodes_right", none)).2 ≠ (cT K ("_law_others_right", none)).2),
  fun K => decide ((cT K ("_law_nodes_right", none)).2 ≠ (cT K ("_law_bounds_right", none)).2),
  fun K => decide ((cT K ("_law_others_right", none)).2 ≠ (cT K ("_law_bounds_right", none)).2),
  fun K => decide ((cT K ("law", none)).2 ≠ 0)]
def hts21_ : Ts := hts21_0
def hp21 : Part := ⟨fun g => [mainGlobals] ++ (asF g "law" ++ (asF g "_law_made_right" ++ (asF g "_law_nodes_right" ++ (asF g "_law_others_right" ++ (asF g "_law_bounds_right"))))), hfa21_, hfn21_, [], hts21_, [("law", none), ("_law_made_right", none), ("_law_nodes_right", none), ("_law_others_right", none), ("_law_bounds_right", none)]⟩
def hfa22_0 : List Fa := [.glo "ACTIONS",
  .glo "fire_node",
  .glo "put_number",
  .glo "append_node",
  .glo "join_nodes",
  .glo "part_nodes"]
def hfa22_ : List Fa := hfa22_0
def hfn22_0 : List DefD := []
def hfn22_ : List DefD := hfn22_0
def hts22_0 : Ts := [fun K => decide (PySem.W.nsIn K (ga K "ACTIONS") "fire" = some (some (.ref (ga K "fire_node")))),
  fun K => decide (PySem.W.nsIn K (ga K "ACTIONS") "put" = some (some (.ref (ga K "put_number")))),
  fun K => decide (PySem.W.nsIn K (ga K "ACTIONS") "add_node" = some (some (.ref (ga K "append_node")))),
  fun K => decide (PySem.W.nsIn K (ga K "ACTIONS") "add_edge" = some (some (.ref (ga K "join_nodes")))),
  fun K => decide (PySem.W.nsIn K (ga K "ACTIONS") "remove_edge" = some (some (.ref (ga K "part_nodes"))))]
def hts22_ : Ts := hts22_0
def hp22 : Part := ⟨fun g => [mainGlobals] ++ ([ga (frT g [mainGlobals]) "ACTIONS"]), hfa22_, hfn22_, [(fun K => ga K "ACTIONS", keys0)], hts22_, []⟩
def hfa23_0 : List Fa := [.free "isinstance",
  .free "int",
  .free "bool",
  .free "list",
  .free "tuple",
  .free "len",
  .free "all",
  .free "range",
  .free "enumerate",
  .free "min",
  .free "max",
  .free "sorted",
  .free "repr",
  .free "IndexError"]
def hfa23_ : List Fa := hfa23_0
def hfn23_0 : List DefD := []
def hfn23_ : List DefD := hfn23_0
def hts23_0 : Ts := [fun K => nsIntB K mainGlobals "MOST_NODES" (16),
  fun K => nsIntB K mainGlobals "MOST_EDGES" (40),
  fun K => nsIntB K mainGlobals "MOST_PLAYERS" (8),
  fun K => nsIntB K mainGlobals "MOST_FIRINGS" (10000)]
def hts23_ : Ts := hts23_0
def hp23 : Part := ⟨fun g => [mainGlobals], hfa23_, hfn23_, [], hts23_, []⟩
def hfa24_0 : List Fa := [.glo "InvalidPosition",
  .glo "InvalidPlayers",
  .glo "InvalidNode",
  .glo "InvalidNumber",
  .glo "InvalidEdge",
  .glo "InvalidLimit",
  .glo "InvalidOperation",
  .glo "NoPlayer",
  .glo "TooMany",
  .glo "NothingToUndo"]
def hfa24_ : List Fa := hfa24_0
def hfn24_0 : List DefD := []
def hfn24_ : List DefD := hfn24_0
def hts24_0 : Ts := [fun K => decide (PySem.W.exmOne K (.ref (ga K "InvalidPosition")) (.ref (ga K "InvalidPosition")) = some true),
  fun K => decide (PySem.W.exmOne K (.ref (ga K "InvalidPlayers")) (.ref (ga K "InvalidPosition")) = some false),
  fun K => decide (PySem.W.exmOne K (.ref (ga K "InvalidPlayers")) (.ref (ga K "InvalidPlayers")) = some true),
  fun K => decide (PySem.W.exmOne K (.ref (ga K "InvalidNode")) (.ref (ga K "InvalidPosition")) = some false),
  fun K => decide (PySem.W.exmOne K (.ref (ga K "InvalidNode")) (.ref (ga K "InvalidPlayers")) = some false),
  fun K => decide (PySem.W.exmOne K (.ref (ga K "InvalidNode")) (.ref (ga K "InvalidNode")) = some true),
  fun K => decide (PySem.W.exmOne K (.ref (ga K "InvalidNumber")) (.ref (ga K "InvalidPosition")) = some false),
  fun K => decide (PySem.W.exmOne K (.ref (ga K "InvalidNumber")) (.ref (ga K "InvalidPlayers")) = some false),
  fun K => decide (PySem.W.exmOne K (.ref (ga K "InvalidNumber")) (.ref (ga K "InvalidNode")) = some false),
  fun K => decide (PySem.W.exmOne K (.ref (ga K "InvalidNumber")) (.ref (ga K "InvalidNumber")) = some true),
  fun K => decide (PySem.W.exmOne K (.ref (ga K "InvalidEdge")) (.ref (ga K "InvalidPosition")) = some false),
  fun K => decide (PySem.W.exmOne K (.ref (ga K "InvalidEdge")) (.ref (ga K "InvalidPlayers")) = some false),
  fun K => decide (PySem.W.exmOne K (.ref (ga K "InvalidEdge")) (.ref (ga K "InvalidNode")) = some false),
  fun K => decide (PySem.W.exmOne K (.ref (ga K "InvalidEdge")) (.ref (ga K "InvalidNumber")) = some false),
  fun K => decide (PySem.W.exmOne K (.ref (ga K "InvalidEdge")) (.ref (ga K "InvalidEdge")) = some true),
  fun K => decide (PySem.W.exmOne K (.ref (ga K "InvalidEdge")) (.ref (ga K "InvalidLimit")) = some false),
  fun K => decide (PySem.W.exmOne K (.ref (ga K "InvalidEdge")) (.ref (ga K "InvalidOperation")) = some false),
  fun K => decide (PySem.W.exmOne K (.ref (ga K "InvalidLimit")) (.ref (ga K "InvalidPosition")) = some false),
  fun K => decide (PySem.W.exmOne K (.ref (ga K "InvalidLimit")) (.ref (ga K "InvalidPlayers")) = some false),
  fun K => decide (PySem.W.exmOne K (.ref (ga K "InvalidLimit")) (.ref (ga K "InvalidNode")) = some false),
  fun K => decide (PySem.W.exmOne K (.ref (ga K "InvalidLimit")) (.ref (ga K "InvalidNumber")) = some false),
  fun K => decide (PySem.W.exmOne K (.ref (ga K "InvalidLimit")) (.ref (ga K "InvalidEdge")) = some false),
  fun K => decide (PySem.W.exmOne K (.ref (ga K "InvalidLimit")) (.ref (ga K "InvalidLimit")) = some true),
  fun K => decide (PySem.W.exmOne K (.ref (ga K "InvalidLimit")) (.ref (ga K "InvalidOperation")) = some false),
  fun K => decide (PySem.W.exmOne K (.ref (ga K "InvalidOperation")) (.ref (ga K "InvalidPosition")) = some false)]
def hts24_1 : Ts := [fun K => decide (PySem.W.exmOne K (.ref (ga K "InvalidOperation")) (.ref (ga K "InvalidPlayers")) = some false),
  fun K => decide (PySem.W.exmOne K (.ref (ga K "InvalidOperation")) (.ref (ga K "InvalidNode")) = some false),
  fun K => decide (PySem.W.exmOne K (.ref (ga K "InvalidOperation")) (.ref (ga K "InvalidNumber")) = some false),
  fun K => decide (PySem.W.exmOne K (.ref (ga K "InvalidOperation")) (.ref (ga K "InvalidEdge")) = some false),
  fun K => decide (PySem.W.exmOne K (.ref (ga K "InvalidOperation")) (.ref (ga K "InvalidLimit")) = some false),
  fun K => decide (PySem.W.exmOne K (.ref (ga K "InvalidOperation")) (.ref (ga K "InvalidOperation")) = some true),
  fun K => decide (PySem.W.exmOne K (.ref (ga K "NoPlayer")) (.ref (ga K "InvalidPosition")) = some false),
  fun K => decide (PySem.W.exmOne K (.ref (ga K "NoPlayer")) (.ref (ga K "InvalidPlayers")) = some false),
  fun K => decide (PySem.W.exmOne K (.ref (ga K "NoPlayer")) (.ref (ga K "InvalidNode")) = some false),
  fun K => decide (PySem.W.exmOne K (.ref (ga K "NoPlayer")) (.ref (ga K "InvalidNumber")) = some false),
  fun K => decide (PySem.W.exmOne K (.ref (ga K "NoPlayer")) (.ref (ga K "InvalidEdge")) = some false),
  fun K => decide (PySem.W.exmOne K (.ref (ga K "NoPlayer")) (.ref (ga K "InvalidLimit")) = some false),
  fun K => decide (PySem.W.exmOne K (.ref (ga K "NoPlayer")) (.ref (ga K "InvalidOperation")) = some false),
  fun K => decide (PySem.W.exmOne K (.ref (ga K "NoPlayer")) (.ref (ga K "NoPlayer")) = some true),
  fun K => decide (PySem.W.exmOne K (.ref (ga K "TooMany")) (.ref (ga K "InvalidPosition")) = some false),
  fun K => decide (PySem.W.exmOne K (.ref (ga K "TooMany")) (.ref (ga K "InvalidPlayers")) = some false),
  fun K => decide (PySem.W.exmOne K (.ref (ga K "TooMany")) (.ref (ga K "InvalidNode")) = some false),
  fun K => decide (PySem.W.exmOne K (.ref (ga K "TooMany")) (.ref (ga K "InvalidNumber")) = some false),
  fun K => decide (PySem.W.exmOne K (.ref (ga K "TooMany")) (.ref (ga K "InvalidEdge")) = some false),
  fun K => decide (PySem.W.exmOne K (.ref (ga K "TooMany")) (.ref (ga K "InvalidLimit")) = some false),
  fun K => decide (PySem.W.exmOne K (.ref (ga K "TooMany")) (.ref (ga K "InvalidOperation")) = some false),
  fun K => decide (PySem.W.exmOne K (.ref (ga K "TooMany")) (.ref (ga K "NoPlayer")) = some false),
  fun K => decide (PySem.W.exmOne K (.ref (ga K "TooMany")) (.ref (ga K "TooMany")) = some true),
  fun K => decide (PySem.W.exmOne K (.ref (ga K "NothingToUndo")) (.ref (ga K "InvalidPosition")) = some false),
  fun K => decide (PySem.W.exmOne K (.ref (ga K "NothingToUndo")) (.ref (ga K "InvalidPlayers")) = some false)]
def hts24_2 : Ts := [fun K => decide (PySem.W.exmOne K (.ref (ga K "NothingToUndo")) (.ref (ga K "InvalidNode")) = some false),
  fun K => decide (PySem.W.exmOne K (.ref (ga K "NothingToUndo")) (.ref (ga K "InvalidNumber")) = some false),
  fun K => decide (PySem.W.exmOne K (.ref (ga K "NothingToUndo")) (.ref (ga K "InvalidEdge")) = some false),
  fun K => decide (PySem.W.exmOne K (.ref (ga K "NothingToUndo")) (.ref (ga K "InvalidLimit")) = some false),
  fun K => decide (PySem.W.exmOne K (.ref (ga K "NothingToUndo")) (.ref (ga K "InvalidOperation")) = some false),
  fun K => decide (PySem.W.exmOne K (.ref (ga K "NothingToUndo")) (.ref (ga K "NoPlayer")) = some false),
  fun K => decide (PySem.W.exmOne K (.ref (ga K "NothingToUndo")) (.ref (ga K "TooMany")) = some false),
  fun K => decide (PySem.W.exmOne K (.ref (ga K "NothingToUndo")) (.ref (ga K "NothingToUndo")) = some true)]
def hts24_ : Ts := hts24_0 ++ (hts24_1 ++ (hts24_2))
def hp24 : Part := ⟨fun g => [mainGlobals] ++ ([ga (frT g [mainGlobals]) "InvalidPosition"] ++ ([ga (frT g [mainGlobals]) "InvalidPlayers"] ++ ([ga (frT g [mainGlobals]) "InvalidNode"] ++ ([ga (frT g [mainGlobals]) "InvalidNumber"] ++ ([ga (frT g [mainGlobals]) "InvalidEdge"] ++ ([ga (frT g [mainGlobals]) "InvalidLimit"] ++ ([ga (frT g [mainGlobals]) "InvalidOperation"] ++ ([ga (frT g [mainGlobals]) "NoPlayer"] ++ ([ga (frT g [mainGlobals]) "TooMany"] ++ ([ga (frT g [mainGlobals]) "NothingToUndo"])))))))))), hfa24_, hfn24_, [], hts24_, []⟩
def hps0 : List Part := [hp0,
  hp1,
  hp2,
  hp3,
  hp4,
  hp5,
  hp6,
  hp7,
  hp8,
  hp9,
  hp10,
  hp11,
  hp12,
  hp13,
  hp14,
  hp15,
  hp16,
  hp17,
  hp18,
  hp19]
def hps1 : List Part := [hp20,
  hp21,
  hp22,
  hp23,
  hp24]
def hps : List Part := hps0 ++ (hps1)
abbrev hk : PySem.W.Hook := hookP hps
def hob (s : PySem.W.SharedT) : List AlP := hps.map fun p => obsP p (HandSHeadRun.getT s)
theorem hob_eq (s : PySem.W.SharedT) : hob s = hk.obs s.abs := hookP_eq (HandSHeadRun.getT_eq s)
theorem hrunF (w : World) : HandSHeadRun.RunEq HR hq hk hob 9000 hnames (w.withFollow "special-get-raises" false) := by
  intro os
  kernel_rfl
theorem hrunT (w : World) : HandSHeadRun.RunEq HR hq hk hob 9000 hnames (w.withFollow "special-get-raises" true) := by
  intro os
  kernel_rfl
theorem hrun (w : World) : HandSHeadRun.RunEq HR hq hk hob 9000 hnames w := PySem.W.byRow2 "special-get-raises" (P := fun w => HandSHeadRun.RunEq HR hq hk hob 9000 hnames w) hrunF hrunT w
end K71
set_option Elab.async false
set_option linter.all false
set_option maxRecDepth 100000
set_option maxHeartbeats 0
namespace K71
open PySem PySem.Spec PyProof.Rows L2 He FNX
theorem chI : ∀ bm, okTys ixTys bm = true → Chain "IndexError" bm := fun bm h => by rw [okTys_eq h]; exact chainIx
theorem vI0 (K : PySem.W.Frag) : PySem.W.findCls K (.type "IndexError") (.type "type") "__init__" = some (.val (.builtin "IndexError.__init__")) := by kernel_rfl
theorem xCl0 {K : PySem.W.Frag} {h : Heap} {mg : Str → Option Value} {fa : List Fa} {fn : List DefD} {qual : Str} (X : K.In h) (G : h.Ns mainGlobals mg) (c : SaysD fa fn K) (i j : Nat)
    (hi : fa[i]? = some (.glo "NothingToUndo")) (hj : fn[j]? = some (dM "NothingToUndo" "__init__" qual s_NothingToUndo_init)) (q : xcB (okTys ixTys) "IndexError.__new__" K (ga K "NothingToUndo") = true) (r : xrB K (ga K "NothingToUndo") = true) : Cl0 K mg (ga K "NothingToUndo") := by
  obtain ⟨xc, _, a1, t1⟩ := xc_of F.excBase_IndexError chI q r
  obtain ⟨fd, f⟩ := c.def_ j hj
  obtain ⟨nm, qn, N, bs, bm, sn, sub, ab, col, dd, k0, k1, k2, k3, k5, hC, hok⟩ := xc_cls q
  have e : bm = ixTail := okTys_eq hok
  subst e
  exact ⟨⟨xc, ⟨nm, qn, N, bs, sn, sub, ab, col, dd, k0, k1, k2, k3, k5, hC⟩, vI0 K⟩, glo_ok X G (c.fact i hi), qual, _, fd, a1, t1, FunD.plain f⟩
theorem cl0_at {K L : PySem.W.Frag} {mg : Str → Option Value} (le : Le K L) (e : (Fa.glo "NothingToUndo").ok K = true) (F : Cl0 K mg (ga K "NothingToUndo")) (v : PySem.W.findCls L (.type "IndexError") (.type "type") "__init__" = some (.val (.builtin "IndexError.__init__"))) : Cl0 L mg (ga L "NothingToUndo") := by
  rw [ga_le le (eqO_ok e)]
  obtain ⟨qual, f, fd, h1, h2, G⟩ := F.mkd
  obtain ⟨nm, q, N, bs, sn, sub, ab, col, dd, k0, k1, k2, k3, k5, hC⟩ := F.x0.cls
  exact ⟨⟨xc_le le F.x0.xc, ⟨nm, q, N, bs, sn, sub, ab, col, dd, k0, k1, k2, k3, k5, le _ _ hC⟩, v⟩, F.mgC, qual, f, fd, findIn_le le h1, typeIn_le le h2, fun_le le G⟩
theorem empX2 {K L : PySem.W.Frag} {e : Addr} (le : Le K L) (q : empB K e = true) : EmpK L e := by
  obtain ⟨od, n, sl, h⟩ := emp_at q
  exact empK_of (le _ _ h)
theorem mem_0 : hp0 ∈ hps := List.mem_of_getElem? (i := 0) rfl
abbrev KP0 (g : Gt) : PySem.W.Frag := frT g (hp0.as g)
theorem mem_1 : hp1 ∈ hps := List.mem_of_getElem? (i := 1) rfl
abbrev KP1 (g : Gt) : PySem.W.Frag := frT g (hp1.as g)
theorem mem_2 : hp2 ∈ hps := List.mem_of_getElem? (i := 2) rfl
abbrev KP2 (g : Gt) : PySem.W.Frag := frT g (hp2.as g)
theorem mem_3 : hp3 ∈ hps := List.mem_of_getElem? (i := 3) rfl
abbrev KP3 (g : Gt) : PySem.W.Frag := frT g (hp3.as g)
theorem mem_4 : hp4 ∈ hps := List.mem_of_getElem? (i := 4) rfl
abbrev KP4 (g : Gt) : PySem.W.Frag := frT g (hp4.as g)
theorem mem_5 : hp5 ∈ hps := List.mem_of_getElem? (i := 5) rfl
abbrev KP5 (g : Gt) : PySem.W.Frag := frT g (hp5.as g)
theorem mem_6 : hp6 ∈ hps := List.mem_of_getElem? (i := 6) rfl
abbrev KP6 (g : Gt) : PySem.W.Frag := frT g (hp6.as g)
theorem mem_7 : hp7 ∈ hps := List.mem_of_getElem? (i := 7) rfl
abbrev KP7 (g : Gt) : PySem.W.Frag := frT g (hp7.as g)
theorem mem_8 : hp8 ∈ hps := List.mem_of_getElem? (i := 8) rfl
abbrev KP8 (g : Gt) : PySem.W.Frag := frT g (hp8.as g)
theorem mem_9 : hp9 ∈ hps := List.mem_of_getElem? (i := 9) rfl
abbrev KP9 (g : Gt) : PySem.W.Frag := frT g (hp9.as g)
theorem mem_10 : hp10 ∈ hps := List.mem_of_getElem? (i := 10) rfl
abbrev KP10 (g : Gt) : PySem.W.Frag := frT g (hp10.as g)
theorem mem_11 : hp11 ∈ hps := List.mem_of_getElem? (i := 11) rfl
abbrev KP11 (g : Gt) : PySem.W.Frag := frT g (hp11.as g)
theorem mem_12 : hp12 ∈ hps := List.mem_of_getElem? (i := 12) rfl
abbrev KP12 (g : Gt) : PySem.W.Frag := frT g (hp12.as g)
theorem mem_13 : hp13 ∈ hps := List.mem_of_getElem? (i := 13) rfl
abbrev KP13 (g : Gt) : PySem.W.Frag := frT g (hp13.as g)
theorem mem_14 : hp14 ∈ hps := List.mem_of_getElem? (i := 14) rfl
abbrev KP14 (g : Gt) : PySem.W.Frag := frT g (hp14.as g)
theorem mem_15 : hp15 ∈ hps := List.mem_of_getElem? (i := 15) rfl
abbrev KP15 (g : Gt) : PySem.W.Frag := frT g (hp15.as g)
theorem mem_16 : hp16 ∈ hps := List.mem_of_getElem? (i := 16) rfl
abbrev KP16 (g : Gt) : PySem.W.Frag := frT g (hp16.as g)
theorem mem_17 : hp17 ∈ hps := List.mem_of_getElem? (i := 17) rfl
abbrev KP17 (g : Gt) : PySem.W.Frag := frT g (hp17.as g)
theorem mem_18 : hp18 ∈ hps := List.mem_of_getElem? (i := 18) rfl
abbrev KP18 (g : Gt) : PySem.W.Frag := frT g (hp18.as g)
theorem mem_19 : hp19 ∈ hps := List.mem_of_getElem? (i := 19) rfl
abbrev KP19 (g : Gt) : PySem.W.Frag := frT g (hp19.as g)
theorem mem_20 : hp20 ∈ hps := List.mem_of_getElem? (i := 20) rfl
abbrev KP20 (g : Gt) : PySem.W.Frag := frT g (hp20.as g)
theorem mem_21 : hp21 ∈ hps := List.mem_of_getElem? (i := 21) rfl
abbrev KP21 (g : Gt) : PySem.W.Frag := frT g (hp21.as g)
theorem mem_22 : hp22 ∈ hps := List.mem_of_getElem? (i := 22) rfl
abbrev KP22 (g : Gt) : PySem.W.Frag := frT g (hp22.as g)
theorem mem_23 : hp23 ∈ hps := List.mem_of_getElem? (i := 23) rfl
abbrev KP23 (g : Gt) : PySem.W.Frag := frT g (hp23.as g)
theorem mem_24 : hp24 ∈ hps := List.mem_of_getElem? (i := 24) rfl
abbrev KP24 (g : Gt) : PySem.W.Frag := frT g (hp24.as g)
theorem hfacts {w : World} {K : PySem.W.Frag} {h : Heap} {mg : Str → Option Value} {fa : Addr} (KX : K.In h) (G : h.Ns mainGlobals mg) (hfa' : mg "law" = some (.ref fa)) (g : Gt) (c : ∀ p ∈ hps, SaysP p w g K) :
    ∃ (fd : FuncData) (cs : List (Addr × Addr)), (∀ p ∈ cs, ∃ y, Door K mg ["law", "_law_made_right", "_law_nodes_right", "_law_others_right", "_law_bounds_right"] y p.1 p.2) ∧ (∀ (s : Shared) (v : Value), BindsTo s fd ⟨[v], []⟩ [("_law_script", v)]) ∧
        (∀ (H : Hp) (a : Addr) (ns : List Int), ns.length ≤ 63 → (∀ p ∈ cs, H p.2 = some (.tbl #[])) → SqL K H a (ns.map V.int) → spLawT K cs [.ref a] H (fun v _ => v = .bl true) fun _ _ _ => False) ∧
        ∀ base : Heap, K.In base → base.Ns mainGlobals mg → (∀ p ∈ cs, LamX.TabB base mg p.1 p.2) → GOk PySem.Challenge.rw_firenegatives_k71_boards_refuse.prog w K mg base 15 fa fd ["_law_script"] (spLawT K cs) := by
  have c0 := c hp0 mem_0
  have d0 := c0.t.d
  have le0 : Le (KP0 g) K := c0.le
  have KX0 := le_in le0 KX
  have c1 := c hp1 mem_1
  have d1 := c1.t.d
  have le1 : Le (KP1 g) K := c1.le
  have KX1 := le_in le1 KX
  have c2 := c hp2 mem_2
  have d2 := c2.t.d
  have le2 : Le (KP2 g) K := c2.le
  have KX2 := le_in le2 KX
  have c3 := c hp3 mem_3
  have d3 := c3.t.d
  have le3 : Le (KP3 g) K := c3.le
  have KX3 := le_in le3 KX
  have c4 := c hp4 mem_4
  have d4 := c4.t.d
  have le4 : Le (KP4 g) K := c4.le
  have KX4 := le_in le4 KX
  have c5 := c hp5 mem_5
  have d5 := c5.t.d
  have le5 : Le (KP5 g) K := c5.le
  have KX5 := le_in le5 KX
  have c6 := c hp6 mem_6
  have d6 := c6.t.d
  have le6 : Le (KP6 g) K := c6.le
  have KX6 := le_in le6 KX
  have c7 := c hp7 mem_7
  have d7 := c7.t.d
  have le7 : Le (KP7 g) K := c7.le
  have KX7 := le_in le7 KX
  have c8 := c hp8 mem_8
  have d8 := c8.t.d
  have le8 : Le (KP8 g) K := c8.le
  have KX8 := le_in le8 KX
  have c9 := c hp9 mem_9
  have d9 := c9.t.d
  have le9 : Le (KP9 g) K := c9.le
  have KX9 := le_in le9 KX
  have c10 := c hp10 mem_10
  have d10 := c10.t.d
  have le10 : Le (KP10 g) K := c10.le
  have KX10 := le_in le10 KX
  have c11 := c hp11 mem_11
  have d11 := c11.t.d
  have le11 : Le (KP11 g) K := c11.le
  have KX11 := le_in le11 KX
  have c12 := c hp12 mem_12
  have d12 := c12.t.d
  have le12 : Le (KP12 g) K := c12.le
  have KX12 := le_in le12 KX
  have c13 := c hp13 mem_13
  have d13 := c13.t.d
  have le13 : Le (KP13 g) K := c13.le
  have KX13 := le_in le13 KX
  have c14 := c hp14 mem_14
  have d14 := c14.t.d
  have le14 : Le (KP14 g) K := c14.le
  have KX14 := le_in le14 KX
  have c15 := c hp15 mem_15
  have d15 := c15.t.d
  have le15 : Le (KP15 g) K := c15.le
  have KX15 := le_in le15 KX
  have c16 := c hp16 mem_16
  have d16 := c16.t.d
  have le16 : Le (KP16 g) K := c16.le
  have KX16 := le_in le16 KX
  have c17 := c hp17 mem_17
  have d17 := c17.t.d
  have le17 : Le (KP17 g) K := c17.le
  have KX17 := le_in le17 KX
  have c18 := c hp18 mem_18
  have d18 := c18.t.d
  have le18 : Le (KP18 g) K := c18.le
  have KX18 := le_in le18 KX
  have c19 := c hp19 mem_19
  have d19 := c19.t.d
  have le19 : Le (KP19 g) K := c19.le
  have KX19 := le_in le19 KX
  have c20 := c hp20 mem_20
  have d20 := c20.t.d
  have le20 : Le (KP20 g) K := c20.le
  have KX20 := le_in le20 KX
  have c21 := c hp21 mem_21
  have d21 := c21.t.d
  have le21 : Le (KP21 g) K := c21.le
  have KX21 := le_in le21 KX
  have c22 := c hp22 mem_22
  have d22 := c22.t.d
  have le22 : Le (KP22 g) K := c22.le
  have KX22 := le_in le22 KX
  have c23 := c hp23 mem_23
  have d23 := c23.t.d
  have le23 : Le (KP23 g) K := c23.le
  have KX23 := le_in le23 KX
  have c24 := c hp24 mem_24
  have d24 := c24.t.d
  have le24 : Le (KP24 g) K := c24.le
  have KX24 := le_in le24 KX
  exact all_mk (l := PySem.Challenge.rw_firenegatives_k71_boards_refuse) (w := w) KX G hfa'
    (cl_at le0 (d0.fact 0 (f := .glo "InvalidPosition") rfl) (xCl F.excBase_ValueError chV KX0 G d0 0 0 rfl rfl K71.tInvalidPosition (allT_at c0.more 0) (allT_at c0.more 1)))
    (ty_at le0 (d0.fact 0 (f := .glo "InvalidPosition") rfl) (of_decide_eq_true (allT_at c0.more 2 : decide (PySem.W.typeIn (KP0 g) (.ref (ga (KP0 g) "InvalidPosition")) = some (.type "type")) = true)))
    (cl_at le1 (d1.fact 0 (f := .glo "InvalidPlayers") rfl) (xCl F.excBase_ValueError chV KX1 G d1 0 0 rfl rfl K71.tInvalidPlayers (allT_at c1.more 0) (allT_at c1.more 1)))
    (ty_at le1 (d1.fact 0 (f := .glo "InvalidPlayers") rfl) (of_decide_eq_true (allT_at c1.more 2 : decide (PySem.W.typeIn (KP1 g) (.ref (ga (KP1 g) "InvalidPlayers")) = some (.type "type")) = true)))
    (cl_at le2 (d2.fact 0 (f := .glo "InvalidNode") rfl) (xCl F.excBase_ValueError chV KX2 G d2 0 0 rfl rfl K71.tInvalidNode (allT_at c2.more 0) (allT_at c2.more 1)))
    (ty_at le2 (d2.fact 0 (f := .glo "InvalidNode") rfl) (of_decide_eq_true (allT_at c2.more 2 : decide (PySem.W.typeIn (KP2 g) (.ref (ga (KP2 g) "InvalidNode")) = some (.type "type")) = true)))
    (cl_at le3 (d3.fact 0 (f := .glo "InvalidNumber") rfl) (xCl F.excBase_ValueError chV KX3 G d3 0 0 rfl rfl K71.tInvalidNumber (allT_at c3.more 0) (allT_at c3.more 1)))
    (ty_at le3 (d3.fact 0 (f := .glo "InvalidNumber") rfl) (of_decide_eq_true (allT_at c3.more 2 : decide (PySem.W.typeIn (KP3 g) (.ref (ga (KP3 g) "InvalidNumber")) = some (.type "type")) = true)))
    (cl_at le4 (d4.fact 0 (f := .glo "InvalidEdge") rfl) (xCl F.excBase_ValueError chV KX4 G d4 0 0 rfl rfl K71.tInvalidEdge (allT_at c4.more 0) (allT_at c4.more 1)))
    (ty_at le4 (d4.fact 0 (f := .glo "InvalidEdge") rfl) (of_decide_eq_true (allT_at c4.more 2 : decide (PySem.W.typeIn (KP4 g) (.ref (ga (KP4 g) "InvalidEdge")) = some (.type "type")) = true)))
    (cl_at le5 (d5.fact 0 (f := .glo "InvalidLimit") rfl) (xCl F.excBase_ValueError chV KX5 G d5 0 0 rfl rfl K71.tInvalidLimit (allT_at c5.more 0) (allT_at c5.more 1)))
    (ty_at le5 (d5.fact 0 (f := .glo "InvalidLimit") rfl) (of_decide_eq_true (allT_at c5.more 2 : decide (PySem.W.typeIn (KP5 g) (.ref (ga (KP5 g) "InvalidLimit")) = some (.type "type")) = true)))
    (cl_at le6 (d6.fact 0 (f := .glo "InvalidOperation") rfl) (xCl F.excBase_ValueError chV KX6 G d6 0 0 rfl rfl K71.tInvalidOperation (allT_at c6.more 0) (allT_at c6.more 1)))
    (ty_at le6 (d6.fact 0 (f := .glo "InvalidOperation") rfl) (of_decide_eq_true (allT_at c6.more 2 : decide (PySem.W.typeIn (KP6 g) (.ref (ga (KP6 g) "InvalidOperation")) = some (.type "type")) = true)))
    (cl_at le7 (d7.fact 0 (f := .glo "NoPlayer") rfl) (xCl F.excBase_LookupError chL KX7 G d7 0 0 rfl rfl K71.tNoPlayer (allT_at c7.more 0) (allT_at c7.more 1)))
    (ty_at le7 (d7.fact 0 (f := .glo "NoPlayer") rfl) (of_decide_eq_true (allT_at c7.more 2 : decide (PySem.W.typeIn (KP7 g) (.ref (ga (KP7 g) "NoPlayer")) = some (.type "type")) = true)))
    (cl_at le8 (d8.fact 0 (f := .glo "TooMany") rfl) (xCl F.excBase_OverflowError chO KX8 G d8 0 0 rfl rfl K71.tTooMany (allT_at c8.more 0) (allT_at c8.more 1)))
    (ty_at le8 (d8.fact 0 (f := .glo "TooMany") rfl) (of_decide_eq_true (allT_at c8.more 2 : decide (PySem.W.typeIn (KP8 g) (.ref (ga (KP8 g) "TooMany")) = some (.type "type")) = true)))
    (cl0_at le9 (d9.fact 0 (f := .glo "NothingToUndo") rfl) (xCl0 KX9 G d9 0 0 rfl rfl (allT_at c9.more 1) (allT_at c9.more 2)) (vI0 K))
    (ty_at le9 (d9.fact 0 (f := .glo "NothingToUndo") rfl) (of_decide_eq_true (allT_at c9.more 3 : decide (PySem.W.typeIn (KP9 g) (.ref (ga (KP9 g) "NothingToUndo")) = some (.type "type")) = true)))
    (cl_at le10 (d10.fact 0 (f := .glo "InvalidSize") rfl) (xCl F.excBase_ValueError chV KX10 G d10 0 0 rfl rfl K71.tInvalidSize (allT_at c10.more 0) (allT_at c10.more 1)))
    (ty_at le10 (d10.fact 0 (f := .glo "InvalidSize") rfl) (of_decide_eq_true (allT_at c10.more 2 : decide (PySem.W.typeIn (KP10 g) (.ref (ga (KP10 g) "InvalidSize")) = some (.type "type")) = true)))
    (cl_at le11 (d11.fact 0 (f := .glo "NotNegative") rfl) (xCl F.excBase_RuntimeError chR KX11 G d11 0 0 rfl rfl K71.tNotNegative (allT_at c11.more 0) (allT_at c11.more 1)))
    (ty_at le11 (d11.fact 0 (f := .glo "NotNegative") rfl) (of_decide_eq_true (allT_at c11.more 2 : decide (PySem.W.typeIn (KP11 g) (.ref (ga (KP11 g) "NotNegative")) = some (.type "type")) = true)))
    (glo_at le12 (d12.fact 0 (f := .glo "Graph") rfl))
    (cls_at le12 (d12.fact 0 (f := .glo "Graph") rfl) (He.cls_ok (d12.fact 1 (f := .cls "Graph") rfl)))
    (no_at le12 (d12.fact 0 (f := .glo "Graph") rfl) (He.noat_ok (d12.fact 2 (f := .noat "Graph" "node_count") rfl)))
    (no_at le12 (d12.fact 0 (f := .glo "Graph") rfl) (He.noat_ok (d12.fact 3 (f := .noat "Graph" "joined") rfl)))
    (no_at le12 (d12.fact 0 (f := .glo "Graph") rfl) (He.noat_ok (d12.fact 4 (f := .noat "Graph" "near") rfl)))
    (inF_at le12 (d12.fact 0 (f := .glo "Graph") rfl) (xInF d12 5 0 rfl rfl))
    (glo_at le13 (d13.fact 0 (f := .glo "State") rfl))
    (cls_at le13 (d13.fact 0 (f := .glo "State") rfl) (He.cls_ok (d13.fact 1 (f := .cls "State") rfl)))
    (no_at le13 (d13.fact 0 (f := .glo "State") rfl) (He.noat_ok (d13.fact 2 (f := .noat "State" "drawn") rfl)))
    (no_at le13 (d13.fact 0 (f := .glo "State") rfl) (He.noat_ok (d13.fact 3 (f := .noat "State" "numbers") rfl)))
    (no_at le13 (d13.fact 0 (f := .glo "State") rfl) (He.noat_ok (d13.fact 4 (f := .noat "State" "points") rfl)))
    (in0_at le13 (d13.fact 0 (f := .glo "State") rfl) (xIn0 d13 5 0 rfl rfl))
    (glo_at le14 (d14.fact 0 (f := .glo "Board") rfl))
    (cls_at le14 (d14.fact 0 (f := .glo "Board") rfl) (He.cls_ok (d14.fact 1 (f := .cls "Board") rfl)))
    (no_at le14 (d14.fact 0 (f := .glo "Board") rfl) (He.noat_ok (d14.fact 2 (f := .noat "Board" "state") rfl)))
    (no_at le14 (d14.fact 0 (f := .glo "Board") rfl) (He.noat_ok (d14.fact 3 (f := .noat "Board" "past") rfl)))
    (inI_at le14 (d14.fact 0 (f := .glo "Board") rfl) (xInI d14 4 0 rfl rfl))
    (by rw [ga_le le12 (eqO_ok (d12.fact 0 (f := .glo "Graph") rfl))]; exact findIn_le le12 (of_decide_eq_true (allT_at c12.more 0 : decide (PySem.W.findIn (KP12 g) (.ref (ga (KP12 g) "Graph")) "__class__" = some (some (.builtin "object.__class__"))) = true)))
    (specialIn_le le12 (of_decide_eq_true (allT_at c12.more 1 : decide (PySem.W.specialIn (KP12 g) (.builtin "object.__class__") "__get__" = some (some (.builtin "getset_descriptor.__get__"))) = true)))
    (takesIn_le le12 (of_decide_eq_true (allT_at c12.more 2 : decide (PySem.W.takesIn (KP12 g) (.builtin "object.__class__") = some true) = true)))
    (by rw [ga_le le12 (eqO_ok (d12.fact 0 (f := .glo "Graph") rfl))]; exact mroIn_le le12 (of_decide_eq_true (allT_at c12.more 3 : decide (PySem.W.mroIn (KP12 g) (ga (KP12 g) "Graph") (.type "object") = some true) = true)))
    (by rw [ga_le le12 (eqO_ok (d12.fact 0 (f := .glo "Graph") rfl))]; exact kitOne_le le12 (of_decide_eq_true (allT_at c12.more 4 : decide (PySem.W.kitOne (KP12 g) (.ref (ga (KP12 g) "Graph")) (.ref (ga (KP12 g) "Graph")) = some true) = true)))
    (by rw [ga_le le12 (eqO_ok (d12.fact 0 (f := .glo "Graph") rfl))]; exact findIn_le le12 (of_decide_eq_true (allT_at c12.more 5 : decide (PySem.W.findIn (KP12 g) (.ref (ga (KP12 g) "Graph")) "__ne__" = some (some (.builtin "object.__ne__"))) = true)))
    (empX2 le12 (allT_at c12.more 6))
    (fnF_at le15 (d15.fact 0 (f := .glo "is_integer") rfl) (xF KX15 G d15 0 0 rfl rfl))
    (fnF_at le15 (d15.fact 1 (f := .glo "is_integer_within") rfl) (xF KX15 G d15 1 1 rfl rfl))
    (fnF_at le15 (d15.fact 2 (f := .glo "is_integer_list") rfl) (xF KX15 G d15 2 2 rfl rfl))
    (fnF_at le15 (d15.fact 3 (f := .glo "is_node") rfl) (xF KX15 G d15 3 3 rfl rfl))
    (fnF_at le15 (d15.fact 4 (f := .glo "check_node") rfl) (xF KX15 G d15 4 4 rfl rfl))
    (fnF_at le15 (d15.fact 5 (f := .glo "check_position") rfl) (xF KX15 G d15 5 5 rfl rfl))
    (fnF_at le15 (d15.fact 6 (f := .glo "check_limit") rfl) (xF KX15 G d15 6 6 rfl rfl))
    (fnF_at le15 (d15.fact 7 (f := .glo "check_number") rfl) (xF KX15 G d15 7 7 rfl rfl))
    (fnF_at le15 (d15.fact 8 (f := .glo "check_player") rfl) (xF KX15 G d15 8 8 rfl rfl))
    (fnF_at le15 (d15.fact 9 (f := .glo "flip_in_place") rfl) (xF KX15 G d15 9 9 rfl rfl))
    (fnF_at le16 (d16.fact 0 (f := .glo "is_edge") rfl) (xF KX16 G d16 0 0 rfl rfl))
    (fnF_at le16 (d16.fact 1 (f := .glo "checked_edges") rfl) (xF KX16 G d16 1 1 rfl rfl))
    (fnF_at le16 (d16.fact 2 (f := .glo "neighbour_lists") rfl) (xF KX16 G d16 2 2 rfl rfl))
    (mtF_at le17 (d17.fact 0 (f := .glo "Graph") rfl) (xM d17 1 0 rfl rfl))
    (mtF_at le17 (d17.fact 0 (f := .glo "Graph") rfl) (xM d17 2 1 rfl rfl))
    (mtF_at le17 (d17.fact 0 (f := .glo "Graph") rfl) (xM d17 3 2 rfl rfl))
    (mtF_at le17 (d17.fact 0 (f := .glo "Graph") rfl) (xM d17 4 3 rfl rfl))
    (fnF_at le16 (d16.fact 3 (f := .glo "fire_node") rfl) (xF KX16 G d16 3 3 rfl rfl))
    (fnF_at le16 (d16.fact 4 (f := .glo "put_number") rfl) (xF KX16 G d16 4 4 rfl rfl))
    (fnF_at le16 (d16.fact 5 (f := .glo "append_node") rfl) (xF KX16 G d16 5 5 rfl rfl))
    (fnF_at le16 (d16.fact 6 (f := .glo "checked_edge") rfl) (xF KX16 G d16 6 6 rfl rfl))
    (fnF_at le16 (d16.fact 7 (f := .glo "join_nodes") rfl) (xF KX16 G d16 7 7 rfl rfl))
    (fnF_at le16 (d16.fact 8 (f := .glo "part_nodes") rfl) (xF KX16 G d16 8 8 rfl rfl))
    (fnF_at le16 (d16.fact 9 (f := .glo "perform") rfl) (xF KX16 G d16 9 9 rfl rfl))
    (mtF_at le18 (d18.fact 0 (f := .glo "Board") rfl) (xM d18 1 0 rfl rfl))
    (mtF_at le18 (d18.fact 0 (f := .glo "Board") rfl) (xM d18 2 1 rfl rfl))
    (mtF_at le18 (d18.fact 0 (f := .glo "Board") rfl) (xM d18 3 2 rfl rfl))
    (mtF_at le18 (d18.fact 0 (f := .glo "Board") rfl) (xM d18 4 3 rfl rfl))
    (mtF_at le18 (d18.fact 0 (f := .glo "Board") rfl) (xM d18 5 4 rfl rfl))
    (mtF_at le18 (d18.fact 0 (f := .glo "Board") rfl) (xM d18 6 5 rfl rfl))
    (mtF_at le18 (d18.fact 0 (f := .glo "Board") rfl) (xM d18 7 6 rfl rfl))
    (mtF_at le18 (d18.fact 0 (f := .glo "Board") rfl) (xM d18 8 7 rfl rfl))
    (mtF_at le18 (d18.fact 0 (f := .glo "Board") rfl) (xM d18 9 8 rfl rfl))
    (mtF_at le18 (d18.fact 0 (f := .glo "Board") rfl) (xM d18 10 9 rfl rfl))
    (mtF_at le19 (d19.fact 0 (f := .glo "Board") rfl) (xM d19 1 0 rfl rfl))
    (mtF_at le19 (d19.fact 0 (f := .glo "Board") rfl) (xM d19 2 1 rfl rfl))
    (fnF_at le20 (d20.fact 0 (f := .glo "written") rfl) (xF KX20 G d20 0 0 rfl rfl))
    (mtF_at le19 (d19.fact 0 (f := .glo "Board") rfl) (xM d19 3 2 rfl rfl))
    (fnF_at le20 (d20.fact 1 (f := .glo "outcome") rfl) (xF KX20 G d20 1 1 rfl rfl))
    (mtF_at le19 (d19.fact 0 (f := .glo "Board") rfl) (xM d19 4 3 rfl rfl))
    (fnF_at le20 (d20.fact 2 (f := .glo "_law_pool") rfl) (xF KX20 G d20 2 2 rfl rfl))
    (fnF_at le20 (d20.fact 3 (f := .glo "_law_take") rfl) (xF KX20 G d20 3 3 rfl rfl))
    (fnF_at le20 (d20.fact 4 (f := .glo "_law_error") rfl) (xF KX20 G d20 4 4 rfl rfl))
    (fnC_le le21 (xFC KX21 G d21 0 0 rfl rfl (c21.hd _ (List.mem_cons_of_mem _ List.mem_cons_self)) (frT_out le21 (c21.out _ (List.mem_cons_of_mem _ List.mem_cons_self))) (of_decide_eq_true (allT_at c21.more 0 : decide ((cT (KP21 g) ("_law_made_right", none)).2 ≠ 0) = true))) (c21.out _ (List.mem_cons_of_mem _ List.mem_cons_self)))
    (fnC_le le21 (xFC KX21 G d21 1 1 rfl rfl (c21.hd _ (List.mem_cons_of_mem _ (List.mem_cons_of_mem _ List.mem_cons_self))) (frT_out le21 (c21.out _ (List.mem_cons_of_mem _ (List.mem_cons_of_mem _ List.mem_cons_self)))) (of_decide_eq_true (allT_at c21.more 1 : decide ((cT (KP21 g) ("_law_nodes_right", none)).2 ≠ 0) = true))) (c21.out _ (List.mem_cons_of_mem _ (List.mem_cons_of_mem _ List.mem_cons_self))))
    (fnC_le le21 (xFC KX21 G d21 2 2 rfl rfl (c21.hd _ (List.mem_cons_of_mem _ (List.mem_cons_of_mem _ (List.mem_cons_of_mem _ List.mem_cons_self)))) (frT_out le21 (c21.out _ (List.mem_cons_of_mem _ (List.mem_cons_of_mem _ (List.mem_cons_of_mem _ List.mem_cons_self))))) (of_decide_eq_true (allT_at c21.more 2 : decide ((cT (KP21 g) ("_law_others_right", none)).2 ≠ 0) = true))) (c21.out _ (List.mem_cons_of_mem _ (List.mem_cons_of_mem _ (List.mem_cons_of_mem _ List.mem_cons_self)))))
    (fnC_le le21 (xFC KX21 G d21 3 3 rfl rfl (c21.hd _ (List.mem_cons_of_mem _ (List.mem_cons_of_mem _ (List.mem_cons_of_mem _ (List.mem_cons_of_mem _ List.mem_cons_self))))) (frT_out le21 (c21.out _ (List.mem_cons_of_mem _ (List.mem_cons_of_mem _ (List.mem_cons_of_mem _ (List.mem_cons_of_mem _ List.mem_cons_self)))))) (of_decide_eq_true (allT_at c21.more 3 : decide ((cT (KP21 g) ("_law_bounds_right", none)).2 ≠ 0) = true))) (c21.out _ (List.mem_cons_of_mem _ (List.mem_cons_of_mem _ (List.mem_cons_of_mem _ (List.mem_cons_of_mem _ List.mem_cons_self))))))
    (of_decide_eq_true (allT_at c21.more 4 : decide ((cT (KP21 g) ("law", none)).2 ≠ (cT (KP21 g) ("_law_made_right", none)).2) = true))
    (of_decide_eq_true (allT_at c21.more 5 : decide ((cT (KP21 g) ("law", none)).2 ≠ (cT (KP21 g) ("_law_nodes_right", none)).2) = true))
    (of_decide_eq_true (allT_at c21.more 6 : decide ((cT (KP21 g) ("law", none)).2 ≠ (cT (KP21 g) ("_law_others_right", none)).2) = true))
    (of_decide_eq_true (allT_at c21.more 7 : decide ((cT (KP21 g) ("law", none)).2 ≠ (cT (KP21 g) ("_law_bounds_right", none)).2) = true))
    (of_decide_eq_true (allT_at c21.more 8 : decide ((cT (KP21 g) ("_law_made_right", none)).2 ≠ (cT (KP21 g) ("_law_nodes_right", none)).2) = true))
    (of_decide_eq_true (allT_at c21.more 9 : decide ((cT (KP21 g) ("_law_made_right", none)).2 ≠ (cT (KP21 g) ("_law_others_right", none)).2) = true))
    (of_decide_eq_true (allT_at c21.more 10 : decide ((cT (KP21 g) ("_law_made_right", none)).2 ≠ (cT (KP21 g) ("_law_bounds_right", none)).2) = true))
    (of_decide_eq_true (allT_at c21.more 11 : decide ((cT (KP21 g) ("_law_nodes_right", none)).2 ≠ (cT (KP21 g) ("_law_others_right", none)).2) = true))
    (of_decide_eq_true (allT_at c21.more 12 : decide ((cT (KP21 g) ("_law_nodes_right", none)).2 ≠ (cT (KP21 g) ("_law_bounds_right", none)).2) = true))
    (of_decide_eq_true (allT_at c21.more 13 : decide ((cT (KP21 g) ("_law_others_right", none)).2 ≠ (cT (KP21 g) ("_law_bounds_right", none)).2) = true))
    (fnC_le le21 (xFC KX21 G d21 4 4 rfl rfl (c21.hd _ List.mem_cons_self) (frT_out le21 (c21.out _ List.mem_cons_self)) (of_decide_eq_true (allT_at c21.more 14 : decide ((cT (KP21 g) ("law", none)).2 ≠ 0) = true))) (c21.out _ List.mem_cons_self))
    (glo_at le22 (d22.fact 0 (f := .glo "ACTIONS") rfl))
    (dct_at le22 (d22.fact 0 (f := .glo "ACTIONS") rfl) (dctX (c22.t.tab 0 (t := (fun K => ga K "ACTIONS", keys0)) rfl)))
    (val_at le22 (d22.fact 0 (f := .glo "ACTIONS") rfl) (d22.fact 1 (f := .glo "fire_node") rfl) (of_decide_eq_true (allT_at c22.more 0 : decide (PySem.W.nsIn (KP22 g) (ga (KP22 g) "ACTIONS") "fire" = some (some (.ref (ga (KP22 g) "fire_node")))) = true)))
    (val_at le22 (d22.fact 0 (f := .glo "ACTIONS") rfl) (d22.fact 2 (f := .glo "put_number") rfl) (of_decide_eq_true (allT_at c22.more 1 : decide (PySem.W.nsIn (KP22 g) (ga (KP22 g) "ACTIONS") "put" = some (some (.ref (ga (KP22 g) "put_number")))) = true)))
    (val_at le22 (d22.fact 0 (f := .glo "ACTIONS") rfl) (d22.fact 3 (f := .glo "append_node") rfl) (of_decide_eq_true (allT_at c22.more 2 : decide (PySem.W.nsIn (KP22 g) (ga (KP22 g) "ACTIONS") "add_node" = some (some (.ref (ga (KP22 g) "append_node")))) = true)))
    (val_at le22 (d22.fact 0 (f := .glo "ACTIONS") rfl) (d22.fact 4 (f := .glo "join_nodes") rfl) (of_decide_eq_true (allT_at c22.more 3 : decide (PySem.W.nsIn (KP22 g) (ga (KP22 g) "ACTIONS") "add_edge" = some (some (.ref (ga (KP22 g) "join_nodes")))) = true)))
    (val_at le22 (d22.fact 0 (f := .glo "ACTIONS") rfl) (d22.fact 5 (f := .glo "part_nodes") rfl) (of_decide_eq_true (allT_at c22.more 4 : decide (PySem.W.nsIn (KP22 g) (ga (KP22 g) "ACTIONS") "remove_edge" = some (some (.ref (ga (KP22 g) "part_nodes")))) = true)))
    (nsIn_le le23 (nsInt (allT_at c23.more 0)))
    (nsIn_le le23 (nsInt (allT_at c23.more 1)))
    (nsIn_le le23 (nsInt (allT_at c23.more 2)))
    (nsIn_le le23 (nsInt (allT_at c23.more 3)))
    (free_at le23 (d23.fact 0 (f := .free "isinstance") rfl))
    (free_at le23 (d23.fact 1 (f := .free "int") rfl))
    (free_at le23 (d23.fact 2 (f := .free "bool") rfl))
    (free_at le23 (d23.fact 3 (f := .free "list") rfl))
    (free_at le23 (d23.fact 4 (f := .free "tuple") rfl))
    (free_at le23 (d23.fact 5 (f := .free "len") rfl))
    (free_at le23 (d23.fact 6 (f := .free "all") rfl))
    (free_at le23 (d23.fact 7 (f := .free "range") rfl))
    (free_at le23 (d23.fact 8 (f := .free "enumerate") rfl))
    (free_at le23 (d23.fact 9 (f := .free "min") rfl))
    (free_at le23 (d23.fact 10 (f := .free "max") rfl))
    (free_at le23 (d23.fact 11 (f := .free "sorted") rfl))
    (free_at le23 (d23.fact 12 (f := .free "repr") rfl))
    (free_at le23 (d23.fact 13 (f := .free "IndexError") rfl))
    (exm_at le24 (d24.fact 0 (f := .glo "InvalidPosition") rfl) (d24.fact 0 (f := .glo "InvalidPosition") rfl) (of_decide_eq_true (allT_at c24.more 0 : decide (PySem.W.exmOne (KP24 g) (.ref (ga (KP24 g) "InvalidPosition")) (.ref (ga (KP24 g) "InvalidPosition")) = some true) = true)))
    (exm_at le24 (d24.fact 1 (f := .glo "InvalidPlayers") rfl) (d24.fact 0 (f := .glo "InvalidPosition") rfl) (of_decide_eq_true (allT_at c24.more 1 : decide (PySem.W.exmOne (KP24 g) (.ref (ga (KP24 g) "InvalidPlayers")) (.ref (ga (KP24 g) "InvalidPosition")) = some false) = true)))
    (exm_at le24 (d24.fact 1 (f := .glo "InvalidPlayers") rfl) (d24.fact 1 (f := .glo "InvalidPlayers") rfl) (of_decide_eq_true (allT_at c24.more 2 : decide (PySem.W.exmOne (KP24 g) (.ref (ga (KP24 g) "InvalidPlayers")) (.ref (ga (KP24 g) "InvalidPlayers")) = some true) = true)))
    (exm_at le24 (d24.fact 2 (f := .glo "InvalidNode") rfl) (d24.fact 0 (f := .glo "InvalidPosition") rfl) (of_decide_eq_true (allT_at c24.more 3 : decide (PySem.W.exmOne (KP24 g) (.ref (ga (KP24 g) "InvalidNode")) (.ref (ga (KP24 g) "InvalidPosition")) = some false) = true)))
    (exm_at le24 (d24.fact 2 (f := .glo "InvalidNode") rfl) (d24.fact 1 (f := .glo "InvalidPlayers") rfl) (of_decide_eq_true (allT_at c24.more 4 : decide (PySem.W.exmOne (KP24 g) (.ref (ga (KP24 g) "InvalidNode")) (.ref (ga (KP24 g) "InvalidPlayers")) = some false) = true)))
    (exm_at le24 (d24.fact 2 (f := .glo "InvalidNode") rfl) (d24.fact 2 (f := .glo "InvalidNode") rfl) (of_decide_eq_true (allT_at c24.more 5 : decide (PySem.W.exmOne (KP24 g) (.ref (ga (KP24 g) "InvalidNode")) (.ref (ga (KP24 g) "InvalidNode")) = some true) = true)))
    (exm_at le24 (d24.fact 3 (f := .glo "InvalidNumber") rfl) (d24.fact 0 (f := .glo "InvalidPosition") rfl) (of_decide_eq_true (allT_at c24.more 6 : decide (PySem.W.exmOne (KP24 g) (.ref (ga (KP24 g) "InvalidNumber")) (.ref (ga (KP24 g) "InvalidPosition")) = some false) = true)))
    (exm_at le24 (d24.fact 3 (f := .glo "InvalidNumber") rfl) (d24.fact 1 (f := .glo "InvalidPlayers") rfl) (of_decide_eq_true (allT_at c24.more 7 : decide (PySem.W.exmOne (KP24 g) (.ref (ga (KP24 g) "InvalidNumber")) (.ref (ga (KP24 g) "InvalidPlayers")) = some false) = true)))
    (exm_at le24 (d24.fact 3 (f := .glo "InvalidNumber") rfl) (d24.fact 2 (f := .glo "InvalidNode") rfl) (of_decide_eq_true (allT_at c24.more 8 : decide (PySem.W.exmOne (KP24 g) (.ref (ga (KP24 g) "InvalidNumber")) (.ref (ga (KP24 g) "InvalidNode")) = some false) = true)))
    (exm_at le24 (d24.fact 3 (f := .glo "InvalidNumber") rfl) (d24.fact 3 (f := .glo "InvalidNumber") rfl) (of_decide_eq_true (allT_at c24.more 9 : decide (PySem.W.exmOne (KP24 g) (.ref (ga (KP24 g) "InvalidNumber")) (.ref (ga (KP24 g) "InvalidNumber")) = some true) = true)))
    (exm_at le24 (d24.fact 4 (f := .glo "InvalidEdge") rfl) (d24.fact 0 (f := .glo "InvalidPosition") rfl) (of_decide_eq_true (allT_at c24.more 10 : decide (PySem.W.exmOne (KP24 g) (.ref (ga (KP24 g) "InvalidEdge")) (.ref (ga (KP24 g) "InvalidPosition")) = some false) = true)))
    (exm_at le24 (d24.fact 4 (f := .glo "InvalidEdge") rfl) (d24.fact 1 (f := .glo "InvalidPlayers") rfl) (of_decide_eq_true (allT_at c24.more 11 : decide (PySem.W.exmOne (KP24 g) (.ref (ga (KP24 g) "InvalidEdge")) (.ref (ga (KP24 g) "InvalidPlayers")) = some false) = true)))
    (exm_at le24 (d24.fact 4 (f := .glo "InvalidEdge") rfl) (d24.fact 2 (f := .glo "InvalidNode") rfl) (of_decide_eq_true (allT_at c24.more 12 : decide (PySem.W.exmOne (KP24 g) (.ref (ga (KP24 g) "InvalidEdge")) (.ref (ga (KP24 g) "InvalidNode")) = some false) = true)))
    (exm_at le24 (d24.fact 4 (f := .glo "InvalidEdge") rfl) (d24.fact 3 (f := .glo "InvalidNumber") rfl) (of_decide_eq_true (allT_at c24.more 13 : decide (PySem.W.exmOne (KP24 g) (.ref (ga (KP24 g) "InvalidEdge")) (.ref (ga (KP24 g) "InvalidNumber")) = some false) = true)))
    (exm_at le24 (d24.fact 4 (f := .glo "InvalidEdge") rfl) (d24.fact 4 (f := .glo "InvalidEdge") rfl) (of_decide_eq_true (allT_at c24.more 14 : decide (PySem.W.exmOne (KP24 g) (.ref (ga (KP24 g) "InvalidEdge")) (.ref (ga (KP24 g) "InvalidEdge")) = some true) = true)))
    (exm_at le24 (d24.fact 4 (f := .glo "InvalidEdge") rfl) (d24.fact 5 (f := .glo "InvalidLimit") rfl) (of_decide_eq_true (allT_at c24.more 15 : decide (PySem.W.exmOne (KP24 g) (.ref (ga (KP24 g) "InvalidEdge")) (.ref (ga (KP24 g) "InvalidLimit")) = some false) = true)))
    (exm_at le24 (d24.fact 4 (f := .glo "InvalidEdge") rfl) (d24.fact 6 (f := .glo "InvalidOperation") rfl) (of_decide_eq_true (allT_at c24.more 16 : decide (PySem.W.exmOne (KP24 g) (.ref (ga (KP24 g) "InvalidEdge")) (.ref (ga (KP24 g) "InvalidOperation")) = some false) = true)))
    (exm_at le24 (d24.fact 5 (f := .glo "InvalidLimit") rfl) (d24.fact 0 (f := .glo "InvalidPosition") rfl) (of_decide_eq_true (allT_at c24.more 17 : decide (PySem.W.exmOne (KP24 g) (.ref (ga (KP24 g) "InvalidLimit")) (.ref (ga (KP24 g) "InvalidPosition")) = some false) = true)))
    (exm_at le24 (d24.fact 5 (f := .glo "InvalidLimit") rfl) (d24.fact 1 (f := .glo "InvalidPlayers") rfl) (of_decide_eq_true (allT_at c24.more 18 : decide (PySem.W.exmOne (KP24 g) (.ref (ga (KP24 g) "InvalidLimit")) (.ref (ga (KP24 g) "InvalidPlayers")) = some false) = true)))
    (exm_at le24 (d24.fact 5 (f := .glo "InvalidLimit") rfl) (d24.fact 2 (f := .glo "InvalidNode") rfl) (of_decide_eq_true (allT_at c24.more 19 : decide (PySem.W.exmOne (KP24 g) (.ref (ga (KP24 g) "InvalidLimit")) (.ref (ga (KP24 g) "InvalidNode")) = some false) = true)))
    (exm_at le24 (d24.fact 5 (f := .glo "InvalidLimit") rfl) (d24.fact 3 (f := .glo "InvalidNumber") rfl) (of_decide_eq_true (allT_at c24.more 20 : decide (PySem.W.exmOne (KP24 g) (.ref (ga (KP24 g) "InvalidLimit")) (.ref (ga (KP24 g) "InvalidNumber")) = some false) = true)))
    (exm_at le24 (d24.fact 5 (f := .glo "InvalidLimit") rfl) (d24.fact 4 (f := .glo "InvalidEdge") rfl) (of_decide_eq_true (allT_at c24.more 21 : decide (PySem.W.exmOne (KP24 g) (.ref (ga (KP24 g) "InvalidLimit")) (.ref (ga (KP24 g) "InvalidEdge")) = some false) = true)))
    (exm_at le24 (d24.fact 5 (f := .glo "InvalidLimit") rfl) (d24.fact 5 (f := .glo "InvalidLimit") rfl) (of_decide_eq_true (allT_at c24.more 22 : decide (PySem.W.exmOne (KP24 g) (.ref (ga (KP24 g) "InvalidLimit")) (.ref (ga (KP24 g) "InvalidLimit")) = some true) = true)))
    (exm_at le24 (d24.fact 5 (f := .glo "InvalidLimit") rfl) (d24.fact 6 (f := .glo "InvalidOperation") rfl) (of_decide_eq_true (allT_at c24.more 23 : decide (PySem.W.exmOne (KP24 g) (.ref (ga (KP24 g) "InvalidLimit")) (.ref (ga (KP24 g) "InvalidOperation")) = some false) = true)))
    (exm_at le24 (d24.fact 6 (f := .glo "InvalidOperation") rfl) (d24.fact 0 (f := .glo "InvalidPosition") rfl) (of_decide_eq_true (allT_at c24.more 24 : decide (PySem.W.exmOne (KP24 g) (.ref (ga (KP24 g) "InvalidOperation")) (.ref (ga (KP24 g) "InvalidPosition")) = some false) = true)))
    (exm_at le24 (d24.fact 6 (f := .glo "InvalidOperation") rfl) (d24.fact 1 (f := .glo "InvalidPlayers") rfl) (of_decide_eq_true (allT_at c24.more 25 : decide (PySem.W.exmOne (KP24 g) (.ref (ga (KP24 g) "InvalidOperation")) (.ref (ga (KP24 g) "InvalidPlayers")) = some false) = true)))
    (exm_at le24 (d24.fact 6 (f := .glo "InvalidOperation") rfl) (d24.fact 2 (f := .glo "InvalidNode") rfl) (of_decide_eq_true (allT_at c24.more 26 : decide (PySem.W.exmOne (KP24 g) (.ref (ga (KP24 g) "InvalidOperation")) (.ref (ga (KP24 g) "InvalidNode")) = some false) = true)))
    (exm_at le24 (d24.fact 6 (f := .glo "InvalidOperation") rfl) (d24.fact 3 (f := .glo "InvalidNumber") rfl) (of_decide_eq_true (allT_at c24.more 27 : decide (PySem.W.exmOne (KP24 g) (.ref (ga (KP24 g) "InvalidOperation")) (.ref (ga (KP24 g) "InvalidNumber")) = some false) = true)))
    (exm_at le24 (d24.fact 6 (f := .glo "InvalidOperation") rfl) (d24.fact 4 (f := .glo "InvalidEdge") rfl) (of_decide_eq_true (allT_at c24.more 28 : decide (PySem.W.exmOne (KP24 g) (.ref (ga (KP24 g) "InvalidOperation")) (.ref (ga (KP24 g) "InvalidEdge")) = some false) = true)))
    (exm_at le24 (d24.fact 6 (f := .glo "InvalidOperation") rfl) (d24.fact 5 (f := .glo "InvalidLimit") rfl) (of_decide_eq_true (allT_at c24.more 29 : decide (PySem.W.exmOne (KP24 g) (.ref (ga (KP24 g) "InvalidOperation")) (.ref (ga (KP24 g) "InvalidLimit")) = some false) = true)))
    (exm_at le24 (d24.fact 6 (f := .glo "InvalidOperation") rfl) (d24.fact 6 (f := .glo "InvalidOperation") rfl) (of_decide_eq_true (allT_at c24.more 30 : decide (PySem.W.exmOne (KP24 g) (.ref (ga (KP24 g) "InvalidOperation")) (.ref (ga (KP24 g) "InvalidOperation")) = some true) = true)))
    (exm_at le24 (d24.fact 7 (f := .glo "NoPlayer") rfl) (d24.fact 0 (f := .glo "InvalidPosition") rfl) (of_decide_eq_true (allT_at c24.more 31 : decide (PySem.W.exmOne (KP24 g) (.ref (ga (KP24 g) "NoPlayer")) (.ref (ga (KP24 g) "InvalidPosition")) = some false) = true)))
    (exm_at le24 (d24.fact 7 (f := .glo "NoPlayer") rfl) (d24.fact 1 (f := .glo "InvalidPlayers") rfl) (of_decide_eq_true (allT_at c24.more 32 : decide (PySem.W.exmOne (KP24 g) (.ref (ga (KP24 g) "NoPlayer")) (.ref (ga (KP24 g) "InvalidPlayers")) = some false) = true)))
    (exm_at le24 (d24.fact 7 (f := .glo "NoPlayer") rfl) (d24.fact 2 (f := .glo "InvalidNode") rfl) (of_decide_eq_true (allT_at c24.more 33 : decide (PySem.W.exmOne (KP24 g) (.ref (ga (KP24 g) "NoPlayer")) (.ref (ga (KP24 g) "InvalidNode")) = some false) = true)))
    (exm_at le24 (d24.fact 7 (f := .glo "NoPlayer") rfl) (d24.fact 3 (f := .glo "InvalidNumber") rfl) (of_decide_eq_true (allT_at c24.more 34 : decide (PySem.W.exmOne (KP24 g) (.ref (ga (KP24 g) "NoPlayer")) (.ref (ga (KP24 g) "InvalidNumber")) = some false) = true)))
    (exm_at le24 (d24.fact 7 (f := .glo "NoPlayer") rfl) (d24.fact 4 (f := .glo "InvalidEdge") rfl) (of_decide_eq_true (allT_at c24.more 35 : decide (PySem.W.exmOne (KP24 g) (.ref (ga (KP24 g) "NoPlayer")) (.ref (ga (KP24 g) "InvalidEdge")) = some false) = true)))
    (exm_at le24 (d24.fact 7 (f := .glo "NoPlayer") rfl) (d24.fact 5 (f := .glo "InvalidLimit") rfl) (of_decide_eq_true (allT_at c24.more 36 : decide (PySem.W.exmOne (KP24 g) (.ref (ga (KP24 g) "NoPlayer")) (.ref (ga (KP24 g) "InvalidLimit")) = some false) = true)))
    (exm_at le24 (d24.fact 7 (f := .glo "NoPlayer") rfl) (d24.fact 6 (f := .glo "InvalidOperation") rfl) (of_decide_eq_true (allT_at c24.more 37 : decide (PySem.W.exmOne (KP24 g) (.ref (ga (KP24 g) "NoPlayer")) (.ref (ga (KP24 g) "InvalidOperation")) = some false) = true)))
    (exm_at le24 (d24.fact 7 (f := .glo "NoPlayer") rfl) (d24.fact 7 (f := .glo "NoPlayer") rfl) (of_decide_eq_true (allT_at c24.more 38 : decide (PySem.W.exmOne (KP24 g) (.ref (ga (KP24 g) "NoPlayer")) (.ref (ga (KP24 g) "NoPlayer")) = some true) = true)))
    (exm_at le24 (d24.fact 8 (f := .glo "TooMany") rfl) (d24.fact 0 (f := .glo "InvalidPosition") rfl) (of_decide_eq_true (allT_at c24.more 39 : decide (PySem.W.exmOne (KP24 g) (.ref (ga (KP24 g) "TooMany")) (.ref (ga (KP24 g) "InvalidPosition")) = some false) = true)))
    (exm_at le24 (d24.fact 8 (f := .glo "TooMany") rfl) (d24.fact 1 (f := .glo "InvalidPlayers") rfl) (of_decide_eq_true (allT_at c24.more 40 : decide (PySem.W.exmOne (KP24 g) (.ref (ga (KP24 g) "TooMany")) (.ref (ga (KP24 g) "InvalidPlayers")) = some false) = true)))
    (exm_at le24 (d24.fact 8 (f := .glo "TooMany") rfl) (d24.fact 2 (f := .glo "InvalidNode") rfl) (of_decide_eq_true (allT_at c24.more 41 : decide (PySem.W.exmOne (KP24 g) (.ref (ga (KP24 g) "TooMany")) (.ref (ga (KP24 g) "InvalidNode")) = some false) = true)))
    (exm_at le24 (d24.fact 8 (f := .glo "TooMany") rfl) (d24.fact 3 (f := .glo "InvalidNumber") rfl) (of_decide_eq_true (allT_at c24.more 42 : decide (PySem.W.exmOne (KP24 g) (.ref (ga (KP24 g) "TooMany")) (.ref (ga (KP24 g) "InvalidNumber")) = some false) = true)))
    (exm_at le24 (d24.fact 8 (f := .glo "TooMany") rfl) (d24.fact 4 (f := .glo "InvalidEdge") rfl) (of_decide_eq_true (allT_at c24.more 43 : decide (PySem.W.exmOne (KP24 g) (.ref (ga (KP24 g) "TooMany")) (.ref (ga (KP24 g) "InvalidEdge")) = some false) = true)))
    (exm_at le24 (d24.fact 8 (f := .glo "TooMany") rfl) (d24.fact 5 (f := .glo "InvalidLimit") rfl) (of_decide_eq_true (allT_at c24.more 44 : decide (PySem.W.exmOne (KP24 g) (.ref (ga (KP24 g) "TooMany")) (.ref (ga (KP24 g) "InvalidLimit")) = some false) = true)))
    (exm_at le24 (d24.fact 8 (f := .glo "TooMany") rfl) (d24.fact 6 (f := .glo "InvalidOperation") rfl) (of_decide_eq_true (allT_at c24.more 45 : decide (PySem.W.exmOne (KP24 g) (.ref (ga (KP24 g) "TooMany")) (.ref (ga (KP24 g) "InvalidOperation")) = some false) = true)))
    (exm_at le24 (d24.fact 8 (f := .glo "TooMany") rfl) (d24.fact 7 (f := .glo "NoPlayer") rfl) (of_decide_eq_true (allT_at c24.more 46 : decide (PySem.W.exmOne (KP24 g) (.ref (ga (KP24 g) "TooMany")) (.ref (ga (KP24 g) "NoPlayer")) = some false) = true)))
    (exm_at le24 (d24.fact 8 (f := .glo "TooMany") rfl) (d24.fact 8 (f := .glo "TooMany") rfl) (of_decide_eq_true (allT_at c24.more 47 : decide (PySem.W.exmOne (KP24 g) (.ref (ga (KP24 g) "TooMany")) (.ref (ga (KP24 g) "TooMany")) = some true) = true)))
    (exm_at le24 (d24.fact 9 (f := .glo "NothingToUndo") rfl) (d24.fact 0 (f := .glo "InvalidPosition") rfl) (of_decide_eq_true (allT_at c24.more 48 : decide (PySem.W.exmOne (KP24 g) (.ref (ga (KP24 g) "NothingToUndo")) (.ref (ga (KP24 g) "InvalidPosition")) = some false) = true)))
    (exm_at le24 (d24.fact 9 (f := .glo "NothingToUndo") rfl) (d24.fact 1 (f := .glo "InvalidPlayers") rfl) (of_decide_eq_true (allT_at c24.more 49 : decide (PySem.W.exmOne (KP24 g) (.ref (ga (KP24 g) "NothingToUndo")) (.ref (ga (KP24 g) "InvalidPlayers")) = some false) = true)))
    (exm_at le24 (d24.fact 9 (f := .glo "NothingToUndo") rfl) (d24.fact 2 (f := .glo "InvalidNode") rfl) (of_decide_eq_true (allT_at c24.more 50 : decide (PySem.W.exmOne (KP24 g) (.ref (ga (KP24 g) "NothingToUndo")) (.ref (ga (KP24 g) "InvalidNode")) = some false) = true)))
    (exm_at le24 (d24.fact 9 (f := .glo "NothingToUndo") rfl) (d24.fact 3 (f := .glo "InvalidNumber") rfl) (of_decide_eq_true (allT_at c24.more 51 : decide (PySem.W.exmOne (KP24 g) (.ref (ga (KP24 g) "NothingToUndo")) (.ref (ga (KP24 g) "InvalidNumber")) = some false) = true)))
    (exm_at le24 (d24.fact 9 (f := .glo "NothingToUndo") rfl) (d24.fact 4 (f := .glo "InvalidEdge") rfl) (of_decide_eq_true (allT_at c24.more 52 : decide (PySem.W.exmOne (KP24 g) (.ref (ga (KP24 g) "NothingToUndo")) (.ref (ga (KP24 g) "InvalidEdge")) = some false) = true)))
    (exm_at le24 (d24.fact 9 (f := .glo "NothingToUndo") rfl) (d24.fact 5 (f := .glo "InvalidLimit") rfl) (of_decide_eq_true (allT_at c24.more 53 : decide (PySem.W.exmOne (KP24 g) (.ref (ga (KP24 g) "NothingToUndo")) (.ref (ga (KP24 g) "InvalidLimit")) = some false) = true)))
    (exm_at le24 (d24.fact 9 (f := .glo "NothingToUndo") rfl) (d24.fact 6 (f := .glo "InvalidOperation") rfl) (of_decide_eq_true (allT_at c24.more 54 : decide (PySem.W.exmOne (KP24 g) (.ref (ga (KP24 g) "NothingToUndo")) (.ref (ga (KP24 g) "InvalidOperation")) = some false) = true)))
    (exm_at le24 (d24.fact 9 (f := .glo "NothingToUndo") rfl) (d24.fact 7 (f := .glo "NoPlayer") rfl) (of_decide_eq_true (allT_at c24.more 55 : decide (PySem.W.exmOne (KP24 g) (.ref (ga (KP24 g) "NothingToUndo")) (.ref (ga (KP24 g) "NoPlayer")) = some false) = true)))
    (exm_at le24 (d24.fact 9 (f := .glo "NothingToUndo") rfl) (d24.fact 8 (f := .glo "TooMany") rfl) (of_decide_eq_true (allT_at c24.more 56 : decide (PySem.W.exmOne (KP24 g) (.ref (ga (KP24 g) "NothingToUndo")) (.ref (ga (KP24 g) "TooMany")) = some false) = true)))
    (exm_at le24 (d24.fact 9 (f := .glo "NothingToUndo") rfl) (d24.fact 9 (f := .glo "NothingToUndo") rfl) (of_decide_eq_true (allT_at c24.more 57 : decide (PySem.W.exmOne (KP24 g) (.ref (ga (KP24 g) "NothingToUndo")) (.ref (ga (KP24 g) "NothingToUndo")) = some true) = true)))
end K71
open PySem PySem.W PySem.Calls PyProof.Rows
theorem PySem.Challenge.cw_firenegatives_k71_boards_refuse_holds : PySem.Challenge.rw_firenegatives_k71_boards_refuse.Holds := by
  w_on; o_law
  refine HandSHeadRun.head_any (r := OpenLaw.row PySem.Challenge.rw_firenegatives_k71_boards_refuse) (q := K71.hq) (H := K71.hk) (ob := K71.hob) (M := 9000) (loose := K71.hnames) (d := HandSHeadRun.topDef (OpenLaw.row PySem.Challenge.rw_firenegatives_k71_boards_refuse).prog 109) (kwd := []) K71.hob_eq
    (by kernel_rfl) (fun s => by kernel_rfl) K71.hrun (by kernel_rfl) (by kernel_rfl) (by kernel_rfl) (by rfl) (by first | assumption | decide +kernel) (by decide +kernel) ⟨rfl, rfl, rfl, rfl, rfl, by decide +kernel⟩ ?hw ?hc
  case hw => w_witness2
  case hc =>
    refine FNX.walkXK (l := PySem.Challenge.rw_firenegatives_k71_boards_refuse) (n := 63) (k := 15) (x := "_law_script") ["law", "_law_made_right", "_law_nodes_right", "_law_others_right", "_law_bounds_right"] rfl (by decide) (by kernel_rfl) ⟨rfl, by decide, by decide⟩ (by decide +kernel) ?F
    intro w mg fa h Y G hmg0
    obtain ⟨K, gg, KX, c⟩ := Y
    have hmg : mg ("law" : PySem.Str) = some (.ref fa) := by
      have e : (HandSHeadRun.topDef (OpenLaw.row PySem.Challenge.rw_firenegatives_k71_boards_refuse).prog 109).name = ("law" : PySem.Str) := by kernel_rfl
      rw [← e]
      exact hmg0
    obtain ⟨fd, cs, h1, h2, h3, h4⟩ := K71.hfacts KX G hmg gg c
    exact ⟨K, KX, fd, cs, K71.spLawT K cs, h1, h2, h3, h4⟩
#print axioms PySem.Challenge.cw_firenegatives_k71_boards_refuse_holds
