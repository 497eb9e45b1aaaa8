import PyProof.Rows.All
import Wide.All
import OpenK.AllK
import Wide.FinOn
import HandS.ForExc
import HandS.ExcInit
import HandS.IsInst
import KE.KExcIs
import HandS.ForMost
import KE.DataMinMax
import HandS.Defaults
import HandS.EndTab
import HandS.TryMany
import KE.KNestM
import HandS.Wide
import HandS.Flow
import HandS.Style
import HandS.Deep
import HandS.DeepEq
import HandS.SortRule
import HandS.SortInts
import HandS.Walk
import HandS.Nested
import PyProof.Conv_int_bool
import HandS.OwnEq
import HandS.Conv
import PyProof.Rows.TupDisplay
import HandS.FStr
import HandS.Star
import HandS.CallLocal
import HandS.Codes
import PyProof.ReprNest
import HandS.SetFor
import HandS.Dict
import HandS.More
import PySem.Challenge.RW_firenegatives_k72_operations_together
set_option Elab.async false
set_option linter.all false
set_option maxRecDepth 100000
set_option maxHeartbeats 4000000
namespace FNX
open PySem PySem.F
/-- no class of the chain refuses a store -/
def Pass (l : List Value) : Prop := ∀ self : Value, refuseLoop self "__setattr__" l = pure ()
theorem passRun : Pass [.type "RuntimeError", .type "Exception", .type "BaseException", .type "object"] := fun self => by kernel_rfl
theorem passOver : Pass [.type "OverflowError", .type "ArithmeticError", .type "Exception", .type "BaseException", .type "object"] := fun self => by kernel_rfl
theorem passLook : Pass [.type "LookupError", .type "Exception", .type "BaseException", .type "object"] := fun self => by kernel_rfl
theorem passVal : Pass [.type "ValueError", .type "Exception", .type "BaseException", .type "object"] := fun self => by kernel_rfl
theorem Pass.ref {l : List Value} (h : Pass l) (c : Addr) : Pass (.ref c :: l) := fun self => by
  rw [refuseLoop_ref]
  exact h self
end FNX
namespace FNX
open PySem PySem.W PySem.Calls PyProof.Rows PySem.HandSPX
/-- what the chain of the class behind itself has, and has not -/
structure Chain (B : String) (bm : List Value) : Prop where
  base : bm.contains (.type B) = true
  obj : bm.contains (.type "object") = true
  noA : bm.contains (.type "AttributeError") = false
  noN : bm.contains (.type "NameError") = false
  some1 : bm.isEmpty = false
  pass : Pass bm
section
variable {prog : Program} {w : World} {A : Around} {E : Value → Shared → Prop} {R : Result → Shared → Prop}
variable {h : Heap} {g : Array GenState} {d : Drawn} {t : Nat} {os : OsState} {nm q : Str} {C N : Addr} {bs bm bmB : List Value}
variable {hdct : Bool} {sn : List Str} {sub : List Value} {ab : Bool} {col : Option Bool} {dd : Option Addr}
variable {k0 k1 k2 k3 k5 : Option Value} {B newId initId : String} {us : List Value} {kw : List (Str × Value)}
theorem newChecked {M : Model} {Q : Unit → Shared → Prop} (F : ExcBaseFacts B newId initId bmB) (L : Chain B bm)
    (hC : h.get? C = some (excClassObj nm q C N bs bm hdct sn sub ab col dd k0 k1 k2 k3 k5 newId)) (hq : Q () ⟨h, g, d, t, os⟩) :
    wpAny M A (checkBuiltinCall newId ⟨.ref C :: us, kw⟩) Q E ⟨h, g, d, t, os⟩ := by
  have in1 : (Value.ref C :: bm).contains (.type B) = true := by simp only [List.contains_cons, L.base, Bool.or_true]
  have star := F.noStar
  simp only [checkBuiltinCall, F.newKind, F.newSplit, F.newRow]
  repeat (first
    | refine wpAny_loadPart_at hC ?_
    | (refine wpAny_isSubtype_exc hC ?_; rw [in1])
    | refine wpAny_staticBase_exc hC ?_
    | refine wpAny_madeBy_exc hC ?_
    | simp only [bne_self_eq_false, Bool.false_eq_true, if_false]
    | wp_step)
  exact hq
theorem newMade (F : ExcBaseFacts B newId initId bmB) (L : Chain B bm)
    (hC : h.get? C = some (excClassObj nm q C N bs bm hdct sn sub ab col dd k0 k1 k2 k3 k5 newId)) (hl : us.length ≤ sizeLine)
    (hq : R (.ok (.ret (.ref (h.objs.size + 1)))) ⟨(h.push (kdv_tup us)).push (excO C h.objs.size), g, d, t, os⟩) :
    codeAny (model prog w) A (.builtin newId ⟨.ref C :: us, kw⟩) R ⟨h, g, d, t, os⟩ := by
  have ends := F.ends
  have in1 : (Value.ref C :: bm).contains (.type B) = true := by simp only [List.contains_cons, L.base, Bool.or_true]
  have no1 : (Value.ref C :: bm).contains (.type "AttributeError") = false := by simp only [List.contains_cons, L.noA]; rfl
  have no2 : (Value.ref C :: bm).contains (.type "NameError") = false := by simp only [List.contains_cons, L.noN]; rfl
  refine codeAny_builtinAt F.entry ?_
  unfold Builtin.«BaseException.__new__»
  refine PySem.wpAt_bind ?_
  show PySem.wpAt _ _ _ (stack >>= _) _ _ _
  refine PySem.wpAt_bind (PySem.wpAt_stack fun p below => PySem.wpAt_of_wpAny ?_)
  wp_walk
  refine PySem.wpAt_of_wpAny ?_
  rw [F.owner]
  repeat (first
    | with_reducible refine wpAny_madeHere_exc F.canon hC ?_
    | with_reducible refine wpAny_loadPart_at hC ?_
    | (with_reducible refine wpAny_isSubtype_exc hC ?_; first | rw [in1] | rw [no1] | rw [no2])
    | wp_step)
  show R _ _
  rw [Heap.size_push]
  exact hq
theorem typeCalled {fI : Addr} {Q : Fin → Shared → Prop} (F : ExcBaseFacts B newId initId bmB) (L : Chain B bm)
    (hC : h.get? C = some (excClassObj nm q C N bs bm hdct sn sub ab col dd k0 k1 k2 k3 k5 newId)) (hl : us.length ≤ sizeLine)
    (hi : Looks (model prog w) h (typeLookup (.ref C) "__init__") (some (.ref fI)))
    (hb : ∀ self, Looks (model prog w) h (bindSpecial (.ref fI) self) (.ref fI, [self]))
    (hq : codeAny (model prog w) A (.call (.ref fI) ⟨.ref (h.objs.size + 1) :: us, kw⟩)
      (fun r s' => match r with
        | .ok (.ret v) => v = .none ∧ Q (.done (.ret (.ref (h.objs.size + 1)))) s'
        | .ok _ => False
        | .error e => E e s')
      ⟨(h.push (kdv_tup us)).push (excO C h.objs.size), g, d, t, os⟩) :
    wpAny (model prog w) A (Builtin.«type.__call__» ⟨.ref C :: us, kw⟩) Q E ⟨h, g, d, t, os⟩ := by
  repeat (first | with_reducible refine wpAny_loadPart_at hC ?_ | with_reducible refine wpAny_madeBy_exc hC ?_ | wp_step)
  refine codeAny_call_builtin_code (Code.quiet_builtin _ F.quiet) (newChecked F L hC (newMade F L hC hl ?_))
  show wpAny _ _ _ _ _ _
  have old : ∀ b o, h.get? b = some o → ((h.push (kdv_tup us)).push (excO C h.objs.size)).get? b = some o :=
    fun b o e => Heap.get?_push_of_some _ (Heap.get?_push_of_some _ e)
  have hC2 := old _ _ hC
  have at1 : ((h.push (kdv_tup us)).push (excO C h.objs.size)).get? (h.objs.size + 1) = some (excO C h.objs.size) := by heap_get
  have self1 : (Value.ref C :: bm).contains (.ref C) = true := by simp
  have i2 := hi.keeps old
  have b2 := (hb (.ref (h.objs.size + 1))).keeps old
  unfold isInstance
  repeat (first
    | with_reducible refine wpAny_loadPart_at at1 ?_
    | (with_reducible refine wpAny_isSubtype_exc hC2 ?_; rw [self1])
    | wp_step)
  show wpAny _ _ (typeLookup (.ref C) _) _ _ _
  refine i2.at (wpAny_holding (wpAny_bind (b2.at ?_)))
  refine wpAny_bind (wpAny_call (codeAny_mono hq fun r s' z => ?_))
  rcases r with e | (v | _ | _ | _) <;> first | exact z | exact z.elim | skip
  obtain ⟨rfl, z⟩ := z
  first
    | exact wpAny_pure (wpAny_pure z)
    | (wp_walk; exact z)
theorem called {fI : Addr} (F : ExcBaseFacts B newId initId bmB) (L : Chain B bm)
    (hC : h.get? C = some (excClassObj nm q C N bs bm hdct sn sub ab col dd k0 k1 k2 k3 k5 newId)) (hl : us.length ≤ sizeLine)
    (hi : Looks (model prog w) h (typeLookup (.ref C) "__init__") (some (.ref fI)))
    (hb : ∀ self, Looks (model prog w) h (bindSpecial (.ref fI) self) (.ref fI, [self]))
    (hq : codeAny (model prog w) (A.under (.builtin "type.__call__" ⟨.ref C :: us, kw⟩)) (.call (.ref fI) ⟨.ref (h.objs.size + 1) :: us, kw⟩)
      (InitBack (h.objs.size + 1) R) ⟨(h.push (kdv_tup us)).push (excO C h.objs.size), g, d, t, os⟩) :
    codeAny (model prog w) A (.call (.ref C) ⟨us, kw⟩) R ⟨h, g, d, t, os⟩ := by
  have f1 := tc_lookup
  have f2 := tc_bind (.ref C)
  have ty : (⟨h, g, d, t, os⟩ : Shared).TypeIs (.ref C) "type" := ⟨_, hC, rfl⟩
  refine codeAny_of_tree ?_
  show wpAny _ _ (callAny (.ref C) _) _ _ _
  repeat (any_goals (first | assumption | with_reducible refine wpAny_loadPart_at hC ?_ | wp_step))
  refine ⟨rfl, codeAny_call_builtin_at (Code.quiet_builtin _ (by decide +kernel)) entry_typeCall
    (wpAny_check_type_call_sub hC (typeCalled F L hC hl hi hb (codeAny_mono hq fun r s' z => ?_)))⟩
  rcases r with e | (v | _ | _ | _) <;> exact z
end
section
open PySem.Builtin PySem.Builtin.ObjectAttr
variable {prog : Program} {w : World} {A : Around} {R : Result → Shared → Prop} {hp : Heap} {g : Array GenState} {d : Drawn} {t : Nat} {os : OsState}
theorem stored {K : Frag} {name : Str} {tk : Tok} {v : Value} {x C : Addr} {fv : Array Value} {cd : ClassData}
    (X : K.In hp) (hx : hp.get? x = some { cls := .ref C, data := .fields fv }) (hcd : clsIn K C = some cd)
    (hp1 : Pass cd.mro) (hob : cd.mro.contains (.type "object") = true) (hne : cd.mro.isEmpty = false)
    (hh : cd.hasDict = true) (ha : findIn K (.ref C) name = some none)
    (hq : ∀ h' tk' dx, (∀ b o, b ≠ x → hp.get? b = some o → h'.get? b = some o) → hp.objs.size ≤ dx → dx ≠ x →
      h'.get? x = some { cls := .ref C, dict := some dx, data := .fields fv } → h'.Ns1 dx (fun y => if y = name then some v else none) →
      R (.ok (.ret .none)) ⟨h', g, d, tk', os⟩) :
    codeAny (model prog w) A (.call (.builtin "object.__setattr__") ⟨[.ref x, .str name tk, v], []⟩) R ⟨hp, g, d, t, os⟩ := by
  have I : InstAt hp x { cls := .ref C, data := .fields fv } C none := ⟨hx, rfl, rfl, trivial⟩
  have SF := F.store_object
  have nx : x ≠ hp.objs.size := Nat.ne_of_lt (Heap.lt_size hx)
  have mro : mroIn K C (.type "object") = some true := by
    unfold mroIn
    rw [hcd, Option.bind_some, if_neg (by rw [hne]; decide), hob]
  have isO : Looks (model prog w) hp (isInstance (.ref x) (.type "object")) true := I.type.andThen (looks_mroIn X mro)
  refine codeAny_call_builtin SF.slot.plain SF.entry (@check_slot (model prog w) _ _ ⟨hp, g, d, t, os⟩ "object.__setattr__" "object"
    "__setattr__" (.ref x) [.str name tk, v] [] _ SF.kind SF.split isO (SF.args (.ref x) (.str name tk) v) ?_)
  have m1 : Looks (model prog w) hp (mroOf (.ref C)) cd.mro := (looks_clsIn X hcd).andThen .now
  have m2 : Looks (model prog w) hp (storeTaker? none) none := .now
  have m3 : Looks (model prog w) hp (classData C) cd := looks_clsIn X hcd
  rw [osa_eq, refuse_eq]
  refine wpAny_bind (wpAny_bind (I.type.at (wpAny_bind (m1.at ?_))))
  rw [hp1 _]
  refine wpAny_pure (wpAny_bind (I.type.at (wpAny_bind ((looks_findIn X ha).at (wpAny_bind (m2.at ?_))))))
  show wpAny _ _ (storeInOwnDict (.ref x) (.ref C) (.str name tk) name v false) _ _ _
  obtain ⟨nm, bs, mro, ns, qn, hd, sn, sb, ab, col, del⟩ := cd
  dsimp only at hh
  subst hh
  unfold storeInOwnDict ownDictForStores
  repeat (first
    | with_reducible refine store_in_new ?_ ?_
    | with_reducible refine wpAny_loadPart_at hx ?_
    | with_reducible refine m3.at ?_
    | wp_step)
  · exact ⟨_, #[], _, (Heap.get?_update_ne _ _ _ _ nx.symm).trans (Heap.get?_push_at rfl rfl), rfl, fun e he => absurd he (by simp), fun _ => rfl⟩
  · intro h' tk' hn' hs
    have hx1 : (hp.push { cls := .type "dict", data := .dict #[] }).get? x = some { cls := .ref C, data := .fields fv } :=
      Heap.get?_push_of_some _ hx
    refine hq h' tk' hp.objs.size (fun b o hb ho => ?_) (Nat.le_refl _) nx.symm ?_ hn'
    · refine (hs.2 b (Nat.ne_of_lt (Heap.lt_size ho))).trans ?_
      exact (Heap.get?_update_ne _ _ _ _ hb).trans (Heap.get?_push_of_some _ ho)
    · exact (hs.2 x nx).trans (Heap.get?_update_self _ hx1 rfl)
end
end FNX
set_option Elab.async false
set_option linter.all false
set_option maxRecDepth 100000
set_option maxHeartbeats 4000000
namespace FNX
open PySem PySem.Spec PyProof.Rows L2
/-- what the written part says of an exception class -/
structure XC (K : PySem.W.Frag) (C : Addr) : Prop where
  cls : ∃ nm q N bs bm sn sub ab col dd k0 k1 k2 k3 k5 B newId initId bmB,
    K.lookup C = some (excClassObj nm q C N bs bm true sn sub ab col dd k0 k1 k2 k3 k5 newId) ∧ ExcBaseFacts B newId initId bmB ∧ Chain B bm
  sa : PySem.W.findIn K (.ref C) "__setattr__" = some (some (.builtin "object.__setattr__"))
  ga : PySem.W.findIn K (.ref C) "__getattribute__" = some (some (.builtin "BaseException.__getattribute__"))
  gg : PySem.W.findIn K (.ref C) "__getattr__" = some none
  noV : PySem.W.findIn K (.ref C) "value" = some none
  exC : PySem.W.subIn K (.ref C) (.type "BaseException") = some true
  kC : PySem.W.keepIn K (.ref C) = true
  hdC : PySem.W.hasDictIn K C = true
  ic : PySem.W.isClsIn K C = true
  cC : PySem.W.findIn K (.ref C) "__class__" = some (some (.builtin "object.__class__"))
  mC : PySem.W.mroIn K C (.type "object") = some true
/-- an exception of the class at C with value = v -/
def XAt (H : Hp) (a C : Addr) (v : V) : Prop := ∃ d, H a = some (exo a C (some d)) ∧ H d = some (exd d [("value", v)])
theorem XAt.same {H H' : Hp} {a C : Addr} {v : V} (x : XAt H a C v) (s : Same H H') : XAt H' a C v := by
  obtain ⟨d, h1, h2⟩ := x
  exact ⟨d, s _ _ h1, s _ _ h2⟩
section
variable {X : Cx} {pins : List (Addr × Obj)} {σ : L2.St} {H : Hp} {s : Shared} {a C : Addr} {y : V} {u : Value}
/-- self.value = y -/
theorem xst_new {Q : Unit → Shared → Prop} {E : Value → Shared → Prop} {A : Around} (T : XC X.K C) (I : Inv X pins σ H s) (e : H a = some (exo a C none)) (ry : RelV y u)
    (h : ∀ dx s', H dx = none → dx ≠ a → Inv X pins σ (upd (upd H dx (exd dx [("value", y)])) a (exo a C (some dx))) s' → Q () s') :
    wpAny (model X.prog X.w) A (setAttr (.ref a) "value" u) Q E s := by
  obtain ⟨nm, q, N, bs, bm, sn, sub, ab, col, dd, k0, k1, k2, k3, k5, B, newId, initId, bmB, hC, F, L⟩ := T.cls
  have hcl : PySem.W.clsIn X.K C = some ⟨nm, bs, .ref C :: bm, N, q, true, sn, sub, ab, col, false⟩ := by
    unfold PySem.W.clsIn
    rw [hC] <;> rfl
  obtain ⟨t1, ho⟩ := exo_at I.hok e
  obtain ⟨hp, g, d, t, os⟩ := s
  refine PySem.W.set_plain I.kIn (ox := { cls := .ref C, dict := none, data := .fields #[.ref t1, .none, .none, .none, .bool false, .none] })
    (od := none) ⟨ho, rfl, rfl, trivial⟩ T.sa ?_
  refine stored I.kIn ho hcl (L.pass.ref C) (by simp only [List.contains_cons, L.obj, Bool.or_true]) rfl rfl T.noV
    (fun h' tk' dx k dn dne hx hn => ?_)
  have fresh : H dx = none := I.hok.fresh dn
  have nd : ∀ {b : Addr} {o : Obj}, hp.get? b = some o → b ≠ dx := fun q => Nat.ne_of_lt (Nat.lt_of_lt_of_le (Heap.lt_size q) dn)
  have na : ∀ {b : Addr}, H b = none → b ≠ a := fun {b} n z => by
    rw [z, e] at n
    cases n
  have U : Un X.fs [] H (upd (upd H dx (exd dx [("value", y)])) a (exo a C (some dx))) hp h' := {
    keep := fun b o q n _ _ => k b o (na n) q
    slot := fun b o q n _ _ => ⟨o.slots, k b o (na n) q⟩
    free := fun b o q n _ => by
      rw [upd_ne (na n), upd_ne (nd q)]
      exact n
    there := fun b o q _ => by
      by_cases hb : b = a
      · exact ⟨_, by rw [hb]; exact hx⟩
      · exact ⟨o, k b o hb q⟩
    tups := fun b xs q => by
      rw [upd_ne (at_ne e q exo_tup), upd_ne (ne_of_none q fresh)]
      exact q
    frzs := fun b o v q => by
      rw [upd_ne (at_ne e q exo_frz), upd_ne (ne_of_none q fresh)]
      exact q
    tbls := fun b ps q => ⟨#[], by
      rw [upd_ne (at_ne e q exo_tbl), upd_ne (ne_of_none q fresh), q]
      simp⟩ }
  refine h dx _ fresh dne (I.un (t' := tk') U fun b o q => ?_)
  by_cases hb : b = a
  · subst hb
    rw [upd_same] at q
    cases q
    exact exo_ok hx
  rw [upd_ne hb] at q
  by_cases hd : b = dx
  · subst hd
    rw [upd_same] at q
    cases q
    exact exd_ok hn (relO_put (fs := []) ry fun g => True.intro)
  rw [upd_ne hd] at q
  refine (I.hok b o q).stay (fun c v hc z => k c v ?_ z) (fun c hc => ?_) (fun c xs hc => ?_)
  · rcases hc with hc | hc
    · rw [hc]
      exact hb
    · exact at_ne e hc exo_own
  · rw [upd_ne (at_ne e hc exo_own), upd_ne (ne_of_none hc fresh)]
    exact hc
  · rw [upd_ne (at_ne e hc exo_tup), upd_ne (ne_of_none hc fresh)]
    exact hc
end
/-- self.value = e, self a new exception -/
def tXst (K : PySem.W.Frag) (to te : TE) : TS := fun D σ H => te σ H fun y H1 => to σ H1 fun x H2 => ∃ a C : Addr, x = .ref a ∧ XC K C ∧
  H2 a = some (exo a C none) ∧ ∀ dx, H2 dx = none → dx ≠ a → D.nx σ (upd (upd H2 dx (exd dx [("value", y)])) a (exo a C (some dx)))
section
variable {X : Cx} {o e : Expr} {to te : TE} {p' pos : Pos}
theorem ps_xst (ho : PE X o to) (he : PE X e te) (hs : swapsWith e (some (.Attribute o "value" p')) pos.line X.env = pure false := by rfl) :
    PS X (.Assign [.Attribute o "value" p'] e pos) (tXst X.K to te) := by
  refine ⟨fun pins s σ H D I h => ?_⟩
  refine plainObj_wpAny_Assign_Attribute (thn (he.run pins s σ H _ I h) fun v s1 hv => ?_) hs
  obtain ⟨y, H1, I1, r1, q1⟩ := hv
  refine thn (ho.run pins s1 σ H1 _ I1 q1) fun u s2 hu => ?_
  obtain ⟨x, H2, I2, r2, a, C, rfl, T, ea, q⟩ := hu
  obtain rfl : u = Value.ref a := r2
  exact xst_new T I2 ea r1 fun dx s' n ne J => ⟨σ, _, J, q dx n ne⟩
end
/-- what `__init__` promises -/
def spX (C : Addr) : Sp := fun vs H Q _ => ∃ (a : Addr) (v : V), vs = [.ref a, v] ∧ H a = some (exo a C none) ∧
  ∀ dx, H dx = none → dx ≠ a → Q .non (upd (upd H dx (exd dx [("value", v)])) a (exo a C (some dx)))
section
variable {P : Program} {w : World} {K : PySem.W.Frag} {mg : Str → Option Value} {base : Heap}
theorem xinit_ok {st : Stmt} {qual : Str} {f C : Addr} {fd : FuncData} (F : Fun K "__init__" qual st f fd)
    (S : FnScope ["self", "value"] ["self", "value"] (defScope st))
    (hb : ∃ q1 q2 q3 q4, defBody st = [.Assign [.Attribute (.Name "self" q1) "value" q2] (.Name "value" q3) q4]) (T : XC K C) :
    FnOk P w K mg base CX0 1 f fd ["self", "value"] (spX C) := by
  obtain ⟨q1, q2, q3, q4, hb⟩ := hb
  have vis : ∀ x ∈ (["self", "value"] : List Str), Vis (defScope st) x := fun x hx => by
    rcases S.par x hx with z | z
    · exact .inl z
    · exact .inr (.inl z)
  refine F.ok S (fun vs H Q E h => ?_) (fun cdv A outer s H vs Q E hr h => ?_)
  · obtain ⟨a, v, rfl, _⟩ := h
    rfl
  · obtain ⟨a, v, rfl, ha, k⟩ := h
    rw [hb]
    refine ⟨_, pss_one (ps_xst (pv 0 rfl (vis _ (by simp))) (pv 1 rfl (vis _ (by simp)))), ?_⟩
    exact ⟨_, rfl, _, rfl, a, C, rfl, T, ha, fun dx n ne => k dx n ne⟩
end
/-- the class x of the program stands at C; its `__init__` keeps its promise -/
structure Ex (P : Program) (w : World) (K : PySem.W.Frag) (mg : Str → Option Value) (base : Heap) (x : Str) (C : Addr) : Prop where
  xc : XC K C
  mgC : mg x = some (.ref C)
  mkd : ∃ fI fd, PySem.W.findIn K (.ref C) "__init__" = some (some (.ref fI)) ∧ PySem.W.typeIn K (.ref fI) = some (.type "function") ∧
    FnOk P w K mg base CX0 1 fI fd ["self", "value"] (spX C) ∧ Binds K fd ["self", "value"] [] ∧
    ∀ (s : Shared) (u v : Value), BindsTo s fd ⟨[u], [(("value" : Str), v)]⟩ ((["self", "value"] : List Str).zip [u, v])
end FNX
set_option Elab.async false
set_option linter.all false
set_option maxRecDepth 100000
set_option maxHeartbeats 4000000
namespace FNX
open PySem PySem.Spec PyProof.Rows L2
end FNX
set_option Elab.async false
set_option linter.all false
set_option maxRecDepth 100000
set_option maxHeartbeats 4000000
namespace FNX
open PySem PySem.Spec PyProof.Rows L2
/-- what stands at a value, as data: HandS's, and a dict of texts and ints -/
inductive Rd (K : PySem.W.Frag) (H : Hp) : V → PyData → Prop
  | dat {v : V} {d : PyData} (h : Dp K H v d) : Rd K H v d
  | dct {a : Addr} (kvs : List (Str × Int)) (h : H a = some (.dK (kvs.map fun p => (Sum.inr p.1, V.int p.2)))) :
      Rd K H (.ref a) (.dict (kvs.map fun p => (.str p.1, .int p.2)))
mutual
theorem dpNoDict {K : PySem.W.Frag} {H : Hp} : ∀ (d : PyData) (v : V), Dp K H v d → d.hasDict = false
  | .none, _, _ => by simp only [PyData.hasDict]
  | .bool _, _, _ => by simp only [PyData.hasDict]
  | .int _, _, _ => by simp only [PyData.hasDict]
  | .str _, _, _ => by simp only [PyData.hasDict]
  | .list xs, _, h => by
    cases h with
    | lst _ hs =>
      simp only [PyData.hasDict]
      exact dpNoDictAll xs _ hs
  | .tuple xs, _, h => by
    cases h with
    | tup _ hs =>
      simp only [PyData.hasDict]
      exact dpNoDictAll xs _ hs
  | .dict _, _, h => by cases h
theorem dpNoDictAll {K : PySem.W.Frag} {H : Hp} : ∀ (ds : List PyData) (vs : List V), DpAll K H vs ds → PyData.hasDictAll ds = false
  | [], _, _ => by simp only [PyData.hasDictAll]
  | d :: ds, _, h => by
    cases h with
    | cons h1 h2 => simp only [PyData.hasDictAll, dpNoDict d _ h1, dpNoDictAll ds _ h2, Bool.or_self]
end
theorem readsKeys {P : Program} {w : World} {h : Heap} : ∀ (kvs : List (Str × Int)) (vs : List (Key × Value)) (es : List DictEntry),
    KV (kvs.map fun p => ((Sum.inr p.1 : Key), V.int p.2)) vs → Pairs (mixKind P w) es vs →
    ReadsAll h (es.map (·.key)) ((kvs.map fun p => ((PyData.str p.1, PyData.int p.2) : PyData × PyData)).map (·.1)) [] ∧
    ReadsAll h (es.map (·.val)) ((kvs.map fun p => ((PyData.str p.1, PyData.int p.2) : PyData × PyData)).map (·.2)) []
  | [], _, _, r, p => by
    cases r
    cases p
    exact ⟨.nil, .nil⟩
  | (x, i) :: kvs, _, _, r, p => by
    cases r with
    | cons r1 r2 =>
      rename_i q vs
      obtain ⟨k, u⟩ := q
      obtain ⟨rfl, t, rfl⟩ := r1
      cases p with
      | @cons e _ es _ p1 p3 p2 =>
        obtain ⟨h1, h2⟩ := readsKeys (h := h) kvs vs _ r2 p2
        have p1 : keyIs (Sum.inr x) _ = true := p1
        rcases keyIs_shape p1 with ⟨j, t', e1, e2⟩ | ⟨y, t', e1, e2⟩
        · cases e1
        · injection e1 with e1
          subst e1
          constructor
          · show ReadsAll h (e.key :: _) _ []
            rw [e2]
            exact ReadsAll.cons (as := []) (.str x t') h1
          · show ReadsAll h (e.val :: _) _ []
            rw [p3]
            exact ReadsAll.cons (as := []) (.int i t) h2
section
variable {X : Cx} {pins : List (Addr × Obj)} {σ : L2.St} {H : Hp} {s : Shared}
theorem rdReads (I : Inv X pins σ H s) {v : V} {d : PyData} {u : Value} (h : Rd X.K H v d) (r : RelV v u) :
    ∃ as, Reads s.heap u d as ∧ (d.hasDict = true → sysModules ∉ as) := by
  cases h with
  | dat h =>
    obtain ⟨as, q⟩ := Dp.reads I d v u h r
    exact ⟨as, q, PyData.noDict_hsm (dpNoDict d v h)⟩
  | @dct a kvs h =>
    obtain rfl : u = Value.ref a := r
    obtain ⟨_, hs, vs, rv, o, es, ep, ho, hx, hd, _, hp, _⟩ := (show ObjOk X.prog X.w H s.heap a (.dK _) from I.hok a _ h)
    obtain ⟨h1, h2⟩ := readsKeys (h := s.heap) kvs vs es.toList rv hp
    refine ⟨_, Reads.dict ho hx.1 hd h1 h2, fun _ z => ?_⟩
    have z : sysModules ∈ [a] := by simpa using z
    have z := List.mem_singleton.mp z
    rw [← z] at hs
    simp at hs
/-- repr(x) -/
def rRepr (K : PySem.W.Frag) : List V → Hp → VK → Prop := fun xs H Q => ∃ v d, xs = [v] ∧ Rd K H v d ∧ d.showable = true ∧ d.depth ≤ 60 ∧
  d.shown.length ≤ sizeLine ∧ Q (.str d.shown) H
theorem call_repr (hg : X.A.guards = some []) (hu : X.A.units + 64 < cLine) : CallR X (.builtin "repr") (rRepr X.K) := by
  intro pins s σ H xs us Q I r h
  obtain ⟨v, d, rfl, hd, h1, h2, h3, q⟩ := h
  cases r with
  | cons r1 r2 =>
    cases r2
    rename_i u
    obtain ⟨as, hr, hsm⟩ := rdReads I hd r1
    have done : ∀ h' u' tk, (∀ b o, s.heap.get? b = some o → h'.get? b = some o) → EP X pins σ Q (.str d.shown u') { s with heap := h', toks := tk } :=
      fun h' u' tk k => ⟨.str d.shown, H, I.un (t' := tk) (Un.kept k) (I.hok.kept k), ⟨u', rfl⟩, q⟩
    have fin : ∀ {x : Str} {u' : Tok}, x = d.shown → EP X pins σ Q (.str x u') { s with toks := s.toks + 1 } := fun {x u'} e => by
      rw [e]
      exact done s.heap u' (s.toks + 1) fun _ _ z => z
    cases hr with
    | none => exact PySem.P.repr_of_none (fin (by simp only [PyData.shown]))
    | bool b => exact PySem.P.repr_of_bool (fin (by simp only [PyData.shown]))
    | int i t => exact PySem.P.repr_of_int (by simpa [PyData.showable] using h1) (fin (by simp only [PyData.shown]))
    | str x t => exact PySem.P.repr_of_str (fin (by simp only [PyData.shown])) (by simpa only [PyData.shown] using h3)
    | list a1 a2 a3 a4 => exact repr_of_reads' (.list a1 a2 a3 a4) h1 hsm hg (by omega) (fun _ _ e => e) (fun h' u tk k => done h' u tk k) h3
    | tuple a1 a2 a3 a4 => exact repr_of_reads' (.tuple a1 a2 a3 a4) h1 hsm hg (by omega) (fun _ _ e => e) (fun h' u tk k => done h' u tk k) h3
    | dict a1 a2 a3 a4 a5 => exact repr_of_reads' (.dict a1 a2 a3 a4 a5) h1 hsm hg (by omega) (fun _ _ e => e) (fun h' u tk k => done h' u tk k) h3
end
structure GOk (P : Program) (w : World) (K : PySem.W.Frag) (mg : Str → Option Value) (base : Heap) (k : Nat) (f : Addr) (fd : FuncData) (ps : List Str) (sp : Sp) : Prop where
  len : ∀ vs H Q E, sp vs H Q E → vs.length = ps.length
  run : ∀ (A : Around) (outer : List Env) (s : Shared) (H : Hp) (args : Args) (us : List Value) (vs : List V) (Q : VK) (E : XK), A.guards = some [] → Room k A →
    Env0 P w K mg base A outer s H → BindsTo s fd args (ps.zip us) → Vals vs us → sp vs H Q E → codeAny (model P w) A (.call (.ref f) args) (CR CX0 outer P w H s Q E) s
section
variable {P : Program} {w : World} {K : PySem.W.Frag} {mg : Str → Option Value} {base : Heap}
theorem okG {x qual : Str} {st : Stmt} {f : Addr} {fd : FuncData} {N ps : List Str} {k : Nat} {sp : Sp} (F : Fun K x qual st f fd) (S : FnScope N ps (defScope st))
    (len : ∀ vs H Q E, sp vs H Q E → vs.length = ps.length)
    (hbody : ∀ (cdv : Value) (A : Around) (outer : List Env) (s : Shared) (H : Hp) (vs : List V) (Q : VK) (E : XK), A.guards = some [] →
      Room k (A.deeper (envOfC qual (defScope st) s.heap.objs.size f cdv)) → sp vs H Q E →
      ∃ t, PSs (cxOf CX0 P w K mg base N qual (defScope st) f cdv A outer s H E).nox (defBody st) t ∧ t { nx := fun _ H' => Q .non H', rt := Q } (start N vs) H) :
    GOk P w K mg base (k + 1) f fd ps sp := by
  refine ⟨len, fun A outer s H args us vs Q E hg hr e0 hb r hs => ?_⟩
  -- a promise that is kept around this A alone
  obtain ⟨oc, od, kV, doc, pm, an, cdv, ct, osl, rfl, lk, hcd⟩ := F.ex
  have KX : K.In s.heap := e0.mod.kin.keeps fun b o e => (e0.bs b o e).1
  have lim : s.heap.NoLimit := e0.mod.nolimit.keeps fun b o e => (e0.bs b o e).1
  have hl := len _ _ _ _ hs
  have kinds : ∀ y ∈ ps.zip us, (defScope st).names.lookup y.1 = some .local ∨
      ((defScope st).names.lookup y.1 = some .cell ∧ ((cellsFrom (s.heap.objs.size + 1) (defScope st).names []).lookup y.1).isSome = true) := fun y hy => by
    rcases S.par y.1 (List.of_mem_zip (show (y.1, y.2) ∈ ps.zip us from hy)).1 with z | z
    · exact .inl z
    · exact .inr ⟨z, PySem.W.cellsFrom_some _ _ _ (.inl z)⟩
  refine codeAny_call_function hr.depth (KX _ _ lk) rfl S.co S.gen rfl (PySem.W.codeRec_of KX hcd) (hb _ _ _ _ ?_)
  refine wpAny_newFunctionEnv_cells S.kind kinds fun env he s1 x => ?_
  subst he
  refine ⟨lim.keeps x.toInCall.keep, codeAny_func ?_⟩
  obtain ⟨t, ht, hq⟩ := hbody cdv A outer s H vs Q E hg (hr.deeper _) hs
  have I := inv_start (CX := CX0) (E := E) S hr.hd e0 hl r x
  refine wpAny_mono (ht.nox.run [] s1 _ H _ I hq) (fun fl s' z => ?_) fun e s' z => z
  cases fl with
  | ret u =>
    obtain ⟨v, σ', H', J, rv, q⟩ := z
    exact ⟨v, H', J.os, J.bare, J.base, J.hok, rv, q⟩
  | next =>
    obtain ⟨σ', H', J, q⟩ := z
    exact ⟨V.non, H', J.os, J.bare, J.base, J.hok, rfl, q⟩
  | brk =>
    obtain ⟨_, _, _, q⟩ := z
    exact q.elim
  | cont =>
    obtain ⟨_, _, _, q⟩ := z
    exact q.elim
end
end FNX
set_option Elab.async false
set_option linter.all false
set_option maxRecDepth 100000
set_option maxHeartbeats 4000000
namespace FNX
open PySem PySem.Spec PyProof.Rows L2
section
variable {P : Program} {w : World} {K : PySem.W.Frag} {mg mb : Str → Option Value} {k : Nat} {fa a : Addr} {fd : FuncData} {x : Str} {sp : Sp} {s : Shared} {vs : List Value} {ns : List Int}
abbrev LawEnd (s : Shared) (r : Result) (s' : Shared) : Prop := r = .ok (.ret (.bool true)) ∧ OldK s.heap s'.heap ∧ s'.os = s.os ∧ AllBare s'.gens
end
end FNX
set_option Elab.async false
set_option linter.all false
set_option maxRecDepth 100000
set_option maxHeartbeats 4000000
namespace FNX
open PySem PySem.Spec PyProof.Rows L2
theorem range_more {α : Type} (n : Nat) (f : Nat → α) : (List.range (n + 1)).map f = (List.range n).map f ++ [f n] := by
  rw [List.range_succ, List.map_append]
  rfl
theorem same_upd {H : Hp} {p : Addr} {o : HO} (h : H p = none) : Same H (upd H p o) := fun b u e => by
  rw [upd_ne (ne_of_none e h)]
  exact e
/-- a turn's end: the element y, the heap behind it -/
def LcT (B : Hp) (D : Addr) (f : Nat → V) (i : Nat) (y : V) (H : Hp) : Prop := ∃ acc, H D = some (.lst acc) ∧ acc.length < sizeLine ∧
  (Same B (upd H D (.lst (acc ++ [y]))) ∧ upd H D (.lst (acc ++ [y])) D = some (.lst ((List.range (i + 1)).map f)))
theorem lcT {B H H' : Hp} {D : Addr} {f : Nat → V} {i : Nat} {y : V} (hD : B D = none) (hi : i < 1000000) (sB : Same B H) (hd : H D = some (.lst ((List.range i).map f)))
    (s : Same H H') (e : y = f i) : LcT B D f i y H' := by
  refine ⟨_, s _ _ hd, ?_, fun b o z => ?_, ?_⟩
  · rw [List.length_map, List.length_range]
    exact Nat.lt_trans hi (by rw [sizeLine_eq]; decide)
  · rw [upd_ne (ne_of_none z hD)]
    exact s _ _ (sB _ _ z)
  · rw [upd_same, range_more, e]
section
variable {K : PySem.W.Frag} {te : TE} {vs : List Nat} {σ : L2.St} {B : Hp} {D : Addr} {Qd : Hp → Prop}
theorem lc_map {a : Addr} {xs : List V} {j : Nat} (f : Nat → V) (hD : B D = none) (hl : SqL K B a xs)
    (hw : ∀ x, wipe ((wipe σ vs).set j (some x)) vs = wipe σ vs)
    (hs : ∀ i x H, xs[i]? = some x → Same B H → H D = some (.lst ((List.range i).map f)) → te ((wipe σ vs).set j (some x)) H (LcT B D f i))
    (hd : ∀ H, Same B H → H D = some (.lst ((List.range xs.length).map f)) → Qd H) :
    ∃ W : Nat → Nat → Hp → Prop, (∃ m, W 0 m (upd B D (.lst []))) ∧ ∀ i m H, W i m H →
      ((Itl K a).stop i H ∧ Qd H) ∨ ((Itl K a).go i H ∧ ∃ Nx : Hp → Prop, (∀ H', Nx H' → ∃ m', m' < m ∧ W (i + 1) m' H') ∧
        ∀ x H', (Itl K a).yld i H x H' → gName j x (wipe σ vs) H' fun σ2 H2 => wipe σ2 vs = wipe σ vs ∧ tYes σ2 H2 fun b H3 =>
          if b = true then te σ2 H3 fun y H4 => ∃ acc, H4 D = some (.lst acc) ∧ acc.length < sizeLine ∧ Nx (upd H4 D (.lst (acc ++ [y]))) else Nx H3) :=
  lc_list (K := K) (a := a) (xs := xs) (fun i H => Same B H ∧ H D = some (.lst ((List.range i).map f))) ⟨same_upd hD, upd_same⟩
    (fun i H _ h => h.1.seq hl) (fun i x H hx h => ⟨hw x, hs i x H hx h.1 h.2⟩) fun H h => hd H h.1 h.2
end
end FNX
set_option Elab.async false
set_option linter.all false
set_option maxRecDepth 100000
set_option maxHeartbeats 4000000
namespace FNX
open PySem PySem.Spec PyProof.Rows L2
section
variable {X : Cx} {x : Str} {C : Addr} {e : Expr} {ta : TA} {p pos : Pos}
/-- C(e), to be raised: its own dict d is new and holds the value -/
def tMkX (C : Addr) (ta : TA) : L2.St → Hp → XK → Prop := fun σ H Q => ta σ H fun vs H1 => ∃ v, vs = [v] ∧
  ∀ d H', H1 d = none → Same H1 H' → H' d = some (.xd [(("value" : Str), v)]) → Q (.ref C) (some d) H'
theorem pmk_x (T : Ex X.prog X.w X.K X.mg X.base x C) (tyC : PySem.W.typeIn X.K (.ref C) = some (.type "type")) (hr : Room 2 X.A) (hg : Gl X x) (ha : PA X (e :: []) ta)
    (hdb : (x == ("__debug__" : Str)) = false := by decide) (he : starEach (e :: []) X.env = (false, eval e X.env) :: starEach [] X.env := by rfl)
    (hpl : (backTo pos (starEach [] X.env)).any (·.1) = false := by rfl) : PMk X (.Call (.Name x p) [e] [] pos) (tMkX C ta) := by
  intro pins s σ H Q I h
  refine wpAny_Call_Name_kw (ld_glob I hg T.mgC ?_ hdb)
  refine PySem.W.callWith_K (h₀ := X.base) I.ok.mod.kin T.xc.kC (thn (ha.run pos pins s σ H _ I h) fun us s1 hu => ?_) he hpl
  obtain ⟨vs, H1, I1, r1, v, rfl, q⟩ := hu
  refine ⟨I1.kIn, ?_⟩
  obtain ⟨fI, fd, iC, tI, F1, hb, hk⟩ := T.mkd
  obtain ⟨nm, qn, N, bs, bm, sn, sub, ab, col, dd, k0, k1, k2, k3, k5, B, newId, initId, bmB, hC, F, L⟩ := T.xc.cls
  cases r1 with
  | cons rv rn =>
    cases rn
    rename_i u
    show wpAny _ _ (call (.ref C) [u]) _ _ _
    obtain ⟨hp, g, dr, tk, os⟩ := s1
    have sz : hp.objs.size ≤ hp.objs.size + 1 := Nat.le_succ _
    have hn : H1 (hp.objs.size + 1) = none := I1.hok.fresh sz
    have old : ∀ b o, hp.get? b = some o → ((hp.push (PySem.W.kdv_tup [u])).push (PySem.HandSPX.excO C hp.objs.size)).get? b = some o :=
      fun b o z => Heap.get?_push_of_some _ (Heap.get?_push_of_some _ z)
    have at1 : ((hp.push (PySem.W.kdv_tup [u])).push (PySem.HandSPX.excO C hp.objs.size)).get? (hp.objs.size + 1) =
        some (PySem.HandSPX.excO C hp.objs.size) := by heap_get
    have I2 : Inv X pins σ (upd H1 (hp.objs.size + 1) (exo (hp.objs.size + 1) C none))
        ⟨(hp.push (PySem.W.kdv_tup [u])).push (PySem.HandSPX.excO C hp.objs.size), g, dr, tk, os⟩ :=
      I1.laid (t' := tk) (o := exo (hp.objs.size + 1) C none) old sz (exo_ok at1)
    have r2 : Vals [V.ref (hp.objs.size + 1), v] [Value.ref (hp.objs.size + 1), u] := .cons rfl (.cons rv .nil)
    have hsp : spX C [V.ref (hp.objs.size + 1), v] (upd H1 (hp.objs.size + 1) (exo (hp.objs.size + 1) C none))
        (fun z H2 => z = .non ∧ ∃ d : Addr, H2 (hp.objs.size + 1) = some (exo (hp.objs.size + 1) C (some d)) ∧ H2 d = some (exd d [("value", v)]) ∧ H1 d = none ∧
          Q (.ref C) (some d) (upd (del H2 (hp.objs.size + 1)) d (.xd [("value", v)]))) (fun _ _ _ => False) := by
      refine ⟨_, _, rfl, upd_same, fun dx n ne => ⟨rfl, dx, upd_same, by rw [upd_ne ne, upd_same], ?_, ?_⟩⟩
      · rw [upd_ne ne] at n
        exact n
      rw [upd_ne ne] at n
      refine q dx _ n (fun b o z => ?_) upd_same
      have h1 : b ≠ dx := ne_of_none z n
      have h2 : b ≠ hp.objs.size + 1 := ne_of_none z hn
      rw [upd_ne h1, del_ne h2, upd_ne h2, upd_ne h1, upd_ne h2]
      exact z
    refine wpAny_call (called F L (I1.kIn _ _ hC) (by rw [sizeLine_eq]; exact (by decide : 1 ≤ 16777216)) (PySem.W.looks_findIn I1.kIn iC) (fun self => PySem.W.bind_fn I1.kIn self tI)
      (codeAny_mono (F1.run _ X.stack _ _ ⟨[Value.ref (hp.objs.size + 1), u], []⟩ [Value.ref (hp.objs.size + 1), u] _ _ (fun _ _ _ => False) (hr.make C [u] [])
        (I2.env0.make C [u] []) (hb _ [Value.ref (hp.objs.size + 1), u] I2.kIn rfl) r2 hsp) fun r s' hq' => ?_))
    cases r with
    | error er => exact False.elim hq'
    | ok fl =>
      cases fl with
      | ret u' =>
        obtain ⟨z, H2, os2, bare2, un2, hok2, rz, ez, d, ea, ed, hd1, q2⟩ := hq'
        subst ez
        obtain ⟨h2, g2, d2, t2, os'⟩ := s'
        exact ⟨rz, mk_end (raises_own T.xc.exC tyC) I1 sz old un2 hok2 os2 bare2 ea ed hd1 q2⟩
      | next => exact False.elim hq'
      | brk => exact False.elim hq'
      | cont => exact False.elim hq'
/-- raise C(e) -/
def tRaiseX (C : Addr) (W : WX) (ta : TA) : TS := fun _ σ H => tMkX C ta σ H fun cls d H' => W cls d σ H'
theorem ps_raiseX {W : WX} {pos2 : Pos} (hc : X.calm = true) (T : Ex X.prog X.w X.K X.mg X.base x C) (tyC : PySem.W.typeIn X.K (.ref C) = some (.type "type")) (hr : Room 2 X.A) (tk : Takes X W)
    (hg : Gl X x) (ha : PA X (e :: []) ta) (hdb : (x == ("__debug__" : Str)) = false := by decide)
    (he : starEach (e :: []) X.env = (false, eval e X.env) :: starEach [] X.env := by rfl) (hpl : (backTo pos (starEach [] X.env)).any (·.1) = false := by rfl) :
    PS X (.Raise (some (.Call (.Name x p) [e] [] pos)) none pos2) (tRaiseX C W ta) := ps_raise hc tk (pmk_x T tyC hr hg ha hdb he hpl)
/-- e.value, e the exception that the suite holds at a -/
def tByX (C : Addr) (a : Addr) (cls : Value) (d : Option Addr) (te : TE) : TE := fun σ H Q => te σ H fun y H1 => y = .ref a ∧ cls = .ref C ∧ ∃ (dd : Addr) (v : V), d = some dd ∧
  H1 dd = some (.xd [(("value" : Str), v)]) ∧ Q v H1
theorem pe_byX {a : Addr} {oe : Obj} {cls : Value} {d : Option Addr} {pn : List (Addr × Obj)} {te : TE} (T : XC X.K C) (hz : Zc cls d oe) (hf : ∃ vs, oe.data = .fields vs) (he : PE (X.suite a ((a, oe) :: pn)) e te)
    (hb : attributeBase e "value" X.env (eval e X.env) = eval e X.env := by rfl) : PE (X.suite a ((a, oe) :: pn)) (.Attribute e "value" pos) (tByX C a cls d te) := by
  refine ⟨fun pins s σ H Q I h => ?_⟩
  refine attr_of hb (thn (he.run pins s σ H _ I h) fun u s1 hh => ?_)
  obtain ⟨y, H1, I1, rx, rfl, rfl, dd, v, rfl, ea, q⟩ := hh
  obtain rfl : u = Value.ref a := rx
  obtain ⟨ha, _⟩ := I1.pin (a, oe) (List.mem_append_left _ List.mem_cons_self)
  obtain ⟨vs, hd⟩ := hf
  obtain ⟨mA, hns, hr⟩ := (show ObjOk X.prog X.w H1 s1.heap dd (.xd [(("value" : Str), v)]) from I1.hok dd _ ea)
  obtain ⟨od, ho, hl⟩ := lookIn_ns hns
  have l : List.lookup ("value" : Str) [(("value" : Str), v)] = some v := by simp [List.lookup]
  obtain ⟨u, hu, ru⟩ := RelO.some_of (v := v) (o := mA "value") (by rw [← l]; exact hr "value")
  have J : PySem.W.InstAt s1.heap a oe C (some od) := ⟨ha, hz.1, by unfold PySem.W.notCls; rw [hd] <;> rfl, by rw [hz.2]; exact ho⟩
  exact HandSPX.exc_get I1.kIn J T.ga T.gg T.exC (PySem.W.findObj_own T.hdC T.noV rfl (by rw [hl, hu])) (handed_of ru) ⟨v, H1, I1.tok _, ru, q⟩
end
end FNX
set_option Elab.async false
set_option linter.all false
set_option maxRecDepth 100000
set_option maxHeartbeats 4000000
namespace FNX
open PySem PySem.Spec PyProof.Rows L2
open PySem.W (AlikeAll min_tuple_data max_tuple_data minD maxD minD_ints maxD_ints)
section
variable {X : Cx}
theorem pget_list : PGet X (fun o i H Q => rIxL X.K o i H Q) := by
  intro pins s σ H o i ov iv Q I ro ri h
  obtain ⟨p, xs, k, z, rfl, rfl, hq, he, q⟩ := h
  obtain rfl : ov = Value.ref p := ro
  obtain ⟨t, rfl⟩ := ri
  obtain ⟨its, r, pl, hz⟩ := I.list hq
  obtain ⟨j, h1, h2, h3, h4, h5⟩ := atI_get he
  obtain ⟨w, ew, rw'⟩ := r.get h2
  have hl := r.length
  have hn := line63
  have fin : EP X pins σ Q w s := ⟨z, H, I, rw', q⟩
  by_cases h0 : 0 ≤ k
  · have hj : k.toNat = j := by
      rw [seqIndex_of h0 h5] at h1
      exact Option.some.inj h1
    exact wpAny_getItem_list pl.isList h0 (by omega) (by rw [hj]; simpa using ew) fin
  · have hj : (k + (its.toArray.size : Int)).toNat = j := by
      rw [seqIndex_neg (by omega) h4] at h1
      rw [List.size_toArray, ← hl]
      exact Option.some.inj h1
    exact wpAny_getItem_list_neg pl.isList (by omega) (by rw [List.size_toArray] <;> omega) (by omega) (by rw [hj]; simpa using ew) fin
theorem pairReads {h : Heap} {i j : Int} {us : List Value} (r : Vals [V.int i, V.int j] us) : ReadsAll h us [.int i, .int j] [] := by
  cases r with
  | cons r1 r2 =>
    cases r2 with
    | cons r2 r3 =>
      cases r3
      obtain ⟨t1, rfl⟩ := r1
      obtain ⟨t2, rfl⟩ := r2
      exact ReadsAll.cons (as := []) (.int i t1) (ReadsAll.cons (as := []) (.int j t2) .nil)
theorem pairAlike (i j : Int) : AlikeAll [.int i, .int j] := by
  refine ⟨fun x hx y hy => ?_, fun x hx => ?_⟩
  · simp only [List.mem_cons, List.not_mem_nil, or_false] at hx hy
    rcases hx with rfl | rfl <;> rcases hy with rfl | rfl <;> rfl
  · simp only [List.mem_cons, List.not_mem_nil, or_false] at hx
    rcases hx with rfl | rfl <;> exact PyData.noConfusion
theorem intOfReads {h : Heap} {v : Value} {k : Int} {bs : List Addr} (r : Reads h v (.int k) bs) : RelV (.int k) v := by
  cases r
  exact ⟨_, rfl⟩
/-- min(t), max(t) of a pair of ints -/
def rMinT (f : Int → Int → Int) : List V → Hp → VK → Prop := fun vs H Q => ∃ (a : Addr) (i j : Int), vs = [V.ref a] ∧ H a = some (.tup [.int i, .int j]) ∧ Q (.int (f i j)) H
theorem cr_minT (hc : X.calm = true) (hu : X.A.units + 64 < cLine) : CallR X (.builtin "min") (rMinT min) := by
  intro pins s σ H vs us Q I r h
  obtain ⟨a, i, j, rfl, hs, q⟩ := h
  obtain ⟨its, rv, ht, _⟩ := I.tuple (SqT.of hs)
  rw [Vals.ref1 r]
  obtain ⟨o, h1, h2, n, h3⟩ := ht
  refine min_tuple_data (x := .int i) (xs := [.int j]) (I.ok.hd hc) ⟨o, h1, h2, n, h3⟩ (pairReads rv) (pairAlike i j) (by show X.A.units + 1 + 0 < cLine; omega) (fun k v h' tk bs e r2 kp => ?_)
  have e2 : minD (.int i) [.int j] = .int (min i j) := minD_ints i [j]
  rw [e2] at r2
  exact ⟨.int (min i j), H, I.kept kp, intOfReads r2, q⟩
theorem cr_maxT (hc : X.calm = true) (hu : X.A.units + 64 < cLine) : CallR X (.builtin "max") (rMinT max) := by
  intro pins s σ H vs us Q I r h
  obtain ⟨a, i, j, rfl, hs, q⟩ := h
  obtain ⟨its, rv, ht, _⟩ := I.tuple (SqT.of hs)
  rw [Vals.ref1 r]
  obtain ⟨o, h1, h2, n, h3⟩ := ht
  refine max_tuple_data (x := .int i) (xs := [.int j]) (I.ok.hd hc) ⟨o, h1, h2, n, h3⟩ (pairReads rv) (pairAlike i j) (by show X.A.units + 1 + 0 < cLine; omega) (fun k v h' tk bs e r2 kp => ?_)
  have e2 : maxD (.int i) [.int j] = .int (max i j) := maxD_ints i [j]
  rw [e2] at r2
  exact ⟨.int (max i j), H, I.kept kp, intOfReads r2, q⟩
end
def tyD : PyData → String
  | .none => "NoneType"
  | .bool _ => "bool"
  | .int _ => "int"
  | .str _ => "str"
  | .list _ => "list"
  | .tuple _ => "tuple"
  | .dict _ => "dict"
theorem rdTy {K : PySem.W.Frag} {H : Hp} {v : V} {d : PyData} (h : Rd K H v d) : TyX K H v (.type (tyD d)) := by
  cases h with
  | dat h =>
    cases h with
    | non => exact .base .non
    | bl b => exact .base (.bl b)
    | int i => exact .base (.int i)
    | str x => exact .base (.str x)
    | lst s _ =>
      rcases s with (s | ⟨o, s⟩) | ⟨o, its, n, e, c, _⟩
      · exact .base (.lst s)
      · exact .base (.frz s)
      · exact .kList e c
    | tup s _ =>
      rcases s with (s | ⟨o, s⟩) | s
      · exact .base (.tup s)
      · exact .fTuple s
      · obtain ⟨o, its, n, e, c, _⟩ := s
        exact .kTuple e c
  | dct kvs h => exact .base (.dK h)
def isI : PyData → Bool
  | .int _ => true
  | _ => false
def isLst : PyData → Bool
  | .list _ => true
  | _ => false
def within (lo hi : Int) : PyData → Bool
  | .int i => decide (lo ≤ i) && decide (i ≤ hi)
  | _ => false
def isB : PyData → Bool
  | .bool _ => true
  | _ => false
def isIB : PyData → Bool
  | .int _ => true
  | .bool _ => true
  | _ => false
theorem kitI (K : PySem.W.Frag) : ∀ d : PyData, PySem.W.kitOne K (.type (tyD d)) (.type "int") = some (isIB d)
  | .none => (kit_ty (by decide +kernel) : PySem.W.kitOne K (.type "NoneType") (.type "int") = some false)
  | .bool _ => (kit_ty (by decide +kernel) : PySem.W.kitOne K (.type "bool") (.type "int") = some true)
  | .int _ => (kit_ty (by decide +kernel) : PySem.W.kitOne K (.type "int") (.type "int") = some true)
  | .str _ => (kit_ty (by decide +kernel) : PySem.W.kitOne K (.type "str") (.type "int") = some false)
  | .list _ => (kit_ty (by decide +kernel) : PySem.W.kitOne K (.type "list") (.type "int") = some false)
  | .tuple _ => (kit_ty (by decide +kernel) : PySem.W.kitOne K (.type "tuple") (.type "int") = some false)
  | .dict _ => (kit_ty (by decide +kernel) : PySem.W.kitOne K (.type "dict") (.type "int") = some false)
theorem kitBo (K : PySem.W.Frag) : ∀ d : PyData, PySem.W.kitOne K (.type (tyD d)) (.type "bool") = some (isB d)
  | .none => (kit_ty (by decide +kernel) : PySem.W.kitOne K (.type "NoneType") (.type "bool") = some false)
  | .bool _ => (kit_ty (by decide +kernel) : PySem.W.kitOne K (.type "bool") (.type "bool") = some true)
  | .int _ => (kit_ty (by decide +kernel) : PySem.W.kitOne K (.type "int") (.type "bool") = some false)
  | .str _ => (kit_ty (by decide +kernel) : PySem.W.kitOne K (.type "str") (.type "bool") = some false)
  | .list _ => (kit_ty (by decide +kernel) : PySem.W.kitOne K (.type "list") (.type "bool") = some false)
  | .tuple _ => (kit_ty (by decide +kernel) : PySem.W.kitOne K (.type "tuple") (.type "bool") = some false)
  | .dict _ => (kit_ty (by decide +kernel) : PySem.W.kitOne K (.type "dict") (.type "bool") = some false)
theorem kitL (K : PySem.W.Frag) : ∀ d : PyData, PySem.W.kitOne K (.type (tyD d)) (.type "list") = some (isLst d)
  | .none => (kit_ty (by decide +kernel) : PySem.W.kitOne K (.type "NoneType") (.type "list") = some false)
  | .bool _ => (kit_ty (by decide +kernel) : PySem.W.kitOne K (.type "bool") (.type "list") = some false)
  | .int _ => (kit_ty (by decide +kernel) : PySem.W.kitOne K (.type "int") (.type "list") = some false)
  | .str _ => (kit_ty (by decide +kernel) : PySem.W.kitOne K (.type "str") (.type "list") = some false)
  | .list _ => (kit_ty (by decide +kernel) : PySem.W.kitOne K (.type "list") (.type "list") = some true)
  | .tuple _ => (kit_ty (by decide +kernel) : PySem.W.kitOne K (.type "tuple") (.type "list") = some false)
  | .dict _ => (kit_ty (by decide +kernel) : PySem.W.kitOne K (.type "dict") (.type "list") = some false)
mutual
theorem dpSame {K : PySem.W.Frag} {H H' : Hp} (s : Same H H') : ∀ (d : PyData) (v : V), Dp K H v d → Dp K H' v d
  | .none, _, h => by cases h; exact .non
  | .bool _, _, h => by cases h; exact .bl _
  | .int _, _, h => by cases h; exact .int _
  | .str _, _, h => by cases h; exact .str _
  | .list ds, _, h => by
    cases h with
    | lst h1 h2 => exact .lst (s.seq h1) (dpSameAll s ds _ h2)
  | .tuple ds, _, h => by
    cases h with
    | tup h1 h2 =>
      refine .tup ?_ (dpSameAll s ds _ h2)
      rcases h1 with (h1 | ⟨o, h1⟩) | h1
      · exact .inl (.inl (s _ _ h1))
      · exact .inl (.inr ⟨o, s _ _ h1⟩)
      · exact .inr h1
  | .dict _, _, h => by cases h
theorem dpSameAll {K : PySem.W.Frag} {H H' : Hp} (s : Same H H') : ∀ (ds : List PyData) (vs : List V), DpAll K H vs ds → DpAll K H' vs ds
  | [], _, h => by cases h; exact .nil
  | d :: ds, _, h => by
    cases h with
    | cons h1 h2 => exact .cons (dpSame s d _ h1) (dpSameAll s ds _ h2)
end
theorem rdSame {K : PySem.W.Frag} {H H' : Hp} (s : Same H H') {v : V} {d : PyData} (h : Rd K H v d) : Rd K H' v d := by
  cases h with
  | dat h => exact .dat (dpSame s d v h)
  | dct kvs h => exact .dct kvs (s _ _ h)
end FNX
set_option Elab.async false
set_option linter.all false
set_option maxRecDepth 100000
set_option maxHeartbeats 4000000
namespace FNX
open PySem PySem.Spec PyProof.Rows L2
section
variable {X : Cx} {k : Nat} {f : Addr} {fd : FuncData} {ps : List Str} {sp : Sp} {E : XK} {x : Str} {p pos : Pos} {e : Expr} {es : List Expr} {t : TA}
theorem pe_callG (hgd : X.A.guards = some []) (F : GOk X.prog X.w X.K X.mg X.base k f fd ps sp) (hr : Room k X.A) (hg : Gl X x) (hm : X.mg x = some (.ref f)) (hk : PySem.W.keepIn X.K (.ref f) = true) (hb : L2.Binds X.K fd ps []) (hx : Passes CX0 X E)
    (ha : PA X (e :: es) t) (hdb : (x == ("__debug__" : Str)) = false := by decide) (he : starEach (e :: es) X.env = (false, eval e X.env) :: starEach es X.env := by rfl) (hpl : (backTo pos (starEach es X.env)).any (·.1) = false := by rfl) :
    PE X (.Call (.Name x p) (e :: es) [] pos) (tCall sp [] E t) := by
  refine ⟨fun pins s σ H Q I h => ?_⟩
  refine wpAny_Call_Name_kw (ld_glob I hg hm ?_ hdb)
  refine PySem.W.callWith_K (h₀ := X.base) I.ok.mod.kin hk (thn (ha.run pos pins s σ H _ I h) fun us s1 ⟨vs, H1, I1, r, q⟩ => ⟨I1.kIn, ?_⟩) he hpl
  have r2 : Vals (vs ++ []) (us ++ []) := r.append .nil
  have hl : (us ++ ([] : List Value)).length = ps.length := by rw [← r2.length]; exact F.len _ _ _ _ q
  refine wpAny_call (codeAny_mono (F.run X.A X.stack s1 H1 ⟨us, []⟩ (us ++ []) (vs ++ []) Q E hgd hr I1.env0 (hb s1 us I1.kIn hl) r2 q) fun r s' hq => ?_)
  cases r with
  | error e => exact hx pins σ H1 s1 e s' I1 hq
  | ok fl =>
    cases fl with
    | ret u => exact I1.after hq
    | next => exact False.elim hq
    | brk => exact False.elim hq
    | cont => exact False.elim hq
/-- where a def stands that is walked so -/
def AtG (P : Program) (w : World) (K : PySem.W.Frag) (mg : Str → Option Value) (base : Heap) (k : Nat) (x : Str) (ps : List Str) (sp : Sp) : Prop :=
  ∃ f fd, GOk P w K mg base k f fd ps sp ∧ mg x = some (.ref f) ∧ PySem.W.keepIn K (.ref f) = true ∧ L2.Binds K fd ps []
end
end FNX
set_option Elab.async false
set_option linter.all false
set_option maxRecDepth 100000
set_option maxHeartbeats 4000000
namespace FNX
open PySem PySem.Spec PyProof.Rows L2
end FNX
set_option Elab.async false
set_option linter.all false
set_option maxRecDepth 100000
set_option maxHeartbeats 8000000
namespace FNX
open PySem PySem.Spec PyProof.Rows L2
/-- the text of an `__init__` that stores its value -/
structure InitTxt (st : Stmt) : Prop where
  sc : FnScope ["self", "value"] ["self", "value"] (defScope st)
  body : ∃ q1 q2 q3 q4, defBody st = [.Assign [.Attribute (.Name "self" q1) "value" q2] (.Name "value" q3) q4]
  bind : ∀ (qual : Str) (kV doc pm : Value) (an : Option Addr) (cdv ct : Value) (us : List Value), us.length = (["self", "value"] : List Str).length →
    bindArgs (PySem.W.fnOf "__init__" qual (defArgs st) (defBody st) (defScope st) .none kV doc pm an cdv ct) ⟨us, []⟩ = pure ((["self", "value"] : List Str).zip us)
  bindK : ∀ (qual : Str) (kV doc pm : Value) (an : Option Addr) (cdv ct : Value) (u v : Value),
    bindArgs (PySem.W.fnOf "__init__" qual (defArgs st) (defBody st) (defScope st) .none kV doc pm an cdv ct) ⟨[u], [(("value" : Str), v)]⟩ = pure ((["self", "value"] : List Str).zip [u, v])
/-- a class of the program, as the top has left it -/
structure Cl (K : PySem.W.Frag) (mg : Str → Option Value) (x : Str) (C : Addr) : Prop where
  xc : XC K C
  mgC : mg x = some (.ref C)
  mkd : ∃ st qual f fd, InitTxt st ∧ PySem.W.findIn K (.ref C) "__init__" = some (some (.ref f)) ∧ PySem.W.typeIn K (.ref f) = some (.type "function") ∧ Fun K "__init__" qual st f fd
theorem Cl.ex {P : Program} {w : World} {K : PySem.W.Frag} {mg : Str → Option Value} {base : Heap} {x : Str} {C : Addr} (c : Cl K mg x C) : Ex P w K mg base x C := by
  obtain ⟨st, qual, f, fd, t, h1, h2, F⟩ := c.mkd
  refine ⟨c.xc, c.mgC, f, fd, h1, h2, xinit_ok F t.sc t.body c.xc, F.binds (t.bind qual), fun s u v => ?_⟩
  obtain ⟨oc, od, kV, doc, pm, an, cdv, ct, osl, rfl, _, _⟩ := F.ex
  exact .of_eq (t.bindK qual kV doc pm an cdv ct u v)
theorem chainVal {g : Addr} : Chain "ValueError" [.ref g, .type "ValueError", .type "Exception", .type "BaseException", .type "object"] := ⟨rfl, rfl, rfl, rfl, rfl, passVal.ref g⟩
theorem chainLook : Chain "LookupError" [.type "LookupError", .type "Exception", .type "BaseException", .type "object"] := ⟨by decide +kernel, by decide +kernel, by decide +kernel, by decide +kernel, rfl, passLook⟩
theorem chainRun : Chain "RuntimeError" [.type "RuntimeError", .type "Exception", .type "BaseException", .type "object"] := ⟨by decide +kernel, by decide +kernel, by decide +kernel, by decide +kernel, rfl, passRun⟩
theorem chainOver : Chain "OverflowError" [.type "OverflowError", .type "ArithmeticError", .type "Exception", .type "BaseException", .type "object"] := ⟨by decide +kernel, by decide +kernel, by decide +kernel, by decide +kernel, rfl, passOver⟩
section
variable {K : PySem.W.Frag} {h : Heap} {mg : Str → Option Value} {x qual : Str} {C f N T e : Addr} {st : Stmt} {B newId initId : String} {bm bmB bs sub : List Value} {nm q : Str} {sn : List Str} {ab : Bool} {col : Option Bool}
  {dd od an odT : Option Addr} {k0 k1 k2 k3 k5 : Option Value} {oc kV doc pm cd ct ocT : Value} {sl slT : Array (Option Value)} {nT : Nat}
theorem mkXC (F : ExcBaseFacts B newId initId bmB) (L : Chain B bm)
    (xC : K.lookup C = some (excClassObj nm q C N bs bm true sn sub ab col dd k0 k1 k2 k3 k5 newId))
    (sa : PySem.W.findIn K (.ref C) "__setattr__" = some (some (.builtin "object.__setattr__")))
    (ga : PySem.W.findIn K (.ref C) "__getattribute__" = some (some (.builtin "BaseException.__getattribute__"))) (gg : PySem.W.findIn K (.ref C) "__getattr__" = some none)
    (nv : PySem.W.findIn K (.ref C) "value" = some none) (eC : PySem.W.subIn K (.ref C) (.type "BaseException") = some true) (kC : PySem.W.keepIn K (.ref C) = true)
    (hd : PySem.W.hasDictIn K C = true) (ic : PySem.W.isClsIn K C = true) (cC : PySem.W.findIn K (.ref C) "__class__" = some (some (.builtin "object.__class__")))
    (mC : PySem.W.mroIn K C (.type "object") = some true) : XC K C :=
  ⟨⟨nm, q, N, bs, bm, sn, sub, ab, col, dd, k0, k1, k2, k3, k5, B, newId, initId, bmB, xC, F, L⟩, sa, ga, gg, nv, eC, kC, hd, ic, cC, mC⟩
theorem mkCl (X : K.In h) (G : h.Ns mainGlobals mg) (aC : PySem.W.nsIn K mainGlobals x = some (some (.ref C))) (xc : XC K C) (t : InitTxt st)
    (a1 : PySem.W.findIn K (.ref C) "__init__" = some (some (.ref f))) (t1 : PySem.W.typeIn K (.ref f) = some (.type "function"))
    (l1 : K.lookup f = some ⟨oc, od, .func (PySem.W.fnOf "__init__" qual (defArgs st) (defBody st) (defScope st) .none kV doc pm an cd ct), sl⟩)
    (c1 : PySem.W.codeIn K cd qual = true) (kf : PySem.W.keepIn K (.ref f) = true) : Cl K mg x C :=
  ⟨xc, PySem.W.mg_of X G aC, st, qual, f, _, t, a1, t1, fun_mk l1 c1 kf⟩
/-- a def -/
def FnF (K : PySem.W.Frag) (mg : Str → Option Value) (x : Str) (st : Stmt) (f : Addr) : Prop := mg x = some (.ref f) ∧ ∃ fd, Fun K x x st f fd
theorem mkF (X : K.In h) (G : h.Ns mainGlobals mg) (a1 : PySem.W.nsIn K mainGlobals x = some (some (.ref f)))
    (l1 : K.lookup f = some ⟨oc, od, .func (PySem.W.fnOf x x (defArgs st) (defBody st) (defScope st) .none kV doc pm an cd ct), sl⟩)
    (c1 : PySem.W.codeIn K cd x = true) (kf : PySem.W.keepIn K (.ref f) = true) : FnF K mg x st f := ⟨PySem.W.mg_of X G a1, _, fun_mk l1 c1 kf⟩
/-- a method of the class at C -/
def MtF (K : PySem.W.Frag) (C : Addr) (x qual : Str) (st : Stmt) (f : Addr) : Prop := Meth K C x f ∧ ∃ fd, Fun K x qual st f fd
theorem mkMt (a1 : PySem.W.findIn K (.ref C) x = some (some (.ref f))) (l1 : K.lookup f = some ⟨oc, od, .func (PySem.W.fnOf x qual (defArgs st) (defBody st) (defScope st) .none kV doc pm an cd ct), sl⟩)
    (c1 : PySem.W.codeIn K cd qual = true) (fn : PySem.W.isFn K (.ref f) = true) (kf : PySem.W.keepIn K (.ref f) = true) : MtF K C x qual st f := ⟨⟨a1, fn, kf⟩, _, fun_mk l1 c1 kf⟩
/-- an `__init__` with one default -/
def InF (K : PySem.W.Frag) (C : Addr) (qual : Str) (st : Stmt) (f e : Addr) : Prop := Mk K C f ∧ ∃ fd, FunD K "__init__" qual (defArgs st) (defBody st) (defScope st) [.ref e] [] f fd
theorem mkIn (mk : PySem.W.makesIn K C = true) (a1 : PySem.W.findIn K (.ref C) "__init__" = some (some (.ref f))) (fn : PySem.W.isFn K (.ref f) = true) (kC : PySem.W.keepIn K (.ref C) = true)
    (l1 : K.lookup f = some ⟨oc, od, .func (PySem.W.fnOf "__init__" qual (defArgs st) (defBody st) (defScope st) (.ref T) kV doc pm an cd ct), sl⟩) (lT : K.lookup T = some ⟨ocT, odT, .seq #[.ref e] nT, slT⟩)
    (c1 : PySem.W.codeIn K cd qual = true) (kf : PySem.W.keepIn K (.ref f) = true) : InF K C qual st f e :=
  ⟨⟨mk, a1, fn, kC⟩, _, ⟨oc, od, .ref T, kV, doc, pm, an, cd, ct, sl, rfl, l1, c1, .inr ⟨by simp, T, _, [.ref e], nT, rfl, lT, rfl, .cons rfl .nil⟩, .inl rfl⟩, kf⟩
end
end FNX
set_option Elab.async false
set_option linter.all false
set_option maxRecDepth 100000
set_option maxHeartbeats 4000000
namespace FNX
open PySem PySem.Spec PyProof.Rows L2
def wMas (K : PySem.W.Frag) (i : Nat) (Wout : WX) (D : Ends) : List (Value × (Addr → Value → Option Addr → TS)) → WX
  | [] => Wout
  | q :: r => wAs K q.1 i q.2 (wMas K i Wout D r) D
abbrev SuiteOk (X : Cx) (l : List Stmt) (ts : Addr → Value → Option Addr → TS) : Prop :=
  ∀ (z : Addr) (oz : Obj) (cls : Value) (d : Option Addr) (pn : List (Addr × Obj)), Zc cls d oz → (∃ us, oz.data = .fields us) → PSs (X.suite z ((z, oz) :: pn)) l (ts z cls d)
inductive Clauses (X : Cx) (n : Str) : List ExceptHandler → List (Value × (Addr → Value → Option Addr → TS)) → Prop
  | nil : Clauses X n [] []
  | cons {x : Str} {c : Value} {ts : Addr → Value → Option Addr → TS} {b : Stmt} {l : List Stmt} {p1 p2 : Pos} {hs : List ExceptHandler} {r : List (Value × (Addr → Value → Option Addr → TS))}
      (hc : Names X x c) (hsu : SuiteOk X (b :: l) ts) (hr : Clauses X n hs r) : Clauses X n (.ExceptHandler (some (.Name x p1)) (some n) (b :: l) p2 :: hs) ((c, ts) :: r)
section
variable {X : Cx} {n : Str} {i : Nat} {body : List Stmt} {h1 : ExceptHandler} {hs : List ExceptHandler} {cl : List (Value × (Addr → Value → Option Addr → TS))} {pos : Pos} {tb : WX → TS} {Wout : WX}
/-- what the clauses are asked, once the exception is caught -/
abbrev caught (X : Cx) (pins : List (Addr × Obj)) (D : Ends) (l : List ExceptHandler) : Value → Shared → Prop := fun e s1 =>
  wpAny (model X.prog X.w) X.A (noteFrame e X.env) (fun _ s2 => wpAny (model X.prog X.w) X.A (setFlight e none)
    (fun _ s3 => wpAny (model X.prog X.w) X.A (handleBy e X.env l) (SP X pins D) X.xe s3) X.xe s2) X.xe s1
theorem ps_try_mas (hst : X.stack = X.env :: X.outer) (hfr : X.env.frame = some X.env.locals) (hN : X.N.Nodup) (hi : X.N[i]? = some n) (hn : X.env.kindOf n = some .local) (tk : Takes X Wout)
    (hb : ∀ (W : WX) (pn : List (Addr × Obj)) (xe : Value → Shared → Prop), Takes (X.tr pn xe) W → PassesOwn (model X.prog X.w) X.A X.env xe → PSs (X.tr pn xe) body (tb W))
    (hc : Clauses X n (h1 :: hs) cl) : PS X (.Try body (h1 :: hs) [] [] pos) (fun D σ H => tb (wMas X.K i Wout D cl) D σ H) := by
  refine ⟨fun pins s σ H D I h => wpAny_Try_except ?_⟩
  have ok := I.ok
  have fs : X.A.frames = some (X.env :: X.outer) := ok.frames.trans (congrArg some hst)
  refine wpAny_mono ((hb (wMas X.K i Wout D cl) (X.pn ++ pins) (caught X pins D (h1 :: hs)) (fun u s' got => ?_) PassesOwn.looking).run [] s σ H D (I.toTry _) h) (fun fl s1 z => ?_) (fun _ _ z => z)
  · obtain ⟨a, B, sI, pins', σ', H', cls, d, rfl, J', nb, up, sky, na, os, ag, wish⟩ := got
    have J : Inv X pins σ' H' sI := J'.ofTry ok
    refine Sky.land Zc.steady fs hfr (show Sky B (X.env :: X.outer) a (Zc cls d) X.env.locals s'.heap from hst ▸ sky) fun hp fly upp => ?_
    have up1 := up.trans upp
    obtain ⟨oz, fz, az, zz, dz⟩ := fly.there
    have off : a ∉ frs (X.env :: X.outer) := fun hm => by
      obtain ⟨_, o2, e2, no2⟩ := fly.2.2.1.mem hm
      obtain rfl : oz = o2 := Option.some.inj (az.symm.trans e2)
      exact no2 fz dz
    have offL : a ≠ X.env.locals := fun e => off (List.mem_filterMap.mpr ⟨X.env, List.mem_cons_self, by rw [hfr, e]⟩)
    have offF : a ∉ X.fs := fun hm => by
      obtain ⟨v, hv, q⟩ := List.mem_filterMap.mp hm
      exact off (List.mem_filterMap.mpr ⟨v, List.mem_cons_of_mem _ hv, q⟩)
    have J1 : Inv X pins σ' H' { s' with heap := hp } := J.landed nb fly.1 up1 os ag
    have walk : ∀ {l : List ExceptHandler} {r : List (Value × (Addr → Value → Option Addr → TS))}, Clauses X n l r → wMas X.K i Wout D r cls d σ' H' →
        wpAny (model X.prog X.w) X.A (handleBy (.ref a) X.env l) (SP X pins D) X.xe { s' with heap := hp } := by
      intro l r hl
      induction hl with
      | nil =>
        intro want
        refine wpAny_handleBy_nil ?_
        have leave : wpAny (model X.prog X.w) X.A (setFlight (.ref a) X.env.frame) (fun _ s4 => wpAny (model X.prog X.w) X.A (throw (.ref a) : Sem Flow) (SP X pins D) X.xe s4) X.xe { s' with heap := hp } := by
          rw [hfr]
          exact HandSPX.setFlight_upZ fly fun h4 held up4 => wpAny_throw (tk _ _ ⟨a, B, sI, pins, σ', H', cls, d, rfl, J, nb, up1.trans up4, .inr (.inr (by rw [hst]; exact held)), na, os, ag, want⟩)
        obtain ⟨_, _, _, ob, vb, T, _, _, hob, _, hdb, hTb, _⟩ := id fly
        unfold PySem.passOn
        refine wpAny_bind (wpAny_field hob hdb hTb ?_)
        have nz : ¬ ((Value.ref T == Value.none) = true) := by simp
        rw [if_neg nz]
        first
          | exact wpAny_bind leave
          | exact wpAny_bind (wpAny_pure (wpAny_bind leave))
      | @cons x c ts b l2 p1 p2 hs2 r2 hnm hsu _ ih =>
        intro want
        obtain ⟨bl, hbl, yes, no⟩ := want
        have S1 := J1.suite az dz na offL offF
        have named : ∀ {Q1 : Value → Shared → Prop} {E1 : Value → Shared → Prop}, Q1 c { s' with heap := hp } →
            wpAny (model X.prog X.w) (X.A.mark (some (.ref a))) (eval (.Name x p1) X.env) Q1 E1 { s' with heap := hp } := fun q1 => by
          obtain ⟨g1, g2, g3⟩ := hnm
          rcases g3 with g3 | ⟨g3, g4, g5⟩
          · exact ld_glob (X := X.suite a ((a, oz) :: (X.pn ++ pins))) S1 g1 g3 q1 g2
          · exact ld_blt (X := X.suite a ((a, oz) :: (X.pn ++ pins))) S1 g1 g3 g4 q1 g5 g2
        have itsType : PySem.W.Looks (model X.prog X.w) hp (typeOf (.ref a)) cls := fun A1 Q1 E1 s1 k1 q1 => wpAny_typeOf_ref (k1 _ _ az) (zz.1.symm ▸ q1)
        have match_ := PySem.W.exm_one (M := model X.prog X.w) J1.kIn itsType hbl
        refine wpAny_handleBy_cons (codeAny_handlers_test (named (match_.here ?_))) (by intro e; cases e)
        cases bl with
        | false =>
          have go := ih (no rfl)
          exact go
        | true =>
          refine codeAny_handlers_suite_as (HandSPX.lands_againZ fly fun h4 fly4 up4 => ?_)
          obtain ⟨o4, f4, a4, z4, d4⟩ := fly4.there
          have J4 : Inv X pins σ' H' { s' with heap := h4 } := J.landed nb fly4.1 (up1.trans up4) os ag
          refine store_ok (X := X.suite a ((a, o4) :: (X.pn ++ pins))) (v := .ref a) (J4.suite a4 d4 na offL offF) hN hi (.inl hn) rfl (fun s5 S5 => ?_) (.inr hn)
          refine wpAny_mono ((hsu a o4 cls d (X.pn ++ pins) z4 ⟨f4, d4⟩).run [] s5 _ H' _ S5 (yes rfl a na)) (fun fl s6 z => ?_) (fun _ _ z => z.elim)
          have done : ∀ {σ6 : L2.St} {H6 : Hp} {Q6 : Shared → Prop}, Inv (X.suite a ((a, o4) :: (X.pn ++ pins))) [] σ6 H6 s6 → (∀ s7, Inv X pins (σ6.set i none) H6 s7 → Q6 s7) →
              wpAny (model X.prog X.w) X.A (do bindName X.env n .none; unbindBehindTheSuite X.env n p2) (fun _ s7 => Q6 s7) X.xe s6 := fun S6 q6 => gone_ok (S6.unsuite ok) hN hi hn q6
          cases fl with
          | ret u =>
            obtain ⟨v6, σ6, H6, S6, r6, q6⟩ := z
            exact done S6 fun s7 J7 => ⟨v6, _, _, J7, r6, q6⟩
          | next =>
            obtain ⟨σ6, H6, S6, q6⟩ := z
            exact done S6 fun s7 J7 => ⟨_, H6, J7, q6⟩
          | brk =>
            obtain ⟨σ6, H6, S6, q6⟩ := z
            exact done S6 fun s7 J7 => ⟨_, H6, J7, q6⟩
          | cont =>
            obtain ⟨σ6, H6, S6, q6⟩ := z
            exact done S6 fun s7 J7 => ⟨_, H6, J7, q6⟩
    exact walk hc wish
  · cases fl with
    | ret u =>
      obtain ⟨v, σ1, H1, J1, rv, q⟩ := z
      exact ⟨v, σ1, H1, J1.ofTry ok, rv, q⟩
    | next =>
      obtain ⟨σ1, H1, J1, q⟩ := z
      exact wpAny_execs_nil ⟨σ1, H1, J1.ofTry ok, q⟩
    | brk =>
      obtain ⟨σ1, H1, J1, q⟩ := z
      exact ⟨σ1, H1, J1.ofTry ok, q⟩
    | cont =>
      obtain ⟨σ1, H1, J1, q⟩ := z
      exact ⟨σ1, H1, J1.ofTry ok, q⟩
end
structure FunC (K : PySem.W.Frag) (x qual : Str) (st : Stmt) (f : Addr) (fd : FuncData) (c : Addr) : Prop where
  ex : ∃ (oc : Value) (od : Option Addr) (kV doc pm : Value) (an : Option Addr) (ct : Value) (osl : Array (Option Value)),
    fd = PySem.W.fnOf x qual (defArgs st) (defBody st) (defScope st) .none kV doc pm an (.ref c) ct ∧ K.lookup f = some ⟨oc, od, .func fd, osl⟩ ∧ PySem.W.codeIn K (.ref c) qual = true
  kp : PySem.W.keepIn K (.ref f) = true
section
variable {P : Program} {w : World} {K : PySem.W.Frag} {mg : Str → Option Value} {base : Heap}
theorem okGC {x qual : Str} {st : Stmt} {f c : Addr} {fd : FuncData} {N ps : List Str} {k : Nat} {sp : Sp} (F : FunC K x qual st f fd c) (S : FnScope N ps (defScope st))
    (len : ∀ vs H Q E, sp vs H Q E → vs.length = ps.length)
    (hbody : ∀ (A : Around) (outer : List Env) (s : Shared) (H : Hp) (vs : List V) (Q : VK) (E : XK), A.guards = some [] →
      Room k (A.deeper (envOfC qual (defScope st) s.heap.objs.size f (.ref c))) → sp vs H Q E →
      ∃ t, PSs (cxOf CX0 P w K mg base N qual (defScope st) f (.ref c) A outer s H E).nox (defBody st) t ∧ t { nx := fun _ H' => Q .non H', rt := Q } (start N vs) H) :
    GOk P w K mg base (k + 1) f fd ps sp := by
  refine ⟨len, fun A outer s H args us vs Q E hg hr e0 hb r hs => ?_⟩
  obtain ⟨oc, od, kV, doc, pm, an, ct, osl, rfl, lk, hcd⟩ := F.ex
  refine LamX.run_ofS (CX := CX0) lk hcd S hr e0 hb r (len _ _ _ _ hs) fun hr' => ?_
  obtain ⟨t, ht, q⟩ := hbody A outer s H vs Q E hg hr' hs
  exact ⟨t, ht.nox, q⟩
end
section
variable {P : Program} {w : World} {K : PySem.W.Frag} {mg mb : Str → Option Value} {k : Nat} {fa a : Addr} {fd : FuncData} {x : Str} {sp : Sp} {s : Shared} {vs : List Value} {ns : List Int} {cs : List (Addr × Addr)}
/-- the module's own dict of built-ins, as the top has left it -/
abbrev BMain (mg : Str → Option Value) (h : Heap) : Prop :=
  ∃ (bm : Addr) (ob : Obj), mg "__builtins__" = some (.ref bm) ∧ bm ≠ builtinsNs ∧ h.get? bm = some ob ∧ ob.cls = .type "module" ∧ ob.dict = some builtinsNs ∧ ob.data = .plain
theorem lawFromT {H : Hp} (KX : K.In s.heap) (hns : s.heap.Ns mainGlobals mg) (hb : s.heap.Ns builtinsNs mb) (hbb : ∀ x : Str, x ≠ "__name__" → mb x = bootBuiltins x)
    (hlim : s.heap.NoLimit) (hg : s.gens = #[]) (hr : Room k callerA)
    (hT : ∀ q ∈ cs, s.heap.get? q.2 = some (PySem.W.tabObj #[])) (hC : ∀ q ∈ cs, PySem.W.CodeHd s.heap q.1 q.2) (hbm : BMain mg s.heap)
    (F : ∀ base : Heap, K.In base → base.Ns mainGlobals mg → (∀ q ∈ cs, LamX.TabB base mg q.1 q.2) → GOk P w K mg base k fa fd [x] sp) (hbind : ∀ (s : Shared) (u : Value), BindsTo s fd ⟨[u], []⟩ [(x, u)])
    (hsp : sp [.ref a] H (fun v _ => v = .bl true) fun _ _ _ => False) (hok : HOk P w H s.heap) (hH : ∀ q ∈ cs, H q.2 = some (.tbl #[]))
    (hall : ∀ b u, H b = some u → K.lookup b = none ∧ ((∃ q ∈ cs, b = q.2) ∨ ((∃ o xs, u = .frz o (.lst xs)) ∧ ∃ o us m, s.heap.get? b = some o ∧ o.data = .seq us m))) :
    codeAny (model P w) callerA (.call (.ref fa) ⟨[.ref a], []⟩) (LawEnd s) s := by
  have seen : ∀ {b : Addr} {o : Obj}, s.heap.get? b = some o → H b = none → (hidT s.heap H).get? b = some o := fun e n => hidT_get e n
  have away : ∀ {b : Addr} {o : Obj}, s.heap.get? b = some o → (∀ us m, o.data ≠ .seq us m) → o.data ≠ .fields #[] → H b = none := fun {b o} e n1 n2 => by
    cases q : H b with
    | none => rfl
    | some u =>
      rcases (hall b u q).2 with ⟨t, ht, rfl⟩ | ⟨_, o2, us, m, e2, d2⟩
      · obtain rfl := Option.some.inj (e.symm.trans (hT t ht))
        exact absurd rfl n2
      · obtain rfl := Option.some.inj (e.symm.trans e2)
        exact absurd d2 (n1 us m)
  have dicts : ∀ {b : Addr} {o : Obj} {es : Array DictEntry} {ep : Nat}, s.heap.get? b = some o → o.data = .dict es ep → H b = none := fun e d =>
    away e (fun us m z => by rw [d] at z; cases z) (fun z => by rw [d] at z; cases z)
  have keep : ∀ {b : Addr} {m : Str → Option Value}, s.heap.Ns b m → (hidT s.heap H).Ns b m := fun n => by
    obtain ⟨o, es, ep, e, d, r⟩ := n
    exact ⟨o, es, ep, seen e (dicts e d), d, r⟩
  have kin : K.In (hidT s.heap H) := fun b o e => seen (KX b o e) (by
    cases q : H b with
    | none => rfl
    | some u =>
      rw [(hall b u q).1] at e
      cases e)
  have mod : Mod K mg (hidT s.heap H) := ⟨kin, keep hns, ⟨mb, keep hb, hbb⟩, by
    obtain ⟨mc, h1, h2⟩ := hlim
    exact ⟨mc, keep h1, h2⟩⟩
  have tabs : ∀ q ∈ cs, LamX.TabB (hidT s.heap H) mg q.1 q.2 := fun q hq => by
    have tq := hT q hq
    refine ⟨?_, ?_, fun z => ?_⟩
    · obtain ⟨o, us, file, tf, fl, tg, inF, tx, tt, e1, r1, r2, r3, rest⟩ := hC q hq
      refine ⟨o, us, file, tf, fl, tg, inF, tx, tt, seen e1 (away e1 (fun us' m z => ?_) fun z => ?_), r1, r2, r3, rest⟩
      · rw [r2] at z
        cases z
      · rw [r2] at z
        injection z with z
        rw [z] at r3
        simp at r3
    · obtain ⟨bm, ob, m1, m2, m3, m4, m5, m6⟩ := hbm
      refine ⟨bm, ob, m1, m2, fun z => ?_, fun z => ?_, seen m3 (away m3 (fun us' m z => ?_) fun z => ?_), m4, m5, m6⟩
      · obtain ⟨o, es, ep, e, d, _⟩ := hns
        rw [z, e] at m3
        obtain rfl := Option.some.inj m3
        rw [d] at m6
        cases m6
      · rw [z, tq] at m3
        obtain rfl := Option.some.inj m3
        cases m6
      · rw [m6] at z
        cases z
      · rw [m6] at z
        cases z
    · obtain ⟨o, es, ep, e, d, _⟩ := hns
      rw [z, tq] at e
      obtain rfl := Option.some.inj e
      cases d
  have e0 : Env0 P w K mg (hidT s.heap H) callerA [] s H :=
    ⟨rfl, mod, fun b o e => of_hidT e, Nat.le_of_eq (hidT_size _ _), trivial, fun b hb => absurd (show b ∈ ([] : List Addr) from hb) (by simp), hok, .of_eq hg⟩
  refine codeAny_mono ((F _ kin (keep hns) tabs).run callerA [] s H ⟨[.ref a], []⟩ [.ref a] [.ref a] _ _ rfl hr e0 (hbind s (.ref a)) (.cons rfl .nil) hsp) fun r s' z => ?_
  cases r with
  | error e => exact False.elim z
  | ok fl =>
    cases fl with
    | next => exact False.elim z
    | brk => exact False.elim z
    | cont => exact False.elim z
    | ret u =>
      obtain ⟨v, H', os, bare, un, hok', rv', q⟩ := z
      obtain rfl : v = .bl true := q
      obtain rfl : u = Value.bool true := rv'
      have grown : ∀ t ∈ cs, ∃ more : Array Value, s'.heap.get? t.2 = some { cls := .none, data := .fields more } := fun t ht => by
        obtain ⟨more, z⟩ := un.tbls t.2 #[] (hH t ht)
        exact ⟨_, hok' t.2 _ z⟩
      have same : ∀ b o, s.heap.get? b = some o → (∀ t ∈ cs, b ≠ t.2) → s'.heap.get? b = some o := fun b o e nt => by
        cases q : H b with
        | none => exact un.keep b o e q (fun z => absurd (show b ∈ ([] : List Addr) from z) (by simp)) (by simp)
        | some u =>
          rcases (hall b u q).2 with ⟨t, ht, z⟩ | ⟨⟨ob, xs, rfl⟩, _⟩
          · exact absurd z (nt t ht)
          obtain ⟨e1, _⟩ := hok b _ q
          obtain ⟨e2, _⟩ := hok' b _ (un.frzs b ob _ q)
          obtain rfl := Option.some.inj (e.symm.trans e1)
          exact e2
      have way : ∀ b : Addr, (∃ t ∈ cs, b = t.2) ∨ ∀ t ∈ cs, b ≠ t.2 := fun b => by
        by_cases c : ∃ t ∈ cs, b = t.2
        · exact .inl c
        · exact .inr fun t ht z => c ⟨t, ht, z⟩
      refine ⟨rfl, ⟨fun b o e => ?_, fun b o e => ?_⟩, os, bare⟩
      · rcases way b with ⟨t, ht, rfl⟩ | nt
        · obtain ⟨more, hm⟩ := grown t ht
          obtain rfl := Option.some.inj (e.symm.trans (hT t ht))
          exact .inr (.inl ⟨((hC t ht).tab (hT t ht)).isCodeTable, rfl, #[], more, rfl, by rw [Array.empty_append]; exact hm⟩)
        · exact .inl (same b o e nt)
      · rcases way b with ⟨t, ht, rfl⟩ | nt
        · obtain ⟨more, hm⟩ := grown t ht
          exact ⟨_, hm⟩
        · exact ⟨o, same b o e nt⟩
theorem lawCalledT (KX : K.In s.heap) (hns : s.heap.Ns mainGlobals mg) (hb : s.heap.Ns builtinsNs mb) (hbb : ∀ x : Str, x ≠ "__name__" → mb x = bootBuiltins x)
    (hlim : s.heap.NoLimit) (hg : s.gens = #[]) (hT : ∀ q ∈ cs, s.heap.get? q.2 = some (PySem.W.tabObj #[])) (nT : ∀ q ∈ cs, K.lookup q.2 = none) (hC : ∀ q ∈ cs, PySem.W.CodeHd s.heap q.1 q.2) (hbm : BMain mg s.heap)
    (ha : s.heap.get? a = some { cls := .type "list", data := .seq vs.toArray }) (hi : IntsAre vs ns) (hl : ns.length ≤ sizeLine)
    (hr : Room k callerA) (F : ∀ base : Heap, K.In base → base.Ns mainGlobals mg → (∀ q ∈ cs, LamX.TabB base mg q.1 q.2) → GOk P w K mg base k fa fd [x] sp)
    (hbind : ∀ (s : Shared) (u : Value), BindsTo s fd ⟨[u], []⟩ [(x, u)])
    (hsp : ∀ H : Hp, (∀ q ∈ cs, H q.2 = some (.tbl #[])) → SqL K H a (ns.map V.int) → sp [.ref a] H (fun v _ => v = .bl true) fun _ _ _ => False) :
    codeAny (model P w) callerA (.call (.ref fa) ⟨[.ref a], []⟩) (LawEnd s) s := by
  have rv := vals_ints hi
  have lenV := hi.length
  have aT : ∀ q ∈ cs, a ≠ q.2 := fun q hq z => by
    have e := hT q hq
    rw [← z, ha] at e
    have d := congrArg Obj.data (Option.some.inj e)
    cases d
  classical
  -- the script, where it isn't written
  let T : Hp := fun b => if ∃ q ∈ cs, b = q.2 then some (.tbl #[]) else none
  have atT : ∀ q ∈ cs, T q.2 = some (.tbl #[]) := fun q hq => if_pos ⟨q, hq, rfl⟩
  have ofT : ∀ {b u}, T b = some u → (∃ q ∈ cs, b = q.2) ∧ u = .tbl #[] := fun {b u} z => by
    by_cases c : ∃ q ∈ cs, b = q.2
    · exact ⟨c, (Option.some.inj ((if_pos c).symm.trans z)).symm⟩
    · cases (if_neg c).symm.trans z
  have okT : ∀ {b u}, T b = some u → ObjOk P w T s.heap b u ∧ ∀ H, ObjOk P w H s.heap b u := fun {b u} z => by
    obtain ⟨⟨q, hq, rfl⟩, rfl⟩ := ofT z
    exact ⟨hT q hq, fun _ => hT q hq⟩
  cases hk : K.lookup a with
  | some o =>
    have e := KX a o hk
    rw [ha] at e
    cases e
    refine lawFromT (H := T) KX hns hb hbb hlim hg hr hT hC hbm F hbind (hsp _ atT (.inr ⟨_, vs.toArray, _, hk, rfl, rfl, rfl, ?_, ?_⟩)) (fun b u z => (okT z).1) atT (fun b u z => ?_)
    · rw [List.size_toArray, lenV]
      exact hl
    · simpa using rv
    · obtain ⟨⟨q, hq, rfl⟩, _⟩ := ofT z
      exact ⟨nT q hq, .inl ⟨q, hq, rfl⟩⟩
  | none =>
    let U : Hp := fun b => if b = a then some (.frz { cls := .type "list", data := .seq vs.toArray } (.lst (ns.map V.int))) else T b
    have atU : ∀ q ∈ cs, U q.2 = some (.tbl #[]) := fun q hq => (if_neg (Ne.symm (aT q hq))).trans (atT q hq)
    have atA : U a = some (.frz { cls := .type "list", data := .seq vs.toArray } (.lst (ns.map V.int))) := if_pos rfl
    have ofU : ∀ {b u}, U b = some u → (b = a ∧ u = .frz { cls := .type "list", data := .seq vs.toArray } (.lst (ns.map V.int))) ∨ T b = some u := fun {b u} z => by
      by_cases c : b = a
      · exact .inl ⟨c, (Option.some.inj ((if_pos c).symm.trans z)).symm⟩
      · exact .inr ((if_neg c).symm.trans z)
    refine lawFromT (H := U) KX hns hb hbb hlim hg hr hT hC hbm F hbind (hsp _ atU (.inl (.inr ⟨_, atA⟩))) (fun b u z => ?_) atU (fun b u z => ?_)
    · rcases ofU z with ⟨rfl, rfl⟩ | z
      · exact ⟨ha, by rw [List.length_map]; exact hl, vs, _, rv, ha⟩
      · exact (okT z).2 _
    · rcases ofU z with ⟨rfl, rfl⟩ | z
      · exact ⟨hk, .inr ⟨⟨_, _, rfl⟩, _, _, _, ha, rfl⟩⟩
      · obtain ⟨⟨q, hq, rfl⟩, _⟩ := ofT z
        exact ⟨nT q hq, .inl ⟨q, hq, rfl⟩⟩
/-- what the head tells of a def with doors: its code object and the table -/
structure Door (K : PySem.W.Frag) (mg : Str → Option Value) (xs : List Str) (x : Str) (c Pt : Addr) : Prop where
  mem : x ∈ xs
  fn : ∃ f o fd e dd us sl, mg x = some (.ref f) ∧ K.lookup f = some o ∧ o.data = .func fd ∧ fd.code = .ref c ∧ K.lookup c = some ⟨e, dd, .fields us, sl⟩ ∧ us[11]? = some (.ref Pt)
  hd : PySem.W.codeHdIn K c Pt = true
  no : K.lookup Pt = none
/-- what the head leaves, from the law's promise; xs: the defs with doors -/
theorem walkGT {l : PySem.W.OpenLaw} {n k : Nat} {q : Program} {loose : List Str} {XP : (Str → Option Value) → Heap → Prop} {YP : World → Heap → Prop} {d : DefRec} {K : Params → PySem.W.Frag} {sp : World → List (Addr × Addr) → Sp} {x : Str} (xs : List Str)
    (hn : l.most = some n) (hn2 : n ≤ sizeLine) (hdf : d.params.defaults = []) (hr : Room k callerA) (hxs : xs.all (fun y => (recsOf q).any fun e => e.name == y) = true) (hY : ∀ (w : World) (h : Heap), YP w h → (K w.params).In h)
    (F : ∀ (w : World) (mg : Str → Option Value) (fa : Addr) (h : Heap), (K w.params).In h → h.Ns mainGlobals mg → mg d.name = some (.ref fa) →
      ∃ (fd : FuncData) (cs : List (Addr × Addr)), (∀ p ∈ cs, ∃ y, Door (K w.params) mg xs y p.1 p.2) ∧ (∀ (s : Shared) (u : Value), BindsTo s fd ⟨[u], []⟩ [(x, u)]) ∧
        (∀ (H : Hp) (a : Addr) (ns : List Int), ns.length ≤ n → (∀ p ∈ cs, H p.2 = some (.tbl #[])) → SqL (K w.params) H a (ns.map V.int) → sp w cs [.ref a] H (fun v _ => v = .bl true) fun _ _ _ => False) ∧
        ∀ base : Heap, (K w.params).In base → base.Ns mainGlobals mg → (∀ p ∈ cs, LamX.TabB base mg p.1 p.2) → GOk l.prog w (K w.params) mg base k fa fd [x] (sp w cs)) :
    PySem.W.WalkO q loose XP YP l.row.toRowW d [] (fun f vs => PySem.call f vs) := by
  refine Att.attach_call hn hdf fun w s₀ s₁ mg mb fa o pm cd doc a vs ns G Y ho hd hcd hmg hobj hints hlen hg => ?_
  have KX := hY w _ Y
  obtain ⟨fd, cs, hD, hb, hsp, hF⟩ := F w mg fa _ KX G.T.g hmg
  refine lawCalledT KX G.T.g G.T.b G.T.builtins G.T.nolimit hg (fun p hp => ?_) (fun p hp => ?_) (fun p hp => ?_) G.T.bmain hobj hints (Nat.le_trans hlen hn2) hr hF hb fun H hH hS => hsp H a ns hlen hH hS
  · obtain ⟨y, D⟩ := hD p hp
    obtain ⟨r, hr1, hr2⟩ := List.any_eq_true.mp (List.all_eq_true.mp hxs y D.mem)
    obtain rfl : r.name = y := beq_iff_eq.mp hr2
    obtain ⟨f', o', fd', c', P', t1, t2, t3, t4, _, t6⟩ := G.T.tab r hr1
    obtain ⟨f2, o2, fd2, e2, dd2, us2, sl2, d1, d2, d3, d4, d5, d6⟩ := D.fn
    obtain rfl : f2 = f' := by
      rw [d1] at t1
      injection t1 with t1
      injection t1
    obtain rfl : o2 = o' := Option.some.inj ((KX _ _ d2).symm.trans t2)
    rw [d3] at t3
    injection t3 with t3
    rw [← t3, d4] at t4
    injection t4 with t4
    obtain ⟨⟨o3, v3, g1, _, g3, g4⟩, g5⟩ := t6
    rw [← t4, KX _ _ d5] at g1
    obtain rfl := Option.some.inj g1
    injection g3 with g3
    rw [← g3, d6] at g4
    injection g4 with g4
    injection g4 with g4
    rw [g4]
    exact g5
  · obtain ⟨y, D⟩ := hD p hp
    exact D.no
  · obtain ⟨y, D⟩ := hD p hp
    exact PySem.W.codeHd_of_K KX D.hd
end
end FNX
set_option Elab.async false
set_option linter.all false
set_option maxRecDepth 100000
set_option maxHeartbeats 8000000
namespace K72
open PySem PySem.Spec PyProof.Rows L2 FNX
def top (i : Nat) : Stmt := PySem.Challenge.pw_firenegatives_k72_operations_together.main.body.getD i (.Pass ⟨0, 0, 0, 0⟩)
abbrev s_InvalidSize_init : Stmt := inClass (top 3) 0
abbrev s_InvalidEdge_init : Stmt := inClass (top 4) 0
abbrev s_InvalidNode_init : Stmt := inClass (top 5) 0
abbrev s_InvalidPosition_init : Stmt := inClass (top 6) 0
abbrev s_InvalidNumber_init : Stmt := inClass (top 9) 0
abbrev s_InvalidOperation_init : Stmt := inClass (top 10) 0
abbrev s_NoPlayer_init : Stmt := inClass (top 11) 0
abbrev s_NotNegative_init : Stmt := inClass (top 13) 0
abbrev s_TooMany_init : Stmt := inClass (top 14) 0
abbrev s_is_integer : Stmt := top 17
abbrev s_is_integer_within : Stmt := top 18
abbrev s_is_integer_list : Stmt := top 19
abbrev s_is_node : Stmt := top 20
abbrev s_check_node : Stmt := top 21
abbrev s_check_position : Stmt := top 22
abbrev s_check_number : Stmt := top 24
abbrev s_check_player : Stmt := top 25
abbrev s_flip_in_place : Stmt := top 27
abbrev s_Graph_init : Stmt := inClass (top 32) 0
abbrev s_Graph_size : Stmt := inClass (top 32) 1
abbrev s_Graph_edges : Stmt := inClass (top 32) 2
abbrev s_Graph_neighbours : Stmt := inClass (top 32) 3
abbrev s_is_edge : Stmt := top 33
abbrev s_checked_edges : Stmt := top 34
abbrev s_neighbour_lists : Stmt := top 35
abbrev s_State_init : Stmt := inClass (top 38) 0
abbrev s_State_copied : Stmt := inClass (top 38) 1
abbrev s_check_operation : Stmt := top 39
abbrev s_perform : Stmt := top 40
abbrev s_fire_node : Stmt := top 41
abbrev s_put_number : Stmt := top 43
abbrev s_append_node : Stmt := top 44
abbrev s_join_nodes : Stmt := top 46
abbrev s_part_nodes : Stmt := top 47
abbrev s_checked_edge : Stmt := top 48
abbrev s_Board_init : Stmt := inClass (top 52) 0
abbrev s_Board_together : Stmt := inClass (top 52) 6
abbrev s_Board_graph : Stmt := inClass (top 52) 9
abbrev s_Board_position : Stmt := inClass (top 52) 10
abbrev s_Board_scores : Stmt := inClass (top 52) 11
abbrev s_Board_log : Stmt := inClass (top 52) 13
abbrev s_Board_len : Stmt := inClass (top 52) 16
abbrev s_written : Stmt := top 53
abbrev s__law_pool : Stmt := top 55
abbrev s__law_take : Stmt := top 56
abbrev s__law_joins : Stmt := top 57
abbrev s__law_near : Stmt := top 58
abbrev s__law_turned : Stmt := top 59
abbrev s__law_number : Stmt := top 60
abbrev s__law_numbers : Stmt := top 61
abbrev s__law_model : Stmt := top 62
abbrev s__law_copy : Stmt := top 63
abbrev s__law_edges_done : Stmt := top 64
abbrev s__law_done : Stmt := top 65
abbrev s__law_row : Stmt := top 66
abbrev s__law_told : Stmt := top 68
abbrev s__law_looks : Stmt := top 69
abbrev s__law_start : Stmt := top 70
abbrev s__law_board : Stmt := top 71
abbrev s__law_several : Stmt := top 72
abbrev s__law_tried : Stmt := top 73
abbrev s__law_odd : Stmt := top 74
abbrev s_law : Stmt := top 75
def PoolAt (H : Hp) (p : Addr) : Prop := ∃ c s : Int, H p = some (.lst [.int c, .int s]) ∧ 0 ≤ s ∧ s < 2147483648
def spPool (K : PySem.W.Frag) : Sp := fun vs H Q _ => ∃ (a : Addr) (ns : List Int) (k : Int), vs = [.ref a, .int k] ∧ SqL K H a (ns.map V.int) ∧ 0 ≤ k ∧ k < 100 ∧
  ∀ p H', H p = none → Same H H' → PoolAt H' p → Q (.ref p) H'
def spTake : Sp := fun vs H Q _ => ∃ (p : Addr) (n : Int), vs = [.ref p, .int n] ∧ PoolAt H p ∧ 0 < n ∧ n < 10000000000000000000 ∧
  ∀ r H', 0 ≤ r → r < n → PoolAt H' p → (∀ b, b ≠ p → H' b = H b) → Q (.int r) H'
section
variable {P : Program} {w : World} {K : PySem.W.Frag} {mg : Str → Option Value} {base : Heap}
theorem scTake : FnScope ["_law_pool_here", "_law_sides", "_law_found"] ["_law_pool_here", "_law_sides"] (defScope s__law_take) :=
  ⟨rfl, rfl, rfl, by decide +kernel, rfl, by decide +kernel, by decide +kernel⟩
theorem ok_take {f : Addr} {fd : FuncData} (F : Fun K "_law_take" "_law_take" s__law_take f fd) : FnOk P w K mg base CX0 1 f fd ["_law_pool_here", "_law_sides"] spTake := by
  refine F.ok scTake (fun vs H Q E h => ?_) (fun cdv A outer s H vs Q E hr h => ?_)
  · obtain ⟨p, n, rfl, _⟩ := h
    rfl
  · obtain ⟨p, n, rfl, ⟨c, s0, hp, hs1, hs2⟩, hn1, hn2, k⟩ := h
    refine ⟨_, pss_cons (ps_if (pt_cmpR op_gt (pe_ix ix_list (pv 0) pe_int (fun _ _ => rfl)) pe_int (nomark _))
        (pss_cons (ps_set (i := 2) scTake.nd rfl (Or.inl rfl) (pe_op op_mod (pe_ix ix_list (pv 0) pe_int (fun _ _ => rfl)) (pv 1)))
          (pss_cons (ps_asg (pe_op op_fdivW (pe_ix ix_list (pv 0) pe_int (fun _ _ => rfl)) (pv 1)) (pg_sub (pv 0) pe_int set_list))
          (pss_one (ps_ret (pv 2))))) pss_nil)
      (pss_cons (ps_asg (pe_op op_mod (pe_op op_add (pe_op op_mul (pe_ix ix_list (pv 0) pe_int (fun _ _ => rfl)) pe_int) pe_int) pe_int) (pg_sub (pv 0) pe_int set_list))
      (pss_one (ps_ret (pe_op op_mod (pe_op op_fdiv (pe_op op_mod (pe_op op_mul (pe_ix ix_list (pv 0) pe_int (fun _ _ => rfl)) (pe_ix ix_list (pv 0) pe_int (fun _ _ => rfl))) pe_int) pe_int) (pv 1))))), ?_⟩
    refine ⟨_, rfl, p, _, _, _, rfl, rfl, SqL.of hp, atI_nat (j := 0) rfl, _, _, rfl, rfl, _, rfl, ?_⟩
    refine ite2 (fun _ => ?_) (fun _ => ?_)
    · refine ⟨_, rfl, p, _, _, _, rfl, rfl, SqL.of hp, atI_nat (j := 0) rfl, _, rfl, _, _, rfl, rfl, hn1, ?_⟩
      refine ⟨_, rfl, p, _, _, _, rfl, rfl, SqL.of hp, atI_nat (j := 0) rfl, _, rfl, _, _, rfl, rfl, wide_div (b := 64) hn1 (by omega) (by decide) (by decide), _, rfl, p, _, _, 0, rfl, rfl, hp, rfl, _, rfl, ?_⟩
      exact k _ _ (Int.emod_nonneg _ (by omega)) (Int.emod_lt_of_pos _ hn1) ⟨_, _, upd_same, hs1, hs2⟩ fun b hb => upd_ne hb
    · refine ⟨_, rfl, p, _, _, _, rfl, rfl, SqL.of hp, atI_nat (j := 1) rfl, _, _, rfl, rfl, .inr ⟨by decide, by decide⟩, _, _, rfl, rfl, _, _, rfl, rfl, (by show (0 : Int) < 2147483647; decide), _, rfl, p, _, _, 1, rfl, rfl, hp, rfl, ?_⟩
      have e1 : (0 : Int) ≤ (s0 * 48271 + 11) % 2147483647 := Int.emod_nonneg _ (by decide)
      have e2 : (s0 * 48271 + 11) % 2147483647 < 2147483647 := Int.emod_lt_of_pos _ (by decide)
      refine ⟨_, rfl, p, _, _, _, rfl, rfl, SqL.of upd_same, atI_nat (j := 1) rfl, _, rfl, p, _, _, _, rfl, rfl, SqL.of upd_same, atI_nat (j := 1) rfl, _, _, rfl, rfl, .inl ⟨?_, ?_⟩,
        _, _, rfl, rfl, (by show (0 : Int) < 2147483629; decide), _, _, rfl, rfl, ⟨by decide, by decide⟩, _, rfl, _, _, rfl, rfl, hn1, ?_⟩
      · exact Int.lt_of_lt_of_le (by decide) e1
      · exact Int.lt_of_lt_of_le e2 (by decide)
      exact k _ _ (Int.emod_nonneg _ (by omega)) (Int.emod_lt_of_pos _ hn1) ⟨_, _, upd_same, e1, by omega⟩ fun b hb => upd_ne hb
theorem scPool : FnScope ["_law_script", "_law_k", "_law_cell", "_law_seed"] ["_law_script", "_law_k"] (defScope s__law_pool) :=
  ⟨rfl, rfl, rfl, by decide +kernel, rfl, by decide +kernel, by decide +kernel⟩
theorem mod_in (a : Int) {b : Int} (h : 0 < b) : 0 ≤ a % b ∧ a % b < b := ⟨Int.emod_nonneg _ (by omega), Int.emod_lt_of_pos _ h⟩
theorem ok_pool {f : Addr} {fd : FuncData} (F : Fun K "_law_pool" "_law_pool" s__law_pool f fd) (hlen : mg "len" = none) :
    FnOk P w K mg base CX0 1 f fd ["_law_script", "_law_k"] (spPool K) := by
  refine F.ok scPool (fun vs H Q E h => ?_) (fun cdv A outer s H vs Q E hr h => ?_)
  · obtain ⟨a, ns, k, rfl, _⟩ := h
    rfl
  · obtain ⟨a, ns, k, rfl, hS, hk1, hk2, kont⟩ := h
    refine ⟨_, pss_cons (ps_set (i := 2) scPool.nd rfl (Or.inl rfl) pe_int)
      (pss_cons (ps_if (pt_cmpR op_lt (pv 1) (pe_callB call_len_seq (by rfl) hlen PySem.boot_len (pa_cons (pv 0) pa_nil)) (nomark _))
        (pss_one (ps_set (i := 2) scPool.nd rfl (Or.inl rfl) (pe_ix ix_list (pv 0) (pv 1) (fun _ _ => rfl)))) pss_nil)
      (pss_cons (ps_set (i := 3) scPool.nd rfl (Or.inl rfl) (pe_op op_mod (pe_op op_mul (pe_op op_add (pe_op op_add (pe_op op_mod (pv 2) pe_int)
        (pe_op op_mul (pe_op op_mul pe_int (pv 1)) (pv 1))) pe_int) pe_int) pe_int))
      (pss_cons (ps_if (pt_cmpR op_lt (pv 2) (pe_op op_pow pe_int pe_int) (nomark _)) (pss_one (ps_set (i := 2) scPool.nd rfl (Or.inl rfl) pe_int)) pss_nil)
      (pss_one (ps_ret (pe_lst (pa_cons (pv 2) (pa_cons (pe_op op_add (pe_op op_mod (pe_op op_mul (pv 3) (pv 3)) pe_int) pe_int) pa_nil)))))))), ?_⟩
    refine ⟨_, rfl, _, rfl, a, _, rfl, .inl hS, _, _, rfl, rfl, _, rfl, ?_⟩
    -- behind the first if: some cell in slot 2
    have rest : ∀ c : Int, (tSeq (tAsg (tOp (rI (fun _ j => 0 < j) fun i j => .int (i % j)) (tOp (rI CMul fun i j => .int (i * j)) (tOp (rI0 fun i j => .int (i + j))
        (tOp (rI0 fun i j => .int (i + j)) (tOp (rI (fun _ j => 0 < j) fun i j => .int (i % j)) (tVar 2) (tC (.int 2147483629)))
          (tOp (rI CMul fun i j => .int (i * j)) (tOp (rI CMul fun i j => .int (i * j)) (tC (.int 7919)) (tVar 1)) (tVar 1))) (tC (.int 13))) (tC (.int 48271))) (tC (.int 2147483647))) (gName 3)) 
        (tSeq (tIfS (tTest (tOp (rI0 fun i j => .bl (decide (i < j))) (tVar 2) (tOp (rI CPow fun i j => .int (i ^ j.toNat)) (tC (.int 10)) (tC (.int 18))))) (tAsg (tC (.int 0)) (gName 2)) tNext)
          (tRet (tLst (tCons (tVar 2) (tCons (tOp (rI0 fun i j => .int (i + j)) (tOp (rI (fun _ j => 0 < j) fun i j => .int (i % j)) (tOp (rI CMul fun i j => .int (i * j)) (tVar 3) (tVar 3)) (tC (.int 2147483587))) (tC (.int 1))) tNil))))))
        { nx := fun _ H' => Q .non H', rt := Q } [some (.ref a), some (.int k), some (.int c), none] H := fun c => by
      refine ⟨_, rfl, _, _, rfl, rfl, (by show (0 : Int) < 2147483629; decide), _, rfl, _, _, rfl, rfl, .inl ⟨by decide, by decide⟩, _, rfl, _, _, rfl, rfl, .inr ⟨by omega, by omega⟩, _, _, rfl, rfl,
        _, _, rfl, rfl, _, _, rfl, rfl, .inr ⟨by decide, by decide⟩, _, _, rfl, rfl, (by show (0 : Int) < 2147483647; decide), ?_⟩
      have e1 := mod_in ((c % 2147483629 + 7919 * k * k + 13) * 48271) (b := 2147483647) (by decide)
      refine ⟨_, rfl, _, _, rfl, rfl, ⟨by decide, by decide, by decide⟩, _, _, rfl, rfl, _, rfl, ?_⟩
      have fin : ∀ c' : Int, (tRet (tLst (tCons (tVar 2) (tCons (tOp (rI0 fun i j => .int (i + j)) (tOp (rI (fun _ j => 0 < j) fun i j => .int (i % j)) (tOp (rI CMul fun i j => .int (i * j)) (tVar 3) (tVar 3)) (tC (.int 2147483587))) (tC (.int 1))) tNil))))
          { nx := fun _ H' => Q .non H', rt := Q } [some (.ref a), some (.int k), some (.int c'), some (.int ((c % 2147483629 + 7919 * k * k + 13) * 48271 % 2147483647))] H := fun c' => by
        refine ⟨_, rfl, _, rfl, _, rfl, _, _, rfl, rfl, .inl ⟨by omega, by omega⟩, _, _, rfl, rfl, (by show (0 : Int) < 2147483587; decide), _, _, rfl, rfl, (by show 2 ≤ sizeLine; decide), fun p hp => ?_⟩
        have e2 := mod_in ((c % 2147483629 + 7919 * k * k + 13) * 48271 % 2147483647 * ((c % 2147483629 + 7919 * k * k + 13) * 48271 % 2147483647)) (b := 2147483587) (by decide)
        exact kont p _ hp (fun b o e => by rw [upd_ne (ne_of_none e hp)]; exact e) ⟨_, _, upd_same, by omega, by omega⟩
      exact ite2 (fun _ => fin 0) (fun _ => fin c)
    refine ite2 (fun hlt => ?_) (fun _ => rest 0)
    have hkn : k.toNat < (ns.map V.int).length := by
      have hlt := of_decide_eq_true hlt
      rw [List.length_map] at hlt ⊢
      omega
    have hki : (ns.map V.int)[k.toNat]? = some (V.int (ns[k.toNat]'(by rw [List.length_map] at hkn; exact hkn))) := by
      rw [List.getElem?_map, List.getElem?_eq_getElem (by rw [List.length_map] at hkn; exact hkn)]
      rfl
    have hat := atI_nat hki
    rw [show ((k.toNat : Nat) : Int) = k by omega] at hat
    exact ⟨_, rfl, _, rfl, a, _, k, _, rfl, rfl, hS, hat, rest _⟩
end
theorem boot_isi : bootBuiltins "isinstance" = some (.builtin "isinstance") := by decide +kernel
theorem boot_all : bootBuiltins "all" = some (.builtin "all") := by decide +kernel
theorem boot_len1 : bootBuiltins "len" = some (.builtin "len") := by decide +kernel
/-- built-in names that the program leaves as they are -/
structure Nms (mg : Str → Option Value) : Prop where
  isi : mg "isinstance" = none
  int : mg "int" = none
  bool : mg "bool" = none
  list : mg "list" = none
  tuple : mg "tuple" = none
  len : mg "len" = none
  all : mg "all" = none
  range : mg "range" = none
  enumerate : mg "enumerate" = none
  min : mg "min" = none
  max : mg "max" = none
  sorted : mg "sorted" = none
  repr : mg "repr" = none
/-- a def x stands at f and keeps sp -/
def At (P : Program) (w : World) (K : PySem.W.Frag) (mg : Str → Option Value) (base : Heap) (CX : CXT) (k : Nat) (x : Str) (ps : List Str) (sp : Sp) : Prop :=
  ∃ f fd, FnOk P w K mg base CX k f fd ps sp ∧ mg x = some (.ref f) ∧ PySem.W.keepIn K (.ref f) = true ∧ Binds K fd ps []
def spIsInteger (K : PySem.W.Frag) : Sp := fun vs H Q _ => ∃ v d, vs = [v] ∧ Rd K H v d ∧ Q (.bl (isI d)) H
def spWithin (K : PySem.W.Frag) : Sp := fun vs H Q _ => ∃ v d lo hi, vs = [v, .int lo, .int hi] ∧ Rd K H v d ∧ Q (.bl (within lo hi d)) H
def lenD : PyData → Nat
  | .list ds => ds.length
  | _ => 0
def isIL (n : Nat) : PyData → Bool
  | .list ds => decide (ds.length = n) && ds.all isI
  | _ => false
def spIntList (K : PySem.W.Frag) : Sp := fun vs H Q _ => ∃ v d, ∃ n : Nat, vs = [v, .int n] ∧ Rd K H v d ∧ lenD d ≤ 100000 ∧ ∀ H', Same H H' → Q (.bl (isIL n d)) H'
def isNode (n : Nat) (d : PyData) : Bool := within 0 ((n : Int) - 1) d
def spIsNode (K : PySem.W.Frag) : Sp := fun vs H Q _ => ∃ v d, ∃ n : Nat, vs = [.int n, v] ∧ Rd K H v d ∧ Q (.bl (isNode n d)) H
theorem rdInt {K : PySem.W.Frag} {H : Hp} {v : V} {i : Int} (h : Rd K H v (.int i)) : v = .int i := by
  cases h with
  | dat h => cases h; rfl
theorem rdList {K : PySem.W.Frag} {H : Hp} {v : V} {ds : List PyData} (h : Rd K H v (.list ds)) : ∃ a xs, v = .ref a ∧ SqL K H a xs ∧ DpAll K H xs ds := by
  cases h with
  | dat h =>
    cases h with
    | lst h1 h2 => exact ⟨_, _, rfl, h1, h2⟩
theorem dpAllLen {K : PySem.W.Frag} {H : Hp} : ∀ {xs : List V} {ds : List PyData}, DpAll K H xs ds → xs.length = ds.length
  | [], _, h => by cases h; rfl
  | x :: xs, _, h => by
    cases h with
    | cons h1 h2 => rw [List.length_cons, List.length_cons, dpAllLen h2]
theorem dpAllAt {K : PySem.W.Frag} {H : Hp} : ∀ {xs : List V} {ds : List PyData} {i : Nat} {x : V}, DpAll K H xs ds → xs[i]? = some x → Dp K H x (ds.getD i .none)
  | [], _, _, _, _, e => by simp at e
  | y :: xs, _, 0, x, h, e => by
    cases h with
    | cons h1 h2 =>
      have e' : y = x := Option.some.inj e
      subst e'
      exact h1
  | y :: xs, _, i + 1, x, h, e => by
    cases h with
    | cons h1 h2 => exact dpAllAt (i := i) h2 e
theorem allRange (p : PyData → Bool) : ∀ ds : List PyData, ((List.range ds.length).map fun i => p (ds.getD i .none)).all id = ds.all p := by
  intro ds
  have e : (List.range ds.length).map (fun i => p (ds.getD i .none)) = ds.map p := by
    apply List.ext_getElem
    · simp
    · intro i h1 h2
      simp only [List.length_map, List.length_range] at h1
      rw [List.getElem_map, List.getElem_range, List.getElem_map, List.getD_eq_getElem?_getD, List.getElem?_eq_getElem h1]
      rfl
  rw [e, List.all_map]
  rfl
section
variable {P : Program} {w : World} {K : PySem.W.Frag} {mg : Str → Option Value} {base : Heap} {CXa : CXT}
theorem sc_is_integer : FnScope ["thing"] ["thing"] (defScope s_is_integer) := ⟨rfl, rfl, rfl, by decide +kernel, rfl, by decide +kernel, by decide +kernel⟩
theorem ok_is_integer {f : Addr} {fd : FuncData} (F : Fun K "is_integer" "is_integer" s_is_integer f fd) (M : Nms mg) : FnOk P w K mg base CX0 1 f fd ["thing"] (spIsInteger K) := by
  refine F.ok sc_is_integer (fun vs H Q E h => ?_) (fun cdv A outer s H vs Q E hr h => ?_)
  · obtain ⟨v, d, rfl, _⟩ := h
    rfl
  · obtain ⟨v, d, rfl, hd, k⟩ := h
    refine ⟨_, pss_one (ps_ret (pe_and (pe_callB call_isi (by rfl) M.isi boot_isi (pa_cons (pv 0) (pa_cons (pe_bltn (v := V.ty "int") rfl M.int (by decide +kernel) rfl) pa_nil)))
      (pe_one (pe_not (pe_callB call_isi (by rfl) M.isi boot_isi (pa_cons (pv 0) (pa_cons (pe_bltn (v := V.ty "bool") rfl M.bool (by decide +kernel) rfl) pa_nil))))))), ?_⟩
    refine ⟨_, rfl, v, _, _, _, _, rfl, .ty _, rdTy hd, kitI K d, _, rfl, ?_⟩
    cases d with
    | int i => exact iteT ⟨_, rfl, v, _, _, _, _, rfl, .ty _, rdTy hd, kitBo K _, _, rfl, k⟩
    | bool b => exact iteT ⟨_, rfl, v, _, _, _, _, rfl, .ty _, rdTy hd, kitBo K _, _, rfl, k⟩
    | none => exact iteF k
    | str _ => exact iteF k
    | list _ => exact iteF k
    | tuple _ => exact iteF k
    | dict _ => exact iteF k
theorem sc_within : FnScope ["thing", "low", "high"] ["thing", "low", "high"] (defScope s_is_integer_within) := ⟨rfl, rfl, rfl, by decide +kernel, rfl, by decide +kernel, by decide +kernel⟩
theorem ok_within {f : Addr} {fd : FuncData} (F : Fun K "is_integer_within" "is_integer_within" s_is_integer_within f fd) (G : At P w K mg base CX0 1 "is_integer" ["thing"] (spIsInteger K)) :
    FnOk P w K mg base CX0 2 f fd ["thing", "low", "high"] (spWithin K) := by
  obtain ⟨g, gd, G, mG, kG, bG⟩ := G
  refine F.ok sc_within (fun vs H Q E h => ?_) (fun cdv A outer s H vs Q E hr h => ?_)
  · obtain ⟨v, d, lo, hi, rfl, _⟩ := h
    rfl
  · obtain ⟨v, d, lo, hi, rfl, hd, k⟩ := h
    refine ⟨_, pss_one (ps_ret (pe_and (pe_call G hr (by rfl) mG kG bG .nil pass0 (pa_cons (pv 0) pa_nil)) (pe_one (pe_chain op_le op_le (pv 1) (pv 0) (pv 2))))), ?_⟩
    refine ⟨_, rfl, v, d, rfl, hd, _, rfl, ?_⟩
    cases d with
    | int i =>
      have e := rdInt hd
      subst e
      refine iteT ⟨_, rfl, _, rfl, _, _, rfl, rfl, _, rfl, ?_⟩
      by_cases hl : lo ≤ i
      · rw [decide_eq_true hl]
        have k : Q (.bl (decide (lo ≤ i) && decide (i ≤ hi))) H := k
        rw [decide_eq_true hl, Bool.true_and] at k
        exact iteT ⟨_, rfl, _, _, rfl, rfl, k⟩
      · rw [decide_eq_false hl]
        have k : Q (.bl (decide (lo ≤ i) && decide (i ≤ hi))) H := k
        rw [decide_eq_false hl, Bool.false_and] at k
        exact iteF k
    | bool b => exact iteF k
    | none => exact iteF k
    | str _ => exact iteF k
    | list _ => exact iteF k
    | tuple _ => exact iteF k
    | dict _ => exact iteF k
theorem sc_int_list : FnScope ["thing", "length", "entry"] ["thing", "length"] (defScope s_is_integer_list) := ⟨rfl, rfl, rfl, by decide +kernel, rfl, by decide +kernel, by decide +kernel⟩
theorem decLen (i j : Nat) : decide (V.int (i : Int) = V.int (j : Int)) = decide (i = j) := by
  by_cases h : i = j
  · subst h
    rw [decide_eq_true rfl, decide_eq_true rfl]
  · rw [decide_eq_false h, decide_eq_false (fun z => h (by injection z with z; exact Int.ofNat.inj z))]
theorem ok_int_list {f : Addr} {fd : FuncData} (F : Fun K "is_integer_list" "is_integer_list" s_is_integer_list f fd) (M : Nms mg) (G : At P w K mg base CX0 1 "is_integer" ["thing"] (spIsInteger K)) :
    FnOk P w K mg base CX0 2 f fd ["thing", "length"] (spIntList K) := by
  obtain ⟨g, gd, G, mG, kG, bG⟩ := G
  refine F.ok sc_int_list (fun vs H Q E h => ?_) (fun cdv A outer s H vs Q E hr h => ?_)
  · obtain ⟨v, d, n, rfl, _⟩ := h
    rfl
  · obtain ⟨v, d, n, rfl, hd, hl, k⟩ := h
    refine ⟨_, pss_one (ps_ret (pe_and (pe_callB call_isi (by rfl) M.isi boot_isi (pa_cons (pv 0) (pa_cons (pe_bltn (v := V.ty "list") rfl M.list (by decide +kernel) rfl) pa_nil)))
      (pe_and (pe_cmpR op_eq (pe_callB call_len_seq (by rfl) M.len boot_len1 (pa_cons (pv 0) pa_nil)) (pv 1) (nomark _))
      (pe_one (pe_callB (cr_all rfl) (by rfl) M.all boot_all (pa_cons (pe_lc (own := [("entry", 2)]) (g := gName 2) (tt := tYes) rfl sc_int_list.nd (pi_list (pv 0))
        (blkOk_by (own := [("entry", 2)]) (N := ["thing", "length", "entry"]) (sc := defScope s_is_integer_list) (by decide +kernel))
        (fun _ _ _ _ _ => pg_name (i := 2) sc_int_list.nd rfl (Or.inl rfl)) (fun _ _ _ _ _ => pts_nil)
        (fun _ _ _ _ _ => pe_call G hr (by rfl) mG kG bG .nil pass0 (pa_cons (pv 2) pa_nil))) pa_nil)))))), ?_⟩
    refine ⟨_, rfl, v, _, _, _, _, rfl, .ty _, rdTy hd, kitL K d, _, rfl, ?_⟩
    have no : isLst d = false → Q (.bl false) H := fun z => by
      have e : isIL n d = false := by cases d <;> first | rfl | cases z
      have q := k H (Same.refl H)
      rw [e] at q
      exact q
    cases d with
    | bool b => exact iteF (no rfl)
    | none => exact iteF (no rfl)
    | str _ => exact iteF (no rfl)
    | int _ => exact iteF (no rfl)
    | tuple _ => exact iteF (no rfl)
    | dict _ => exact iteF (no rfl)
    | list ds =>
      obtain ⟨a, xs, rfl, hx, hds⟩ := rdList hd
      have hlen := dpAllLen hds
      refine iteT ⟨_, rfl, a, xs, rfl, .inl hx, _, rfl, rfl, _, rfl, ?_⟩
      rw [decLen, hlen]
      by_cases hn : ds.length = n
      · rw [decide_eq_true hn]
        refine iteT ⟨_, rfl, a, rfl, ⟨_, hx⟩, fun D hD => lc_map (K := K) (a := a) (xs := xs) (fun i => V.bl (isI (ds.getD i .none))) hD hx (fun x => rfl) (fun i x H' hi sm hd' => ?_) (fun H' sm hd' => ?_)⟩
        · have hi' : i < xs.length := (List.getElem?_eq_some_iff.mp hi).1
          have hl' : ds.length ≤ 100000 := hl
          exact ⟨_, rfl, x, _, rfl, .dat (dpSame sm _ _ (dpAllAt hds hi)), lcT hD (by omega) sm hd' (Same.refl _) rfl⟩
        · refine ⟨D, (List.range xs.length).map fun i => isI (ds.getD i .none), rfl, SqL.of (by rw [List.map_map]; exact hd'), ?_⟩
          have q := k H' sm
          have e : isIL n (.list ds) = ds.all isI := by
            show (decide (ds.length = n) && ds.all isI) = _
            rw [decide_eq_true hn, Bool.true_and]
          rw [e] at q
          rw [hlen, allRange]
          exact q
      · rw [decide_eq_false hn]
        have q := k H (Same.refl H)
        have e : isIL n (.list ds) = false := by
          show (decide (ds.length = n) && ds.all isI) = _
          rw [decide_eq_false hn, Bool.false_and]
        rw [e] at q
        exact iteF q
theorem sc_is_node : FnScope ["size", "thing"] ["size", "thing"] (defScope s_is_node) := ⟨rfl, rfl, rfl, by decide +kernel, rfl, by decide +kernel, by decide +kernel⟩
theorem ok_is_node {f : Addr} {fd : FuncData} (F : Fun K "is_node" "is_node" s_is_node f fd) (G : At P w K mg base CX0 2 "is_integer_within" ["thing", "low", "high"] (spWithin K)) :
    FnOk P w K mg base CX0 3 f fd ["size", "thing"] (spIsNode K) := by
  obtain ⟨g, gd, G, mG, kG, bG⟩ := G
  refine F.ok sc_is_node (fun vs H Q E h => ?_) (fun cdv A outer s H vs Q E hr h => ?_)
  · obtain ⟨v, d, n, rfl, _⟩ := h
    rfl
  · obtain ⟨v, d, n, rfl, hd, k⟩ := h
    exact ⟨_, pss_one (ps_ret (pe_call G hr (by rfl) mG kG bG .nil pass0 (pa_cons (pv 1) (pa_cons pe_int (pa_cons (pe_op op_sub (pv 0) pe_int) pa_nil))))),
      _, rfl, _, rfl, _, _, rfl, rfl, v, d, _, _, rfl, hd, k⟩
end
def flipL (row x : List Int) (v : Nat) : List Int := (row.foldl (fun y o => y.set o.toNat (y.getD o.toNat 0 + x.getD v 0)) x).set v (-(x.getD v 0))
/-- the neighbours' lists name nodes -/
def WF (N : List (List Int)) : Prop := ∀ i, i < N.length → ∀ o ∈ N.getD i [], 0 ≤ o ∧ o < N.length
theorem foldSetLen (c : Int) : ∀ (row : List Int) (x : List Int), (row.foldl (fun y o => y.set o.toNat (y.getD o.toNat 0 + c)) x).length = x.length
  | [], x => rfl
  | o :: row, x => by
    rw [List.foldl_cons, foldSetLen c row, List.length_set]
theorem flipLen (row x : List Int) (v : Nat) : (flipL row x v).length = x.length := by
  unfold flipL
  rw [List.length_set, foldSetLen]
theorem mapSet {x : List Int} {i : Nat} {z : Int} : (x.map V.int).set i (.int z) = (x.set i z).map V.int := by
  rw [List.map_set]
theorem mapAt {x : List Int} {i : Nat} (h : i < x.length) : (x.map V.int)[i]? = some (V.int (x.getD i 0)) := by
  rw [List.getElem?_map, List.getElem?_eq_getElem h, List.getD_eq_getElem?_getD, List.getElem?_eq_getElem h]
  rfl
theorem atInt {x : List Int} {i : Int} (h0 : 0 ≤ i) (h : i < x.length) : atI (x.map V.int) i = some (V.int (x.getD i.toNat 0)) := by
  have z := atI_nat (mapAt (x := x) (i := i.toNat) (by omega))
  rwa [show ((i.toNat : Nat) : Int) = i by omega] at z
theorem ixInt {x : List Int} {i : Int} (h0 : 0 ≤ i) (h : i < x.length) : ixN (x.map V.int).length i = some i.toNat := by
  unfold ixN
  rw [if_pos h0, List.length_map, if_pos h]
/-- lists of ints at addresses -/
def RowsAt (H : Hp) (rows : List Addr) (N : List (List Int)) : Prop := rows.length = N.length ∧ ∀ (k : Nat) (r : Addr), rows[k]? = some r → H r = some (.lst ((N.getD k []).map V.int))
def NAt (H : Hp) (p : Addr) (N : List (List Int)) : Prop := ∃ rows, H p = some (.lst (rows.map V.ref)) ∧ RowsAt H rows N
theorem RowsAt.same {H H' : Hp} {rows : List Addr} {N : List (List Int)} (h : RowsAt H rows N) (s : Same H H') : RowsAt H' rows N := ⟨h.1, fun k r e => s _ _ (h.2 k r e)⟩
theorem NAt.same {H H' : Hp} {p : Addr} {N : List (List Int)} (h : NAt H p N) (s : Same H H') : NAt H' p N := by
  obtain ⟨rows, h1, h2⟩ := h
  exact ⟨rows, s _ _ h1, h2.same s⟩
theorem NAt.row {H : Hp} {p : Addr} {N : List (List Int)} (h : NAt H p N) {i : Int} (h0 : 0 ≤ i) (hi : i < N.length) :
    ∃ xs r, H p = some (.lst xs) ∧ atI xs i = some (.ref r) ∧ H r = some (.lst ((N.getD i.toNat []).map V.int)) := by
  obtain ⟨rows, h1, h2, h3⟩ := h
  have hl : i.toNat < rows.length := by omega
  refine ⟨_, rows[i.toNat], h1, ?_, h3 i.toNat _ (List.getElem?_eq_getElem hl)⟩
  have z : (rows.map V.ref)[i.toNat]? = some (V.ref rows[i.toNat]) := by
    rw [List.getElem?_map, List.getElem?_eq_getElem hl]
    rfl
  have q := atI_nat z
  rwa [show ((i.toNat : Nat) : Int) = i by omega] at q
end K72
set_option Elab.async false
set_option linter.all false
set_option maxRecDepth 100000
set_option maxHeartbeats 8000000
namespace K72
open PySem PySem.Spec PyProof.Rows L2 FNX
def gflds (n : Int) (j nr : Addr) : List (Str × V) := [("node_count", .int n), ("joined", .ref j), ("near", .ref nr)]
theorem gl_n (n : Int) (j nr : Addr) : (gflds n j nr).lookup ("node_count" : Str) = some (.int n) := by
  unfold gflds
  simp [List.lookup]
theorem gl_j (n : Int) (j nr : Addr) : (gflds n j nr).lookup ("joined" : Str) = some (.ref j) := rfl
theorem gl_r (n : Int) (j nr : Addr) : (gflds n j nr).lookup ("near" : Str) = some (.ref nr) := rfl
def GAt (CG : Addr) (H : Hp) (g : Addr) (N : List (List Int)) : Prop := ∃ dx j nr, H g = some (.ins CG dx (gflds (N.length : Int) j nr)) ∧ NAt H nr N
theorem GAt.same {CG : Addr} {H H' : Hp} {g : Addr} {N : List (List Int)} (h : GAt CG H g N) (s : Same H H') : GAt CG H' g N := by
  obtain ⟨dx, j, nr, h1, h2⟩ := h
  exact ⟨dx, j, nr, s _ _ h1, h2.same s⟩
/-- what the walk asks of the class Graph -/
structure GTxt (K : PySem.W.Frag) (mg : Str → Option Value) (CG : Addr) : Prop where
  cl : Cls K CG
  n1 : NoAttr K CG "node_count"
  n2 : NoAttr K CG "joined"
  n3 : NoAttr K CG "near"
  mgC : mg "Graph" = some (.ref CG)
/-- a method x of Graph keeps sp -/
def MAt (P : Program) (w : World) (K : PySem.W.Frag) (mg : Str → Option Value) (base : Heap) (CG : Addr) (CX : CXT) (k : Nat) (x : Str) (ps : List Str) (sp : Sp) : Prop :=
  ∃ f fd, FnOk P w K mg base CX k f fd ps sp ∧ Meth K CG x f ∧ Binds K fd ps []
def spFlip : Sp := fun vs H Q _ => ∃ p r, ∃ x row : List Int, ∃ v : Int, vs = [.ref p, .int v, .ref r] ∧ H p = some (.lst (x.map V.int)) ∧ H r = some (.lst (row.map V.int)) ∧ p ≠ r ∧
  0 ≤ v ∧ v < x.length ∧ (∀ o ∈ row, 0 ≤ o ∧ o < x.length) ∧ ∀ H', H' p = some (.lst ((flipL row x v.toNat).map V.int)) → (∀ b, b ≠ p → H' b = H b) → Q .non H'
section
variable {P : Program} {w : World} {K : PySem.W.Frag} {mg : Str → Option Value} {base : Heap} {CG : Addr}
theorem sc_gsize : FnScope ["self"] ["self"] (defScope s_Graph_size) := ⟨rfl, rfl, rfl, by decide +kernel, rfl, by decide +kernel, by decide +kernel⟩
theorem sc_check_node : FnScope ["size", "node"] ["size", "node"] (defScope s_check_node) := ⟨rfl, rfl, rfl, by decide +kernel, rfl, by decide +kernel, by decide +kernel⟩
theorem sc_neighbours : FnScope ["self", "node"] ["self", "node"] (defScope s_Graph_neighbours) := ⟨rfl, rfl, rfl, by decide +kernel, rfl, by decide +kernel, by decide +kernel⟩
end
theorem takeMore {α : Type} : ∀ {l : List α} {i : Nat} {x : α}, l[i]? = some x → l.take (i + 1) = l.take i ++ [x]
  | [], _, _, h => by simp at h
  | a :: l, 0, x, h => by
    have e : a = x := Option.some.inj h
    subst e
    rfl
  | a :: l, i + 1, x, h => by
    rw [List.take_succ_cons, List.take_succ_cons, takeMore (l := l) (i := i) h]
    rfl
theorem intsAt {x : List Int} {i : Nat} {y : V} (h : (x.map V.int)[i]? = some y) : ∃ o, x[i]? = some o ∧ y = .int o := by
  rw [List.getElem?_map] at h
  cases e : x[i]? with
  | none =>
    rw [e] at h
    cases h
  | some o =>
    rw [e] at h
    exact ⟨o, rfl, (Option.some.inj h).symm⟩
theorem repZero (n : Nat) : (List.replicate n [V.int 0]).flatten = (List.replicate n (0 : Int)).map V.int := by
  induction n with
  | zero => rfl
  | succ n ih =>
    rw [List.replicate_succ, List.flatten_cons, ih, List.replicate_succ, List.map_cons]
    rfl
section
variable {P : Program} {w : World} {K : PySem.W.Frag} {mg : Str → Option Value} {base : Heap} {CG : Addr}
theorem sc_flip : FnScope ["numbers", "node", "near", "number", "other"] ["numbers", "node", "near"] (defScope s_flip_in_place) := ⟨rfl, rfl, rfl, by decide +kernel, rfl, by decide +kernel, by decide +kernel⟩
theorem ok_flip {f : Addr} {fd : FuncData} (F : Fun K "flip_in_place" "flip_in_place" s_flip_in_place f fd) : FnOk P w K mg base CX0 1 f fd ["numbers", "node", "near"] spFlip := by
  refine F.ok sc_flip (fun vs H Q E h => ?_) (fun cdv A outer s H vs Q E hr h => ?_)
  · obtain ⟨p, r, x, row, v, rfl, _⟩ := h
    rfl
  · obtain ⟨p, r, x, row, v, rfl, hp, hrow, hne, h0, h1, hin, k⟩ := h
    refine ⟨_, pss_cons (ps_set (i := 3) sc_flip.nd rfl (Or.inl rfl) (pe_ix ix_list (pv 0) (pv 1) (fun _ _ => rfl)))
      (pss_cons (ps_for PassesOwn.never rfl (pi_list (pv 2)) (pg_name (i := 4) sc_flip.nd rfl (Or.inl rfl)) (pss_one (ps_augS (pv 0) (pv 4) pget_list (pv 3) ip_add set_list)))
      (pss_one (ps_asg (pe_un un_neg (pv 3)) (pg_sub (pv 0) (pv 1) set_list)))), ?_⟩
    refine ⟨_, rfl, _, rfl, p, _, _, _, rfl, rfl, SqL.of hp, atInt h0 h1, ?_⟩
    refine ⟨_, rfl, r, rfl, ⟨_, SqL.of hrow⟩, for_list (K := K) (a := r) (xs := row.map V.int) (fun i σ H' => ∃ o4 : Option V, σ = [some (.ref p), some (.int v), some (.ref r), some (.int (x.getD v.toNat 0)), o4] ∧
      H' p = some (.lst (((row.take i).foldl (fun y o => y.set o.toNat (y.getD o.toNat 0 + x.getD v.toNat 0)) x).map V.int)) ∧ ∀ b, b ≠ p → H' b = H b)
      ⟨none, rfl, hp, fun b _ => rfl⟩ (fun i σ H' _ h => ?_) (fun i y σ H' hi h => ?_) (fun σ H' h => ?_)⟩
    · obtain ⟨o4, _, _, h3⟩ := h
      exact SqL.of ((h3 r hne.symm).trans hrow)
    · obtain ⟨o4, rfl, e1, e2⟩ := h
      obtain ⟨o, ho, rfl⟩ := intsAt hi
      have hb := hin o (List.mem_of_getElem? ho)
      have hl := foldSetLen (x.getD v.toNat 0) (row.take i) x
      have hb' : o < ((row.take i).foldl (fun y o => y.set o.toNat (y.getD o.toNat 0 + x.getD v.toNat 0)) x).length := by
        rw [hl]
        exact hb.2
      refine ⟨_, rfl, _, rfl, p, _, o, _, rfl, rfl, SqL.of e1, atInt hb.1 hb', _, rfl, _, _, rfl, rfl, p, _, o, _, rfl, rfl, e1, ixInt hb.1 hb', ?_⟩
      refine ⟨_, rfl, ?_, fun b hb2 => by rw [upd_ne hb2]; exact e2 b hb2⟩
      rw [upd_same, takeMore ho, List.foldl_append, mapSet]
      rfl
    · obtain ⟨o4, rfl, e1, e2⟩ := h
      rw [List.length_map, List.take_length] at e1
      have hl := foldSetLen (x.getD v.toNat 0) row x
      refine ⟨_, rfl, _, rfl, _, rfl, _, rfl, p, _, v, _, rfl, rfl, e1, ixInt h0 (by rw [hl]; exact h1), ?_⟩
      refine k _ ?_ fun b hb => by rw [upd_ne hb]; exact e2 b hb
      rw [upd_same, mapSet]
      rfl
end
def posD (x : List Int) : PyData := .list (x.map .int)
theorem dpInts {K : PySem.W.Frag} {H : Hp} : ∀ x : List Int, DpAll K H (x.map V.int) (x.map PyData.int)
  | [] => .nil
  | _ :: x => .cons (.int _) (dpInts x)
theorem ilPos {n : Nat} {x : List Int} (h : x.length = n) : isIL n (posD x) = true := by
  show (decide ((x.map PyData.int).length = n) && (x.map PyData.int).all isI) = true
  rw [List.length_map, decide_eq_true h, List.all_map]
  simp [isI]
def spCheckPos (K : PySem.W.Frag) (CP : Addr) : Sp := fun vs H Q E => ∃ v d, ∃ n : Nat, vs = [.int n, v] ∧ Rd K H v d ∧ lenD d ≤ 100000 ∧ (∀ H', Same H H' → isIL n d = true → Q .non H') ∧
  ∀ H' dd, Same H H' → H dd = none → H' dd = some (.xd [(("value" : Str), v)]) → isIL n d = false → E (.ref CP) (some dd) H'
section
variable {P : Program} {w : World} {K : PySem.W.Frag} {mg : Str → Option Value} {base : Heap} {CG CP CL : Addr}
theorem sc_check_position : FnScope ["size", "position"] ["size", "position"] (defScope s_check_position) := ⟨rfl, rfl, rfl, by decide +kernel, rfl, by decide +kernel, by decide +kernel⟩
theorem ok_check_position {f : Addr} {fd : FuncData} (F : Fun K "check_position" "check_position" s_check_position f fd) (T : Ex P w K mg base "InvalidPosition" CP)
    (tyC : PySem.W.typeIn K (.ref CP) = some (.type "type")) (G : At P w K mg base CX0 2 "is_integer_list" ["thing", "length"] (spIntList K)) : FnOk P w K mg base (L2.CX P w) 3 f fd ["size", "position"] (spCheckPos K CP) := by
  obtain ⟨g, gd, G, mG, kG, bG⟩ := G
  refine F.okX sc_check_position (fun vs H Q E h => ?_) (fun cdv A outer s H vs Q E hr h => ?_)
  · obtain ⟨v, d, n, rfl, _⟩ := h
    rfl
  · obtain ⟨v, d, n, rfl, hd, hl, k1, k2⟩ := h
    refine ⟨_, pss_one (ps_if (pt_not (pt_val (pe_call G hr (by rfl) mG kG bG .nil pass0 (pa_cons (pv 1) (pa_cons (pv 0) pa_nil)))))
      (pss_one (ps_raiseX rfl T tyC hr (takes_of rfl rfl rfl rfl) rfl (pa_cons (pv 1) pa_nil))) pss_nil), ?_⟩
    refine ⟨_, rfl, _, rfl, v, d, n, rfl, hd, hl, fun H1 s1 => ⟨_, rfl, ?_⟩⟩
    by_cases e : isIL n d = true
    · rw [e]
      exact iteF (k1 H1 s1 e)
    · have e : isIL n d = false := by simpa using e
      rw [e]
      exact iteT ⟨_, rfl, v, rfl, fun dd H' nd s2 hx => k2 H' dd (s1.trans s2) (s1.free nd) hx e⟩
end
end K72
set_option Elab.async false
set_option linter.all false
set_option maxRecDepth 100000
set_option maxHeartbeats 8000000
namespace K72
open PySem PySem.Spec PyProof.Rows L2 FNX
def pairD (e : Int × Int) : PyData := .tuple [.int e.1, .int e.2]
theorem eqvPair (e f : Int × Int) : PyData.eqv (pairD e) (pairD f) = decide (e = f) := by
  have h : PyData.eqv (pairD e) (pairD f) = ((e.1 == f.1) && ((e.2 == f.2) && true)) := by
    unfold pairD
    first
      | rfl
      | simp [PyData.eqv, PyData.eqvAll]
  rw [h, Bool.and_true]
  by_cases c : e = f
  · subst c
    simp
  · rw [decide_eq_false c]
    by_cases c1 : e.1 = f.1
    · by_cases c2 : e.2 = f.2
      · exact absurd (Prod.ext c1 c2) c
      · have z : (e.2 == f.2) = false := by simpa using c2
        rw [z, Bool.and_false]
    · have z : (e.1 == f.1) = false := by simpa using c1
      rw [z, Bool.false_and]
/-- edges at addresses -/
def TupsAt (H : Hp) (ts : List Addr) (es : List (Int × Int)) : Prop := ts.length = es.length ∧ ∀ (k : Nat) (t : Addr), ts[k]? = some t → ∃ e, es[k]? = some e ∧ H t = some (.tup [.int e.1, .int e.2])
def EdgesAt (H : Hp) (p : Addr) (es : List (Int × Int)) : Prop := ∃ ts, H p = some (.lst (ts.map V.ref)) ∧ TupsAt H ts es
theorem TupsAt.same {H H' : Hp} {ts : List Addr} {es : List (Int × Int)} (h : TupsAt H ts es) (s : Same H H') : TupsAt H' ts es := ⟨h.1, fun k t e => by
  obtain ⟨x, h1, h2⟩ := h.2 k t e
  exact ⟨x, h1, s _ _ h2⟩⟩
theorem EdgesAt.same {H H' : Hp} {p : Addr} {es : List (Int × Int)} (h : EdgesAt H p es) (s : Same H H') : EdgesAt H' p es := by
  obtain ⟨ts, h1, h2⟩ := h
  exact ⟨ts, s _ _ h1, h2.same s⟩
structure GoodE (n : Nat) (es : List (Int × Int)) : Prop where
  node : ∀ e ∈ es, 0 ≤ e.1 ∧ e.1 < e.2 ∧ e.2 < n
  once : es.Nodup
  few : es.length ≤ 40
theorem dpTups {K : PySem.W.Frag} {H : Hp} : ∀ {ts : List Addr} {es : List (Int × Int)}, TupsAt H ts es → DpAll K H (ts.map V.ref) (es.map pairD)
  | [], [], _ => .nil
  | [], _ :: _, h => by
    have z := h.1
    simp at z
  | _ :: _, [], h => by
    have z := h.1
    simp at z
  | t :: ts, e :: es, h => by
    obtain ⟨x, h1, h2⟩ := h.2 0 t rfl
    obtain rfl : e = x := Option.some.inj h1
    refine .cons (.tup (SqT.of h2) (.cons (.int _) (.cons (.int _) .nil))) (dpTups ⟨by simpa using h.1, fun k t' e' => ?_⟩)
    obtain ⟨x, q1, q2⟩ := h.2 (k + 1) t' e'
    exact ⟨x, q1, q2⟩
theorem layPairs : ∀ es : List (Int × Int), PyData.canLayAll0 (es.map pairD) = true
  | [] => rfl
  | _ :: es => by
    show (true && PyData.canLayAll0 (es.map pairD)) = true
    rw [layPairs es]
    rfl
theorem depPairs : ∀ es : List (Int × Int), PyData.depthAll (es.map pairD) ≤ 1
  | [] => by decide
  | _ :: es => by
    show max 1 (PyData.depthAll (es.map pairD)) ≤ 1
    have z := depPairs es
    omega
theorem shapedPairs (es : List (Int × Int)) : SeqAt.shaped (.list (es.map pairD)) = true := by
  unfold SeqAt.shaped
  have e1 : PyData.canLay0 (.list (es.map pairD)) = true := layPairs es
  have e2 : PyData.depth (.list (es.map pairD)) ≤ 64 := by
    show PyData.depthAll (es.map pairD) + 1 ≤ 64
    have z := depPairs es
    omega
  rw [e1, decide_eq_true e2]
  rfl
theorem anyPair {f : Int × Int} : ∀ {es : List (Int × Int)}, f ∉ es → ((es.map pairD).any fun z => PyData.eqv z (pairD f)) = false
  | [], _ => rfl
  | e :: es, h => by
    rw [List.map_cons, List.any_cons, eqvPair, decide_eq_false (fun z => h (by rw [z]; exact List.mem_cons_self)), anyPair (fun z => h (List.mem_cons_of_mem _ z))]
    rfl
theorem anyPairT {f : Int × Int} : ∀ {es : List (Int × Int)}, f ∈ es → ((es.map pairD).any fun z => PyData.eqv z (pairD f)) = true
  | [], h => by simp at h
  | e :: es, h => by
    rw [List.map_cons, List.any_cons, eqvPair]
    by_cases c : e = f
    · rw [decide_eq_true c, Bool.true_or]
    · have h' : f ∈ es := by
        rcases List.mem_cons.mp h with z | z
        · exact absurd z.symm c
        · exact z
      rw [anyPairT h', Bool.or_true]
theorem kitLT (K : PySem.W.Frag) : PySem.W.kitAny K (.type "list") [.type "list", .type "tuple"] = some true :=
  kitAny_cons (b := true) (kit_ty (by decide +kernel)) (fun h => by cases h) (fun _ => rfl)
theorem boot_min1 : bootBuiltins "min" = some (.builtin "min") := by decide +kernel
theorem boot_max1 : bootBuiltins "max" = some (.builtin "max") := by decide +kernel
theorem boot_sorted1 : bootBuiltins "sorted" = some (.builtin "sorted") := by decide +kernel
theorem nodeIn {n : Nat} {i : Int} (h0 : 0 ≤ i) (h1 : i < n) : isNode n (.int i) = true := by
  show (decide ((0 : Int) ≤ i) && decide (i ≤ (n : Int) - 1)) = true
  rw [decide_eq_true h0, decide_eq_true (by omega)]
  rfl
section
variable {P : Program} {w : World} {K : PySem.W.Frag} {mg : Str → Option Value} {base : Heap} {CG : Addr}
theorem sc_is_edge : FnScope ["size", "thing", "one", "two"] ["size", "thing"] (defScope s_is_edge) := ⟨rfl, rfl, rfl, by decide +kernel, rfl, by decide +kernel, by decide +kernel⟩
theorem sc_checked_edges : FnScope ["size", "edges", "found", "entry", "edge"] ["size", "edges"] (defScope s_checked_edges) := ⟨rfl, rfl, rfl, by decide +kernel, rfl, by decide +kernel, by decide +kernel⟩
theorem refAt {α : Type} {f : α → V} {xs : List α} {i : Nat} {y : V} (h : (xs.map f)[i]? = some y) : ∃ t, xs[i]? = some t ∧ y = f t := by
  rw [List.getElem?_map] at h
  cases e : xs[i]? with
  | none =>
    rw [e] at h
    cases h
  | some t =>
    rw [e] at h
    exact ⟨t, rfl, (Option.some.inj h).symm⟩
theorem notTaken {α : Type} {es : List α} (h : es.Nodup) {i : Nat} {e : α} (hi : es[i]? = some e) : e ∉ es.take i := by
  intro hm
  obtain ⟨j, hj, he⟩ := List.mem_iff_getElem.mp hm
  rw [List.length_take] at hj
  rw [List.getElem_take] at he
  obtain ⟨h1, h2⟩ := List.getElem?_eq_some_iff.mp hi
  have z := (List.pairwise_iff_getElem.mp h) j i (by omega) h1 (by omega)
  exact z (by rw [he, h2])
def keyE (H : Hp) : V → Int × Int
  | .ref t => match H t with
    | some (.tup [.int a, .int b]) => (a, b)
    | _ => (0, 0)
  | _ => (0, 0)
def refOf : V → Addr
  | .ref t => t
  | _ => 0
theorem keyE_at {H : Hp} {t : Addr} {e : Int × Int} (h : H t = some (.tup [.int e.1, .int e.2])) : keyE H (.ref t) = e := by
  unfold keyE
  simp only [h]
theorem permTups {H : Hp} {ts : List Addr} {es : List (Int × Int)} (h : TupsAt H ts es) {ys : List V} (hp : ys.Perm (ts.map V.ref)) : ∃ ts' es', ys = ts'.map V.ref ∧ TupsAt H ts' es' ∧ es'.Perm es := by
  have hm : ∀ y ∈ ys, ∃ t, y = V.ref t ∧ ∃ e : Int × Int, H t = some (.tup [.int e.1, .int e.2]) := fun y hy => by
    obtain ⟨t, ht, rfl⟩ := List.mem_map.mp (hp.mem_iff.mp hy)
    obtain ⟨k, hk, he⟩ := List.mem_iff_getElem.mp ht
    obtain ⟨e, h1, h2⟩ := h.2 k t (by rw [List.getElem?_eq_getElem hk, he])
    exact ⟨t, rfl, e, h2⟩
  have e1 : (ts.map V.ref).map (keyE H) = es := by
    apply List.ext_getElem
    · rw [List.length_map, List.length_map, h.1]
    · intro k h1 h2
      rw [List.length_map, List.length_map] at h1
      obtain ⟨e, q1, q2⟩ := h.2 k ts[k] (List.getElem?_eq_getElem h1)
      rw [List.getElem_map, List.getElem_map, keyE_at q2]
      rw [List.getElem?_eq_getElem h2] at q1
      exact (Option.some.inj q1).symm
  refine ⟨ys.map refOf, ys.map (keyE H), ?_, ⟨by rw [List.length_map, List.length_map], fun k t hk => ?_⟩, ?_⟩
  · rw [List.map_map]
    have z : ∀ y ∈ ys, (V.ref ∘ refOf) y = y := fun y hy => by
      obtain ⟨t, rfl, _⟩ := hm y hy
      rfl
    exact (List.map_congr_left z).symm ▸ (List.map_id ys).symm
  · rw [List.getElem?_map] at hk
    cases hy : ys[k]? with
    | none =>
      rw [hy] at hk
      cases hk
    | some y =>
      rw [hy] at hk
      obtain ⟨t', rfl, e, he⟩ := hm y (List.mem_of_getElem? hy)
      obtain rfl : t' = t := Option.some.inj hk
      refine ⟨e, ?_, he⟩
      rw [List.getElem?_map, hy]
      exact congrArg some (keyE_at he)
  · have z := hp.map (keyE H)
    rwa [e1] at z
end
def rowOf (es : List (Int × Int)) (i : Int) : List Int := es.flatMap fun e => (if e.1 = i then [e.2] else []) ++ (if e.2 = i then [e.1] else [])
structure IsNear (n : Nat) (es : List (Int × Int)) (N : List (List Int)) : Prop where
  len : N.length = n
  row : ∀ i, i < n → (N.getD i []).Perm (rowOf es i)
  asc : ∀ i, i < n → (N.getD i []).Pairwise (· ≤ ·)
theorem rowOf_perm {es fs : List (Int × Int)} (h : es.Perm fs) (i : Int) : (rowOf es i).Perm (rowOf fs i) := List.Perm.flatMap_right _ h
theorem IsNear.perm {n : Nat} {es fs : List (Int × Int)} {N : List (List Int)} (h : IsNear n es N) (p : es.Perm fs) : IsNear n fs N := ⟨h.len, fun i hi => (h.row i hi).trans (rowOf_perm p i), h.asc⟩
theorem IsNear.uniq {n : Nat} {es : List (Int × Int)} {N M : List (List Int)} (h : IsNear n es N) (g : IsNear n es M) : N = M := by
  apply List.ext_getElem
  · rw [h.len, g.len]
  · intro i h1 h2
    have hi : i < n := by
      rw [← h.len]
      exact h1
    have a1 := h.row i hi
    have a2 := g.row i hi
    have b1 := h.asc i hi
    have b2 := g.asc i hi
    rw [List.getD_eq_getElem?_getD, List.getElem?_eq_getElem h1] at a1 b1
    rw [List.getD_eq_getElem?_getD, List.getElem?_eq_getElem h2] at a2 b2
    exact List.Perm.eq_of_pairwise (fun a b _ _ => Int.le_antisymm) b1 b2 (a1.trans a2.symm)
theorem rowOf_mem {n : Nat} {es : List (Int × Int)} (g : ∀ e ∈ es, 0 ≤ e.1 ∧ e.1 < e.2 ∧ e.2 < n) {i o : Int} (h : o ∈ rowOf es i) : 0 ≤ o ∧ o < n := by
  obtain ⟨e, he, h⟩ := List.mem_flatMap.mp h
  have z := g e he
  rcases List.mem_append.mp h with h | h
  · by_cases c : e.1 = i
    · rw [if_pos c, List.mem_singleton] at h
      omega
    · rw [if_neg c] at h
      simp at h
  · by_cases c : e.2 = i
    · rw [if_pos c, List.mem_singleton] at h
      omega
    · rw [if_neg c] at h
      simp at h
theorem IsNear.wf {n : Nat} {es : List (Int × Int)} {N : List (List Int)} (h : IsNear n es N) (g : ∀ e ∈ es, 0 ≤ e.1 ∧ e.1 < e.2 ∧ e.2 < n) : WF N := by
  intro i hi o ho
  rw [h.len] at hi ⊢
  exact rowOf_mem g ((h.row i hi).mem_iff.mp ho)
theorem rowOf_len : ∀ (es : List (Int × Int)) (i : Int), (rowOf es i).length ≤ 2 * es.length
  | [], _ => by simp [rowOf]
  | e :: es, i => by
    have z := rowOf_len es i
    have q : rowOf (e :: es) i = ((if e.1 = i then [e.2] else []) ++ (if e.2 = i then [e.1] else [])) ++ rowOf es i := rfl
    have q1 : (if e.1 = i then [e.2] else []).length ≤ 1 := by split <;> simp
    have q2 : (if e.2 = i then [e.1] else []).length ≤ 1 := by split <;> simp
    rw [q, List.length_append, List.length_append, List.length_cons]
    omega
theorem rowOf_more {es : List (Int × Int)} {k : Nat} {e : Int × Int} (h : es[k]? = some e) (i : Int) :
    rowOf (es.take (k + 1)) i = rowOf (es.take k) i ++ ((if e.1 = i then [e.2] else []) ++ (if e.2 = i then [e.1] else [])) := by
  rw [takeMore h]
  unfold rowOf
  rw [List.flatMap_append, List.flatMap_cons, List.flatMap_nil, List.append_nil]
/-- rows that grow -/
def Grow (H : Hp) (rs : List Addr) (n : Nat) (es : List (Int × Int)) : Prop := rs.length = n ∧ rs.Nodup ∧ ∀ (k : Nat) (r : Addr), rs[k]? = some r → H r = some (.lst ((rowOf es (k : Int)).map V.int))
theorem nodupAt {rs : List Addr} (h : rs.Nodup) {i j : Nat} {r s : Addr} (hi : rs[i]? = some r) (hj : rs[j]? = some s) (ne : i ≠ j) : r ≠ s := by
  intro e
  subst e
  obtain ⟨a1, a2⟩ := List.getElem?_eq_some_iff.mp hi
  obtain ⟨b1, b2⟩ := List.getElem?_eq_some_iff.mp hj
  exact ne ((List.getElem_inj h).mp (a2.trans b2.symm))
/-- lists that are new behind H: they stay whatever becomes of H's own objects -/
def NewN (H H' : Hp) (q : Addr) (N : List (List Int)) : Prop := ∀ H'', (∀ b o, H b = none → H' b = some o → H'' b = some o) → NAt H'' q N
theorem NewN.at {H H' : Hp} {q : Addr} {N : List (List Int)} (h : NewN H H' q N) : NAt H' q N := h H' fun _ _ _ e => e
def spNear (K : PySem.W.Frag) : Sp := fun vs H Q _ => ∃ (n : Nat) (p : Addr) (es : List (Int × Int)), vs = [.int n, .ref p] ∧ EdgesAt H p es ∧ GoodE n es ∧ n ≤ 1000 ∧
  ∀ q H' N, H q = none → Same H H' → NewN H H' q N → IsNear n es N → Q (.ref q) H'
theorem Grow.at {H : Hp} {rs : List Addr} {n : Nat} {es : List (Int × Int)} (h : Grow H rs n es) {i : Int} (h0 : 0 ≤ i) (hi : i < n) : ∃ r, rs[i.toNat]? = some r ∧ atI (rs.map V.ref) i = some (.ref r) ∧ H r = some (.lst ((rowOf es i).map V.int)) := by
  have hl : i.toNat < rs.length := by
    rw [h.1]
    omega
  refine ⟨rs[i.toNat], List.getElem?_eq_getElem hl, ?_, ?_⟩
  · have z : (rs.map V.ref)[i.toNat]? = some (V.ref rs[i.toNat]) := by
      rw [List.getElem?_map, List.getElem?_eq_getElem hl]
      rfl
    have q := atI_nat z
    rwa [show ((i.toNat : Nat) : Int) = i by omega] at q
  · have z := h.2.2 i.toNat _ (List.getElem?_eq_getElem hl)
    rwa [show ((i.toNat : Nat) : Int) = i by omega] at z
/-- one edge more -/
theorem Grow.more {H : Hp} {rs : List Addr} {n : Nat} {es : List (Int × Int)} {k : Nat} {e : Int × Int} {r1 r2 : Addr} (h : Grow H rs n (es.take k)) (he : es[k]? = some e) (g : 0 ≤ e.1 ∧ e.1 < e.2 ∧ e.2 < n)
    (h1 : rs[e.1.toNat]? = some r1) (h2 : rs[e.2.toNat]? = some r2) :
    Grow (upd (upd H r1 (.lst ((rowOf (es.take k) e.1).map V.int ++ [V.int e.2]))) r2 (.lst ((rowOf (es.take k) e.2).map V.int ++ [V.int e.1]))) rs n (es.take (k + 1)) := by
  refine ⟨h.1, h.2.1, fun j r hj => ?_⟩
  have hne : e.2.toNat ≠ e.1.toNat := by omega
  rw [rowOf_more he]
  by_cases c2 : j = e.2.toNat
  · subst c2
    obtain rfl : r2 = r := Option.some.inj (h2.symm.trans hj)
    have z1 : ((e.2.toNat : Nat) : Int) = e.2 := by omega
    rw [upd_same, z1, if_neg (by omega), if_pos rfl, List.nil_append, List.map_append]
    rfl
  · rw [upd_ne (nodupAt h.2.1 hj h2 c2)]
    by_cases c1 : j = e.1.toNat
    · subst c1
      obtain rfl : r1 = r := Option.some.inj (h1.symm.trans hj)
      have z1 : ((e.1.toNat : Nat) : Int) = e.1 := by omega
      rw [upd_same, z1, if_pos rfl, if_neg (by omega), List.append_nil, List.map_append]
      rfl
    · rw [upd_ne (nodupAt h.2.1 hj h1 c1), h.2.2 j r hj, if_neg (by omega), if_neg (by omega), List.append_nil, List.append_nil]
theorem getDl {α : Type} {L : List α} {x d : α} {k : Nat} (h : k < L.length) : (L ++ [x]).getD k d = L.getD k d := by
  rw [List.getD_eq_getElem?_getD, List.getD_eq_getElem?_getD, List.getElem?_append_left h]
theorem getDe {α : Type} {L : List α} {x d : α} {k : Nat} (h : k = L.length) : (L ++ [x]).getD k d = x := by
  subst h
  rw [List.getD_eq_getElem?_getD, List.getElem?_append_right (Nat.le_refl _), Nat.sub_self]
  rfl
section
variable {P : Program} {w : World} {K : PySem.W.Frag} {mg : Str → Option Value} {base : Heap} {CG : Addr}
theorem sc_near : FnScope ["size", "edges", "near", "one", "two", "node", "nodes"] ["size", "edges"] (defScope s_neighbour_lists) := ⟨rfl, rfl, rfl, by decide +kernel, rfl, by decide +kernel, by decide +kernel⟩
theorem ok_near {f : Addr} {fd : FuncData} (F : Fun K "neighbour_lists" "neighbour_lists" s_neighbour_lists f fd) (M : Nms mg) : FnOk P w K mg base CX0 1 f fd ["size", "edges"] (spNear K) := by
  refine F.ok sc_near (fun vs H Q E h => ?_) (fun cdv A outer s H vs Q E hr h => ?_)
  · obtain ⟨n, p, es, rfl, _⟩ := h
    rfl
  · obtain ⟨n, p, es, rfl, hp, ge, hn, k⟩ := h
    refine ⟨_, pss_cons (ps_setLc (i := 2) (own := [("node", 5)]) (g := gName 5) (tt := tYes) (by rfl) sc_near.nd rfl rfl (sw_true rfl rfl rfl (by decide +kernel))
      (pi_range1 rfl M.range (pa_cons (pv 0) pa_nil))
      (blkOk_by (own := [("node", 5)]) (N := ["size", "edges", "near", "one", "two", "node", "nodes"]) (sc := defScope s_neighbour_lists) (by decide +kernel))
      (fun _ _ _ _ _ => pg_name (i := 5) sc_near.nd rfl (Or.inl rfl)) (fun _ _ _ _ _ => pts_nil)
      (fun _ _ _ _ _ => pe_lst pa_nil))
      (pss_cons (ps_for PassesOwn.never rfl (pi_list (pv 1)) (pg_tup rfl (pgs_cons (pg_name (i := 3) sc_near.nd rfl (Or.inl rfl)) (pgs_cons (pg_name (i := 4) sc_near.nd rfl (Or.inl rfl)) pgs_nil)))
        (pss_cons (ps_expr (pe_bm PySem.F.plainAttrs_list PySem.F.slot_list_append PySem.F.type_list_append mt_append (pe_ix ix_list (pv 2) (pv 3) (fun _ _ => rfl)) (pa_cons (pv 4) pa_nil)))
        (pss_one (ps_expr (pe_bm PySem.F.plainAttrs_list PySem.F.slot_list_append PySem.F.type_list_append mt_append (pe_ix ix_list (pv 2) (pv 4) (fun _ _ => rfl)) (pa_cons (pv 3) pa_nil))))))
      (pss_one (ps_ret (pe_lc (own := [("nodes", 6)]) (g := gName 6) (tt := tYes) rfl sc_near.nd (pi_list (pv 2))
      (blkOk_by (own := [("nodes", 6)]) (N := ["size", "edges", "near", "one", "two", "node", "nodes"]) (sc := defScope s_neighbour_lists) (by decide +kernel))
      (fun _ _ _ _ _ => pg_name (i := 6) sc_near.nd rfl (Or.inl rfl)) (fun _ _ _ _ _ => pts_nil)
      (fun _ _ _ _ _ => pe_callB (show CallR _ (.builtin "sorted") (rSortedI K) from cr_sortedI) (by rfl) M.sorted boot_sorted1 (pa_cons (pv 6) pa_nil)))))), ?_⟩
    obtain ⟨ts, h1, h2⟩ := id hp
    refine ⟨_, rfl, n, rfl, by omega, by omega, fun D hD => ?_⟩
    refine lc_range (lo := 0) (fun i H' => Same H H' ∧ ∃ rs : List Addr, H' D = some (.lst (rs.map V.ref)) ∧ D ∉ rs ∧ (∀ r ∈ rs, H r = none) ∧ Grow H' rs i []) ⟨same_upd hD, [], upd_same, by simp, by simp, rfl, by simp, fun k r e => by simp at e⟩ (fun i H' hi h => ?_) (fun H' h => ?_)
    · obtain ⟨sm, rs, e1, e2, e3, e4⟩ := h
      refine ⟨rfl, ?_⟩
      refine ⟨by show 0 ≤ sizeLine; decide, fun p np => ?_⟩
      have hpD : D ≠ p := ne_of_none e1 np
      refine ⟨_, by rw [upd_ne hpD]; exact e1, by rw [List.length_map, e4.1, sizeLine_eq]; omega, fun b o z => ?_, rs ++ [p], by rw [upd_same, List.map_append]; rfl, ?_, fun r hr' => ?_, ?_⟩
      · rw [upd_ne (ne_of_none z hD), upd_ne (ne_of_none (sm _ _ z) np)]
        exact sm _ _ z
      · intro z
        rcases List.mem_append.mp z with z | z
        · exact e2 z
        · exact hpD (List.mem_singleton.mp z)
      · rcases List.mem_append.mp hr' with z | z
        · exact e3 r z
        · rw [List.mem_singleton.mp z]
          exact sm.free np
      · refine ⟨by rw [List.length_append, e4.1]; rfl, ?_, fun k r hk => ?_⟩
        · refine List.nodup_append.mpr ⟨e4.2.1, by simp, fun a ha b hb => ?_⟩
          rw [List.mem_singleton] at hb
          subst hb
          obtain ⟨k, hk, he⟩ := List.mem_iff_getElem.mp ha
          intro q
          subst q
          have z := e4.2.2 k _ (by rw [List.getElem?_eq_getElem hk, he])
          rw [np] at z
          cases z
        · by_cases hlt : k < rs.length
          · rw [List.getElem?_append_left hlt] at hk
            have z := e4.2.2 k r hk
            have nD : r ≠ D := fun q => e2 (q ▸ List.mem_of_getElem? hk)
            rw [upd_ne nD, upd_ne (ne_of_none z np)]
            exact z
          · rw [List.getElem?_append_right (by omega)] at hk
            have hk' : k = rs.length := by
              have := (List.getElem?_eq_some_iff.mp hk).1
              simp at this
              omega
            subst hk'
            rw [Nat.sub_self] at hk
            obtain rfl : p = r := Option.some.inj hk
            rw [upd_ne hpD.symm, upd_same]
            rfl
    · obtain ⟨sm, rs, e1, e2, e3, e4⟩ := h
      refine ⟨_, rfl, p, rfl, ⟨_, SqL.of (sm _ _ h1)⟩, for_list (K := K) (a := p) (xs := ts.map V.ref) (fun i σ H' => ∃ (o3 o4 : Option V), σ = [some (.int n), some (.ref p), some (.ref D), o3, o4, none, none] ∧
        Same H H' ∧ H' D = some (.lst (rs.map V.ref)) ∧ Grow H' rs n (es.take i)) ⟨none, none, rfl, sm, e1, e4⟩ (fun i σ H' _ h => ?_) (fun i y σ H' hi h => ?_) (fun σ H' h => ?_)⟩
      · obtain ⟨_, _, _, sm, _, _⟩ := h
        exact SqL.of (sm _ _ h1)
      · obtain ⟨o3, o4, rfl, sm, e1, e4⟩ := h
        obtain ⟨t, ht, rfl⟩ := refAt hi
        obtain ⟨e, he, hte⟩ := h2.2 i t ht
        have good := ge.node e (List.mem_of_getElem? he)
        have few := ge.few
        have hte' := sm _ _ hte
        have lt := (List.getElem?_eq_some_iff.mp he).1
        obtain ⟨r1, q1, a1, b1⟩ := e4.at (i := e.1) good.1 (by omega)
        obtain ⟨r2, q2, a2, b2⟩ := e4.at (i := e.2) (by omega) good.2.2
        have n12 : r2 ≠ r1 := nodupAt e4.2.1 q2 q1 (by omega)
        have l1 := rowOf_len (es.take i) e.1
        have l2 := rowOf_len (es.take i) e.2
        rw [List.length_take] at l1 l2
        have fr1 := e3 r1 (List.mem_of_getElem? q1)
        have fr2 := e3 r2 (List.mem_of_getElem? q2)
        have nD1 : D ≠ r1 := fun q => e2 (q ▸ List.mem_of_getElem? q1)
        have nD2 : D ≠ r2 := fun q => e2 (q ▸ List.mem_of_getElem? q2)
        refine ⟨t, _, rfl, SqT.of hte', rfl, _, _, rfl, _, _, rfl, rfl, ?_⟩
        refine ⟨_, rfl, _, rfl, D, _, e.1, _, rfl, rfl, SqL.of e1, a1, .inl ⟨rfl, _, SqL.of b1⟩, _, rfl, r1, _, _, rfl, rfl, b1, by rw [List.length_map, sizeLine_eq]; omega, ?_⟩
        have e1' : (upd H' r1 (.lst ((rowOf (es.take i) e.1).map V.int ++ [V.int e.2]))) D = some (.lst (rs.map V.ref)) := by
          rw [upd_ne nD1]
          exact e1
        have b2' : (upd H' r1 (.lst ((rowOf (es.take i) e.1).map V.int ++ [V.int e.2]))) r2 = some (.lst ((rowOf (es.take i) e.2).map V.int)) := by
          rw [upd_ne n12]
          exact b2
        refine ⟨_, rfl, _, rfl, D, _, e.2, _, rfl, rfl, SqL.of e1', a2, .inl ⟨rfl, _, SqL.of b2'⟩, _, rfl, r2, _, _, rfl, rfl, b2', by rw [List.length_map, sizeLine_eq]; omega, ?_⟩
        refine ⟨_, _, rfl, fun b o z => ?_, ?_, e4.more he good q1 q2⟩
        · rw [upd_ne (ne_of_none z fr2), upd_ne (ne_of_none z fr1)]
          exact sm _ _ z
        · rw [upd_ne nD2]
          exact e1'
      · obtain ⟨o3, o4, rfl, sm, e1, e4⟩ := h
        rw [List.length_map, h2.1, List.take_length] at e4
        refine ⟨_, rfl, D, rfl, ⟨_, SqL.of e1⟩, fun q nq => ?_⟩
        have qD : D ≠ q := ne_of_none e1 nq
        have fqH : H q = none := sm.free nq
        refine lc_list (K := K) (a := D) (xs := rs.map V.ref) (fun i H'' => Same H' H'' ∧ ∃ (ps : List Addr) (L : List (List Int)), H'' q = some (.lst (ps.map V.ref)) ∧ ps.length = i ∧ L.length = i ∧
          (∀ (k : Nat) (r : Addr), ps[k]? = some r → r ≠ q ∧ H r = none ∧ H'' r = some (.lst ((L.getD k []).map V.int))) ∧ (∀ k : Nat, k < i → (L.getD k []).Perm (rowOf es k)) ∧ ∀ k : Nat, k < i → (L.getD k []).Pairwise (· ≤ ·))
          ⟨same_upd nq, [], [], upd_same, rfl, rfl, fun k r e => by simp at e, fun k e => by omega, fun k e => by omega⟩ (fun i H'' _ h => SqL.of (h.1 _ _ e1)) (fun i x H'' hi h => ?_) (fun H'' h => ?_)
        · obtain ⟨sm2, ps, L, f1, f2, f3, f4, f5, f6⟩ := h
          obtain ⟨r, hr', rfl⟩ := refAt hi
          have hb := e4.2.2 i r hr'
          have hlt : i < n := by
            rw [← e4.1]
            exact (List.getElem?_eq_some_iff.mp hr').1
          refine ⟨rfl, ?_⟩
          refine ⟨_, rfl, r, _, rfl, SqL.of (sm2 _ _ hb), fun ns' t hperm hasc nt => ?_⟩
          have tq : q ≠ t := ne_of_none f1 nt
          refine ⟨_, by rw [upd_ne tq]; exact f1, by rw [List.length_map, f2, sizeLine_eq]; omega, fun b o z => ?_, ps ++ [t], L ++ [ns'], by rw [upd_same, List.map_append]; rfl, by rw [List.length_append, f2]; rfl, by rw [List.length_append, f3]; rfl, fun k r' hk => ?_, fun k hk => ?_, fun k hk => ?_⟩
          · rw [upd_ne (ne_of_none z nq), upd_ne (ne_of_none (sm2 _ _ z) nt)]
            exact sm2 _ _ z
          · by_cases hl : k < ps.length
            · rw [List.getElem?_append_left hl] at hk
              obtain ⟨z1, z0, z2⟩ := f4 k r' hk
              rw [upd_ne z1, upd_ne (ne_of_none z2 nt), getDl (by omega)]
              exact ⟨z1, z0, z2⟩
            · rw [List.getElem?_append_right (by omega)] at hk
              have hk' : k = ps.length := by
                have := (List.getElem?_eq_some_iff.mp hk).1
                simp at this
                omega
              subst hk'
              rw [Nat.sub_self] at hk
              obtain rfl : t = r' := Option.some.inj hk
              rw [upd_ne tq.symm, upd_same, getDe (by omega)]
              exact ⟨tq.symm, sm.free (sm2.free nt), rfl⟩
          · by_cases c : k < i
            · rw [getDl (by omega)]
              exact f5 k c
            · rw [getDe (by omega), show k = i by omega]
              exact hperm
          · by_cases c : k < i
            · rw [getDl (by omega)]
              exact f6 k c
            · rw [getDe (by omega)]
              exact hasc
        · obtain ⟨sm2, ps, L, f1, f2, f3, f4, f5, f6⟩ := h
          rw [List.length_map, e4.1] at f2 f3 f5 f6
          exact k q H'' L fqH (sm.trans sm2) (fun H3 h3 => ⟨ps, h3 q _ fqH f1, by omega, fun k r e => h3 r _ (f4 k r e).2.1 (f4 k r e).2.2⟩) ⟨f3, f5, f6⟩
end
theorem GoodE.perm {n : Nat} {es fs : List (Int × Int)} (h : GoodE n es) (p : fs.Perm es) : GoodE n fs := ⟨fun e he => h.node e (p.mem_iff.mp he), (p.nodup_iff).mpr h.once, by rw [p.length_eq]; exact h.few⟩
section
variable {P : Program} {w : World} {K : PySem.W.Frag} {mg : Str → Option Value} {base : Heap} {CG : Addr}
theorem sc_ginit : FnScope ["self", "size", "edges", "joined"] ["self", "size", "edges"] (defScope s_Graph_init) := ⟨rfl, rfl, rfl, by decide +kernel, rfl, by decide +kernel, by decide +kernel⟩
end
end K72
set_option Elab.async false
set_option linter.all false
set_option maxRecDepth 100000
set_option maxHeartbeats 8000000
namespace K72
open PySem PySem.Spec PyProof.Rows L2 FNX
theorem newAt {H : Hp} {a : Addr} (o : HO) (h : H a = none) : ∃ H1, upd H a o = H1 ∧ Same H H1 ∧ H1 a = some o := ⟨_, rfl, same_upd h, upd_same⟩
theorem eqvSame {d : PyData} (h : SeqAt.shaped d = true) : PyData.eqv d d = true := SeqAt.eqv_refl d (SeqAt.canLay_of_shaped h)
theorem boot_repr1 : bootBuiltins "repr" = some (.builtin "repr") := by decide +kernel
/-- all but the object at p stays -/
def SameX (p : Addr) (H H' : Hp) : Prop := ∀ b o, b ≠ p → H b = some o → H' b = some o
theorem SameX.trans {p : Addr} {H H1 H2 : Hp} (a : SameX p H H1) (b : SameX p H1 H2) : SameX p H H2 := fun c o n e => b c o n (a c o n e)
theorem Same.x {p : Addr} {H H1 : Hp} (a : Same H H1) : SameX p H H1 := fun c o _ e => a c o e
theorem sameX_take {p : Addr} {H H' : Hp} (h : ∀ b, b ≠ p → H' b = H b) : SameX p H H' := fun b o n e => (h b n).trans e
theorem SameX.free {p q : Addr} {H H' : Hp} (a : SameX p H H') (h : PoolAt H p) (n : H' q = none) (hp : PoolAt H' p) : H q = none := by
  cases e : H q with
  | none => rfl
  | some o =>
    have z : q ≠ p := fun c => by
      obtain ⟨_, _, z, _⟩ := hp
      rw [← c, n] at z
      cases z
    rw [a q o z e] at n
    cases n
theorem PoolAt.same {p : Addr} {H H' : Hp} (h : PoolAt H p) (s : Same H H') : PoolAt H' p := by
  obtain ⟨c, d, z, r⟩ := h
  exact ⟨c, d, s _ _ z, r⟩
theorem PoolAt.ne {p q : Addr} {H : Hp} (h : PoolAt H p) (n : H q = none) : p ≠ q := by
  obtain ⟨_, _, z, _⟩ := h
  exact ne_of_none z n
theorem TupsAt.sameX {p : Addr} {H H' : Hp} {ts : List Addr} {es : List (Int × Int)} (h : TupsAt H ts es) (hp : PoolAt H p) (s : SameX p H H') : TupsAt H' ts es := ⟨h.1, fun k t e => by
  obtain ⟨x, h1, h2⟩ := h.2 k t e
  obtain ⟨_, _, z, _⟩ := hp
  exact ⟨x, h1, s _ _ (ne_of h2 z (by intro y; cases y)) h2⟩⟩
theorem TupsAt.push {H : Hp} {ts : List Addr} {es : List (Int × Int)} {t : Addr} {e : Int × Int} (h : TupsAt H ts es) (ht : H t = some (.tup [.int e.1, .int e.2])) : TupsAt H (ts ++ [t]) (es ++ [e]) := by
  refine ⟨by rw [List.length_append, List.length_append, h.1]; rfl, fun k t' hk => ?_⟩
  by_cases hl : k < ts.length
  · rw [List.getElem?_append_left hl] at hk
    obtain ⟨x, q1, q2⟩ := h.2 k t' hk
    exact ⟨x, by rw [List.getElem?_append_left (by rw [← h.1]; exact hl)]; exact q1, q2⟩
  · rw [List.getElem?_append_right (by omega)] at hk
    have hk' : k = ts.length := by
      have z := (List.getElem?_eq_some_iff.mp hk).1
      simp at z
      omega
    subst hk'
    rw [Nat.sub_self] at hk
    obtain rfl : t = t' := Option.some.inj hk
    refine ⟨e, ?_, ht⟩
    rw [h.1, List.getElem?_append_right (Nat.le_refl _), Nat.sub_self]
    rfl
def spJoins : Sp := fun vs H Q _ => ∃ (p : Addr) (n m : Nat), vs = [.ref p, .int n, .int m] ∧ PoolAt H p ∧ 1 ≤ n ∧ n ≤ 1000 ∧ m ≤ 40 ∧
  ∀ q H' es, H q = none → SameX p H H' → PoolAt H' p → EdgesAt H' q es → GoodE n es → Q (.ref q) H'
section
variable {P : Program} {w : World} {K : PySem.W.Frag} {mg : Str → Option Value} {base : Heap} {CG : Addr}
theorem sc_joins : FnScope ["_law_pool_here", "_law_many", "_law_top", "_law_found", "_law_turn", "_law_one", "_law_two"] ["_law_pool_here", "_law_many", "_law_top"] (defScope s__law_joins) := ⟨rfl, rfl, rfl, by decide +kernel, rfl, by decide +kernel, by decide +kernel⟩
theorem ok_joins {f : Addr} {fd : FuncData} (F : Fun K "_law_joins" "_law_joins" s__law_joins f fd) (M : Nms mg) (G : At P w K mg base CX0 1 "_law_take" ["_law_pool_here", "_law_sides"] spTake) :
    FnOk P w K mg base CX0 2 f fd ["_law_pool_here", "_law_many", "_law_top"] spJoins := by
  obtain ⟨c, cd, G, mG, kG, bG⟩ := G
  refine F.ok sc_joins (fun vs H Q E h => ?_) (fun cdv A outer s H vs Q E hr h => ?_)
  · obtain ⟨p, n, m, rfl, _⟩ := h
    rfl
  · obtain ⟨p, n, m, rfl, hp, n1, n2, m1, k⟩ := h
    have hu65 : A.units + 3 + 65 < cLine := by
      have := hr.un
      show A.units + 3 + 65 < _
      have z : A.units + 3 + 16 * 1 + 200 < cLine := this
      omega
    refine ⟨_, pss_cons (ps_set (i := 3) sc_joins.nd rfl (Or.inl rfl) (pe_lst pa_nil))
      (pss_cons (ps_for PassesOwn.never rfl (pi_range1 rfl M.range (pa_cons (pe_call G hr (by rfl) mG kG bG .nil pass0 (pa_cons (pv 0) (pa_cons (pe_op op_add (pv 2) pe_int) pa_nil))) pa_nil)) (pg_name (i := 4) sc_joins.nd rfl (Or.inl rfl))
        (pss_cons (ps_par (i := 5) (j := 6) (by rfl) sc_joins.nd rfl rfl (by decide) rfl rfl (pa_cons (pe_call G hr (by rfl) mG kG bG .nil pass0 (pa_cons (pv 0) (pa_cons (pv 1) pa_nil))) (pa_cons (pe_call G hr (by rfl) mG kG bG .nil pass0 (pa_cons (pv 0) (pa_cons (pv 1) pa_nil))) pa_nil)) (by rfl))
        (pss_one (ps_if (PW.pt (pw_and (pt_cmpR op_ne (pv 5) (pv 6) (nomark _)) (pw_and1 (pt_cmpR (op_notInD hu65) (pe_tup (pa_cons (pe_callB (call_min2 rfl) (by rfl) M.min boot_min1 (pa_cons (pv 5) (pa_cons (pv 6) pa_nil)))
            (pa_cons (pe_callB (call_max2 rfl) (by rfl) M.max boot_max1 (pa_cons (pv 5) (pa_cons (pv 6) pa_nil))) pa_nil))) (pv 3) (by rfl)))))
          (pss_one (ps_expr (pe_bm PySem.F.plainAttrs_list PySem.F.slot_list_append PySem.F.type_list_append mt_append (pv 3) (pa_cons (pe_tup (pa_cons (pe_callB (call_min2 rfl) (by rfl) M.min boot_min1 (pa_cons (pv 5) (pa_cons (pv 6) pa_nil)))
            (pa_cons (pe_callB (call_max2 rfl) (by rfl) M.max boot_max1 (pa_cons (pv 5) (pa_cons (pv 6) pa_nil))) pa_nil))) pa_nil)))) pss_nil))))
      (pss_one (ps_ret (pv 3)))), ?_⟩
    refine ⟨by show 0 ≤ sizeLine; decide, fun D nD => ?_⟩
    have pD := hp.ne nD
    refine ⟨_, rfl, _, rfl, _, _, rfl, rfl, p, _, rfl, hp.same (same_upd nD), by omega, by omega, fun r H1 r0 r1 hp1 s1 => ?_⟩
    have sx0 : SameX p H H1 := (Same.x (same_upd nD)).trans (sameX_take s1)
    have d1 : H1 D = some (.lst []) := by
      rw [s1 D pD.symm, upd_same]
    obtain ⟨m', rfl⟩ : ∃ m' : Nat, r = (m' : Int) := ⟨r.toNat, by omega⟩
    refine ⟨m', rfl, by omega, by omega, for_range (n := m') (fun i σ H' => ∃ (o4 o5 o6 : Option V) (ts : List Addr) (es : List (Int × Int)), σ = [some (.ref p), some (.int n), some (.int m), some (.ref D), o4, o5, o6] ∧
      SameX p H H' ∧ PoolAt H' p ∧ H' D = some (.lst (ts.map V.ref)) ∧ TupsAt H' ts es ∧ (∀ e ∈ es, 0 ≤ e.1 ∧ e.1 < e.2 ∧ e.2 < n) ∧ es.Nodup ∧ es.length ≤ i)
      ⟨none, none, none, [], [], rfl, sx0, hp1, d1, ⟨rfl, fun k t e => by simp at e⟩, by simp, by simp, by simp⟩ (fun i σ H' hi h => ?_) (fun σ H' h => ?_)⟩
    · obtain ⟨o4, o5, o6, ts, es, rfl, sx, hpp, hD, ht, g1, g2, g3⟩ := h
      refine ⟨_, rfl, _, rfl, p, _, rfl, hpp, by omega, by omega, fun a H2 a0 a1 hp2 s2 => ?_⟩
      refine ⟨_, rfl, _, rfl, p, _, rfl, hp2, by omega, by omega, fun b H3 b0 b1 hp3 s3 => ?_⟩
      have sx3 : SameX p H' H3 := (sameX_take s2).trans (sameX_take s3)
      have hD3 : H3 D = some (.lst (ts.map V.ref)) := sx3 D _ pD.symm hD
      have ht3 := ht.sameX hpp sx3
      have sxa := sx.trans sx3
      refine ⟨_, _, rfl, ?_⟩
      refine ⟨_, rfl, _, rfl, rfl, _, rfl, ?_⟩
      by_cases c : a = b
      · rw [decide_eq_true (congrArg V.int c)]
        exact iteF ⟨_, _, _, ts, es, rfl, sxa, hp3, hD3, ht3, g1, g2, by omega⟩
      have ne : decide (V.int a = V.int b) = false := decide_eq_false (fun z => by
        injection z with z
        exact c z)
      rw [ne]
      refine iteT ?_
      have em : (if b < a then b else a) = min a b := by
        split <;> omega
      have eM : (if b > a then b else a) = max a b := by
        split <;> omega
      refine ⟨_, rfl, _, rfl, a, b, rfl, _, rfl, _, rfl, a, b, rfl, by show 2 ≤ sizeLine; decide, fun T nT => ?_⟩
      rw [em, eM]
      have hDT := same_upd nT (o := .tup [V.int (min a b), V.int (max a b)]) _ _ hD3
      have htT := ht3.same (same_upd nT (o := .tup [V.int (min a b), V.int (max a b)]))
      have hpT := hp3.same (same_upd nT (o := .tup [V.int (min a b), V.int (max a b)]))
      have sxT : SameX p H (upd H3 T (.tup [V.int (min a b), V.int (max a b)])) := sxa.trans (Same.x (same_upd nT))
      refine ⟨_, rfl, pairD (min a b, max a b), es.map pairD, .tup (SqT.of upd_same) (.cons (.int _) (.cons (.int _) .nil)), .lst (SqL.of hDT) (dpTups htT), rfl, shapedPairs _, _, rfl, ?_⟩
      by_cases hm : (min a b, max a b) ∈ es
      · rw [anyPairT hm]
        exact iteF ⟨_, _, _, ts, es, rfl, sxT, hpT, hDT, htT, g1, g2, by omega⟩
      rw [anyPair hm]
      refine iteT ⟨_, rfl, .inl ⟨rfl, _, SqL.of hDT⟩, _, rfl, _, rfl, a, b, rfl, _, rfl, _, rfl, a, b, rfl, by show 2 ≤ sizeLine; decide, fun U nU => ?_⟩
      rw [em, eM]
      have hDU := same_upd nU (o := .tup [V.int (min a b), V.int (max a b)]) _ _ hDT
      have htU := htT.same (same_upd nU (o := .tup [V.int (min a b), V.int (max a b)]))
      have hpU := hpT.same (same_upd nU (o := .tup [V.int (min a b), V.int (max a b)]))
      have sxU := sxT.trans (Same.x (p := p) (same_upd nU (o := .tup [V.int (min a b), V.int (max a b)])))
      have hU : (upd (upd H3 T (.tup [V.int (min a b), V.int (max a b)])) U (.tup [V.int (min a b), V.int (max a b)])) U = some (.tup [V.int (min a b), V.int (max a b)]) := upd_same
      generalize upd (upd H3 T (.tup [V.int (min a b), V.int (max a b)])) U (.tup [V.int (min a b), V.int (max a b)]) = H5 at hDU htU hpU sxU hU ⊢
      refine ⟨D, _, _, rfl, rfl, hDU, by rw [List.length_map, htU.1, sizeLine_eq]; omega, ?_⟩
      have htP := htU.push (t := U) (e := (min a b, max a b)) hU
      refine ⟨_, _, _, ts ++ [U], es ++ [(min a b, max a b)], rfl, fun q o hq e => ?_, ?_, by rw [upd_same, List.map_append]; rfl, ⟨htP.1, fun k t hk => ?_⟩, fun e he => ?_, ?_, by rw [List.length_append]; show es.length + 1 ≤ _; omega⟩
      · have qD : q ≠ D := fun z => by
          rw [z, nD] at e
          cases e
        rw [upd_ne qD]
        exact sxU q o hq e
      · obtain ⟨c1, c2, z, y⟩ := hpU
        exact ⟨c1, c2, by rw [upd_ne pD]; exact z, y⟩
      · obtain ⟨x, q1, q2⟩ := htP.2 k t hk
        exact ⟨x, q1, by rw [upd_ne (ne_of q2 hDU (by intro y; cases y))]; exact q2⟩
      · rcases List.mem_append.mp he with he | he
        · exact g1 e he
        · rw [List.mem_singleton.mp he]
          show 0 ≤ min a b ∧ min a b < max a b ∧ max a b < n
          omega
      · refine List.nodup_append.mpr ⟨g2, by simp, fun x hx y hy => ?_⟩
        rw [List.mem_singleton.mp hy]
        exact fun z => hm (z ▸ hx)
    · obtain ⟨o4, o5, o6, ts, es, rfl, sx, hpp, hD, ht, g1, g2, g3⟩ := h
      exact ⟨_, rfl, k D H' es nD sx hpp ⟨ts, hD, ht⟩ ⟨g1, g2, by omega⟩⟩
end
/-- lists that stand still whatever becomes of the object at p -/
def NX (p : Addr) (H : Hp) (q : Addr) (N : List (List Int)) : Prop := ∀ H', SameX p H H' → NAt H' q N
theorem SameX.refl {p : Addr} {H : Hp} : SameX p H H := fun _ _ _ e => e
theorem NX.at {p q : Addr} {H : Hp} {N : List (List Int)} (h : NX p H q N) : NAt H q N := h H SameX.refl
theorem NX.same {p q : Addr} {H H' : Hp} {N : List (List Int)} (h : NX p H q N) (s : SameX p H H') : NX p H' q N := fun H2 s2 => h H2 (s.trans s2)
def spTurned (K : PySem.W.Frag) : Sp := fun vs H Q _ => ∃ (nr h : Addr) (N : List (List Int)) (x : List Int) (v : Int), vs = [.ref nr, .ref h, .int v] ∧ NAt H nr N ∧ WF N ∧ H h = some (.lst (x.map V.int)) ∧ x.length = N.length ∧ 0 ≤ v ∧ v < N.length ∧
  ∀ q H', H q = none → Same H H' → H' q = some (.lst ((flipL (N.getD v.toNat []) x v.toNat).map V.int)) → Q (.ref q) H'
section
variable {P : Program} {w : World} {K : PySem.W.Frag} {mg : Str → Option Value} {base : Heap} {CG : Addr}
theorem sc_turned : FnScope ["_law_near_here", "_law_here", "_law_node", "_law_found", "_law_other"] ["_law_near_here", "_law_here", "_law_node"] (defScope s__law_turned) := ⟨rfl, rfl, rfl, by decide +kernel, rfl, by decide +kernel, by decide +kernel⟩
theorem ok_turned {f : Addr} {fd : FuncData} (F : Fun K "_law_turned" "_law_turned" s__law_turned f fd) (M : Nms mg) : FnOk P w K mg base CX0 1 f fd ["_law_near_here", "_law_here", "_law_node"] (spTurned K) := by
  refine F.ok sc_turned (fun vs H Q E h => ?_) (fun cdv A outer s H vs Q E hr h => ?_)
  · obtain ⟨nr, h, N, x, v, rfl, _⟩ := h
    rfl
  · obtain ⟨nr, h, N, x, v, rfl, hN, wf, hx, hl, h0, h1, k⟩ := h
    refine ⟨_, pss_cons (ps_set (i := 3) sc_turned.nd rfl (Or.inl rfl) (pe_callTy call_list_of (by rfl) M.list (by decide +kernel) (pa_cons (pv 1) pa_nil)))
      (pss_cons (ps_for PassesOwn.never rfl (pi_list (pe_ix ix_list (pv 0) (pv 2) (fun _ _ => rfl))) (pg_name (i := 4) sc_turned.nd rfl (Or.inl rfl))
        (pss_one (ps_asg (pe_op op_add (pe_ix ix_list (pv 3) (pv 4) (fun _ _ => rfl)) (pe_ix ix_list (pv 1) (pv 2) (fun _ _ => rfl))) (pg_sub (pv 3) (pv 4) set_list))))
      (pss_cons (ps_asg (pe_op op_sub pe_int (pe_ix ix_list (pv 1) (pv 2) (fun _ _ => rfl))) (pg_sub (pv 3) (pv 2) set_list))
      (pss_one (ps_ret (pv 3))))), ?_⟩
    refine ⟨_, rfl, h, _, rfl, .inl (SqL.of hx), fun p np => ?_⟩
    have sp := same_upd np (o := .lst (x.map V.int))
    have hNp := hN.same sp
    obtain ⟨xs, r, g1, g2, g3⟩ := hNp.row h0 h1
    have hxp := sp _ _ hx
    have wfv := wf v.toNat (by omega)
    have r0 : r ≠ p := by
      obtain ⟨xs', r', q1, q2, q3⟩ := hN.row h0 h1
      obtain rfl : xs = xs' := by
        have z := sp _ _ q1
        rw [g1] at z
        injection z with z
        injection z
      obtain rfl : r = r' := by
        rw [g2] at q2
        injection q2 with q2
        injection q2
      exact ne_of_none q3 np
    have h0p : h ≠ p := ne_of_none hx np
    have pv1 : ∀ H', (∀ b, b ≠ p → H' b = (upd H p (.lst (x.map V.int))) b) → SqL K H' h (x.map V.int) := fun H' e => SqL.of ((e h h0p).trans hxp)
    refine ⟨_, rfl, _, rfl, nr, xs, v, _, rfl, rfl, SqL.of g1, g2, r, rfl, ⟨_, SqL.of g3⟩, for_list (K := K) (a := r) (xs := (N.getD v.toNat []).map V.int) (fun i σ H' => ∃ o4 : Option V, σ = [some (.ref nr), some (.ref h), some (.int v), some (.ref p), o4] ∧
      H' p = some (.lst ((((N.getD v.toNat []).take i).foldl (fun y o => y.set o.toNat (y.getD o.toNat 0 + x.getD v.toNat 0)) x).map V.int)) ∧ ∀ b, b ≠ p → H' b = (upd H p (.lst (x.map V.int))) b)
      ⟨none, rfl, upd_same, fun b _ => rfl⟩ (fun i σ H' _ h => ?_) (fun i y σ H' hi h => ?_) (fun σ H' h => ?_)⟩
    · obtain ⟨o4, _, _, h3⟩ := h
      exact SqL.of ((h3 r r0).trans g3)
    · obtain ⟨o4, rfl, e1, e2⟩ := h
      obtain ⟨o, ho, rfl⟩ := intsAt hi
      have hb := wfv o (List.mem_of_getElem? ho)
      have hl2 := foldSetLen (x.getD v.toNat 0) ((N.getD v.toNat []).take i) x
      have hb' : o < (((N.getD v.toNat []).take i).foldl (fun y o => y.set o.toNat (y.getD o.toNat 0 + x.getD v.toNat 0)) x).length := by
        rw [hl2, hl]
        exact hb.2
      refine ⟨_, rfl, _, rfl, p, _, o, _, rfl, rfl, SqL.of e1, atInt hb.1 hb', _, rfl, _, rfl, h, _, v, _, rfl, rfl, pv1 H' e2, atInt h0 (by rw [hl]; exact h1), _, _, rfl, rfl, ?_⟩
      refine ⟨_, rfl, _, rfl, p, _, o, _, rfl, rfl, e1, ixInt hb.1 hb', ?_⟩
      refine ⟨_, rfl, ?_, fun b hb2 => by rw [upd_ne hb2]; exact e2 b hb2⟩
      rw [upd_same, takeMore ho, List.foldl_append, mapSet]
      rfl
    · obtain ⟨o4, rfl, e1, e2⟩ := h
      rw [List.length_map, List.take_length] at e1
      have hl2 := foldSetLen (x.getD v.toNat 0) (N.getD v.toNat []) x
      refine ⟨_, rfl, _, rfl, h, _, v, _, rfl, rfl, pv1 H' e2, atInt h0 (by rw [hl]; exact h1), _, _, rfl, rfl, ?_⟩
      refine ⟨_, rfl, _, rfl, p, _, v, _, rfl, rfl, e1, ixInt h0 (by rw [hl2, hl]; exact h1), ?_⟩
      refine ⟨_, rfl, k p _ np (fun b o e => ?_) ?_⟩
      · have z := ne_of_none e np
        rw [upd_ne z, e2 b z, upd_ne z]
        exact e
      · rw [upd_same, mapSet]
        unfold flipL
        rw [Int.zero_sub]
end
section
variable {P : Program} {w : World} {K : PySem.W.Frag} {mg : Str → Option Value} {base : Heap} {CG : Addr}
theorem sc_lnear : FnScope ["_law_many", "_law_joins_here", "_law_found", "_law_one", "_law_two", "_law_node", "_law_row_here"] ["_law_many", "_law_joins_here"] (defScope s__law_near) := ⟨rfl, rfl, rfl, by decide +kernel, rfl, by decide +kernel, by decide +kernel⟩
theorem ok_lnear {f : Addr} {fd : FuncData} (F : Fun K "_law_near" "_law_near" s__law_near f fd) (M : Nms mg) : FnOk P w K mg base CX0 1 f fd ["_law_many", "_law_joins_here"] (spNear K) := by
  refine F.ok sc_lnear (fun vs H Q E h => ?_) (fun cdv A outer s H vs Q E hr h => ?_)
  · obtain ⟨n, p, es, rfl, _⟩ := h
    rfl
  · obtain ⟨n, p, es, rfl, hp, ge, hn, k⟩ := h
    refine ⟨_, pss_cons (ps_setLc (i := 2) (own := [("_law_node", 5)]) (g := gName 5) (tt := tYes) (by rfl) sc_lnear.nd rfl rfl (sw_true rfl rfl rfl (by decide +kernel))
      (pi_range1 rfl M.range (pa_cons (pv 0) pa_nil))
      (blkOk_by (own := [("_law_node", 5)]) (N := ["_law_many", "_law_joins_here", "_law_found", "_law_one", "_law_two", "_law_node", "_law_row_here"]) (sc := defScope s__law_near) (by decide +kernel))
      (fun _ _ _ _ _ => pg_name (i := 5) sc_lnear.nd rfl (Or.inl rfl)) (fun _ _ _ _ _ => pts_nil)
      (fun _ _ _ _ _ => pe_lst pa_nil))
      (pss_cons (ps_for PassesOwn.never rfl (pi_list (pe_callB cr_sortedP (by rfl) M.sorted boot_sorted1 (pa_cons (pv 1) pa_nil))) (pg_tup rfl (pgs_cons (pg_name (i := 3) sc_lnear.nd rfl (Or.inl rfl)) (pgs_cons (pg_name (i := 4) sc_lnear.nd rfl (Or.inl rfl)) pgs_nil)))
        (pss_cons (ps_expr (pe_bm PySem.F.plainAttrs_list PySem.F.slot_list_append PySem.F.type_list_append mt_append (pe_ix ix_list (pv 2) (pv 3) (fun _ _ => rfl)) (pa_cons (pv 4) pa_nil)))
        (pss_one (ps_expr (pe_bm PySem.F.plainAttrs_list PySem.F.slot_list_append PySem.F.type_list_append mt_append (pe_ix ix_list (pv 2) (pv 4) (fun _ _ => rfl)) (pa_cons (pv 3) pa_nil))))))
      (pss_one (ps_ret (pe_lc (own := [("_law_row_here", 6)]) (g := gName 6) (tt := tYes) rfl sc_lnear.nd (pi_list (pv 2))
      (blkOk_by (own := [("_law_row_here", 6)]) (N := ["_law_many", "_law_joins_here", "_law_found", "_law_one", "_law_two", "_law_node", "_law_row_here"]) (sc := defScope s__law_near) (by decide +kernel))
      (fun _ _ _ _ _ => pg_name (i := 6) sc_lnear.nd rfl (Or.inl rfl)) (fun _ _ _ _ _ => pts_nil)
      (fun _ _ _ _ _ => pe_callB (show CallR _ (.builtin "sorted") (rSortedI K) from cr_sortedI) (by rfl) M.sorted boot_sorted1 (pa_cons (pv 6) pa_nil)))))), ?_⟩
    obtain ⟨ts, h1, h2⟩ := id hp
    refine ⟨_, rfl, n, rfl, by omega, by omega, fun D hD => ?_⟩
    refine lc_range (lo := 0) (fun i H' => Same H H' ∧ ∃ rs : List Addr, H' D = some (.lst (rs.map V.ref)) ∧ D ∉ rs ∧ (∀ r ∈ rs, H r = none) ∧ Grow H' rs i []) ⟨same_upd hD, [], upd_same, by simp, by simp, rfl, by simp, fun k r e => by simp at e⟩ (fun i H' hi h => ?_) (fun H' h => ?_)
    · obtain ⟨sm, rs, e1, e2, e3, e4⟩ := h
      refine ⟨rfl, ?_⟩
      refine ⟨by show 0 ≤ sizeLine; decide, fun p np => ?_⟩
      have hpD : D ≠ p := ne_of_none e1 np
      refine ⟨_, by rw [upd_ne hpD]; exact e1, by rw [List.length_map, e4.1, sizeLine_eq]; omega, fun b o z => ?_, rs ++ [p], by rw [upd_same, List.map_append]; rfl, ?_, fun r hr' => ?_, ?_⟩
      · rw [upd_ne (ne_of_none z hD), upd_ne (ne_of_none (sm _ _ z) np)]
        exact sm _ _ z
      · intro z
        rcases List.mem_append.mp z with z | z
        · exact e2 z
        · exact hpD (List.mem_singleton.mp z)
      · rcases List.mem_append.mp hr' with z | z
        · exact e3 r z
        · rw [List.mem_singleton.mp z]
          exact sm.free np
      · refine ⟨by rw [List.length_append, e4.1]; rfl, ?_, fun k r hk => ?_⟩
        · refine List.nodup_append.mpr ⟨e4.2.1, by simp, fun a ha b hb => ?_⟩
          rw [List.mem_singleton] at hb
          subst hb
          obtain ⟨k, hk, he⟩ := List.mem_iff_getElem.mp ha
          intro q
          subst q
          have z := e4.2.2 k _ (by rw [List.getElem?_eq_getElem hk, he])
          rw [np] at z
          cases z
        · by_cases hlt : k < rs.length
          · rw [List.getElem?_append_left hlt] at hk
            have z := e4.2.2 k r hk
            have nD : r ≠ D := fun q => e2 (q ▸ List.mem_of_getElem? hk)
            rw [upd_ne nD, upd_ne (ne_of_none z np)]
            exact z
          · rw [List.getElem?_append_right (by omega)] at hk
            have hk' : k = rs.length := by
              have := (List.getElem?_eq_some_iff.mp hk).1
              simp at this
              omega
            subst hk'
            rw [Nat.sub_self] at hk
            obtain rfl : p = r := Option.some.inj hk
            rw [upd_ne hpD.symm, upd_same]
            rfl
    · obtain ⟨sm, rs, e1, e2, e3, e4⟩ := h
      refine ⟨_, rfl, p, _, rfl, SqL.of (sm _ _ h1), fun y hy => ?_, fun ys qs hperm nqs => ?_⟩
      · obtain ⟨t, ht, rfl⟩ := List.mem_map.mp hy
        obtain ⟨k', hk', he'⟩ := List.mem_iff_getElem.mp ht
        obtain ⟨x, q1, q2⟩ := h2.2 k' t (by rw [List.getElem?_eq_getElem hk', he'])
        exact ⟨t, x.1, x.2, rfl, sm _ _ q2⟩
      have h2' := h2.same sm
      obtain ⟨ts', es', rfl, w2, pe⟩ := permTups h2' hperm
      have ge' := ge.perm pe
      have h1s : (upd H' qs (.lst (ts'.map V.ref))) qs = some (.lst (ts'.map V.ref)) := upd_same
      have h2s := w2.same (same_upd nqs (o := .lst (ts'.map V.ref)))
      have smS : Same H (upd H' qs (.lst (ts'.map V.ref))) := sm.trans (same_upd nqs)
      have e1s := same_upd nqs (o := .lst (ts'.map V.ref)) _ _ e1
      have e4s : Grow (upd H' qs (.lst (ts'.map V.ref))) rs n [] := ⟨e4.1, e4.2.1, fun k r hk => same_upd nqs _ _ (e4.2.2 k r hk)⟩
      have e3s : ∀ r ∈ rs, r ≠ qs := fun r hr => by
        obtain ⟨k', hk', he'⟩ := List.mem_iff_getElem.mp hr
        exact ne_of_none (e4.2.2 k' r (by rw [List.getElem?_eq_getElem hk', he'])) nqs
      have nDq : D ≠ qs := ne_of_none e1 nqs
      clear h2 h1 hp
      refine ⟨qs, rfl, ⟨_, SqL.of h1s⟩, for_list (K := K) (a := qs) (xs := ts'.map V.ref) (fun i σ H' => ∃ (o3 o4 : Option V), σ = [some (.int n), some (.ref p), some (.ref D), o3, o4, none, none] ∧
        Same H H' ∧ H' qs = some (.lst (ts'.map V.ref)) ∧ TupsAt H' ts' es' ∧ H' D = some (.lst (rs.map V.ref)) ∧ Grow H' rs n (es'.take i)) ⟨none, none, rfl, smS, h1s, h2s, e1s, e4s⟩ (fun i σ H' _ h => ?_) (fun i y σ H' hi h => ?_) (fun σ H' h => ?_)⟩
      · obtain ⟨_, _, _, sm, hq, _, _⟩ := h
        exact SqL.of hq
      · obtain ⟨o3, o4, rfl, sm, hq, h2, e1, e4⟩ := h
        obtain ⟨t, ht, rfl⟩ := refAt hi
        obtain ⟨e, he, hte⟩ := h2.2 i t ht
        have good := ge'.node e (List.mem_of_getElem? he)
        have few := ge'.few
        have hte' := hte
        have lt := (List.getElem?_eq_some_iff.mp he).1
        obtain ⟨r1, q1, a1, b1⟩ := e4.at (i := e.1) good.1 (by omega)
        obtain ⟨r2, q2, a2, b2⟩ := e4.at (i := e.2) (by omega) good.2.2
        have n12 : r2 ≠ r1 := nodupAt e4.2.1 q2 q1 (by omega)
        have l1 := rowOf_len (es'.take i) e.1
        have l2 := rowOf_len (es'.take i) e.2
        rw [List.length_take] at l1 l2
        have fr1 := e3 r1 (List.mem_of_getElem? q1)
        have fr2 := e3 r2 (List.mem_of_getElem? q2)
        have nD1 : D ≠ r1 := fun q => e2 (q ▸ List.mem_of_getElem? q1)
        have nD2 : D ≠ r2 := fun q => e2 (q ▸ List.mem_of_getElem? q2)
        refine ⟨t, _, rfl, SqT.of hte', rfl, _, _, rfl, _, _, rfl, rfl, ?_⟩
        refine ⟨_, rfl, _, rfl, D, _, e.1, _, rfl, rfl, SqL.of e1, a1, .inl ⟨rfl, _, SqL.of b1⟩, _, rfl, r1, _, _, rfl, rfl, b1, by rw [List.length_map, sizeLine_eq]; omega, ?_⟩
        have e1' : (upd H' r1 (.lst ((rowOf (es'.take i) e.1).map V.int ++ [V.int e.2]))) D = some (.lst (rs.map V.ref)) := by
          rw [upd_ne nD1]
          exact e1
        have b2' : (upd H' r1 (.lst ((rowOf (es'.take i) e.1).map V.int ++ [V.int e.2]))) r2 = some (.lst ((rowOf (es'.take i) e.2).map V.int)) := by
          rw [upd_ne n12]
          exact b2
        refine ⟨_, rfl, _, rfl, D, _, e.2, _, rfl, rfl, SqL.of e1', a2, .inl ⟨rfl, _, SqL.of b2'⟩, _, rfl, r2, _, _, rfl, rfl, b2', by rw [List.length_map, sizeLine_eq]; omega, ?_⟩
        have nq1 := e3s r1 (List.mem_of_getElem? q1)
        have nq2 := e3s r2 (List.mem_of_getElem? q2)
        refine ⟨_, _, rfl, fun b o z => ?_, by rw [upd_ne nq2.symm, upd_ne nq1.symm]; exact hq, ⟨h2.1, fun k t e => ?_⟩, ?_, e4.more he good q1 q2⟩
        · rw [upd_ne (ne_of_none z fr2), upd_ne (ne_of_none z fr1)]
          exact sm _ _ z
        · obtain ⟨x, z1, z2⟩ := h2.2 k t e
          refine ⟨x, z1, ?_⟩
          rw [upd_ne (ne_of z2 b2 (by intro y; cases y)), upd_ne (ne_of z2 b1 (by intro y; cases y))]
          exact z2
        · rw [upd_ne nD2]
          exact e1'
      · obtain ⟨o3, o4, rfl, sm, _, h2, e1, e4⟩ := h
        rw [List.length_map, h2.1, List.take_length] at e4
        refine ⟨_, rfl, D, rfl, ⟨_, SqL.of e1⟩, fun q nq => ?_⟩
        have qD : D ≠ q := ne_of_none e1 nq
        have fqH : H q = none := sm.free nq
        refine lc_list (K := K) (a := D) (xs := rs.map V.ref) (fun i H'' => Same H' H'' ∧ ∃ (ps : List Addr) (L : List (List Int)), H'' q = some (.lst (ps.map V.ref)) ∧ ps.length = i ∧ L.length = i ∧
          (∀ (k : Nat) (r : Addr), ps[k]? = some r → r ≠ q ∧ H r = none ∧ H'' r = some (.lst ((L.getD k []).map V.int))) ∧ (∀ k : Nat, k < i → (L.getD k []).Perm (rowOf es' k)) ∧ ∀ k : Nat, k < i → (L.getD k []).Pairwise (· ≤ ·))
          ⟨same_upd nq, [], [], upd_same, rfl, rfl, fun k r e => by simp at e, fun k e => by omega, fun k e => by omega⟩ (fun i H'' _ h => SqL.of (h.1 _ _ e1)) (fun i x H'' hi h => ?_) (fun H'' h => ?_)
        · obtain ⟨sm2, ps, L, f1, f2, f3, f4, f5, f6⟩ := h
          obtain ⟨r, hr', rfl⟩ := refAt hi
          have hb := e4.2.2 i r hr'
          have hlt : i < n := by
            rw [← e4.1]
            exact (List.getElem?_eq_some_iff.mp hr').1
          refine ⟨rfl, ?_⟩
          refine ⟨_, rfl, r, _, rfl, SqL.of (sm2 _ _ hb), fun ns' t hperm hasc nt => ?_⟩
          have tq : q ≠ t := ne_of_none f1 nt
          refine ⟨_, by rw [upd_ne tq]; exact f1, by rw [List.length_map, f2, sizeLine_eq]; omega, fun b o z => ?_, ps ++ [t], L ++ [ns'], by rw [upd_same, List.map_append]; rfl, by rw [List.length_append, f2]; rfl, by rw [List.length_append, f3]; rfl, fun k r' hk => ?_, fun k hk => ?_, fun k hk => ?_⟩
          · rw [upd_ne (ne_of_none z nq), upd_ne (ne_of_none (sm2 _ _ z) nt)]
            exact sm2 _ _ z
          · by_cases hl : k < ps.length
            · rw [List.getElem?_append_left hl] at hk
              obtain ⟨z1, z0, z2⟩ := f4 k r' hk
              rw [upd_ne z1, upd_ne (ne_of_none z2 nt), getDl (by omega)]
              exact ⟨z1, z0, z2⟩
            · rw [List.getElem?_append_right (by omega)] at hk
              have hk' : k = ps.length := by
                have := (List.getElem?_eq_some_iff.mp hk).1
                simp at this
                omega
              subst hk'
              rw [Nat.sub_self] at hk
              obtain rfl : t = r' := Option.some.inj hk
              rw [upd_ne tq.symm, upd_same, getDe (by omega)]
              exact ⟨tq.symm, sm.free (sm2.free nt), rfl⟩
          · by_cases c : k < i
            · rw [getDl (by omega)]
              exact f5 k c
            · rw [getDe (by omega), show k = i by omega]
              exact hperm
          · by_cases c : k < i
            · rw [getDl (by omega)]
              exact f6 k c
            · rw [getDe (by omega)]
              exact hasc
        · obtain ⟨sm2, ps, L, f1, f2, f3, f4, f5, f6⟩ := h
          rw [List.length_map, e4.1] at f2 f3 f5 f6
          exact k q H'' L fqH (sm.trans sm2) (fun H3 h3 => ⟨ps, h3 q _ fqH f1, by omega, fun k r e => h3 r _ (f4 k r e).2.1 (f4 k r e).2.2⟩) ((show IsNear n es' L from ⟨f3, f5, f6⟩).perm pe)
end
def spNumber : Sp := fun vs H Q _ => ∃ p : Addr, vs = [.ref p] ∧ PoolAt H p ∧ ∀ (r : Int) H', r.natAbs ≤ 100000000000000000000000000000000000000 → SameX p H H' → PoolAt H' p → Q (.int r) H'
def spNumbers : Sp := fun vs H Q _ => ∃ (p : Addr) (n : Nat), vs = [.ref p, .int n] ∧ PoolAt H p ∧ n ≤ 1000 ∧
  ∀ q H' (x : List Int), H q = none → SameX p H H' → PoolAt H' p → H' q = some (.lst (x.map V.int)) → x.length = n → (∀ o ∈ x, o.natAbs ≤ 100000000000000000000000000000000000000) → Q (.ref q) H'
section
variable {P : Program} {w : World} {K : PySem.W.Frag} {mg : Str → Option Value} {base : Heap}
theorem sc_number : FnScope ["_law_pool_here", "_law_far"] ["_law_pool_here"] (defScope s__law_number) := ⟨rfl, rfl, rfl, by decide +kernel, rfl, by decide +kernel, by decide +kernel⟩
theorem ok_number {f : Addr} {fd : FuncData} (F : Fun K "_law_number" "_law_number" s__law_number f fd) (G : At P w K mg base CX0 1 "_law_take" ["_law_pool_here", "_law_sides"] spTake) :
    FnOk P w K mg base CX0 2 f fd ["_law_pool_here"] spNumber := by
  obtain ⟨c, cd, G, mG, kG, bG⟩ := G
  refine F.ok sc_number (fun vs H Q E h => ?_) (fun cdv A outer s H vs Q E hr h => ?_)
  · obtain ⟨p, rfl, _⟩ := h
    rfl
  · obtain ⟨p, rfl, hp, k⟩ := h
    refine ⟨_, pss_cons (ps_set (i := 1) sc_number.nd rfl (Or.inl rfl) (pe_op op_sub (pe_call G hr (by rfl) mG kG bG .nil pass0 (pa_cons (pv 0) (pa_cons (pe_op op_pow pe_int pe_int) pa_nil))) (pe_op op_mul pe_int (pe_op op_pow pe_int pe_int))))
      (pss_one (ps_ret (pe_ix ix_list (pe_lst (pa_cons (pe_op op_sub (pe_call G hr (by rfl) mG kG bG .nil pass0 (pa_cons (pv 0) (pa_cons pe_int pa_nil))) pe_int)
        (pa_cons (pe_op op_sub (pe_call G hr (by rfl) mG kG bG .nil pass0 (pa_cons (pv 0) (pa_cons pe_int pa_nil))) pe_int) (pa_cons pe_int (pa_cons (pv 1) (pa_cons (pe_op op_mulW (pv 1) (pe_op op_pow pe_int pe_int)) pa_nil))))))
        (pe_call G hr (by rfl) mG kG bG .nil pass0 (pa_cons (pv 0) (pa_cons pe_int pa_nil))) (fun _ _ => rfl)))), ?_⟩
    refine ⟨_, rfl, _, _, rfl, rfl, ⟨by decide, by decide, by decide⟩, p, 1000000000000000000, rfl, hp, by decide, by decide, fun r H1 r0 r1 hp1 t1 => ?_⟩
    refine ⟨_, _, rfl, rfl, ⟨by decide, by decide, by decide⟩, _, _, rfl, rfl, .inl ⟨by decide, by decide⟩, _, _, rfl, rfl, ?_⟩
    obtain ⟨far, hfar⟩ : ∃ far : Int, r - 5 * 10 ^ (17 : Int).toNat = far := ⟨_, rfl⟩
    have hb : far.natAbs ≤ 500000000000000000 := by
      have e : (5 : Int) * 10 ^ (17 : Int).toNat = 500000000000000000 := by decide +kernel
      rw [e] at hfar
      omega
    rw [show ((fun i j : Int => V.int (i - j)) r (5 * 10 ^ (17 : Int).toNat)) = V.int far from congrArg V.int hfar]
    refine ⟨_, rfl, p, 9, rfl, hp1, by decide, by decide, fun a H2 a0 a1 hp2 t2 => ⟨_, _, rfl, rfl, ?_⟩⟩
    refine ⟨_, rfl, p, 9, rfl, hp2, by decide, by decide, fun b H3 b0 b1 hp3 t3 => ⟨_, _, rfl, rfl, ?_⟩⟩
    refine ⟨_, rfl, _, rfl, _, _, rfl, rfl, ⟨by decide, by decide, by decide⟩, _, _, rfl, rfl, ?_, by show 5 ≤ sizeLine; decide, fun D nD => ?_⟩
    · exact wide_mul (a := 64) (b := 70) (by omega) (by decide +kernel) (by decide) (by decide) (by decide)
    obtain ⟨H4, q4, s4, h4⟩ := newAt (.lst [V.int (a - 4), V.int (b - 4), V.int 0, V.int far, V.int (far * 10 ^ (20 : Int).toNat)]) nD
    have q4' : upd H3 D (.lst [(fun i j : Int => V.int (i - j)) a 4, (fun i j : Int => V.int (i - j)) b 4, V.int 0, V.int far, (fun i j : Int => V.int (i * j)) far (10 ^ (20 : Int).toNat)]) = H4 := q4
    rw [q4']
    refine ⟨_, rfl, p, 5, rfl, hp3.same s4, by decide, by decide, fun e H5 e0 e1 hp5 t5 => ?_⟩
    have pD : D ≠ p := (hp3.ne nD).symm
    have h5 : H5 D = some (.lst [V.int (a - 4), V.int (b - 4), V.int 0, V.int far, V.int (far * 10 ^ (20 : Int).toNat)]) := (t5 D pD).trans h4
    have sx : SameX p H H5 := ((((sameX_take t1).trans (sameX_take t2)).trans (sameX_take t3)).trans (Same.x s4)).trans (sameX_take t5)
    have e20 : (10 : Int) ^ (20 : Int).toNat = 100000000000000000000 := by decide +kernel
    obtain rfl | rfl | rfl | rfl | rfl : e = 0 ∨ e = 1 ∨ e = 2 ∨ e = 3 ∨ e = 4 := by omega
    · exact ⟨D, _, _, _, rfl, rfl, SqL.of h5, rfl, k _ H5 (by omega) sx hp5⟩
    · exact ⟨D, _, _, _, rfl, rfl, SqL.of h5, rfl, k _ H5 (by omega) sx hp5⟩
    · exact ⟨D, _, _, _, rfl, rfl, SqL.of h5, rfl, k _ H5 (by decide) sx hp5⟩
    · exact ⟨D, _, _, _, rfl, rfl, SqL.of h5, rfl, k _ H5 (by omega) sx hp5⟩
    · refine ⟨D, _, _, _, rfl, rfl, SqL.of h5, rfl, k _ H5 ?_ sx hp5⟩
      rw [e20]
      omega
theorem sc_numbers : FnScope ["_law_pool_here", "_law_many", "_law_node"] ["_law_pool_here", "_law_many"] (defScope s__law_numbers) := ⟨rfl, rfl, rfl, by decide +kernel, rfl, by decide +kernel, by decide +kernel⟩
theorem ok_numbers {f : Addr} {fd : FuncData} (F : Fun K "_law_numbers" "_law_numbers" s__law_numbers f fd) (M : Nms mg) (G : At P w K mg base CX0 2 "_law_number" ["_law_pool_here"] spNumber) :
    FnOk P w K mg base CX0 3 f fd ["_law_pool_here", "_law_many"] spNumbers := by
  obtain ⟨c, cd, G, mG, kG, bG⟩ := G
  refine F.ok sc_numbers (fun vs H Q E h => ?_) (fun cdv A outer s H vs Q E hr h => ?_)
  · obtain ⟨p, n, rfl, _⟩ := h
    rfl
  · obtain ⟨p, n, rfl, hp, n1, k⟩ := h
    refine ⟨_, pss_one (ps_ret (pe_lc (own := [("_law_node", 2)]) (g := gName 2) (tt := tYes) rfl sc_numbers.nd
      (pi_range1 rfl M.range (pa_cons (pv 1) pa_nil))
      (blkOk_by (own := [("_law_node", 2)]) (N := ["_law_pool_here", "_law_many", "_law_node"]) (sc := defScope s__law_numbers) (by decide +kernel))
      (fun _ _ _ _ _ => pg_name (i := 2) sc_numbers.nd rfl (Or.inl rfl)) (fun _ _ _ _ _ => pts_nil)
      (fun _ _ _ _ _ => pe_call G hr (by rfl) mG kG bG .nil pass0 (pa_cons (pv 0) pa_nil)))), ?_⟩
    refine ⟨_, rfl, n, rfl, by omega, by omega, fun D hD => ?_⟩
    have pD := hp.ne hD
    refine lc_range (lo := 0) (fun i H' => SameX p H H' ∧ PoolAt H' p ∧ ∃ x : List Int, H' D = some (.lst (x.map V.int)) ∧ x.length = i ∧ ∀ o ∈ x, o.natAbs ≤ 100000000000000000000000000000000000000)
      ⟨Same.x (same_upd hD), hp.same (same_upd hD), [], upd_same, rfl, by simp⟩ (fun i H' hi h => ?_) (fun H' h => ?_)
    · obtain ⟨sx, hpp, x, e1, e2, e3⟩ := h
      refine ⟨rfl, ?_⟩
      refine ⟨_, rfl, p, rfl, hpp, fun r H2 hr2 s2 hp2 => ?_⟩
      have hD2 : H2 D = some (.lst (x.map V.int)) := s2 _ _ pD.symm e1
      refine ⟨_, hD2, by rw [List.length_map, e2, sizeLine_eq]; omega, fun b o hb e => ?_, ?_, x ++ [r], by rw [upd_same, List.map_append]; rfl, by rw [List.length_append, e2]; rfl, fun o ho => ?_⟩
      · rw [upd_ne (ne_of_none e hD)]
        exact s2 _ _ hb (sx b o hb e)
      · obtain ⟨c1, c2, z, y⟩ := hp2
        exact ⟨c1, c2, by rw [upd_ne pD]; exact z, y⟩
      · rcases List.mem_append.mp ho with ho | ho
        · exact e3 o ho
        · rw [List.mem_singleton.mp ho]
          exact hr2
    · obtain ⟨sx, hpp, x, e1, e2, e3⟩ := h
      exact k D H' x hD sx hpp e1 (by omega) e3
end
structure Shw (k L : Nat) (d : PyData) : Prop where
  ok : d.showable = true
  deep : d.depth ≤ k
  len : d.shown.length ≤ L
theorem Shw.mono {k L k' L' : Nat} {d : PyData} (h : Shw k L d) (hk : k ≤ k') (hl : L ≤ L') : Shw k' L' d := ⟨h.ok, Nat.le_trans h.deep hk, Nat.le_trans h.len hl⟩
theorem textFrom_le : ∀ (ts : List Str) (k : Nat) (acc : Str), (textFrom k acc ts).length ≤ acc.length + piled ts
  | [], _, acc => by show acc.length ≤ acc.length + _; omega
  | t :: r, k, acc => by
    have h1 := textFrom_le r (k + 1) (acc ++ (if k > 0 then ", " else "" : String) ++ t)
    have e : (acc ++ (if k > 0 then ", " else "" : String) ++ t).length = acc.length + (if k > 0 then 2 else 0) + t.length := by
      rw [strLen_append, strLen_append]
      split <;> rfl
    have e2 : (if k > 0 then 2 else 0 : Nat) ≤ 2 := by split <;> decide
    rw [e] at h1
    rw [piled_cons]
    show (textFrom (k + 1) (acc ++ (if k > 0 then ", " else "" : String) ++ t) r).length ≤ _
    omega
theorem listText_le (ts : List Str) : (listText ts).length ≤ piled ts + 2 := by
  have h := textFrom_le ts 0 "["
  have e : (listText ts).length = (textFrom 0 "[" ts).length + 1 := by
    unfold listText
    rw [strLen_append]
    rfl
  have e1 : ((("[" : String) : Str)).length = 1 := rfl
  omega
theorem tupleText_le (ts : List Str) : (tupleText ts).length ≤ piled ts + 3 := by
  have e : (tupleText ts).length = 1 + (Str.join ", " ts).length + (((if ts.length == 1 then ",)" else ")" : String) : Str)).length := by
    unfold tupleText
    rw [strLen_append, strLen_append]
    rfl
  have e3 : (((if ts.length == 1 then ",)" else ")" : String) : Str)).length ≤ 2 := by split <;> decide
  cases ts with
  | nil =>
    have z : (Str.join ", " ([] : List Str)).length = 0 := rfl
    omega
  | cons t r =>
    have z := join_length_add (t :: r) (by simp)
    omega
theorem shownAll_map : ∀ es : List PyData, PyData.shownAll es = es.map PyData.shown
  | [] => by simp only [PyData.shownAll, List.map_nil]
  | e :: es => by simp only [PyData.shownAll, List.map_cons, shownAll_map es]
theorem piled_le {L : Nat} : ∀ {es : List PyData}, (∀ e ∈ es, e.shown.length ≤ L) → piled (es.map PyData.shown) ≤ (L + 2) * es.length
  | [], _ => Nat.zero_le _
  | e :: es, h => by
    have h1 := h e List.mem_cons_self
    have h2 := piled_le (es := es) fun x hx => h x (List.mem_cons_of_mem _ hx)
    rw [List.map_cons, piled_cons, List.length_cons, Nat.mul_succ]
    omega
theorem showAll_of : ∀ {es : List PyData}, (∀ e ∈ es, e.showable = true) → PyData.showableAll es = true
  | [], _ => by simp only [PyData.showableAll]
  | e :: es, h => by simp only [PyData.showableAll, h e List.mem_cons_self, showAll_of (es := es) fun x hx => h x (List.mem_cons_of_mem _ hx), Bool.and_self]
theorem deepAll_of {k : Nat} : ∀ {es : List PyData}, (∀ e ∈ es, e.depth ≤ k) → PyData.depthAll es ≤ k
  | [], _ => by simp only [PyData.depthAll]; omega
  | e :: es, h => by
    have h1 := h e List.mem_cons_self
    have h2 := deepAll_of (es := es) fun x hx => h x (List.mem_cons_of_mem _ hx)
    simp only [PyData.depthAll]
    omega
theorem shwList {k L m : Nat} {es : List PyData} (h : ∀ e ∈ es, Shw k L e) (hm : es.length ≤ m) : Shw (k + 1) ((L + 2) * m + 2) (.list es) := by
  refine ⟨?_, ?_, ?_⟩
  · simp only [PyData.showable]
    exact showAll_of fun e he => (h e he).ok
  · have z := deepAll_of (k := k) fun e he => (h e he).deep
    simp only [PyData.depth]
    omega
  · simp only [PyData.shown]
    rw [shownAll_map]
    have z := listText_le (es.map PyData.shown)
    have y := piled_le (L := L) (es := es) fun e he => (h e he).len
    have x := Nat.mul_le_mul_left (L + 2) hm
    omega
theorem shwTup {k L m : Nat} {es : List PyData} (h : ∀ e ∈ es, Shw k L e) (hm : es.length ≤ m) : Shw (k + 1) ((L + 2) * m + 3) (.tuple es) := by
  refine ⟨?_, ?_, ?_⟩
  · simp only [PyData.showable]
    exact showAll_of fun e he => (h e he).ok
  · have z := deepAll_of (k := k) fun e he => (h e he).deep
    simp only [PyData.depth]
    omega
  · simp only [PyData.shown]
    rw [shownAll_map]
    have z := tupleText_le (es.map PyData.shown)
    have y := piled_le (L := L) (es := es) fun e he => (h e he).len
    have x := Nat.mul_le_mul_left (L + 2) hm
    omega
theorem intLen {i : Int} {k : Nat} (hk : 0 < k) (h : i.natAbs < 10 ^ k) : (Str.ofString (toString i)).length ≤ k + 1 := by
  by_cases c : 0 ≤ i
  · have z := toString_length_le (v := i) c hk (by
      have e : i = (i.natAbs : Int) := by omega
      rw [e]
      exact_mod_cast h)
    omega
  · obtain ⟨m, rfl⟩ : ∃ m, i = Int.negSucc m := ⟨(-i - 1).toNat, by omega⟩
    have z := toString_length_le (v := ((m + 1 : Nat) : Int)) (by omega) hk (by exact_mod_cast h)
    have e : toString (Int.negSucc m) = "-" ++ toString (((m + 1 : Nat) : Int)) := rfl
    rw [e]
    have q : ∀ a b : String, (Str.ofString (a ++ b)).length = (Str.ofString a).length + (Str.ofString b).length := fun a b => by
      rw [Str.ofString_eq_toList, Str.ofString_eq_toList, Str.ofString_eq_toList]
      simp [Str.length]
    rw [q]
    have o : (Str.ofString "-").length = 1 := rfl
    omega
theorem shwInt {i : Int} (h : i.natAbs < 10 ^ 12) : Shw 0 13 (.int i) := by
  refine ⟨?_, ?_, ?_⟩
  · simp only [PyData.showable]
    refine decide_eq_true ?_
    have z : i.natAbs.log2 ≤ 40 := by
      by_cases c : i.natAbs = 0
      · rw [c]
        decide
      · exact Nat.le_of_lt_succ ((Nat.log2_lt c).mpr (Nat.lt_of_lt_of_le h (by decide)))
    omega
  · simp only [PyData.depth]
    omega
  · simp only [PyData.shown]
    exact intLen (by decide) h
def Bd (C : Nat) (x : List Int) : Prop := ∀ z ∈ x, z.natAbs ≤ C
theorem Bd.getD {C : Nat} {x : List Int} (h : Bd C x) (i : Nat) : (x.getD i 0).natAbs ≤ C := by
  rw [List.getD_eq_getElem?_getD]
  cases e : x[i]? with
  | none => exact Nat.zero_le _
  | some z => exact h z (List.mem_of_getElem? e)
theorem Bd.mono {C D : Nat} {x : List Int} (h : Bd C x) (d : C ≤ D) : Bd D x := fun z hz => Nat.le_trans (h z hz) d
theorem Bd.set {C : Nat} {x : List Int} (h : Bd C x) {i : Nat} {v : Int} (hv : v.natAbs ≤ C) : Bd C (x.set i v) := fun z hz => by
  rcases List.mem_or_eq_of_mem_set hz with hz | rfl
  · exact h z hz
  · exact hv
theorem Bd.fold {B : Nat} {c : Int} (hc : c.natAbs ≤ B) : ∀ (row y : List Int) (C : Nat), Bd C y → Bd (C + row.length * B) (row.foldl (fun y o => y.set o.toNat (y.getD o.toNat 0 + c)) y)
  | [], y, C, h => by
    rw [List.foldl_nil]
    exact h.mono (by omega)
  | o :: row, y, C, h => by
    rw [List.foldl_cons]
    have z := Bd.fold hc row (y.set o.toNat (y.getD o.toNat 0 + c)) (C + B) ((h.mono (by omega)).set (by
      have q := h.getD o.toNat
      omega))
    refine z.mono ?_
    rw [List.length_cons, Nat.add_mul]
    omega
theorem Bd.flip {C : Nat} {row x : List Int} {v : Nat} (h : Bd C x) (hr : row.length ≤ 80) : Bd (81 * C) (flipL row x v) := by
  have hv := h.getD v
  have z := Bd.fold (c := x.getD v 0) hv row x C h
  have y := Nat.mul_le_mul_right C hr
  refine (z.mono ?_).set ?_
  · omega
  · omega
def cnt (N : List (List Int)) (i j : Nat) : Int := (((N.getD i []).count (j : Int) : Nat) : Int)
structure Sym (N : List (List Int)) : Prop where
  wf : WF N
  sym : ∀ i j, i < N.length → j < N.length → cnt N i j = cnt N j i
  self : ∀ i, i < N.length → cnt N i i = 0
  one : ∀ i j, i < N.length → cnt N i j = 0 ∨ cnt N i j = 1
theorem oneCount (u v k l : Int) : List.count l (if u = k then [v] else []) = (if u = k ∧ v = l then 1 else 0) := by
  by_cases c : u = k
  · by_cases d : v = l
    · rw [if_pos c, if_pos (And.intro c d), d, List.count_singleton_self]
    · rw [if_pos c, if_neg (fun z => d z.2)]
      exact List.count_eq_zero.mpr (fun z => d (List.mem_singleton.mp z).symm)
  · rw [if_neg c, if_neg (fun z => c z.1)]
    rfl
theorem rowCount : ∀ (es : List (Int × Int)) (i j : Int), ((rowOf es i).count j) = (rowOf es j).count i
  | [], _, _ => rfl
  | e :: es, i, j => by
    have q : ∀ k : Int, rowOf (e :: es) k = ((if e.1 = k then [e.2] else []) ++ (if e.2 = k then [e.1] else [])) ++ rowOf es k := fun _ => rfl
    rw [q i, q j, List.count_append, List.count_append, List.count_append, List.count_append, rowCount es i j]
    rw [oneCount, oneCount, oneCount, oneCount]
    congr 1
    split <;> split <;> split <;> split <;> omega
theorem rowLe : ∀ (es : List (Int × Int)) (i j : Int), es.Nodup → (∀ e ∈ es, e.1 < e.2) → (rowOf es i).count j ≤ 1 ∧ (i = j → (rowOf es i).count j = 0) ∧ ((rowOf es i).count j = 1 ↔ ((min i j, max i j) ∈ es))
  | [], _, _, _, _ => ⟨Nat.zero_le _, fun _ => rfl, ⟨fun z => (by cases z), fun z => (by cases z)⟩⟩
  | e :: es, i, j, hn, ha => by
    have q : rowOf (e :: es) i = ((if e.1 = i then [e.2] else []) ++ (if e.2 = i then [e.1] else [])) ++ rowOf es i := rfl
    obtain ⟨h1, h2⟩ := List.nodup_cons.mp hn
    obtain ⟨r1, r2, r3⟩ := rowLe es i j h2 fun u hu => ha u (List.mem_cons_of_mem _ hu)
    have lt := ha e List.mem_cons_self
    rw [q, List.count_append, List.count_append, oneCount, oneCount]
    by_cases c : e = (min i j, max i j)
    · have hno : (rowOf es i).count j = 0 := by
        rcases Nat.eq_zero_or_pos ((rowOf es i).count j) with z | z
        · exact z
        · exact absurd (r3.mp (by omega)) (c ▸ h1)
      have e1 : e.1 = min i j := by rw [c]
      have e2 : e.2 = max i j := by rw [c]
      have tot : (if e.1 = i ∧ e.2 = j then 1 else 0 : Nat) + (if e.2 = i ∧ e.1 = j then 1 else 0) = 1 := by
        by_cases d : i < j
        · rw [if_pos (by omega), if_neg (by omega)]
        · rw [if_neg (by omega), if_pos (by omega)]
      rw [tot, hno]
      exact ⟨by omega, fun z => by omega, ⟨fun _ => c ▸ List.mem_cons_self, fun _ => rfl⟩⟩
    · have n1 : ¬ (e.1 = i ∧ e.2 = j) := fun z => c (by
        rw [show e = (e.1, e.2) from rfl, z.1, z.2]
        have : min i j = i := by omega
        have : max i j = j := by omega
        rw [‹min i j = i›, ‹max i j = j›])
      have n2 : ¬ (e.2 = i ∧ e.1 = j) := fun z => c (by
        rw [show e = (e.1, e.2) from rfl, z.1, z.2]
        have : min i j = j := by omega
        have : max i j = i := by omega
        rw [‹min i j = j›, ‹max i j = i›])
      rw [if_neg n1, if_neg n2, Nat.zero_add]
      refine ⟨r1, r2, r3.trans ⟨fun z => List.mem_cons_of_mem _ z, fun z => ?_⟩⟩
      rcases List.mem_cons.mp z with z | z
      · exact absurd z.symm c
      · exact z
theorem IsNear.symm {n : Nat} {es : List (Int × Int)} {N : List (List Int)} (h : IsNear n es N) (g : GoodE n es) : Sym N := by
  have c : ∀ i j, i < N.length → cnt N i j = (((rowOf es (i : Int)).count (j : Int) : Nat) : Int) := fun i j hi => by
    unfold cnt
    rw [(h.row i (by rw [← h.len]; exact hi)).count_eq]
  have lt : ∀ e ∈ es, e.1 < e.2 := fun e he => (g.node e he).2.1
  refine ⟨h.wf g.node, fun i j hi hj => ?_, fun i hi => ?_, fun i j hi => ?_⟩
  · rw [c i j hi, c j i hj, rowCount]
  · rw [c i i hi, (rowLe es i i g.once lt).2.1 rfl]
    rfl
  · rw [c i j hi]
    have z := (rowLe es (i : Int) (j : Int) g.once lt).1
    omega
theorem IsNear.edge {n : Nat} {es : List (Int × Int)} {N : List (List Int)} (h : IsNear n es N) (g : GoodE n es) {i j : Nat} (hi : i < N.length) : cnt N i j = 1 ↔ (min (i : Int) j, max (i : Int) j) ∈ es := by
  unfold cnt
  rw [(h.row i (by rw [← h.len]; exact hi)).count_eq, ← (rowLe es (i : Int) (j : Int) g.once fun e he => (g.node e he).2.1).2.2]
  omega
end K72
set_option Elab.async false
set_option linter.all false
set_option maxRecDepth 100000
set_option maxHeartbeats 4000000
namespace FNX
open PySem PySem.Spec PyProof.Rows L2
theorem takes_len {X : Cx} {W : WX} (tk : Takes X W) : Takes X (fun cls d σ H => σ.length = X.N.length → W cls d σ H) := fun e s' x => tk e s' (by
  obtain ⟨a, B, sI, pins, σ, H, cls, d, h1, J, h2, h3, h4, h5, h6, h7, w⟩ := x
  exact ⟨a, B, sI, pins, σ, H, cls, d, h1, J, h2, h3, h4, h5, h6, h7, w J.len⟩)
theorem len3 {α : Type} {l : List α} (h : l.length = 3) : ∃ a b c, l = [a, b, c] := by
  match l, h with
  | [a, b, c], _ => exact ⟨a, b, c, rfl⟩
def SameN (p : Addr) (H H' : Hp) : Prop := ∀ b o, b ≠ p → (∀ ps, o ≠ .tbl ps) → H b = some o → H' b = some o
theorem SameN.refl {p : Addr} {H : Hp} : SameN p H H := fun _ _ _ _ e => e
theorem SameN.trans {p : Addr} {H H1 H2 : Hp} (a : SameN p H H1) (b : SameN p H1 H2) : SameN p H H2 := fun c o n m e => b c o n m (a c o n m e)
theorem Same.n {p : Addr} {H H1 : Hp} (a : Same H H1) : SameN p H H1 := fun c o _ _ e => a c o e
theorem ExtN.n {p : Addr} {H H1 : Hp} (a : LamX.ExtN H H1) : SameN p H H1 := fun c o _ m e => a c o e m
theorem Same.tabs {T : List (Addr × Str)} {H H' : Hp} (s : Same H H') (t : LamX.Tabs T H) : LamX.Tabs T H' := t.ext s
end FNX
namespace FNX
open PySem PySem.Spec PyProof.Rows L2
/-- a def with doors, as the top has left it -/
def FnC (K : PySem.W.Frag) (mg : Str → Option Value) (x : Str) (st : Stmt) (f c Pt : Addr) : Prop := mg x = some (.ref f) ∧ (∃ fd, FunC K x x st f fd c) ∧ Door K mg [x] x c Pt
theorem mkFC {K : PySem.W.Frag} {h : Heap} {mg : Str → Option Value} {x : Str} {st : Stmt} {f c Pt : Addr} {oc kV doc pm ct e : Value} {od an dd : Option Addr} {sl slc : Array (Option Value)} {us : Array Value} (X : K.In h) (G : h.Ns mainGlobals mg) (a1 : PySem.W.nsIn K mainGlobals x = some (some (.ref f)))
    (l1 : K.lookup f = some ⟨oc, od, .func (PySem.W.fnOf x x (defArgs st) (defBody st) (defScope st) .none kV doc pm an (.ref c) ct), sl⟩) (lc : K.lookup c = some ⟨e, dd, .fields us, slc⟩)
    (c1 : PySem.W.codeIn K (.ref c) x = true) (kf : PySem.W.keepIn K (.ref f) = true) (u11 : us[11]? = some (.ref Pt)) (hd : PySem.W.codeHdIn K c Pt = true) (no : K.lookup Pt = none) : FnC K mg x st f c Pt :=
  ⟨PySem.W.mg_of X G a1, ⟨_, ⟨oc, od, kV, doc, pm, an, ct, sl, rfl, l1, c1⟩, kf⟩, ⟨List.mem_singleton.mpr rfl, ⟨f, _, _, e, dd, us, slc, PySem.W.mg_of X G a1, l1, rfl, rfl, lc, u11⟩, hd, no⟩⟩
end FNX
namespace FNX
open PySem PySem.Spec PyProof.Rows L2
theorem walkGK {l : PySem.W.OpenLaw} {n k : Nat} {q : Program} {loose : List Str} {XP : (Str → Option Value) → Heap → Prop} {YP : World → Heap → Prop} {d : DefRec} {K : Params → PySem.W.Frag} {x : Str} (sp : PySem.W.Frag → List (Addr × Addr) → Sp) (xs : List Str)
    (hn : l.most = some n) (hn2 : n ≤ sizeLine) (hdf : d.params.defaults = []) (hr : Room k callerA) (hxs : xs.all (fun y => (recsOf q).any fun e => e.name == y) = true) (hY : ∀ (w : World) (h : Heap), YP w h → (K w.params).In h)
    (F : ∀ (w : World) (mg : Str → Option Value) (fa : Addr) (h : Heap), (K w.params).In h → h.Ns mainGlobals mg → mg d.name = some (.ref fa) →
      ∃ (fd : FuncData) (cs : List (Addr × Addr)), (∀ p ∈ cs, ∃ y, Door (K w.params) mg xs y p.1 p.2) ∧ (∀ (s : Shared) (u : Value), BindsTo s fd ⟨[u], []⟩ [(x, u)]) ∧
        (∀ (H : Hp) (a : Addr) (ns : List Int), ns.length ≤ n → (∀ p ∈ cs, H p.2 = some (.tbl #[])) → SqL (K w.params) H a (ns.map V.int) → sp (K w.params) cs [.ref a] H (fun v _ => v = .bl true) fun _ _ _ => False) ∧
        ∀ base : Heap, (K w.params).In base → base.Ns mainGlobals mg → (∀ p ∈ cs, LamX.TabB base mg p.1 p.2) → GOk l.prog w (K w.params) mg base k fa fd [x] (sp (K w.params) cs)) :
    PySem.W.WalkO q loose XP YP l.row.toRowW d [] (fun f vs => PySem.call f vs) := walkGT (sp := fun w cs => sp (K w.params) cs) xs hn hn2 hdf hr hxs hY F
end FNX
namespace FNX
open PySem PySem.Spec PyProof.Rows L2
theorem FunC.fn {K : PySem.W.Frag} {x qual : Str} {st : Stmt} {f c : Addr} {fd : FuncData} (F : FunC K x qual st f fd c) : Fun K x qual st f fd := by
  obtain ⟨oc, od, kV, doc, pm, an, ct, osl, e, lk, hcd⟩ := F.ex
  exact ⟨⟨oc, od, kV, doc, pm, an, .ref c, ct, osl, e, lk, hcd⟩, F.kp⟩
theorem Door.more {K : PySem.W.Frag} {mg : Str → Option Value} {xs ys : List Str} {x : Str} {c Pt : Addr} (D : Door K mg xs x c Pt) (h : x ∈ ys) : Door K mg ys x c Pt := ⟨h, D.fn, D.hd, D.no⟩
end FNX
set_option Elab.async false
set_option linter.all false
set_option maxRecDepth 100000
set_option maxHeartbeats 4000000
namespace FNX
open PySem PySem.Spec PyProof.Rows L2
abbrev MkC := V → PyData → Hp → (V → Hp → Prop) → Prop
/-- [word, repr(e.value)] -/
def mkR (word : Str) : MkC := fun _ d H Q => d.showable = true ∧ d.depth ≤ 60 ∧ d.shown.length ≤ sizeLine ∧ ∀ p, H p = none → Q (.ref p) (upd H p (.lst [.str word, .str d.shown]))
/-- [word, e.value] -/
def mkV (word : Str) : MkC := fun v _ H Q => ∀ p, H p = none → Q (.ref p) (upd H p (.lst [.str word, v]))
def wErrG (K : PySem.W.Frag) (Q : VK) : List (Addr × MkC) → XK
  | [] => fun _ _ _ => False
  | q :: r => fun cls d H => ∃ b, PySem.W.exmOne K cls (.ref q.1) = some b ∧
      (b = true → cls = .ref q.1 ∧ ∃ (dd : Addr) (v : V) (dt : PyData), d = some dd ∧ H dd = some (.xd [(("value" : Str), v)]) ∧ Rd K H v dt ∧ q.2 v dt H Q) ∧
      (b = false → wErrG K Q r cls d H)
def tDoorV (f c' : Addr) (q : Str) (word : Str) (tl : XK → Hp → VK → Prop) : WX → TS := fun W D σ H =>
  ∃ Ech : XK, (∀ cls d H' σ', Ech cls d H' → σ'.length = 3 → W cls d σ' H') ∧ tAsg (tLst (tCons (tC (.str word)) (tCons (fun σZ HZ Q => σZ[0]? = some (some (.ref f)) ∧ HZ c' = some (LamX.CodeO c' q) ∧ tl Ech HZ Q) tNil))) (gName 1) D σ H
end FNX
set_option Elab.async false
set_option linter.all false
set_option maxRecDepth 100000
set_option maxHeartbeats 4000000
namespace FNX
open PySem PySem.Spec PyProof.Rows L2
end FNX
set_option Elab.async false
set_option linter.all false
set_option maxRecDepth 100000
set_option maxHeartbeats 4000000
namespace FNX
open PySem PySem.Spec PyProof.Rows L2
section
variable {X : Cx} {n : Nat} {D : Eqv}
/-- len of an instance with an own __len__ -/
def rLenI (C : Addr) (sp : Sp) (E : XK) : List V → Hp → VK → Prop := fun vs H Q => ∃ a dx fs, vs = [.ref a] ∧ H a = some (.ins C dx fs) ∧ sp [.ref a] H (fun v H' => ∃ n : Int, v = .int n ∧ 0 ≤ n ∧ n < 2 ^ 63 ∧ Q (.int n) H') E
theorem call_lenI {CX : CXT} {C f : Addr} {fd : FuncData} {ps : List Str} {sp : Sp} {E : XK} (F : FnOk X.prog X.w X.K X.mg X.base CX n f fd ps sp)
    (hs : PySem.W.findIn X.K (.ref C) "__len__" = some (some (.ref f))) (hf : PySem.W.isFn X.K (.ref f) = true) (hb : L2.Binds X.K fd ps []) (hx : Passes CX X E) (hr : Room (n + 1) X.A) : CallR X (.builtin "len") (rLenI C sp E) := by
  intro pins s σ H xs us Q I r h
  obtain ⟨a, dx, fs, rfl, ha, hsp⟩ := h
  cases r with
  | cons r1 r2 =>
    cases r2
    cases r1
    obtain ⟨mA, J, _⟩ := ins_get I.hok ha
    obtain ⟨od, J, _⟩ := J.look
    obtain ⟨m, hF⟩ := I.fr
    refine PySem.W.len_K hF I.ok.mod.kin J hs hf ?_
    have sb : Sub X n X.A.in1 := Sub.in1 ⟨hr, rfl⟩
    have e0 : Env0 X.prog X.w X.K X.mg X.base X.A.in1 X.stack s H := by
      have e := I.env0
      exact ⟨by rw [sb.fr]; exact e.frames, e.mod, e.bs, e.bsz, e.funs, e.frf, e.hok, e.bare⟩
    have hl := F.len _ _ _ _ hsp
    have r3 : Vals [V.ref a] [Value.ref a] := .cons rfl .nil
    refine wpAny_call (codeAny_mono (F.run X.A.in1 X.stack s H ⟨[.ref a], []⟩ [.ref a] [.ref a] _ E sb.room e0 (by
      have := hb s [.ref a] I.kIn (by simpa using hl)
      simpa using this) r3 hsp) fun r s' hq => ?_)
    cases r with
    | error e => exact hx pins σ H s e s' I hq
    | ok fl =>
      cases fl with
      | ret w =>
        obtain ⟨z, H', I', rz, n', ez, n0, n1, q⟩ := I.after hq
        subst ez
        obtain ⟨tk, rfl⟩ := rz
        refine ⟨⟨n0, n1⟩, .int n', H', I'.un (t' := s'.toks + 1) (Un.kept fun _ _ z => z) (I'.hok.kept fun _ _ z => z), ⟨_, rfl⟩, q⟩
      | next => exact False.elim hq
      | brk => exact False.elim hq
      | cont => exact False.elim hq
end
end FNX
set_option Elab.async false
set_option linter.all false
set_option maxRecDepth 100000
set_option maxHeartbeats 4000000
namespace FNX
open PySem PySem.Spec PyProof.Rows L2
end FNX
set_option Elab.async false
set_option linter.all false
set_option maxRecDepth 100000
set_option maxHeartbeats 4000000
namespace FNX
open PySem PySem.Spec PyProof.Rows L2
end FNX
namespace FNX
open PySem PySem.Spec PyProof.Rows L2
/-- data, or a dict of one pair of ints -/
def RdU (K : PySem.W.Frag) (H : Hp) (v : V) (d : PyData) : Prop := Rd K H v d ∨ ∃ (a : Addr) (i j n : Int), v = .ref a ∧ H a = some (.dT [([Sum.inl i, Sum.inl j], .int n)]) ∧ d = .dict [(.tuple [.int i, .int j], .int n)]
theorem RdU.same {K : PySem.W.Frag} {H H' : Hp} (s : Same H H') {v : V} {d : PyData} (h : RdU K H v d) : RdU K H' v d := by
  rcases h with h | ⟨a, i, j, n, rfl, h, rfl⟩
  · exact .inl (rdSame s h)
  · exact .inr ⟨a, i, j, n, rfl, s _ _ h, rfl⟩
end FNX
set_option Elab.async false
set_option linter.all false
set_option maxRecDepth 100000
set_option maxHeartbeats 4000000
namespace FNX
open PySem PySem.Spec PyProof.Rows L2
end FNX
set_option Elab.async false
set_option linter.all false
set_option maxRecDepth 100000
set_option maxHeartbeats 4000000
namespace FNX
open PySem PySem.Spec PyProof.Rows L2
/-- of several defs that the slot may hold: the promise goes with the address -/
def tCallAS (i : Nat) (S : Addr → Sp → Prop) (E : XK) (t : TA) : TE := fun σ H Q => ∃ f sp, σ[i]? = some (some (.ref f)) ∧ S f sp ∧ t σ H fun vs H1 => sp vs H1 Q E
section
variable {X : Cx} {CX : CXT} {k i : Nat} {E : XK} {x : Str} {p pos : Pos} {e : Expr} {es : List Expr} {t : TA}
theorem pe_callAS {S : Addr → Sp → Prop} (A : ∀ f sp, S f sp → FnR X.prog X.w X.K X.mg X.base CX k f sp ∧ PySem.W.keepIn X.K (.ref f) = true) (hr : Room k X.A) (hN : X.N[i]? = some x) (hv : Vis X.env.scope x) (hx : Passes CX X E) (ha : PA X (e :: es) t)
    (hdb : (x == ("__debug__" : Str)) = false := by decide) (hcd : (x == ("__classdict__" : Str)) = false := by decide)
    (he : starEach (e :: es) X.env = (false, eval e X.env) :: starEach es X.env := by rfl) (hst : (backTo pos (starEach es X.env)).any (·.1) = true := by rfl) : PE X (.Call (.Name x p) (e :: es) [] pos) (tCallAS i S E t) := by
  refine ⟨fun pins s σ H Q I h => ?_⟩
  obtain ⟨f, sp, hs, hS, ht⟩ := h
  obtain ⟨F, hk⟩ := A f sp hS
  refine wpAny_Call_Name_kw (thn ((pe_var (pos := p) hN hv hdb hcd).run pins s σ H (fun v H1 => v = .ref f ∧ H1 = H) I ⟨.ref f, hs, rfl, rfl⟩) fun u s1 ⟨v, H1, I1, r1, q1⟩ => ?_)
  obtain ⟨rfl, rfl⟩ := q1
  cases r1
  refine PySem.W.callWith_S2 (h₀ := X.base) I.ok.mod.kin hk (thn (ha.run pos pins s1 σ _ _ I1 ht) fun us s2 ⟨vs, H2, I2, r, q⟩ => ⟨I2.kIn, ?_⟩) he hst
  exact wpAny_call (run_fnR F hr hx I2 r q)
end
theorem fnR_of {P : Program} {w : World} {K : PySem.W.Frag} {mg : Str → Option Value} {base : Heap} {CX : CXT} {k : Nat} {f : Addr} {fd : FuncData} {ps : List Str} {sp : Sp} (F : FnOk P w K mg base CX k f fd ps sp) (hb : L2.Binds K fd ps []) (KB : K.In base) : FnR P w K mg base CX k f sp :=
  fun A outer s H us vs Q E hr e0 r hs => F.run A outer s H ⟨us, []⟩ us vs Q E hr e0 (by
    have KX : K.In s.heap := KB.keeps fun b o e => (e0.bs b o e).1
    have := hb s us KX (by rw [List.append_nil, ← r.length]; exact F.len _ _ _ _ hs)
    rwa [List.append_nil] at this) r hs
end FNX
set_option Elab.async false
set_option linter.all false
set_option maxRecDepth 100000
set_option maxHeartbeats 8000000
namespace K72
open PySem PySem.Spec PyProof.Rows L2 FNX
def GX (CG p : Addr) (H : Hp) (g : Addr) (N : List (List Int)) : Prop := ∀ H', SameX p H H' → GAt CG H' g N
theorem GX.at {CG p g : Addr} {H : Hp} {N : List (List Int)} (h : GX CG p H g N) : GAt CG H g N := h H SameX.refl
theorem GX.same {CG p g : Addr} {H H' : Hp} {N : List (List Int)} (h : GX CG p H g N) (s : SameX p H H') : GX CG p H' g N := fun H2 s2 => h H2 (s.trans s2)
theorem SameX.same {p : Addr} {H H' : Hp} (s : SameX p H H') (n : H p = none) : Same H H' := fun b o e => s b o (ne_of_none e n) e
theorem NewN.x {H H1 : Hp} {p q : Addr} {N : List (List Int)} (h : NewN H H1 q N) (hp : PoolAt H p) : NX p H1 q N := fun H2 s => h H2 fun b o n e => s b o (hp.ne n).symm e
theorem shwLine {k L : Nat} {d : PyData} (h : Shw k L d) (hk : k ≤ 60) (hL : L ≤ 1000000) : d.showable = true ∧ d.depth ≤ 60 ∧ d.shown.length ≤ sizeLine := ⟨h.ok, Nat.le_trans h.deep hk, Nat.le_trans h.len (Nat.le_trans hL (by rw [sizeLine_eq]; decide))⟩
abbrev lamT (Pt : Addr) : List (Addr × Str) := [(Pt, (("law" : Str) ++ ".<locals>.") ++ "<lambda>")]
def spLawT (K : PySem.W.Frag) (cs : List (Addr × Addr)) : Sp := fun vs H Q _ => ∃ (a : Addr) (ns : List Int), vs = [.ref a] ∧ SqL K H a (ns.map V.int) ∧ ns.length ≤ 63 ∧ (∀ p ∈ cs, H p.2 = some (.tbl #[])) ∧ ∀ H', Q (.bl true) H'
theorem tabs0 {H : Hp} {c Pt : Addr} (h : ∀ p ∈ [(c, Pt)], H p.2 = some (.tbl #[])) : LamX.Tabs (lamT Pt) H := fun p hp => by
  rw [List.mem_singleton.mp hp]
  exact .nil (h (c, Pt) (List.mem_singleton.mpr rfl))
theorem sqLExt {K : PySem.W.Frag} {H H' : Hp} {a : Addr} {xs : List V} (h : SqL K H a xs) (s : LamX.ExtN H H') : SqL K H' a xs := by
  rcases h with (h | ⟨o, h⟩) | h
  · exact .inl (.inl (s _ _ h fun _ z => by cases z))
  · exact .inl (.inr ⟨o, s _ _ h fun _ z => by cases z⟩)
  · exact .inr h
theorem naExt {H H' : Hp} {p : Addr} {N : List (List Int)} (h : NAt H p N) (s : LamX.ExtN H H') : NAt H' p N := by
  obtain ⟨rows, h1, h2⟩ := h
  exact ⟨rows, s _ _ h1 (fun _ z => by cases z), h2.1, fun k r e => s _ _ (h2.2 k r e) fun _ z => by cases z⟩
theorem Same.ext {H H' : Hp} (s : Same H H') : LamX.ExtN H H' := fun b o e _ => s b o e
theorem shwPow {i : Int} {k : Nat} (hk : 0 < k) (k2 : k ≤ 400) (h : i.natAbs < 10 ^ k) : Shw 0 (k + 1) (.int i) := by
  refine ⟨?_, ?_, ?_⟩
  · simp only [PyData.showable]
    refine decide_eq_true ?_
    by_cases c : i.natAbs = 0
    · rw [c]
      decide
    · have z : i.natAbs < 2 ^ (4 * k) := Nat.lt_of_lt_of_le h (by
        rw [Nat.pow_mul]
        exact Nat.pow_le_pow_left (by decide) k)
      have y := (Nat.log2_lt c).mpr z
      exact Nat.lt_trans y (Nat.lt_of_le_of_lt (Nat.mul_le_mul_left 4 k2) (by decide))
  · simp only [PyData.depth]
    omega
  · simp only [PyData.shown]
    exact intLen hk h
theorem shwInts {x : List Int} {k m : Nat} (hk : 0 < k) (k2 : k ≤ 400) (h : ∀ v ∈ x, v.natAbs < 10 ^ k) (hl : x.length ≤ m) : Shw 1 ((k + 3) * m + 2) (posD x) :=
  shwList (k := 0) (L := k + 1) (m := m) (fun e he => by
    obtain ⟨v, hv, rfl⟩ := List.mem_map.mp he
    exact shwPow hk k2 (h v hv)) (by rw [List.length_map]; exact hl)
/-- what an exception of the class C with the value v leaves -/
def told (C : Addr) (v : V) (H : Hp) (E : XK) : Prop := ∀ H' dd, Same H H' → H dd = none → H' dd = some (.xd [(("value" : Str), v)]) → E (.ref C) (some dd) H'
theorem edExt {H H' : Hp} {q : Addr} {es : List (Int × Int)} (h : EdgesAt H q es) (s : LamX.ExtN H H') : EdgesAt H' q es := by
  obtain ⟨ts, h1, h2, h3⟩ := h
  refine ⟨ts, s _ _ h1 (fun _ z => by cases z), h2, fun k t e => ?_⟩
  obtain ⟨x, a, b⟩ := h3 k t e
  exact ⟨x, a, s _ _ b (fun _ z => by cases z)⟩
theorem edX {H H' : Hp} {p q : Addr} {es : List (Int × Int)} (h : EdgesAt H q es) (hp : PoolAt H p) (n : p ≠ q) (s : SameX p H H') : EdgesAt H' q es := by
  obtain ⟨ts, h1, h2⟩ := h
  exact ⟨ts, s _ _ n.symm h1, h2.sameX hp s⟩
end K72
set_option Elab.async false
set_option linter.all false
set_option maxRecDepth 100000
set_option maxHeartbeats 8000000
namespace K72
open PySem PySem.Spec PyProof.Rows L2 FNX
def isTup : PyData → Bool
  | .tuple _ => true
  | _ => false
theorem kitTu (K : PySem.W.Frag) : ∀ d : PyData, PySem.W.kitOne K (.type (tyD d)) (.type "tuple") = some (isTup d)
  | .none => (kit_ty (by decide +kernel) : PySem.W.kitOne K (.type "NoneType") (.type "tuple") = some false)
  | .bool _ => (kit_ty (by decide +kernel) : PySem.W.kitOne K (.type "bool") (.type "tuple") = some false)
  | .int _ => (kit_ty (by decide +kernel) : PySem.W.kitOne K (.type "int") (.type "tuple") = some false)
  | .str _ => (kit_ty (by decide +kernel) : PySem.W.kitOne K (.type "str") (.type "tuple") = some false)
  | .list _ => (kit_ty (by decide +kernel) : PySem.W.kitOne K (.type "list") (.type "tuple") = some false)
  | .tuple _ => (kit_ty (by decide +kernel) : PySem.W.kitOne K (.type "tuple") (.type "tuple") = some true)
  | .dict _ => (kit_ty (by decide +kernel) : PySem.W.kitOne K (.type "dict") (.type "tuple") = some false)
theorem rdTup {K : PySem.W.Frag} {H : Hp} {v : V} {ds : List PyData} (h : Rd K H v (.tuple ds)) : ∃ a xs, v = .ref a ∧ SqT K H a xs ∧ DpAll K H xs ds := by
  cases h with
  | dat h =>
    cases h with
    | tup h1 h2 => exact ⟨_, _, rfl, h1, h2⟩
theorem decVI (i j : Int) : decide (V.int i = V.int j) = decide (i = j) := by
  by_cases h : i = j
  · rw [h, decide_eq_true rfl, decide_eq_true rfl]
  · rw [decide_eq_false h, decide_eq_false (fun z => h (by injection z))]
theorem nodeD {n : Nat} {d : PyData} (h : isNode n d = true) : ∃ v : Nat, d = .int (v : Int) ∧ v < n := by
  cases d with
  | int i =>
    have h : (decide ((0 : Int) ≤ i) && decide (i ≤ (n : Int) - 1)) = true := h
    rw [Bool.and_eq_true, decide_eq_true_eq, decide_eq_true_eq] at h
    exact ⟨i.toNat, by rw [show ((i.toNat : Nat) : Int) = i by omega], by omega⟩
  | _ => cases h
def isEdgeD (n : Nat) : PyData → Bool
  | .tuple [a, b] => isNode n a && isNode n b && !PyData.eqv a b
  | _ => false
theorem isEdgeLen {n : Nat} {ds : List PyData} (h : ds.length ≠ 2) : isEdgeD n (.tuple ds) = false := by
  match ds, h with
  | [], _ => rfl
  | [_], _ => rfl
  | _ :: _ :: _ :: _, _ => rfl
  | [_, _], h => exact absurd rfl h
theorem isEdgePair {n : Nat} {e : Int × Int} (h : 0 ≤ e.1 ∧ e.1 < n ∧ 0 ≤ e.2 ∧ e.2 < n ∧ e.1 ≠ e.2) : isEdgeD n (pairD e) = true := by
  show (isNode n (.int e.1) && isNode n (.int e.2) && !PyData.eqv (.int e.1) (.int e.2)) = true
  rw [nodeIn h.1 h.2.1, nodeIn h.2.2.1 h.2.2.2.1]
  have q : PyData.eqv (.int e.1) (.int e.2) = false := by
    have z : PyData.eqv (.int e.1) (.int e.2) = (e.1 == e.2) := by
      first
        | rfl
        | simp [PyData.eqv]
    rw [z]
    exact beq_eq_false_iff_ne.mpr h.2.2.2.2
  rw [q]
  rfl
def spIsEdgeD (K : PySem.W.Frag) : Sp := fun vs H Q _ => ∃ (n : Nat) (v : V) (d : PyData), vs = [.int (n : Int), v] ∧ Rd K H v d ∧ ∀ H', Same H H' → Q (.bl (isEdgeD n d)) H'
section
variable {P : Program} {w : World} {K : PySem.W.Frag} {mg : Str → Option Value} {base : Heap} {CG CS CM CE : Addr}
theorem ok_is_edgeD {f : Addr} {fd : FuncData} (F : Fun K "is_edge" "is_edge" s_is_edge f fd) (M : Nms mg) (G : At P w K mg base CX0 3 "is_node" ["size", "thing"] (spIsNode K)) :
    FnOk P w K mg base CX0 4 f fd ["size", "thing"] (spIsEdgeD K) := by
  obtain ⟨c, cd, G, mG, kG, bG⟩ := G
  refine F.ok sc_is_edge (fun vs H Q E h => ?_) (fun cdv A outer s H vs Q E hr h => ?_)
  · obtain ⟨n, v, d, rfl, _⟩ := h
    rfl
  · obtain ⟨n, v, d, rfl, hd, k⟩ := h
    have nd := sc_is_edge.nd
    refine ⟨_, (pss_cons (ps_if (PW.pt (pw_or (pt_not (pt_val (pe_callB call_isi (by rfl) M.isi boot_isi (pa_cons (pv 1) (pa_cons (pe_bltn (v := V.ty "tuple") rfl M.tuple (by decide +kernel) rfl) pa_nil))))) (pw_or1 (pt_cmpR op_ne (pe_callB call_len_seq (by rfl) M.len boot_len1 (pa_cons (pv 1) pa_nil)) pe_int (nomark _))))) (pss_one (ps_ret pe_bl)) pss_nil)
      (pss_cons (ps_asg (pv 1) (pg_tup rfl (pgs_cons (pg_name (i := 2) nd rfl (Or.inl rfl)) (pgs_cons (pg_name (i := 3) nd rfl (Or.inl rfl)) pgs_nil))))
      (pss_one (ps_ret (pe_and (pe_call G hr (by rfl) mG kG bG .nil pass0 (pa_cons (pv 0) (pa_cons (pv 2) pa_nil))) (pe_and (pe_call G hr (by rfl) mG kG bG .nil pass0 (pa_cons (pv 0) (pa_cons (pv 3) pa_nil))) (pe_one (pe_cmpR op_ne (pv 2) (pv 3) (nomark _))))))))), ?_⟩
    refine ⟨_, rfl, v, _, _, _, _, rfl, .ty _, rdTy hd, kitTu K d, _, rfl, ?_⟩
    cases d with
    | none => exact iteT (k H (Same.refl H))
    | bool _ => exact iteT (k H (Same.refl H))
    | int _ => exact iteT (k H (Same.refl H))
    | str _ => exact iteT (k H (Same.refl H))
    | list _ => exact iteT (k H (Same.refl H))
    | dict _ => exact iteT (k H (Same.refl H))
    | tuple ds =>
      obtain ⟨t, ys, rfl, ht, hds⟩ := rdTup hd
      have hl := dpAllLen hds
      refine iteF ⟨_, rfl, t, _, rfl, .inr ht, rfl, _, rfl, ?_⟩
      rw [hl]
      by_cases c2 : ds.length = 2
      case neg =>
        rw [decVI, decide_eq_false (by omega)]
        have z := k H (Same.refl H)
        rw [isEdgeLen c2] at z
        exact iteT z
      rw [decVI, decide_eq_true (by omega)]
      refine iteF ?_
      obtain ⟨d1, d2, rfl⟩ : ∃ d1 d2, ds = [d1, d2] := by
        match ds, c2 with
        | [d1, d2], _ => exact ⟨d1, d2, rfl⟩
      obtain ⟨y1, y2, rfl, h1, h2⟩ : ∃ y1 y2, ys = [y1, y2] ∧ Dp K H y1 d1 ∧ Dp K H y2 d2 := by
        cases hds with
        | cons h1 hr1 =>
          cases hr1 with
          | cons h2 hr2 =>
            cases hr2
            exact ⟨_, _, rfl, h1, h2⟩
      refine ⟨_, rfl, t, _, rfl, ht, rfl, _, _, rfl, _, _, rfl, rfl, ?_⟩
      refine ⟨_, rfl, _, rfl, y1, d1, n, rfl, .dat h1, _, rfl, ?_⟩
      have z : Q (.bl (isNode n d1 && isNode n d2 && !PyData.eqv d1 d2)) H := k H (Same.refl H)
      cases c1 : isNode n d1 with
      | false =>
        rw [c1] at z
        exact iteF z
      | true =>
        refine iteT ⟨_, rfl, _, rfl, y2, d2, n, rfl, .dat h2, _, rfl, ?_⟩
        cases c3 : isNode n d2 with
        | false =>
          rw [c1, c3] at z
          exact iteF z
        | true =>
          rw [c1, c3] at z
          obtain ⟨i, rfl, _⟩ := nodeD c1
          obtain ⟨j, rfl, _⟩ := nodeD c3
          cases h1
          cases h2
          refine iteT ⟨_, rfl, _, rfl, rfl, ?_⟩
          have q : PyData.eqv (.int (i : Int)) (.int (j : Int)) = decide (V.int (i : Int) = V.int (j : Int)) := by
            have z : PyData.eqv (.int (i : Int)) (.int (j : Int)) = ((i : Int) == (j : Int)) := by
              first
                | rfl
                | simp [PyData.eqv]
            rw [z, decVI]
            by_cases c : (i : Int) = (j : Int)
            · rw [decide_eq_true c]
              exact beq_iff_eq.mpr c
            · rw [decide_eq_false c]
              exact beq_eq_false_iff_ne.mpr c
          rw [q] at z
          exact z
end
end K72
set_option Elab.async false
set_option linter.all false
set_option maxRecDepth 100000
set_option maxHeartbeats 8000000
namespace K72
open PySem PySem.Spec PyProof.Rows L2 FNX
def ordP (e : Int × Int) : Int × Int := (min e.1 e.2, max e.1 e.2)
structure GoodU (n : Nat) (es : List (Int × Int)) : Prop where
  node : ∀ e ∈ es, 0 ≤ e.1 ∧ e.1 < n ∧ 0 ≤ e.2 ∧ e.2 < n ∧ e.1 ≠ e.2
  once : (es.map ordP).Nodup
  few : es.length ≤ 1000
def SrtE (es : List (Int × Int)) : Prop := es.Pairwise fun a b => a.1 < b.1 ∨ (a.1 = b.1 ∧ a.2 ≤ b.2)
theorem SrtE.uniq {a b : List (Int × Int)} (p : a.Perm b) (ha : SrtE a) (hb : SrtE b) : a = b := List.Perm.eq_of_pairwise (fun a b _ _ h1 h2 => Prod.ext (by omega) (by omega)) ha hb p
theorem GoodU.ord {n : Nat} {es : List (Int × Int)} (h : GoodU n es) (f : es.length ≤ 40) : GoodE n (es.map ordP) := ⟨fun e he => by
  obtain ⟨d, hd, rfl⟩ := List.mem_map.mp he
  have := h.node d hd
  unfold ordP
  dsimp only
  omega, h.once, by rw [List.length_map]; exact f⟩
theorem ordId {e : Int × Int} (h : e.1 < e.2) : ordP e = e := by
  unfold ordP
  exact Prod.ext (show min e.1 e.2 = e.1 by omega) (show max e.1 e.2 = e.2 by omega)
theorem ordMap {n : Nat} {es : List (Int × Int)} (h : GoodE n es) : es.map ordP = es := by
  have z : ∀ e ∈ es, ordP e = e := fun e he => ordId (h.node e he).2.1
  exact (List.map_congr_left z).trans (List.map_id es)
theorem GoodE.toU {n : Nat} {es : List (Int × Int)} (h : GoodE n es) : GoodU n es := ⟨fun e he => by have := h.node e he; omega, by rw [ordMap h]; exact h.once, Nat.le_trans h.few (by decide)⟩
structure GE (CG : Addr) (H : Hp) (g : Addr) (n : Nat) (es : List (Int × Int)) : Prop where
  obj : ∃ dx j nr N, H g = some (.ins CG dx (gflds (n : Int) j nr)) ∧ EdgesAt H j es ∧ NAt H nr N ∧ IsNear n es N
  good : GoodE n es
  asc : SrtE es
  n1 : 1 ≤ n
  n16 : n ≤ 16
theorem GE.same {CG : Addr} {H H' : Hp} {g : Addr} {n : Nat} {es : List (Int × Int)} (h : GE CG H g n es) (s : Same H H') : GE CG H' g n es := by
  obtain ⟨⟨dx, j, nr, N, h1, h2, h3, h4⟩, a, b, c, d⟩ := h
  exact ⟨⟨dx, j, nr, N, s _ _ h1, h2.same s, h3.same s, h4⟩, a, b, c, d⟩
theorem kitTT (K : PySem.W.Frag) : PySem.W.kitAny K (.type "tuple") [.type "list", .type "tuple"] = some true :=
  kitAny_cons (b := false) (kit_ty (by decide +kernel)) (fun _ => kitAny_cons (b := true) (kit_ty (by decide +kernel)) (fun h => by cases h) (fun _ => rfl)) (fun h => by cases h)
theorem tyXSame {K : PySem.W.Frag} {H H' : Hp} {t : Value} {x : V} (h : TyX K H x t) (s : Same H H') : TyX K H' x t := by
  cases h with
  | base h =>
    cases h with
    | non => exact .base .non
    | bl b => exact .base (.bl b)
    | int i => exact .base (.int i)
    | str z => exact .base (.str z)
    | flt z => exact .base (.flt z)
    | lst e => exact .base (.lst (s _ _ e))
    | frz e => exact .base (.frz (s _ _ e))
    | tup e => exact .base (.tup (s _ _ e))
    | dK e => exact .base (.dK (s _ _ e))
    | dT e => exact .base (.dT (s _ _ e))
    | ins e a b c d f => exact .base (.ins (s _ _ e) a b c d f)
  | byt b => exact .byt b
  | set e => exact .set (s _ _ e)
  | kList e c => exact .kList e c
  | kTuple e c => exact .kTuple e c
  | kDict e c => exact .kDict e c
  | fTuple e => exact .fTuple (s _ _ e)
  | fDict e => exact .fDict (s _ _ e)
/-- good entries, then a bad one -/
def BadAt (K : PySem.W.Frag) (H : Hp) (n : Nat) (v y : V) : Prop := ∃ (p : Addr) (ts : List Addr) (es : List (Int × Int)) (rest : List V), v = .ref p ∧ H p = some (.lst (ts.map V.ref ++ y :: rest)) ∧ TupsAt H ts es ∧ GoodU n es ∧
  ((∃ d, Rd K H y d ∧ isEdgeD n d = false) ∨ ∃ (t : Addr) (e : Int × Int), y = .ref t ∧ H t = some (.tup [.int e.1, .int e.2]) ∧ (0 ≤ e.1 ∧ e.1 < n ∧ 0 ≤ e.2 ∧ e.2 < n ∧ e.1 ≠ e.2) ∧ ordP e ∈ es.map ordP)
def GoodAt (K : PySem.W.Frag) (H : Hp) (n : Nat) (v : V) (es : List (Int × Int)) : Prop := ∃ (p : Addr) (ts : List Addr), v = .ref p ∧ (H p = some (.lst (ts.map V.ref)) ∨ H p = some (.tup (ts.map V.ref))) ∧ TupsAt H ts es ∧ GoodU n es
def NoSeq (K : PySem.W.Frag) (H : Hp) (v : V) : Prop := ∃ T, TyX K H v (.type T) ∧ PySem.W.kitAny K (.type T) [.type "list", .type "tuple"] = some false
def spEdges01 (K : PySem.W.Frag) (CE : Addr) : Sp := fun vs H Q E => ∃ (n : Nat) (v : V), vs = [.int (n : Int), v] ∧
  ((∃ es, GoodAt K H n v es ∧ ∀ q H' es', H q = none → Same H H' → EdgesAt H' q es' → es'.Perm (es.map ordP) → SrtE es' → Q (.ref q) H') ∨ (NoSeq K H v ∧ told CE v H E) ∨ (∃ y, BadAt K H n v y ∧ told CE y H E))
section
variable {P : Program} {w : World} {K : PySem.W.Frag} {mg : Str → Option Value} {base : Heap} {CG CS CM CE : Addr}
theorem ok_checked01 {f : Addr} {fd : FuncData} (F : Fun K "checked_edges" "checked_edges" s_checked_edges f fd) (M : Nms mg) (EE : Ex P w K mg base "InvalidEdge" CE) (tyE : PySem.W.typeIn K (.ref CE) = some (.type "type"))
    (G : At P w K mg base CX0 4 "is_edge" ["size", "thing"] (spIsEdgeD K)) : FnOk P w K mg base (L2.CX P w) 5 f fd ["size", "edges"] (spEdges01 K CE) := by
  obtain ⟨c, cd, G, mG, kG, bG⟩ := G
  refine F.okX sc_checked_edges (fun vs H Q E h => ?_) (fun cdv A outer s H vs Q E hr h => ?_)
  · obtain ⟨n, v, rfl, _⟩ := h
    rfl
  · obtain ⟨n, v, rfl, h⟩ := h
    have hr2 : Room 2 _ := hr.mono (by decide)
    have hu65 : A.units + 3 + 65 < cLine := by
      have := hr.un
      show A.units + 3 + 65 < _
      have z : A.units + 3 + 16 * 4 + 200 < cLine := this
      omega
    have lms : ∀ es : List (Int × Int), (es.map ordP).length = es.length := fun es => List.length_map ..
    rcases h with ⟨es, ⟨p, ts, rfl, (hp | hp), h2, ge⟩, k⟩ | ⟨⟨T, hT, kT⟩, t⟩ | ⟨y, ⟨p, ts, es, rest, rfl, hp, h2, ge, bad⟩, t⟩
    · refine ⟨_, pss_cons (ps_if (pt_not (pt_val (pe_callB call_isiT (by rfl) M.isi boot_isi (pa_cons (pv 1) (pa_cons (pe_tup (pa_cons (pe_bltn (v := V.ty "list") rfl M.list (by decide +kernel) rfl)
          (pa_cons (pe_bltn (v := V.ty "tuple") rfl M.tuple (by decide +kernel) rfl) pa_nil))) pa_nil))))) (pss_one (ps_raiseX rfl EE tyE hr2 (takes_of rfl rfl rfl rfl) rfl (pa_cons (pv 1) pa_nil))) pss_nil)
      (pss_cons (ps_set (i := 2) sc_checked_edges.nd rfl (Or.inl rfl) (pe_lst pa_nil))
      (pss_cons (ps_for PassesOwn.leaving rfl (pi_list (pv 1)) (pg_name (i := 3) sc_checked_edges.nd rfl (Or.inl rfl))
        (pss_cons (ps_if (pt_not (pt_val (pe_call G hr (by rfl) mG kG bG .nil pass0 (pa_cons (pv 0) (pa_cons (pv 3) pa_nil))))) (pss_one (ps_raiseX rfl EE tyE hr2 (takes_of rfl rfl rfl rfl) rfl (pa_cons (pv 3) pa_nil))) pss_nil)
        (pss_cons (ps_set (i := 4) sc_checked_edges.nd rfl (Or.inl rfl) (pe_tup (pa_cons (pe_callB (cr_minT rfl hr.units) (by rfl) M.min boot_min1 (pa_cons (pv 3) pa_nil))
          (pa_cons (pe_callB (cr_maxT rfl hr.units) (by rfl) M.max boot_max1 (pa_cons (pv 3) pa_nil)) pa_nil))))
        (pss_cons (ps_if (pt_cmpR (op_inD hu65) (pv 4) (pv 2) (by rfl)) (pss_one (ps_raiseX rfl EE tyE hr2 (takes_of rfl rfl rfl rfl) rfl (pa_cons (pv 3) pa_nil))) pss_nil)
        (pss_one (ps_expr (pe_bm PySem.F.plainAttrs_list PySem.F.slot_list_append PySem.F.type_list_append mt_append (pv 2) (pa_cons (pv 4) pa_nil))))))))
      (pss_one (ps_ret (pe_callB (show CallR _ (.builtin "sorted") (rSortedPO K) from cr_sortedPO) (by rfl) M.sorted boot_sorted1 (pa_cons (pv 2) pa_nil)))))), ?_⟩
      have ms : ∀ {i : Nat} {e : Int × Int}, es[i]? = some e → (es.map ordP)[i]? = some (ordP e) := fun {i e} he => by rw [List.getElem?_map, he]; rfl
      refine ⟨_, rfl, by show 2 ≤ sizeLine; decide, fun tp ntp => ⟨.ref p, tp, _, _, _, _, rfl, upd_same, .cons (.ty _) (.cons (.ty _) .nil), .base (.lst (same_upd ntp _ _ hp)), kitLT K, _, rfl, iteF ?_⟩⟩
      refine ⟨by show 0 ≤ sizeLine; decide, fun fo nfo => ?_⟩
      have s0 := (same_upd ntp (o := .tup [V.ty "list", V.ty "tuple"])).trans (same_upd nfo (o := .lst []))
      have f0 : H fo = none := Same.free (same_upd ntp) nfo
      refine ⟨_, rfl, p, rfl, ⟨_, SqL.of (s0 _ _ hp)⟩, for_list (K := K) (a := p) (xs := ts.map V.ref) (fun i σ H' => ∃ (o3 o4 : Option V) (fs : List Addr), σ = [some (.int n), some (.ref p), some (.ref fo), o3, o4] ∧
        Same H H' ∧ H' fo = some (.lst (fs.map V.ref)) ∧ TupsAt H' fs ((es.map ordP).take i)) ⟨none, none, [], rfl, s0, upd_same, ⟨rfl, fun k t e => by simp at e⟩⟩ (fun i σ H' _ h => ?_) (fun i y σ H' hi h => ?_) (fun σ H' h => ?_)⟩
      · obtain ⟨_, _, _, _, sm, _, _⟩ := h
        exact SqL.of (sm _ _ hp)
      · obtain ⟨o3, o4, fs, rfl, sm, e1, e2⟩ := h
        obtain ⟨t, ht, rfl⟩ := refAt hi
        obtain ⟨e, he, hte⟩ := h2.2 i t ht
        have good := ge.node e (List.mem_of_getElem? he)
        have hm := ms he
        have hte0 := sm _ _ hte
        refine ⟨_, rfl, _, rfl, n, .ref t, pairD e, rfl, .dat (.tup (SqT.of hte0) (.cons (.int _) (.cons (.int _) .nil))), fun H0' s0' => ⟨_, rfl, ?_⟩⟩
        rw [isEdgePair ⟨good.1, good.2.1, good.2.2.1, good.2.2.2.1, good.2.2.2.2⟩]
        refine iteF ?_
        have sm := sm.trans s0'
        have e1 := s0' _ _ e1
        have e2 := e2.same s0'
        have hte' := sm _ _ hte
        refine ⟨_, rfl, t, e.1, e.2, rfl, hte', _, rfl, t, e.1, e.2, rfl, hte', by show 2 ≤ sizeLine; decide, fun ed ned => ?_⟩
        have e1' : (upd H0' ed (.tup [V.int (min e.1 e.2), V.int (max e.1 e.2)])) fo = some (.lst (fs.map V.ref)) := same_upd ned _ _ e1
        have e2' := e2.same (same_upd ned (o := .tup [V.int (min e.1 e.2), V.int (max e.1 e.2)]))
        refine ⟨_, rfl, _, rfl, pairD (ordP e), ((es.map ordP).take i).map pairD, .tup (SqT.of upd_same) (.cons (.int _) (.cons (.int _) .nil)), .lst (SqL.of e1') (dpTups e2'), rfl, shapedPairs _, _, rfl, ?_⟩
        rw [anyPair (notTaken ge.once hm)]
        refine iteF ⟨_, rfl, .inl ⟨rfl, _, SqL.of e1'⟩, _, rfl, fo, _, _, rfl, rfl, e1', ?_, ?_⟩
        · rw [List.length_map, e2.1, List.length_take, sizeLine_eq]
          have := ge.few
          have := lms es
          omega
        refine ⟨_, _, fs ++ [ed], rfl, fun b o z => ?_, by rw [upd_same, List.map_append]; rfl, ?_, fun k t' hk => ?_⟩
        · rw [upd_ne (ne_of_none z f0)]
          exact same_upd ned _ _ (sm _ _ z)
        · rw [takeMore hm, List.length_append, List.length_append, e2.1]
          rfl
        · have efo : ed ≠ fo := (ne_of_none e1 ned).symm
          by_cases hlt : k < fs.length
          · rw [List.getElem?_append_left hlt] at hk
            obtain ⟨x, q1, q2⟩ := e2.2 k t' hk
            refine ⟨x, ?_, ?_⟩
            · rw [takeMore hm, List.getElem?_append_left (by rw [← e2.1]; exact hlt)]
              exact q1
            · rw [upd_ne (ne_of q2 e1 (by intro z; cases z)), upd_ne (ne_of_none q2 ned)]
              exact q2
          · rw [List.getElem?_append_right (by omega)] at hk
            have hk' : k = fs.length := by
              have z := (List.getElem?_eq_some_iff.mp hk).1
              simp at z
              omega
            subst hk'
            rw [Nat.sub_self] at hk
            obtain rfl : ed = t' := Option.some.inj hk
            refine ⟨ordP e, ?_, ?_⟩
            · rw [takeMore hm, e2.1, List.getElem?_append_right (Nat.le_refl _), Nat.sub_self]
              rfl
            · rw [upd_ne efo, upd_same]
              rfl
      · obtain ⟨o3, o4, fs, rfl, sm, e1, e2⟩ := h
        rw [List.length_map, h2.1, ← lms, List.take_length] at e2
        refine ⟨_, rfl, fo, _, keyE H', rfl, SqL.of e1, fun y hy => ?_, fun ys q hsrt hstb nq => ?_⟩
        · obtain ⟨t, ht, rfl⟩ := List.mem_map.mp hy
          obtain ⟨k', hk', he'⟩ := List.mem_iff_getElem.mp ht
          obtain ⟨x, q1, q2⟩ := e2.2 k' t (by rw [List.getElem?_eq_getElem hk', he'])
          exact ⟨t, rfl, by rw [keyE_at q2]; exact q2⟩
        · obtain ⟨ts', es', rfl, r1, r2⟩ := permTups e2 hstb.perm
          refine k q _ es' (sm.free nq) (sm.trans (same_upd nq)) ⟨ts', upd_same, r1.same (same_upd nq)⟩ r2 ?_
          have ek : (ts'.map V.ref).map (keyE H') = es' := by
            apply List.ext_getElem
            · rw [List.length_map, List.length_map, r1.1]
            · intro k h1 h2
              rw [List.length_map, List.length_map] at h1
              obtain ⟨e, q1, q2⟩ := r1.2 k ts'[k] (List.getElem?_eq_getElem h1)
              rw [List.getElem_map, List.getElem_map, keyE_at q2]
              rw [List.getElem?_eq_getElem h2] at q1
              exact (Option.some.inj q1).symm
          unfold SrtE
          rw [← ek]
          refine List.pairwise_map.mpr (hsrt.imp fun {a b} h => ?_)
          have := SrtO.lexB_no.mp h
          omega
    · refine ⟨_, pss_cons (ps_if (pt_not (pt_val (pe_callB call_isiT (by rfl) M.isi boot_isi (pa_cons (pv 1) (pa_cons (pe_tup (pa_cons (pe_bltn (v := V.ty "list") rfl M.list (by decide +kernel) rfl)
          (pa_cons (pe_bltn (v := V.ty "tuple") rfl M.tuple (by decide +kernel) rfl) pa_nil))) pa_nil))))) (pss_one (ps_raiseX rfl EE tyE hr2 (takes_of rfl rfl rfl rfl) rfl (pa_cons (pv 1) pa_nil))) pss_nil)
      (pss_cons (ps_set (i := 2) sc_checked_edges.nd rfl (Or.inl rfl) (pe_lst pa_nil))
      (pss_cons (ps_for PassesOwn.leaving rfl (pi_tup (pv 1)) (pg_name (i := 3) sc_checked_edges.nd rfl (Or.inl rfl))
        (pss_cons (ps_if (pt_not (pt_val (pe_call G hr (by rfl) mG kG bG .nil pass0 (pa_cons (pv 0) (pa_cons (pv 3) pa_nil))))) (pss_one (ps_raiseX rfl EE tyE hr2 (takes_of rfl rfl rfl rfl) rfl (pa_cons (pv 3) pa_nil))) pss_nil)
        (pss_cons (ps_set (i := 4) sc_checked_edges.nd rfl (Or.inl rfl) (pe_tup (pa_cons (pe_callB (cr_minT rfl hr.units) (by rfl) M.min boot_min1 (pa_cons (pv 3) pa_nil))
          (pa_cons (pe_callB (cr_maxT rfl hr.units) (by rfl) M.max boot_max1 (pa_cons (pv 3) pa_nil)) pa_nil))))
        (pss_cons (ps_if (pt_cmpR (op_inD hu65) (pv 4) (pv 2) (by rfl)) (pss_one (ps_raiseX rfl EE tyE hr2 (takes_of rfl rfl rfl rfl) rfl (pa_cons (pv 3) pa_nil))) pss_nil)
        (pss_one (ps_expr (pe_bm PySem.F.plainAttrs_list PySem.F.slot_list_append PySem.F.type_list_append mt_append (pv 2) (pa_cons (pv 4) pa_nil))))))))
      (pss_one (ps_ret (pe_callB (show CallR _ (.builtin "sorted") (rSortedPO K) from cr_sortedPO) (by rfl) M.sorted boot_sorted1 (pa_cons (pv 2) pa_nil)))))), ?_⟩
      have ms : ∀ {i : Nat} {e : Int × Int}, es[i]? = some e → (es.map ordP)[i]? = some (ordP e) := fun {i e} he => by rw [List.getElem?_map, he]; rfl
      refine ⟨_, rfl, by show 2 ≤ sizeLine; decide, fun tp ntp => ⟨.ref p, tp, _, _, _, _, rfl, upd_same, .cons (.ty _) (.cons (.ty _) .nil), .base (.tup (same_upd ntp _ _ hp)), kitTT K, _, rfl, iteF ?_⟩⟩
      refine ⟨by show 0 ≤ sizeLine; decide, fun fo nfo => ?_⟩
      have s0 := (same_upd ntp (o := .tup [V.ty "list", V.ty "tuple"])).trans (same_upd nfo (o := .lst []))
      have f0 : H fo = none := Same.free (same_upd ntp) nfo
      refine ⟨_, rfl, p, rfl, ⟨_, SqT.of (s0 _ _ hp)⟩, for_tup (K := K) (a := p) (xs := ts.map V.ref) (fun i σ H' => ∃ (o3 o4 : Option V) (fs : List Addr), σ = [some (.int n), some (.ref p), some (.ref fo), o3, o4] ∧
        Same H H' ∧ H' fo = some (.lst (fs.map V.ref)) ∧ TupsAt H' fs ((es.map ordP).take i)) ⟨none, none, [], rfl, s0, upd_same, ⟨rfl, fun k t e => by simp at e⟩⟩ (fun i σ H' _ h => ?_) (fun i y σ H' hi h => ?_) (fun σ H' h => ?_)⟩
      · obtain ⟨_, _, _, _, sm, _, _⟩ := h
        exact SqT.of (sm _ _ hp)
      · obtain ⟨o3, o4, fs, rfl, sm, e1, e2⟩ := h
        obtain ⟨t, ht, rfl⟩ := refAt hi
        obtain ⟨e, he, hte⟩ := h2.2 i t ht
        have good := ge.node e (List.mem_of_getElem? he)
        have hm := ms he
        have hte0 := sm _ _ hte
        refine ⟨_, rfl, _, rfl, n, .ref t, pairD e, rfl, .dat (.tup (SqT.of hte0) (.cons (.int _) (.cons (.int _) .nil))), fun H0' s0' => ⟨_, rfl, ?_⟩⟩
        rw [isEdgePair ⟨good.1, good.2.1, good.2.2.1, good.2.2.2.1, good.2.2.2.2⟩]
        refine iteF ?_
        have sm := sm.trans s0'
        have e1 := s0' _ _ e1
        have e2 := e2.same s0'
        have hte' := sm _ _ hte
        refine ⟨_, rfl, t, e.1, e.2, rfl, hte', _, rfl, t, e.1, e.2, rfl, hte', by show 2 ≤ sizeLine; decide, fun ed ned => ?_⟩
        have e1' : (upd H0' ed (.tup [V.int (min e.1 e.2), V.int (max e.1 e.2)])) fo = some (.lst (fs.map V.ref)) := same_upd ned _ _ e1
        have e2' := e2.same (same_upd ned (o := .tup [V.int (min e.1 e.2), V.int (max e.1 e.2)]))
        refine ⟨_, rfl, _, rfl, pairD (ordP e), ((es.map ordP).take i).map pairD, .tup (SqT.of upd_same) (.cons (.int _) (.cons (.int _) .nil)), .lst (SqL.of e1') (dpTups e2'), rfl, shapedPairs _, _, rfl, ?_⟩
        rw [anyPair (notTaken ge.once hm)]
        refine iteF ⟨_, rfl, .inl ⟨rfl, _, SqL.of e1'⟩, _, rfl, fo, _, _, rfl, rfl, e1', ?_, ?_⟩
        · rw [List.length_map, e2.1, List.length_take, sizeLine_eq]
          have := ge.few
          have := lms es
          omega
        refine ⟨_, _, fs ++ [ed], rfl, fun b o z => ?_, by rw [upd_same, List.map_append]; rfl, ?_, fun k t' hk => ?_⟩
        · rw [upd_ne (ne_of_none z f0)]
          exact same_upd ned _ _ (sm _ _ z)
        · rw [takeMore hm, List.length_append, List.length_append, e2.1]
          rfl
        · have efo : ed ≠ fo := (ne_of_none e1 ned).symm
          by_cases hlt : k < fs.length
          · rw [List.getElem?_append_left hlt] at hk
            obtain ⟨x, q1, q2⟩ := e2.2 k t' hk
            refine ⟨x, ?_, ?_⟩
            · rw [takeMore hm, List.getElem?_append_left (by rw [← e2.1]; exact hlt)]
              exact q1
            · rw [upd_ne (ne_of q2 e1 (by intro z; cases z)), upd_ne (ne_of_none q2 ned)]
              exact q2
          · rw [List.getElem?_append_right (by omega)] at hk
            have hk' : k = fs.length := by
              have z := (List.getElem?_eq_some_iff.mp hk).1
              simp at z
              omega
            subst hk'
            rw [Nat.sub_self] at hk
            obtain rfl : ed = t' := Option.some.inj hk
            refine ⟨ordP e, ?_, ?_⟩
            · rw [takeMore hm, e2.1, List.getElem?_append_right (Nat.le_refl _), Nat.sub_self]
              rfl
            · rw [upd_ne efo, upd_same]
              rfl
      · obtain ⟨o3, o4, fs, rfl, sm, e1, e2⟩ := h
        rw [List.length_map, h2.1, ← lms, List.take_length] at e2
        refine ⟨_, rfl, fo, _, keyE H', rfl, SqL.of e1, fun y hy => ?_, fun ys q hsrt hstb nq => ?_⟩
        · obtain ⟨t, ht, rfl⟩ := List.mem_map.mp hy
          obtain ⟨k', hk', he'⟩ := List.mem_iff_getElem.mp ht
          obtain ⟨x, q1, q2⟩ := e2.2 k' t (by rw [List.getElem?_eq_getElem hk', he'])
          exact ⟨t, rfl, by rw [keyE_at q2]; exact q2⟩
        · obtain ⟨ts', es', rfl, r1, r2⟩ := permTups e2 hstb.perm
          refine k q _ es' (sm.free nq) (sm.trans (same_upd nq)) ⟨ts', upd_same, r1.same (same_upd nq)⟩ r2 ?_
          have ek : (ts'.map V.ref).map (keyE H') = es' := by
            apply List.ext_getElem
            · rw [List.length_map, List.length_map, r1.1]
            · intro k h1 h2
              rw [List.length_map, List.length_map] at h1
              obtain ⟨e, q1, q2⟩ := r1.2 k ts'[k] (List.getElem?_eq_getElem h1)
              rw [List.getElem_map, List.getElem_map, keyE_at q2]
              rw [List.getElem?_eq_getElem h2] at q1
              exact (Option.some.inj q1).symm
          unfold SrtE
          rw [← ek]
          refine List.pairwise_map.mpr (hsrt.imp fun {a b} h => ?_)
          have := SrtO.lexB_no.mp h
          omega
    · refine ⟨_, pss_cons (ps_if (pt_not (pt_val (pe_callB call_isiT (by rfl) M.isi boot_isi (pa_cons (pv 1) (pa_cons (pe_tup (pa_cons (pe_bltn (v := V.ty "list") rfl M.list (by decide +kernel) rfl)
          (pa_cons (pe_bltn (v := V.ty "tuple") rfl M.tuple (by decide +kernel) rfl) pa_nil))) pa_nil))))) (pss_one (ps_raiseX rfl EE tyE hr2 (takes_of rfl rfl rfl rfl) rfl (pa_cons (pv 1) pa_nil))) pss_nil)
      (pss_cons (ps_set (i := 2) sc_checked_edges.nd rfl (Or.inl rfl) (pe_lst pa_nil))
      (pss_cons (ps_for PassesOwn.leaving rfl (pi_list (pv 1)) (pg_name (i := 3) sc_checked_edges.nd rfl (Or.inl rfl))
        (pss_cons (ps_if (pt_not (pt_val (pe_call G hr (by rfl) mG kG bG .nil pass0 (pa_cons (pv 0) (pa_cons (pv 3) pa_nil))))) (pss_one (ps_raiseX rfl EE tyE hr2 (takes_of rfl rfl rfl rfl) rfl (pa_cons (pv 3) pa_nil))) pss_nil)
        (pss_cons (ps_set (i := 4) sc_checked_edges.nd rfl (Or.inl rfl) (pe_tup (pa_cons (pe_callB (cr_minT rfl hr.units) (by rfl) M.min boot_min1 (pa_cons (pv 3) pa_nil))
          (pa_cons (pe_callB (cr_maxT rfl hr.units) (by rfl) M.max boot_max1 (pa_cons (pv 3) pa_nil)) pa_nil))))
        (pss_cons (ps_if (pt_cmpR (op_inD hu65) (pv 4) (pv 2) (by rfl)) (pss_one (ps_raiseX rfl EE tyE hr2 (takes_of rfl rfl rfl rfl) rfl (pa_cons (pv 3) pa_nil))) pss_nil)
        (pss_one (ps_expr (pe_bm PySem.F.plainAttrs_list PySem.F.slot_list_append PySem.F.type_list_append mt_append (pv 2) (pa_cons (pv 4) pa_nil))))))))
      (pss_one (ps_ret (pe_callB (show CallR _ (.builtin "sorted") (rSortedPO K) from cr_sortedPO) (by rfl) M.sorted boot_sorted1 (pa_cons (pv 2) pa_nil)))))), ?_⟩
      refine ⟨_, rfl, by show 2 ≤ sizeLine; decide, fun tp ntp => ⟨v, tp, _, _, _, _, rfl, upd_same, .cons (.ty _) (.cons (.ty _) .nil), tyXSame hT (same_upd ntp), kT, _, rfl, iteT ?_⟩⟩
      exact ⟨_, rfl, v, rfl, fun dd H' nd s2 hx => t H' dd ((same_upd ntp).trans s2) ((same_upd ntp).free nd) hx⟩
    · refine ⟨_, pss_cons (ps_if (pt_not (pt_val (pe_callB call_isiT (by rfl) M.isi boot_isi (pa_cons (pv 1) (pa_cons (pe_tup (pa_cons (pe_bltn (v := V.ty "list") rfl M.list (by decide +kernel) rfl)
          (pa_cons (pe_bltn (v := V.ty "tuple") rfl M.tuple (by decide +kernel) rfl) pa_nil))) pa_nil))))) (pss_one (ps_raiseX rfl EE tyE hr2 (takes_of rfl rfl rfl rfl) rfl (pa_cons (pv 1) pa_nil))) pss_nil)
      (pss_cons (ps_set (i := 2) sc_checked_edges.nd rfl (Or.inl rfl) (pe_lst pa_nil))
      (pss_cons (ps_for PassesOwn.leaving rfl (pi_list (pv 1)) (pg_name (i := 3) sc_checked_edges.nd rfl (Or.inl rfl))
        (pss_cons (ps_if (pt_not (pt_val (pe_call G hr (by rfl) mG kG bG .nil pass0 (pa_cons (pv 0) (pa_cons (pv 3) pa_nil))))) (pss_one (ps_raiseX rfl EE tyE hr2 (takes_of rfl rfl rfl rfl) rfl (pa_cons (pv 3) pa_nil))) pss_nil)
        (pss_cons (ps_set (i := 4) sc_checked_edges.nd rfl (Or.inl rfl) (pe_tup (pa_cons (pe_callB (cr_minT rfl hr.units) (by rfl) M.min boot_min1 (pa_cons (pv 3) pa_nil))
          (pa_cons (pe_callB (cr_maxT rfl hr.units) (by rfl) M.max boot_max1 (pa_cons (pv 3) pa_nil)) pa_nil))))
        (pss_cons (ps_if (pt_cmpR (op_inD hu65) (pv 4) (pv 2) (by rfl)) (pss_one (ps_raiseX rfl EE tyE hr2 (takes_of rfl rfl rfl rfl) rfl (pa_cons (pv 3) pa_nil))) pss_nil)
        (pss_one (ps_expr (pe_bm PySem.F.plainAttrs_list PySem.F.slot_list_append PySem.F.type_list_append mt_append (pv 2) (pa_cons (pv 4) pa_nil))))))))
      (pss_one (ps_ret (pe_callB (show CallR _ (.builtin "sorted") (rSortedPO K) from cr_sortedPO) (by rfl) M.sorted boot_sorted1 (pa_cons (pv 2) pa_nil)))))), ?_⟩
      have ms : ∀ {i : Nat} {e : Int × Int}, es[i]? = some e → (es.map ordP)[i]? = some (ordP e) := fun {i e} he => by rw [List.getElem?_map, he]; rfl
      refine ⟨_, rfl, by show 2 ≤ sizeLine; decide, fun tp ntp => ⟨.ref p, tp, _, _, _, _, rfl, upd_same, .cons (.ty _) (.cons (.ty _) .nil), .base (.lst (same_upd ntp _ _ hp)), kitLT K, _, rfl, iteF ?_⟩⟩
      refine ⟨by show 0 ≤ sizeLine; decide, fun fo nfo => ?_⟩
      have s0 := (same_upd ntp (o := .tup [V.ty "list", V.ty "tuple"])).trans (same_upd nfo (o := .lst []))
      have f0 : H fo = none := Same.free (same_upd ntp) nfo
      refine ⟨_, rfl, p, rfl, ⟨_, SqL.of (s0 _ _ hp)⟩, for_list (K := K) (a := p) (xs := ts.map V.ref ++ y :: rest) (fun i σ H' => i ≤ ts.length ∧ ∃ (o3 o4 : Option V) (fs : List Addr), σ = [some (.int n), some (.ref p), some (.ref fo), o3, o4] ∧
        Same H H' ∧ H' fo = some (.lst (fs.map V.ref)) ∧ TupsAt H' fs ((es.map ordP).take i)) ⟨Nat.zero_le _, none, none, [], rfl, s0, upd_same, ⟨rfl, fun k t e => by simp at e⟩⟩ (fun i σ H' _ h => ?_) (fun i y' σ H' hi h => ?_) (fun σ H' h => ?_)⟩
      · obtain ⟨_, _, _, _, _, sm, _, _⟩ := h
        exact SqL.of (sm _ _ hp)
      · obtain ⟨hle, o3, o4, fs, rfl, sm, e1, e2⟩ := h
        by_cases c : i < ts.length
        case pos =>
          rw [List.getElem?_append_left (by rw [List.length_map]; exact c)] at hi
          obtain ⟨t', ht, rfl⟩ := refAt hi
          obtain ⟨e, he, hte⟩ := h2.2 i t' ht
          have good := ge.node e (List.mem_of_getElem? he)
          have hm := ms he
          have hte0 := sm _ _ hte
          refine ⟨_, rfl, _, rfl, n, .ref t', pairD e, rfl, .dat (.tup (SqT.of hte0) (.cons (.int _) (.cons (.int _) .nil))), fun H0' s0' => ⟨_, rfl, ?_⟩⟩
          rw [isEdgePair ⟨good.1, good.2.1, good.2.2.1, good.2.2.2.1, good.2.2.2.2⟩]
          refine iteF ?_
          have sm := sm.trans s0'
          have e1 := s0' _ _ e1
          have e2 := e2.same s0'
          have hte' := sm _ _ hte
          refine ⟨_, rfl, t', e.1, e.2, rfl, hte', _, rfl, t', e.1, e.2, rfl, hte', by show 2 ≤ sizeLine; decide, fun ed ned => ?_⟩
          have e1' : (upd H0' ed (.tup [V.int (min e.1 e.2), V.int (max e.1 e.2)])) fo = some (.lst (fs.map V.ref)) := same_upd ned _ _ e1
          have e2' := e2.same (same_upd ned (o := .tup [V.int (min e.1 e.2), V.int (max e.1 e.2)]))
          refine ⟨_, rfl, _, rfl, pairD (ordP e), ((es.map ordP).take i).map pairD, .tup (SqT.of upd_same) (.cons (.int _) (.cons (.int _) .nil)), .lst (SqL.of e1') (dpTups e2'), rfl, shapedPairs _, _, rfl, ?_⟩
          rw [anyPair (notTaken ge.once hm)]
          refine iteF ⟨_, rfl, .inl ⟨rfl, _, SqL.of e1'⟩, _, rfl, fo, _, _, rfl, rfl, e1', ?_, ?_⟩
          · rw [List.length_map, e2.1, List.length_take, sizeLine_eq]
            have := ge.few
            have := lms es
            omega
          refine ⟨by omega, _, _, fs ++ [ed], rfl, fun b o z => ?_, by rw [upd_same, List.map_append]; rfl, ?_, fun k t2 hk => ?_⟩
          · rw [upd_ne (ne_of_none z f0)]
            exact same_upd ned _ _ (sm _ _ z)
          · rw [takeMore hm, List.length_append, List.length_append, e2.1]
            rfl
          · have efo : ed ≠ fo := (ne_of_none e1 ned).symm
            by_cases hlt : k < fs.length
            · rw [List.getElem?_append_left hlt] at hk
              obtain ⟨x, q1, q2⟩ := e2.2 k t2 hk
              refine ⟨x, ?_, ?_⟩
              · rw [takeMore hm, List.getElem?_append_left (by rw [← e2.1]; exact hlt)]
                exact q1
              · rw [upd_ne (ne_of q2 e1 (by intro z; cases z)), upd_ne (ne_of_none q2 ned)]
                exact q2
            · rw [List.getElem?_append_right (by omega)] at hk
              have hk' : k = fs.length := by
                have z := (List.getElem?_eq_some_iff.mp hk).1
                simp at z
                omega
              subst hk'
              rw [Nat.sub_self] at hk
              obtain rfl : ed = t2 := Option.some.inj hk
              refine ⟨ordP e, ?_, ?_⟩
              · rw [takeMore hm, e2.1, List.getElem?_append_right (Nat.le_refl _), Nat.sub_self]
                rfl
              · rw [upd_ne efo, upd_same]
                rfl
        have ei : i = ts.length := by omega
        rw [List.getElem?_append_right (by rw [List.length_map]; omega), List.length_map, ei, Nat.sub_self] at hi
        obtain rfl : y = y' := Option.some.inj hi
        rcases bad with ⟨d, hd, hb⟩ | ⟨t0, e, rfl, hte, hge, hmem⟩
        · refine ⟨_, rfl, _, rfl, n, y, d, rfl, rdSame sm hd, fun H0' s0' => ⟨_, rfl, ?_⟩⟩
          rw [hb]
          exact iteT ⟨_, rfl, y, rfl, fun dd H2 nd s2 hx => t H2 dd (sm.trans (s0'.trans s2)) ((sm.trans s0').free nd) hx⟩
        · refine ⟨_, rfl, _, rfl, n, .ref t0, pairD e, rfl, .dat (.tup (SqT.of (sm _ _ hte)) (.cons (.int _) (.cons (.int _) .nil))), fun H0' s0' => ⟨_, rfl, ?_⟩⟩
          rw [isEdgePair hge]
          refine iteF ?_
          have sm := sm.trans s0'
          have e1 := s0' _ _ e1
          have e2 := e2.same s0'
          have hte' := sm _ _ hte
          refine ⟨_, rfl, t0, e.1, e.2, rfl, hte', _, rfl, t0, e.1, e.2, rfl, hte', by show 2 ≤ sizeLine; decide, fun ed ned => ?_⟩
          have s3 := same_upd ned (o := .tup [V.int (min e.1 e.2), V.int (max e.1 e.2)])
          have e1' : (upd H0' ed (.tup [V.int (min e.1 e.2), V.int (max e.1 e.2)])) fo = some (.lst (fs.map V.ref)) := s3 _ _ e1
          have e2' := e2.same s3
          refine ⟨_, rfl, _, rfl, pairD (ordP e), ((es.map ordP).take i).map pairD, .tup (SqT.of upd_same) (.cons (.int _) (.cons (.int _) .nil)), .lst (SqL.of e1') (dpTups e2'), rfl, shapedPairs _, _, rfl, ?_⟩
          rw [ei, h2.1, ← lms, List.take_length, anyPairT hmem]
          exact iteT ⟨_, rfl, .ref t0, rfl, fun dd H2 nd s2 hx => t H2 dd (sm.trans (s3.trans s2)) ((sm.trans s3).free nd) hx⟩
      · obtain ⟨hle, _⟩ := h
        rw [List.length_append, List.length_map, List.length_cons] at hle
        omega
end
def spGI01 (K : PySem.W.Frag) (CG CS CM CE : Addr) : Sp := fun vs H Q E => ∃ (x dx : Addr) (sv ev : V), vs = [.ref x, sv, ev] ∧ H x = some (.ins CG dx []) ∧
  ((∃ sd, Rd K H sv sd ∧ within 1 16 sd = false ∧ told CS sv H E) ∨
   (∃ n : Nat, sv = .int (n : Int) ∧ 1 ≤ n ∧ n ≤ 16 ∧
     ((NoSeq K H ev ∧ told CE ev H E) ∨ (∃ y, BadAt K H n ev y ∧ told CE y H E) ∨
      (∃ es, GoodAt K H n ev es ∧ (40 < es.length → told CM (.int (es.length : Int)) H E) ∧
        (es.length ≤ 40 → ∀ H' j nr N es', (∀ b o, b ≠ x → H b = some o → H' b = some o) → H' x = some (.ins CG dx (gflds (n : Int) j nr)) → EdgesAt H' j es' → NAt H' nr N → IsNear n es' N → es'.Perm (es.map ordP) → SrtE es' → H j = none → (∀ H2, (∀ b o, H b = none → H' b = some o → H2 b = some o) → NAt H2 nr N) → Q .non H')))))
section
variable {P : Program} {w : World} {K : PySem.W.Frag} {mg : Str → Option Value} {base : Heap} {CG CS CM CE CN : Addr}
theorem ok_gi01 {f : Addr} {fd : FuncData} {dvs : List V} {kws : List (Str × V)} (F : FunD K "__init__" "Graph.__init__" (defArgs s_Graph_init) (defBody s_Graph_init) (defScope s_Graph_init) dvs kws f fd) (T : GTxt K mg CG) (M : Nms mg)
    {t16 t40 : Tok} (m16 : mg "MOST_NODES" = some (.int 16 t16)) (m40 : mg "MOST_EDGES" = some (.int 40 t40)) (ES : Ex P w K mg base "InvalidSize" CS) (tyS : PySem.W.typeIn K (.ref CS) = some (.type "type"))
    (EM : Ex P w K mg base "TooMany" CM) (tyM : PySem.W.typeIn K (.ref CM) = some (.type "type"))
    (GW : At P w K mg base CX0 2 "is_integer_within" ["thing", "low", "high"] (spWithin K)) (GE' : At P w K mg base (L2.CX P w) 5 "checked_edges" ["size", "edges"] (spEdges01 K CE)) (GN : At P w K mg base CX0 1 "neighbour_lists" ["size", "edges"] (spNear K)) :
    FnOk P w K mg base (L2.CX P w) 6 f fd ["self", "size", "edges"] (spGI01 K CG CS CM CE) := by
  obtain ⟨gw, gwd, GW, mW, kW, bW⟩ := GW
  obtain ⟨ge, ged, GE', mE, kE, bE⟩ := GE'
  obtain ⟨gn, gnd, GN, mN, kN, bN⟩ := GN
  refine F.ok sc_ginit (fun vs H Q E h => ?_) (fun cdv A outer s H vs Q E hr h => ?_)
  · obtain ⟨x, dx, sv, ev, rfl, _⟩ := h
    rfl
  · obtain ⟨x, dx, sv, ev, rfl, hx, h⟩ := h
    have hr2 : Room 2 _ := hr.mono (by decide)
    have hr1 : Room 1 _ := hr.mono (by decide)
    refine ⟨_, pss_cons (ps_if (pt_not (pt_val (pe_call GW hr2 (by rfl) mW kW bW .nil pass0 (pa_cons (pv 1) (pa_cons pe_int (pa_cons (pe_glob (v := .int 16) (by rfl) m16 ⟨_, rfl⟩) pa_nil)))))) (pss_one (ps_raiseX rfl ES tyS hr2 (takes_of rfl rfl rfl rfl) rfl (pa_cons (pv 1) pa_nil))) pss_nil)
      (pss_cons (ps_set (i := 3) sc_ginit.nd rfl (Or.inl rfl) (pe_call GE' hr (by rfl) mE kE bE .nil (passes_call (E := E) (takes_of rfl rfl rfl rfl) (fun _ _ _ _ h => h)) (pa_cons (pv 1) (pa_cons (pv 2) pa_nil))))
      (pss_cons (ps_if (pt_cmpR op_gt (pe_callB call_len_seq (by rfl) M.len boot_len1 (pa_cons (pv 3) pa_nil)) (pe_glob (v := .int 40) (by rfl) m40 ⟨_, rfl⟩) (nomark _)) (pss_one (ps_raiseX rfl EM tyM hr2 (takes_of rfl rfl rfl rfl) rfl (pa_cons (pe_callB call_len_seq (by rfl) M.len boot_len1 (pa_cons (pv 3) pa_nil)) pa_nil))) pss_nil)
      (pss_cons (ps_fld (pv 0) (pv 1) rfl)
      (pss_cons (ps_fld (pv 0) (pv 3) rfl)
      (pss_one (ps_fld (pv 0) (pe_call GN hr1 (by rfl) mN kN bN .nil pass0 (pa_cons (pv 1) (pa_cons (pv 3) pa_nil))) rfl)))))), ?_⟩
    rcases h with ⟨sd, hsd, hw, t⟩ | ⟨n, rfl, n1, n16, h⟩
    · refine ⟨_, rfl, sv, sd, 1, 16, rfl, hsd, _, rfl, ?_⟩
      rw [hw]
      exact iteT ⟨_, rfl, sv, rfl, fun dd H' nd s2 hx => t H' dd s2 nd hx⟩
    refine ⟨_, rfl, .int n, .int n, 1, 16, rfl, .dat (.int n), _, rfl, ?_⟩
    have hw : within 1 16 (.int (n : Int)) = true := by
      show (decide ((1 : Int) ≤ n) && decide ((n : Int) ≤ 16)) = true
      rw [decide_eq_true (by omega), decide_eq_true (by omega)]
      rfl
    rw [hw]
    refine iteF ?_
    refine ⟨_, rfl, _, rfl, n, ev, rfl, ?_⟩
    rcases h with h | h | ⟨es, hG, kM, k⟩
    · exact .inr (.inl h)
    · exact .inr (.inr h)
    have good : GoodU n es := by
      obtain ⟨_, _, _, _, _, g⟩ := hG
      exact g
    refine .inl ⟨es, hG, fun q H1 es1 nq s1 hq pe sE => ?_⟩
    obtain ⟨ts, h1, h2⟩ := id hq
    have les : ts.length = es.length := by rw [h2.1, pe.length_eq, List.length_map]
    refine ⟨_, rfl, q, _, rfl, .inl (SqL.of h1), _, _, rfl, rfl, _, rfl, ?_⟩
    by_cases c40 : es.length ≤ 40
    case neg =>
      rw [decide_eq_true (by rw [List.length_map, les]; omega)]
      refine iteT ⟨_, rfl, q, _, rfl, .inl (SqL.of h1), _, rfl, fun dd H' nd s2 hx => ?_⟩
      rw [List.length_map, les] at hx
      exact kM (by omega) H' dd (s1.trans s2) (s1.free nd) hx
    rw [decide_eq_false (by rw [List.length_map, les]; omega)]
    have good1 : GoodE n es1 := (good.ord c40).perm pe
    refine iteF ?_
    have nxq : q ≠ x := (ne_of_none hx nq).symm
    refine ⟨_, rfl, _, rfl, x, CG, dx, _, rfl, s1 _ _ hx, T.cl, T.n1, by decide, ?_⟩
    refine ⟨_, rfl, _, rfl, x, CG, dx, _, rfl, upd_same, T.cl, T.n2, (by show 1 < 1000; decide), ?_⟩
    have hx1 := s1 _ _ hx
    have tx : ∀ (k : Nat) (t : Addr), ts[k]? = some t → t ≠ x := fun k t e => by
      obtain ⟨z, _, q2⟩ := h2.2 k t e
      exact ne_of q2 hx1 (by intro y; cases y)
    refine ⟨_, rfl, _, rfl, n, q, es1, rfl, ?_, good1, by omega, fun r H2 N nr s2 hN near => ?_⟩
    · exact ⟨ts, by rw [upd_ne nxq, upd_ne nxq]; exact h1, h2.1, fun k t e => by
        obtain ⟨z, q1, q2⟩ := h2.2 k t e
        exact ⟨z, q1, by rw [upd_ne (tx k t e), upd_ne (tx k t e)]; exact q2⟩⟩
    have hx2 := s2 _ _ (upd_same (H := upd H1 x (.ins CG dx (putF "node_count" (.int n) []))) (a := x) (o := .ins CG dx (putF "joined" (.ref q) (putF "node_count" (.int n) []))))
    refine ⟨_, rfl, x, CG, dx, _, rfl, hx2, T.cl, T.n3, (by show 2 < 1000; decide), ?_⟩
    have up : ∀ b o, b ≠ x → H1 b = some o → H2 b = some o := fun b o hb e => s2 _ _ (by rw [upd_ne hb, upd_ne hb]; exact e)
    refine k c40 _ q r N es1 (fun b o hb e => ?_) ?_ ⟨ts, ?_, h2.1, fun k t e => ?_⟩ ?_ near pe sE nq (fun H3 h3 => ?_)
    · rw [upd_ne hb]
      exact up b o hb (s1 _ _ e)
    · rw [upd_same]
      rfl
    · rw [upd_ne nxq]
      exact up q _ nxq h1
    · obtain ⟨z, q1, q2⟩ := h2.2 k t e
      exact ⟨z, q1, by rw [upd_ne (tx k t e)]; exact up t _ (tx k t e) q2⟩
    · refine hN _ fun b o hb e => ?_
      have bx : b ≠ x := fun z => by
        rw [z, upd_same] at hb
        cases hb
      rw [upd_ne bx]
      exact e
    · refine hN _ fun b o hb e => ?_
      have bx : b ≠ x := fun z => by
        rw [z, upd_same] at hb
        cases hb
      rw [upd_ne bx, upd_ne bx] at hb
      exact h3 b o (s1.free hb) (by rw [upd_ne bx]; exact e)
theorem preS {CG : Addr} {H : Hp} {x dx : Addr} (nx : H x = none) (ndx : H dx = none) (ne : dx ≠ x) : Same H (upd (upd H dx (.own x)) x (.ins CG dx [])) := by
  have sA : Same H (upd H dx (.own x)) := same_upd ndx
  have nx1 : (upd H dx (.own x)) x = none := by rw [upd_ne ne.symm]; exact nx
  exact sA.trans (same_upd nx1)
def spSizeE (CG : Addr) : Sp := fun vs H Q _ => ∃ g n es, vs = [.ref g] ∧ GE CG H g n es ∧ Q (.int (n : Int)) H
def spEdgesOf (CG : Addr) : Sp := fun vs H Q _ => ∃ g n es, vs = [.ref g] ∧ GE CG H g n es ∧ ∀ q H', H q = none → Same H H' → EdgesAt H' q es → Q (.ref q) H'
def spNb (K : PySem.W.Frag) (CG CN : Addr) : Sp := fun vs H Q E => ∃ g n es v d, vs = [.ref g, v] ∧ GE CG H g n es ∧ Rd K H v d ∧ (isNode n d = false → told CN v H E) ∧
  (∀ a : Nat, d = .int (a : Int) → a < n → ∀ N q H', IsNear n es N → H q = none → Same H H' → H' q = some (.lst ((N.getD a []).map V.int)) → Q (.ref q) H')
theorem ok_gsizeE {f : Addr} {fd : FuncData} (F : Fun K "size" "Graph.size" s_Graph_size f fd) (T : GTxt K mg CG) : FnOk P w K mg base CX0 1 f fd ["self"] (spSizeE CG) := by
  refine F.ok sc_gsize (fun vs H Q E h => ?_) (fun cdv A outer s H vs Q E hr h => ?_)
  · obtain ⟨g, n, es, rfl, _⟩ := h
    rfl
  · obtain ⟨g, n, es, rfl, ⟨⟨dx, j, nr, N, h1, h2, _, _⟩, _, _, _, _⟩, k⟩ := h
    exact ⟨_, pss_one (ps_ret (pe_fld (pv 0) rfl)), _, rfl, g, CG, dx, _, _, rfl, h1, T.cl, T.n1, gl_n _ _ _, k⟩
theorem sc_gedges : FnScope ["self"] ["self"] (defScope s_Graph_edges) := ⟨rfl, rfl, rfl, by decide +kernel, rfl, by decide +kernel, by decide +kernel⟩
theorem ok_gedges {f : Addr} {fd : FuncData} (F : Fun K "edges" "Graph.edges" s_Graph_edges f fd) (T : GTxt K mg CG) (M : Nms mg) : FnOk P w K mg base CX0 1 f fd ["self"] (spEdgesOf CG) := by
  refine F.ok sc_gedges (fun vs H Q E h => ?_) (fun cdv A outer s H vs Q E hr h => ?_)
  · obtain ⟨g, n, es, rfl, _⟩ := h
    rfl
  · obtain ⟨g, n, es, rfl, ⟨⟨dx, j, nr, N, h1, ⟨ts, h2, h3⟩, _, _⟩, _, _, _, _⟩, k⟩ := h
    refine ⟨_, pss_one (ps_ret (pe_callTy call_list_of (by rfl) M.list (by decide +kernel) (pa_cons (pe_fld (pv 0) rfl) pa_nil))), ?_⟩
    refine ⟨_, rfl, g, CG, dx, _, _, rfl, h1, T.cl, T.n2, gl_j _ _ _, j, _, rfl, .inl (SqL.of h2), fun q nq => ?_⟩
    exact k q _ nq (same_upd nq) ⟨ts, upd_same, h3.same (same_upd nq)⟩
def spCheckNodeY (K : PySem.W.Frag) (CN : Addr) : Sp := fun vs H Q E => ∃ (n : Nat) (v : V) (d : PyData), vs = [.int (n : Int), v] ∧ Rd K H v d ∧ (isNode n d = false → told CN v H E) ∧ (isNode n d = true → Q .non H)
theorem ok_check_nodeY {f : Addr} {fd : FuncData} (F : Fun K "check_node" "check_node" s_check_node f fd) (EN : Ex P w K mg base "InvalidNode" CN) (tyN : PySem.W.typeIn K (.ref CN) = some (.type "type"))
    (G : At P w K mg base CX0 3 "is_node" ["size", "thing"] (spIsNode K)) : FnOk P w K mg base (L2.CX P w) 4 f fd ["size", "node"] (spCheckNodeY K CN) := by
  obtain ⟨g, gd, G, mG, kG, bG⟩ := G
  refine F.okX sc_check_node (fun vs H Q E h => ?_) (fun cdv A outer s H vs Q E hr h => ?_)
  · obtain ⟨n, v, d, rfl, _⟩ := h
    rfl
  · obtain ⟨n, v, d, rfl, hd, t, k⟩ := h
    have hr2 : Room 2 _ := hr.mono (by decide)
    refine ⟨_, pss_one (ps_if (pt_not (pt_val (pe_call G hr (by rfl) mG kG bG .nil pass0 (pa_cons (pv 0) (pa_cons (pv 1) pa_nil))))) (pss_one (ps_raiseX rfl EN tyN hr2 (takes_of rfl rfl rfl rfl) rfl (pa_cons (pv 1) pa_nil))) pss_nil), ?_⟩
    refine ⟨_, rfl, _, rfl, v, d, n, rfl, hd, _, rfl, ?_⟩
    cases c : isNode n d with
    | false => exact iteT ⟨_, rfl, v, rfl, fun dd H' nd s2 hx => t c H' dd s2 nd hx⟩
    | true => exact iteF (k c)
theorem ok_nbY {f : Addr} {fd : FuncData} (F : Fun K "neighbours" "Graph.neighbours" s_Graph_neighbours f fd) (T : GTxt K mg CG) (M : Nms mg) (G : At P w K mg base (L2.CX P w) 4 "check_node" ["size", "node"] (spCheckNodeY K CN)) :
    FnOk P w K mg base (L2.CX P w) 5 f fd ["self", "node"] (spNb K CG CN) := by
  obtain ⟨c, cd, G, mG, kG, bG⟩ := G
  refine F.okX sc_neighbours (fun vs H Q E h => ?_) (fun cdv A outer s H vs Q E hr h => ?_)
  · obtain ⟨g, n, es, v, d, rfl, _⟩ := h
    rfl
  · obtain ⟨g, n, es, v, d, rfl, ⟨⟨dx, j, nr, N, h1, h2, h3, h4⟩, _, _, _, _⟩, hd, t, k⟩ := h
    refine ⟨_, pss_cons (ps_expr (pe_call G hr (by rfl) mG kG bG .nil (passes_call (E := E) (takes_of rfl rfl rfl rfl) (fun _ _ _ _ h => h)) (pa_cons (pe_fld (pv 0) rfl) (pa_cons (pv 1) pa_nil))))
      (pss_one (ps_ret (pe_callTy call_list_of (by rfl) M.list (by decide +kernel) (pa_cons (pe_ix ix_list (pe_fld (pv 0) rfl) (pv 1) (fun _ _ => rfl)) pa_nil)))), ?_⟩
    refine ⟨_, rfl, g, CG, dx, _, _, rfl, h1, T.cl, T.n1, gl_n _ _ _, _, rfl, n, v, d, rfl, hd, t, fun hn => ?_⟩
    obtain ⟨a, rfl, ha⟩ := nodeD hn
    cases hd with
    | dat hd =>
      cases hd
      obtain ⟨xs, r, g1, g2, g3⟩ := h3.row (i := (a : Int)) (by omega) (by rw [h4.len]; omega)
      refine ⟨_, rfl, g, CG, dx, _, _, rfl, h1, T.cl, T.n3, gl_r _ _ _, _, rfl, nr, xs, (a : Int), _, rfl, rfl, SqL.of g1, g2, r, _, rfl, .inl (SqL.of g3), fun q nq => ?_⟩
      exact k a rfl ha N q _ h4 nq (same_upd nq) upd_same
end
end K72
set_option Elab.async false
set_option linter.all false
set_option maxRecDepth 100000
set_option maxHeartbeats 8000000
namespace K72
open PySem PySem.Spec PyProof.Rows L2 FNX
def FrL (A : List Addr) (H H' : Hp) : Prop := ∀ b o, b ∉ A → H b = some o → H' b = some o
theorem FrL.refl {A : List Addr} {H : Hp} : FrL A H H := fun _ _ _ e => e
theorem FrL.trans {A : List Addr} {H H1 H2 : Hp} (a : FrL A H H1) (b : FrL A H1 H2) : FrL A H H2 := fun c o n e => b c o n (a c o n e)
theorem FrL.mono {A B : List Addr} {H H1 : Hp} (a : FrL A H H1) (h : ∀ c ∈ A, c ∈ B) : FrL B H H1 := fun c o n e => a c o (fun z => n (h c z)) e
theorem sameFr {A : List Addr} {H H1 : Hp} (a : Same H H1) : FrL A H H1 := fun c o _ e => a c o e
theorem frUpd {A : List Addr} {H : Hp} {a : Addr} {o : HO} (h : a ∈ A) : FrL A H (upd H a o) := fun c u n e => by
  have ne : c ≠ a := fun z => by
    subst z
    exact n h
  rw [upd_ne ne]
  exact e
def Stb (A : List Addr) (H : Hp) (Φ : Hp → Prop) : Prop := ∀ H', FrL A H H' → Φ H'
theorem Stb.at {A : List Addr} {H : Hp} {Φ : Hp → Prop} (h : Stb A H Φ) : Φ H := h H FrL.refl
theorem Stb.step {A : List Addr} {H H1 : Hp} {Φ : Hp → Prop} (h : Stb A H Φ) (f : FrL A H H1) : Stb A H1 Φ := fun H2 f2 => h H2 (f.trans f2)
def Dom (A : List Addr) (H : Hp) : Prop := ∀ a ∈ A, ∃ o, H a = some o ∧ ∀ vs, o ≠ .tup vs
theorem Dom.same {A : List Addr} {H H' : Hp} (h : Dom A H) (s : Same H H') : Dom A H' := fun a ha => by
  obtain ⟨o, e, n⟩ := h a ha
  exact ⟨o, s _ _ e, n⟩
theorem Dom.upd {A : List Addr} {H : Hp} {a : Addr} {o : HO} (h : Dom A H) (n : ∀ vs, o ≠ .tup vs) : Dom A (upd H a o) := fun b hb => by
  by_cases c : b = a
  · subst c
    exact ⟨o, upd_same, n⟩
  · rw [upd_ne c]
    exact h b hb
theorem Dom.new {A : List Addr} {H : Hp} {a : Addr} (h : Dom A H) (n : H a = none) : a ∉ A := fun z => by
  obtain ⟨o, e, _⟩ := h a z
  rw [n] at e
  cases e
inductive Op
  | fire (p v : Nat) | back (p v : Nat) | put (v : Nat) (z : Int) | add (z : Int) | drop | join (a b : Nat) | part (a b : Nat)
def opV : Op → List V
  | .fire p v => [.str "fire", .int (p : Int), .int (v : Int)]
  | .back p v => [.str "take_back", .int (p : Int), .int (v : Int)]
  | .put v z => [.str "put", .int (v : Int), .int z]
  | .add z => [.str "add_node", .int z]
  | .drop => [.str "drop_node"]
  | .join a b => [.str "add_edge", .int (a : Int), .int (b : Int)]
  | .part a b => [.str "remove_edge", .int (a : Int), .int (b : Int)]
structure Mo where
  n : Nat
  es : List (Int × Int)
  x : List Int
  sc : List Int
inductive Er
  | player (p : Nat) | neg (v : Nat) | edge (a b : Nat) | many (k : Nat)
def edg (a b : Nat) : Int × Int := (min (a : Int) b, max (a : Int) b)
def leE (a b : Int × Int) : Bool := decide (a.1 < b.1 ∨ (a.1 = b.1 ∧ a.2 ≤ b.2))
def srtE (es : List (Int × Int)) : List (Int × Int) := es.mergeSort leE
theorem srtE_perm (es : List (Int × Int)) : (srtE es).Perm es := List.mergeSort_perm es leE
theorem srtE_srt (es : List (Int × Int)) : SrtE (srtE es) := by
  have h := List.pairwise_mergeSort (le := leE) (fun a b c h1 h2 => by
    unfold leE at *
    rw [decide_eq_true_eq] at *
    omega) (fun a b => by
    unfold leE
    rw [Bool.or_eq_true, decide_eq_true_eq, decide_eq_true_eq]
    omega) es
  exact h.imp fun {a b} h => by
    unfold leE at h
    rwa [decide_eq_true_eq] at h
def nearF (n : Nat) (es : List (Int × Int)) : List (List Int) := (List.range n).map fun i : Nat => (rowOf es (i : Int)).mergeSort fun a b => decide (a ≤ b)
theorem nearF_at {n i : Nat} {es : List (Int × Int)} (h : i < n) : (nearF n es).getD i [] = (rowOf es (i : Int)).mergeSort fun a b => decide (a ≤ b) := by
  unfold nearF
  rw [List.getD_eq_getElem?_getD, List.getElem?_map, List.getElem?_range h]
  rfl
theorem nearF_is (n : Nat) (es : List (Int × Int)) : IsNear n es (nearF n es) := ⟨by unfold nearF; rw [List.length_map, List.length_range], fun i hi => by
  rw [nearF_at hi]
  exact List.mergeSort_perm _ _, fun i hi => by
  rw [nearF_at hi]
  exact (List.pairwise_mergeSort (le := fun a b : Int => decide (a ≤ b)) (fun a b c h1 h2 => by
    rw [decide_eq_true_eq] at *
    omega) (fun a b => by
    rw [Bool.or_eq_true, decide_eq_true_eq, decide_eq_true_eq]
    omega) _).imp fun {a b} h => by rwa [decide_eq_true_eq] at h⟩
def flipM (M : Mo) (v : Nat) : List Int := flipL ((nearF M.n M.es).getD v []) M.x v
def stepM (M : Mo) : Op → Except Er (Mo × V)
  | .fire p v => if M.sc.length ≤ p then .error (.player p) else if 0 ≤ M.x.getD v 0 then .error (.neg v) else .ok (⟨M.n, M.es, flipM M v, M.sc.set p (M.sc.getD p 0 + 1)⟩, .non)
  | .back p v => .ok (⟨M.n, M.es, flipM M v, M.sc.set p (M.sc.getD p 0 - 1)⟩, .non)
  | .put v z => .ok (⟨M.n, M.es, M.x.set v z, M.sc⟩, .non)
  | .add z => if M.n = 16 then .error (.many 17) else .ok (⟨M.n + 1, M.es, M.x ++ [z], M.sc⟩, .int (M.n : Int))
  | .drop => .ok (⟨M.n - 1, M.es, M.x.dropLast, M.sc⟩, .non)
  | .join a b => if a = b ∨ edg a b ∈ M.es then .error (.edge a b) else if 40 ≤ M.es.length then .error (.many 41) else .ok (⟨M.n, srtE (M.es ++ [edg a b]), M.x, M.sc⟩, .non)
  | .part a b => if edg a b ∈ M.es then .ok (⟨M.n, M.es.filter fun e => decide (e ≠ edg a b), M.x, M.sc⟩, .non) else .error (.edge a b)
def invM (M : Mo) : Op → Op
  | .fire p v => .back p v
  | .back p v => .fire p v
  | .put v _ => .put v (M.x.getD v 0)
  | .add _ => .drop
  | .drop => .add (M.x.getD (M.n - 1) 0)
  | .join a b => .part a b
  | .part a b => .join a b
/-- an operation whose nodes the graph has -/
def okOp (M : Mo) : Op → Prop
  | .fire _ v => v < M.n
  | .back p v => v < M.n ∧ p < M.sc.length
  | .put v _ => v < M.n
  | .add _ => True
  | .drop => 2 ≤ M.n ∧ ∀ e ∈ M.es, e.2 + 1 < M.n
  | .join a b => a < M.n ∧ b < M.n
  | .part a b => a < M.n ∧ b < M.n
def sflds (g nl pl : Addr) : List (Str × V) := [("drawn", .ref g), ("numbers", .ref nl), ("points", .ref pl)]
structure STxt (K : PySem.W.Frag) (mg : Str → Option Value) (CT : Addr) : Prop where
  cl : Cls K CT
  n1 : NoAttr K CT "drawn"
  n2 : NoAttr K CT "numbers"
  n3 : NoAttr K CT "points"
  mgC : mg "State" = some (.ref CT)
structure StAt (CG CT : Addr) (A : List Addr) (H : Hp) (so : Addr) (M : Mo) (g nl pl : Addr) : Prop where
  obj : ∃ dx, H so = some (.ins CT dx (sflds g nl pl))
  gr : Stb A H fun H' => GE CG H' g M.n M.es
  num : H nl = some (.lst (M.x.map V.int))
  pts : H pl = some (.lst (M.sc.map V.int))
  ne : nl ≠ pl
  len : M.x.length = M.n
  few : M.sc.length ≤ 1000
  sA : so ∈ A
  nA : nl ∈ A
  pA : pl ∈ A
  dom : Dom A H
theorem StAt.same {CG CT : Addr} {A : List Addr} {H H' : Hp} {so : Addr} {M : Mo} {g nl pl : Addr} (h : StAt CG CT A H so M g nl pl) (s : Same H H') : StAt CG CT A H' so M g nl pl := by
  obtain ⟨⟨dx, h1⟩, h2, h3, h4, h5, h6, h7, h8, h9, h10, h11⟩ := h
  exact ⟨⟨dx, s _ _ h1⟩, h2.step (sameFr s), s _ _ h3, s _ _ h4, h5, h6, h7, h8, h9, h10, h11.same s⟩
def toldEr (CPl CNg CE CM : Addr) (er : Er) (H : Hp) (E : XK) : Prop := match er with
  | .player p => told CPl (.int (p : Int)) H E
  | .neg v => told CNg (.int (v : Int)) H E
  | .edge a b => ∀ t H', Same H H' → H' t = some (.tup [.int (a : Int), .int (b : Int)]) → told CE (.ref t) H' E
  | .many k => told CM (.int (k : Int)) H E
/-- what an operation answers and leaves -/
def opDone (CG CT CPl CNg CE CM : Addr) (A : List Addr) (so nl pl : Addr) (M : Mo) (op : Op) (H : Hp) (Q : VK) (E : XK) : Prop := match stepM M op with
  | .error er => toldEr CPl CNg CE CM er H E
  | .ok r => ∀ (t iv g' : Addr) (H' : Hp), FrL [so, nl, pl] H H' → StAt CG CT A H' so r.1 g' nl pl → H t = none → H' t = some (.tup [r.2, .ref iv]) → H' iv = some (.tup (opV (invM M op))) → Q (.ref t) H'
def spAct (CG CT CPl CNg CE CM : Addr) (kind : Op → Bool) : Sp := fun vs H Q E => ∃ (A : List Addr) (so : Addr) (M : Mo) (g nl pl : Addr) (op : Op), kind op = true ∧ vs = .ref so :: (opV op).tail ∧ StAt CG CT A H so M g nl pl ∧ okOp M op ∧ opDone CG CT CPl CNg CE CM A so nl pl M op H Q E
def isFire : Op → Bool | .fire _ _ => true | _ => false
def isPut : Op → Bool | .put _ _ => true | _ => false
def isAdd : Op → Bool | .add _ => true | _ => false
def isJoin : Op → Bool | .join _ _ => true | _ => false
def isPart : Op → Bool | .part _ _ => true | _ => false
def spCheckPl (K : PySem.W.Frag) (CPl : Addr) : Sp := fun vs H Q E => ∃ (n : Nat) (v : V) (d : PyData), vs = [.int (n : Int), v] ∧ Rd K H v d ∧ (isNode n d = false → told CPl v H E) ∧ (isNode n d = true → Q .non H)
def spCheckNu (K : PySem.W.Frag) (CNu : Addr) : Sp := fun vs H Q E => ∃ (v : V) (d : PyData), vs = [v] ∧ Rd K H v d ∧ (isI d = false → told CNu v H E) ∧ (isI d = true → Q .non H)
theorem nodeNat {n v : Nat} : isNode n (.int (v : Int)) = decide (v < n) := by
  by_cases c : v < n
  · rw [nodeIn (by omega) (by omega), decide_eq_true c]
  · rw [decide_eq_false c]
    show (decide ((0 : Int) ≤ (v : Int)) && decide ((v : Int) ≤ (n : Int) - 1)) = false
    rw [decide_eq_false (show ¬ (v : Int) ≤ (n : Int) - 1 by omega), Bool.and_false]
theorem sl_g (g nl pl : Addr) : (sflds g nl pl).lookup ("drawn" : Str) = some (V.ref g) := rfl
theorem sl_n (g nl pl : Addr) : (sflds g nl pl).lookup ("numbers" : Str) = some (V.ref nl) := rfl
theorem sl_p (g nl pl : Addr) : (sflds g nl pl).lookup ("points" : Str) = some (V.ref pl) := rfl
section
variable {P : Program} {w : World} {K : PySem.W.Frag} {mg : Str → Option Value} {base : Heap} {CG CT CPl CNg CE CM CN CNu : Addr}
theorem ok_check_player {f : Addr} {fd : FuncData} (F : Fun K "check_player" "check_player" s_check_player f fd) (EN : Ex P w K mg base "NoPlayer" CPl) (tyN : PySem.W.typeIn K (.ref CPl) = some (.type "type"))
    (G : At P w K mg base CX0 2 "is_integer_within" ["thing", "low", "high"] (spWithin K)) : FnOk P w K mg base (L2.CX P w) 4 f fd ["count", "player"] (spCheckPl K CPl) := by
  obtain ⟨g, gd, G, mG, kG, bG⟩ := G
  refine F.okX ⟨rfl, rfl, rfl, by decide +kernel, rfl, by decide +kernel, by decide +kernel⟩ (N := ["count", "player"]) (fun vs H Q E h => ?_) (fun cdv A outer s H vs Q E hr h => ?_)
  · obtain ⟨n, v, d, rfl, _⟩ := h
    rfl
  · obtain ⟨n, v, d, rfl, hd, t, k⟩ := h
    have hr2 : Room 2 _ := hr.mono (by decide)
    refine ⟨_, pss_one (ps_if (pt_not (pt_val (pe_call G hr2 (by rfl) mG kG bG .nil pass0 (pa_cons (pv 1) (pa_cons pe_int (pa_cons (pe_op op_sub (pv 0) pe_int) pa_nil)))))) (pss_one (ps_raiseX rfl EN tyN hr2 (takes_of rfl rfl rfl rfl) rfl (pa_cons (pv 1) pa_nil))) pss_nil), ?_⟩
    refine ⟨_, rfl, _, rfl, _, _, rfl, rfl, v, d, 0, (n : Int) - 1, rfl, hd, _, rfl, ?_⟩
    have e : within 0 ((n : Int) - 1) d = isNode n d := rfl
    rw [e]
    cases c : isNode n d with
    | false => exact iteT ⟨_, rfl, v, rfl, fun dd H' nd s2 hx => t c H' dd s2 nd hx⟩
    | true => exact iteF (k c)
theorem ok_check_number {f : Addr} {fd : FuncData} (F : Fun K "check_number" "check_number" s_check_number f fd) (EN : Ex P w K mg base "InvalidNumber" CNu) (tyN : PySem.W.typeIn K (.ref CNu) = some (.type "type"))
    (G : At P w K mg base CX0 1 "is_integer" ["thing"] (spIsInteger K)) : FnOk P w K mg base (L2.CX P w) 3 f fd ["number"] (spCheckNu K CNu) := by
  obtain ⟨g, gd, G, mG, kG, bG⟩ := G
  refine F.okX ⟨rfl, rfl, rfl, by decide +kernel, rfl, by decide +kernel, by decide +kernel⟩ (N := ["number"]) (fun vs H Q E h => ?_) (fun cdv A outer s H vs Q E hr h => ?_)
  · obtain ⟨v, d, rfl, _⟩ := h
    rfl
  · obtain ⟨v, d, rfl, hd, t, k⟩ := h
    have hr1 : Room 1 _ := hr.mono (by decide)
    refine ⟨_, pss_one (ps_if (pt_not (pt_val (pe_call G hr1 (by rfl) mG kG bG .nil pass0 (pa_cons (pv 0) pa_nil)))) (pss_one (ps_raiseX rfl EN tyN hr (takes_of rfl rfl rfl rfl) rfl (pa_cons (pv 0) pa_nil))) pss_nil), ?_⟩
    refine ⟨_, rfl, v, d, rfl, hd, _, rfl, ?_⟩
    cases c : isI d with
    | false => exact iteT ⟨_, rfl, v, rfl, fun dd H' nd s2 hx => t c H' dd s2 nd hx⟩
    | true => exact iteF (k c)
end
end K72
set_option Elab.async false
set_option linter.all false
set_option maxRecDepth 100000
set_option maxHeartbeats 8000000
namespace K72
open PySem PySem.Spec PyProof.Rows L2 FNX
theorem opErr {CG CT CPl CNg CE CM : Addr} {A : List Addr} {so nl pl : Addr} {M : Mo} {op : Op} {H : Hp} {Q : VK} {E : XK} {er : Er} (h : opDone CG CT CPl CNg CE CM A so nl pl M op H Q E) (e : stepM M op = .error er) : toldEr CPl CNg CE CM er H E := by
  unfold opDone at h
  rw [e] at h
  exact h
theorem opOk {CG CT CPl CNg CE CM : Addr} {A : List Addr} {so nl pl : Addr} {M : Mo} {op : Op} {H : Hp} {Q : VK} {E : XK} {r : Mo × V} (h : opDone CG CT CPl CNg CE CM A so nl pl M op H Q E) (e : stepM M op = .ok r) :
    ∀ (t iv g' : Addr) (H' : Hp), FrL [so, nl, pl] H H' → StAt CG CT A H' so r.1 g' nl pl → H t = none → H' t = some (.tup [r.2, .ref iv]) → H' iv = some (.tup (opV (invM M op))) → Q (.ref t) H' := by
  unfold opDone at h
  rw [e] at h
  exact h
/-- what stands where a state stands -/
theorem StAt.all {CG CT : Addr} {A : List Addr} {H : Hp} {so : Addr} {n : Nat} {es : List (Int × Int)} {x sc : List Int} {g nl pl : Addr} (h : StAt CG CT A H so ⟨n, es, x, sc⟩ g nl pl) :
    (∃ dx, H so = some (.ins CT dx (sflds g nl pl))) ∧ GE CG H g n es ∧ H nl = some (.lst (x.map V.int)) ∧ H pl = some (.lst (sc.map V.int)) ∧ x.length = n ∧ sc.length ≤ 1000 := ⟨h.obj, h.gr.at, h.num, h.pts, h.len, h.few⟩
theorem graphNew {CG : Addr} {A : List Addr} {H H' : Hp} {x dx j nr : Addr} {n : Nat} {N : List (List Int)} {es' : List (Int × Int)} (dom : Dom A H) (nx : H x = none) (ndx : H dx = none) (ne : dx ≠ x)
    (up : ∀ b o, b ≠ x → (upd (upd H dx (.own x)) x (.ins CG dx [])) b = some o → H' b = some o) (hx' : H' x = some (.ins CG dx (gflds (n : Int) j nr))) (hj : EdgesAt H' j es') (near : IsNear n es' N) (sE : SrtE es')
    (nj : (upd (upd H dx (.own x)) x (.ins CG dx [])) j = none) (nn : ∀ H2, (∀ b o, (upd (upd H dx (.own x)) x (.ins CG dx [])) b = none → H' b = some o → H2 b = some o) → NAt H2 nr N) (good : GoodE n es') (n1 : 1 ≤ n) (n16 : n ≤ 16) :
    Same H H' ∧ Stb A H' (fun H2 => GE CG H2 x n es') := by
  have s := preS (CG := CG) nx ndx ne
  have sH : Same H H' := fun b o e => up b o (ne_of_none e nx) (s _ _ e)
  refine ⟨sH, fun H2 f2 => ?_⟩
  obtain ⟨tj, j1, j2⟩ := hj
  have keep : ∀ b o, (upd (upd H dx (.own x)) x (.ins CG dx [])) b = none → H' b = some o → H2 b = some o := fun b o hb e => f2 b o (dom.new (s.free hb)) e
  refine ⟨⟨dx, j, nr, N, f2 _ _ (dom.new nx) hx', ⟨tj, keep _ _ nj j1, j2.1, fun k t hk => ?_⟩, nn H2 keep, near⟩, good, sE, n1, n16⟩
  obtain ⟨z, z1, z2⟩ := j2.2 k t hk
  refine ⟨z, z1, f2 _ _ (fun ha => ?_) z2⟩
  obtain ⟨o, e, nt⟩ := dom t ha
  rw [sH _ _ e] at z2
  exact nt _ (Option.some.inj z2)
section
variable {P : Program} {w : World} {K : PySem.W.Frag} {mg : Str → Option Value} {base : Heap} {CG CT CPl CNg CE CM CN CNu CS : Addr}
theorem sc_fire_node : FnScope ["state", "player", "node"] ["state", "player", "node"] (defScope s_fire_node) := ⟨rfl, rfl, rfl, by decide +kernel, rfl, by decide +kernel, by decide +kernel⟩
theorem ok_fire_node {f : Addr} {fd : FuncData} (F : Fun K "fire_node" "fire_node" s_fire_node f fd) (M : Nms mg) (T : GTxt K mg CG) (S : STxt K mg CT) (ENg : Ex P w K mg base "NotNegative" CNg) (tyENg : PySem.W.typeIn K (.ref CNg) = some (.type "type"))
    (GPl : At P w K mg base (L2.CX P w) 4 "check_player" ["count", "player"] (spCheckPl K CPl)) (GNo : At P w K mg base (L2.CX P w) 4 "check_node" ["size", "node"] (spCheckNodeY K CN))
    (GSz : MAt P w K mg base CG CX0 1 "size" ["self"] (spSizeE CG)) (GNb : MAt P w K mg base CG (L2.CX P w) 5 "neighbours" ["self", "node"] (spNb K CG CN)) (GFl : At P w K mg base CX0 1 "flip_in_place" ["numbers", "node", "near"] spFlip) :
    FnOk P w K mg base (L2.CX P w) 8 f fd ["state", "player", "node"] (spAct CG CT CPl CNg CE CM isFire) := by
  obtain ⟨fPl, fdPl, GPl, mPl, kPl, bPl⟩ := GPl
  obtain ⟨fNo, fdNo, GNo, mNo, kNo, bNo⟩ := GNo
  obtain ⟨fSz, fdSz, GSz, mSz, bSz⟩ := GSz
  obtain ⟨fNb, fdNb, GNb, mNb, bNb⟩ := GNb
  obtain ⟨fFl, fdFl, GFl, mFl, kFl, bFl⟩ := GFl
  refine F.okX sc_fire_node (fun vs H Q E h => ?_) (fun cdv A' outer s H vs Q E hr h => ?_)
  · obtain ⟨A, so, M, g, nl, pl, op, hk, rfl, _⟩ := h
    cases op <;> first | rfl | cases hk
  · obtain ⟨A, so, ⟨n, es, x, sc⟩, g, nl, pl, op, hk, rfl, st, ok, hd⟩ := h
    cases op <;> first | cases hk | skip
    rename_i p v
    have nd := sc_fire_node.nd
    obtain ⟨⟨dx, h1⟩, hg, hnum, hpts, hlen, hfew⟩ := st.all
    obtain ⟨dxg, jg, nrg, Ng, og, _⟩ := hg.obj
    have hv : v < n := ok
    refine ⟨_, (pss_cons (ps_expr (pe_call GPl (hr.mono (by decide)) (by rfl) mPl kPl bPl .nil (passes_call (E := E) (takes_of rfl rfl rfl rfl) (fun _ _ _ _ h => h)) (pa_cons (pe_callB call_len_seq (by rfl) M.len boot_len1 (pa_cons (pe_fld (pv 0) rfl) pa_nil)) (pa_cons (pv 1) pa_nil))))
      (pss_cons (ps_expr (pe_call GNo (hr.mono (by decide)) (by rfl) mNo kNo bNo .nil (passes_call (E := E) (takes_of rfl rfl rfl rfl) (fun _ _ _ _ h => h)) (pa_cons (pe_meth0 (pe_fld (pv 0) rfl) T.cl mSz GSz (hr.mono (by decide)) bSz .nil pass0) (pa_cons (pv 2) pa_nil))))
      (pss_cons (ps_if (pt_cmpR op_ge (pe_ix (r := rIxL K) ix_list (pe_fld (pv 0) rfl) (pv 2) (fun _ _ => rfl)) pe_int (nomark _)) (pss_one (ps_raiseX rfl ENg tyENg (hr.mono (by decide)) (takes_of rfl rfl rfl rfl) rfl (pa_cons (pv 2) pa_nil))) pss_nil)
      (pss_cons (ps_expr (pe_call GFl (hr.mono (by decide)) (by rfl) mFl kFl bFl .nil pass0 (pa_cons (pe_fld (pv 0) rfl) (pa_cons (pv 2) (pa_cons (pe_meth (pe_fld (pv 0) rfl) T.cl mNb GNb (hr.mono (by decide)) bNb .nil (passes_call (E := E) (takes_of rfl rfl rfl rfl) (fun _ _ _ _ h => h)) (pa_cons (pv 2) pa_nil)) pa_nil)))))
      (pss_cons (ps_augS (pe_fld (pv 0) rfl) (pv 1) pget_list pe_int ip_add set_list)
      (pss_one (ps_ret (pe_tup (pa_cons pe_non (pa_cons (pe_tup (pa_cons pe_str (pa_cons (pv 1) (pa_cons (pv 2) pa_nil)))) pa_nil)))))))))), ?_⟩
    refine ⟨_, rfl, so, CT, dx, _, _, rfl, h1, S.cl, S.n3, sl_p _ _ _, pl, _, rfl, .inl (SqL.of hpts), _, rfl, (sc.map V.int).length, .int (p : Int), .int (p : Int), rfl, .dat (.int _), fun hno => ?_, fun hyes => ?_⟩
    · rw [nodeNat, List.length_map] at hno
      have c : sc.length ≤ p := by
        have := of_decide_eq_false hno
        omega
      exact opErr (er := .player p) hd (by unfold stepM; dsimp only; rw [if_pos c])
    rw [nodeNat, List.length_map] at hyes
    have c : p < sc.length := of_decide_eq_true hyes
    refine ⟨_, rfl, so, CT, dx, _, _, rfl, h1, S.cl, S.n1, sl_g _ _ _, g, dxg, _, rfl, og, rfl, g, n, es, rfl, hg, _, rfl, n, .int (v : Int), .int (v : Int), rfl, .dat (.int _), (fun h => by rw [nodeNat, decide_eq_true hv] at h; cases h), fun _ => ?_⟩
    refine ⟨_, rfl, so, CT, dx, _, _, rfl, h1, S.cl, S.n2, sl_n _ _ _, _, rfl, nl, _, (v : Int), _, rfl, rfl, SqL.of hnum, atInt (by omega) (by omega), _, _, rfl, rfl, _, rfl, ?_⟩
    rw [Int.toNat_natCast]
    by_cases c2 : (0 : Int) ≤ x.getD v 0
    · rw [decide_eq_true (show x.getD v 0 ≥ 0 from c2)]
      exact iteT ⟨_, rfl, .int (v : Int), rfl, fun dd H' nd s2 hx => opErr (er := .neg v) hd (by unfold stepM; dsimp only; rw [if_neg (by omega), if_pos c2]) H' dd s2 nd hx⟩
    rw [decide_eq_false (show ¬ x.getD v 0 ≥ 0 from c2)]
    refine iteF ?_
    have kont := opOk (r := (⟨n, es, flipM ⟨n, es, x, sc⟩ v, sc.set p (sc.getD p 0 + 1)⟩, .non)) hd (by unfold stepM; dsimp only; rw [if_neg (by omega), if_neg c2])
    refine ⟨_, rfl, so, CT, dx, _, _, rfl, h1, S.cl, S.n2, sl_n _ _ _, _, rfl, _, rfl, so, CT, dx, _, _, rfl, h1, S.cl, S.n1, sl_g _ _ _, g, dxg, _, rfl, og, rfl, _, rfl, g, n, es, .int (v : Int), .int (v : Int), rfl, hg, .dat (.int _), (fun h => by rw [nodeNat, decide_eq_true hv] at h; cases h), fun a ea ha N q H1 near nq s1 eq => ?_⟩
    obtain rfl : v = a := by
      injection ea with ea
      omega
    obtain rfl : N = nearF n es := near.uniq (nearF_is n es)
    have st1 := st.same s1
    obtain ⟨⟨dx', h1'⟩, hg1, hnum1, hpts1, _, _⟩ := st1.all
    have nlq : nl ≠ q := ne_of_none hnum nq
    have plq : pl ≠ q := ne_of_none hpts nq
    have rowB : ∀ o ∈ (nearF n es).getD v [], 0 ≤ o ∧ o < n := fun o ho => near.wf hg.good.node v (by rw [near.len]; exact hv) o ho |>.imp id (fun h => by rw [near.len] at h; exact h)
    refine ⟨nl, q, x, (nearF n es).getD v [], (v : Int), rfl, hnum1, eq, nlq, by omega, by omega, fun o ho => by have := rowB o ho; omega, fun H2 e2 f2 => ?_⟩
    rw [Int.toNat_natCast] at e2
    have hpts2 : H2 pl = some (.lst (sc.map V.int)) := by rw [f2 _ st.ne.symm]; exact hpts1
    have soP : so ≠ pl := ne_of h1 hpts (by intro z; cases z)
    have soN : so ≠ nl := ne_of h1 hnum (by intro z; cases z)
    have h12 : H2 so = some (.ins CT dx' (sflds g nl pl)) := by rw [f2 _ soN]; exact h1'
    refine ⟨_, rfl, so, CT, dx', _, _, rfl, h12, S.cl, S.n3, sl_p _ _ _, _, rfl, pl, _, (p : Int), _, rfl, rfl, SqL.of hpts2, atInt (by omega) (by omega), _, _, rfl, rfl, pl, _, (p : Int), _, rfl, rfl, hpts2, ixInt (by omega) (by omega), ?_⟩
    rw [mapSet, Int.toNat_natCast]
    obtain ⟨H3, q3⟩ : ∃ H3, upd H2 pl (.lst ((sc.set p (sc.getD p 0 + 1)).map V.int)) = H3 := ⟨_, rfl⟩
    have fr13 : FrL [so, nl, pl] H1 H3 := fun b o hb e => by
      have b1 : b ≠ nl := fun z => hb (by rw [z]; simp)
      have b2 : b ≠ pl := fun z => hb (by rw [z]; simp)
      rw [← q3, upd_ne b2, f2 _ b1]
      exact e
    have hnl3 : H3 nl = some (.lst ((flipL ((nearF n es).getD v []) x v).map V.int)) := by rw [← q3, upd_ne st.ne]; exact e2
    have hpl3 : H3 pl = some (.lst ((sc.set p (sc.getD p 0 + 1)).map V.int)) := by rw [← q3, upd_same]
    have hso3 : H3 so = some (.ins CT dx' (sflds g nl pl)) := by rw [← q3, upd_ne soP]; exact h12
    have sub : ∀ c ∈ [so, nl, pl], c ∈ A := fun c hc => by
      simp only [List.mem_cons, List.not_mem_nil, or_false] at hc
      rcases hc with rfl | rfl | rfl
      · exact st.sA
      · exact st.nA
      · exact st.pA
    have dom3 : Dom A H3 := fun b hb => by
      by_cases b1 : b = nl
      · exact ⟨_, by rw [b1]; exact hnl3, fun vs z => by cases z⟩
      by_cases b2 : b = pl
      · exact ⟨_, by rw [b2]; exact hpl3, fun vs z => by cases z⟩
      by_cases b3 : b = so
      · exact ⟨_, by rw [b3]; exact hso3, fun vs z => by cases z⟩
      obtain ⟨o, e, nt⟩ := st1.dom b hb
      exact ⟨o, fr13 b o (by simp [b1, b2, b3]) e, nt⟩
    have st3 : StAt CG CT A H3 so ⟨n, es, flipM ⟨n, es, x, sc⟩ v, sc.set p (sc.getD p 0 + 1)⟩ g nl pl := ⟨⟨_, hso3⟩, st1.gr.step (fr13.mono sub), hnl3, hpl3, st.ne, by show (flipL _ x v).length = n; rw [flipLen]; exact hlen, by show (sc.set p _).length ≤ 1000; rw [List.length_set]; exact hfew, st.sA, st.nA, st.pA, dom3⟩
    rw [q3]
    refine ⟨_, rfl, _, rfl, by show 3 ≤ sizeLine; decide, fun iv niv => ?_⟩
    obtain ⟨H4, q4, s4, hiv⟩ := newAt (.tup [V.str "take_back", V.int (p : Int), V.int (v : Int)]) niv
    rw [q4]
    refine ⟨by show 2 ≤ sizeLine; decide, fun t nt => ?_⟩
    obtain ⟨H5, q5, s5, ht⟩ := newAt (.tup [V.non, V.ref iv]) nt
    rw [q5]
    have s35 := s4.trans s5
    refine kont t iv g H5 (((sameFr s1).trans fr13).trans (sameFr s35)) (st3.same s35) ?_ ht (s5 _ _ hiv)
    cases e : H t with
    | none => rfl
    | some o =>
      have e1 := s1 _ _ e
      have : ∃ o', H3 t = some o' := by
        by_cases b1 : t = nl
        · exact ⟨_, by rw [b1]; exact hnl3⟩
        by_cases b2 : t = pl
        · exact ⟨_, by rw [b2]; exact hpl3⟩
        by_cases b3 : t = so
        · exact ⟨_, by rw [b3]; exact hso3⟩
        exact ⟨o, fr13 t o (by simp [b1, b2, b3]) e1⟩
      obtain ⟨o', e'⟩ := this
      rw [s4 _ _ e'] at nt
      cases nt
end
end K72
set_option Elab.async false
set_option linter.all false
set_option maxRecDepth 100000
set_option maxHeartbeats 8000000
namespace K72
open PySem PySem.Spec PyProof.Rows L2 FNX
theorem freeFr {L : List Addr} {H H' : Hp} {t : Addr} (f : FrL L H H') (h : ∀ c ∈ L, ∃ o, H' c = some o) (n : H' t = none) : H t = none := by
  cases e : H t with
  | none => rfl
  | some o =>
    by_cases c : t ∈ L
    · obtain ⟨o', e'⟩ := h t c
      rw [n] at e'
      cases e'
    · rw [f t o c e] at n
      cases n
theorem putD (g g' nl pl : Addr) : putF ("drawn" : Str) (.ref g') (sflds g nl pl) = sflds g' nl pl := by
  unfold sflds putF
  rw [if_pos rfl]
theorem StAt.sub {CG CT : Addr} {A : List Addr} {H : Hp} {so : Addr} {M : Mo} {g nl pl : Addr} (h : StAt CG CT A H so M g nl pl) : ∀ c ∈ [so, nl, pl], c ∈ A := fun c hc => by
  simp only [List.mem_cons, List.not_mem_nil, or_false] at hc
  rcases hc with rfl | rfl | rfl
  · exact h.sA
  · exact h.nA
  · exact h.pA
theorem StAt.there {CG CT : Addr} {A : List Addr} {H : Hp} {so : Addr} {M : Mo} {g nl pl : Addr} (h : StAt CG CT A H so M g nl pl) : ∀ c ∈ [so, nl, pl], ∃ o, H c = some o := fun c hc => by
  obtain ⟨o, e, _⟩ := h.dom c (h.sub c hc)
  exact ⟨o, e⟩
section
variable {P : Program} {w : World} {K : PySem.W.Frag} {mg : Str → Option Value} {base : Heap} {CG CT CPl CNg CE CM CN CNu CS : Addr}
theorem sc_put_number : FnScope ["state", "node", "number", "before"] ["state", "node", "number"] (defScope s_put_number) := ⟨rfl, rfl, rfl, by decide +kernel, rfl, by decide +kernel, by decide +kernel⟩
theorem ok_put_number {f : Addr} {fd : FuncData} (F : Fun K "put_number" "put_number" s_put_number f fd) (M : Nms mg) (T : GTxt K mg CG) (S : STxt K mg CT)
    (GNu : At P w K mg base (L2.CX P w) 3 "check_number" ["number"] (spCheckNu K CNu)) (GNo : At P w K mg base (L2.CX P w) 4 "check_node" ["size", "node"] (spCheckNodeY K CN))
    (GSz : MAt P w K mg base CG CX0 1 "size" ["self"] (spSizeE CG)) : FnOk P w K mg base (L2.CX P w) 8 f fd ["state", "node", "number"] (spAct CG CT CPl CNg CE CM isPut) := by
  obtain ⟨fNu, fdNu, GNu, mNu, kNu, bNu⟩ := GNu
  obtain ⟨fNo, fdNo, GNo, mNo, kNo, bNo⟩ := GNo
  obtain ⟨fSz, fdSz, GSz, mSz, bSz⟩ := GSz
  refine F.okX sc_put_number (fun vs H Q E h => ?_) (fun cdv A' outer s H vs Q E hr h => ?_)
  · obtain ⟨A, so, M, g, nl, pl, op, hk, rfl, _⟩ := h
    cases op <;> first | rfl | cases hk
  · obtain ⟨A, so, ⟨n, es, x, sc⟩, g, nl, pl, op, hk, rfl, st, ok, hd⟩ := h
    cases op <;> first | cases hk | skip
    rename_i v z
    have nd := sc_put_number.nd
    obtain ⟨⟨dx, h1⟩, hg, hnum, hpts, hlen, hfew⟩ := st.all
    obtain ⟨dxg, jg, nrg, Ng, og, _⟩ := hg.obj
    have hv : v < n := ok
    have kont := opOk (r := (⟨n, es, x.set v z, sc⟩, .non)) hd rfl
    refine ⟨_, (pss_cons (ps_expr (pe_call GNo (hr.mono (by decide)) (by rfl) mNo kNo bNo .nil (passes_call (E := E) (takes_of rfl rfl rfl rfl) (fun _ _ _ _ h => h)) (pa_cons (pe_meth0 (pe_fld (pv 0) rfl) T.cl mSz GSz (hr.mono (by decide)) bSz .nil pass0) (pa_cons (pv 1) pa_nil))))
      (pss_cons (ps_expr (pe_call GNu (hr.mono (by decide)) (by rfl) mNu kNu bNu .nil (passes_call (E := E) (takes_of rfl rfl rfl rfl) (fun _ _ _ _ h => h)) (pa_cons (pv 2) pa_nil)))
      (pss_cons (ps_set (i := 3) nd rfl (Or.inl rfl) (pe_ix (r := rIxL K) ix_list (pe_fld (pv 0) rfl) (pv 1) (fun _ _ => rfl)))
      (pss_cons (ps_asg (pv 2) (pg_sub (pe_fld (pv 0) rfl) (pv 1) set_list))
      (pss_one (ps_ret (pe_tup (pa_cons pe_non (pa_cons (pe_tup (pa_cons pe_str (pa_cons (pv 1) (pa_cons (pv 3) pa_nil)))) pa_nil))))))))), ?_⟩
    refine ⟨_, rfl, so, CT, dx, _, _, rfl, h1, S.cl, S.n1, sl_g _ _ _, g, dxg, _, rfl, og, rfl, g, n, es, rfl, hg, _, rfl, n, .int (v : Int), .int (v : Int), rfl, .dat (.int _), (fun h => by rw [nodeNat, decide_eq_true hv] at h; cases h), fun _ => ?_⟩
    refine ⟨_, rfl, .int z, .int z, rfl, .dat (.int _), (fun h => by cases h), fun _ => ?_⟩
    refine ⟨_, rfl, so, CT, dx, _, _, rfl, h1, S.cl, S.n2, sl_n _ _ _, _, rfl, nl, _, (v : Int), _, rfl, rfl, SqL.of hnum, atInt (by omega) (by omega), ?_⟩
    refine ⟨_, rfl, _, rfl, so, CT, dx, _, _, rfl, h1, S.cl, S.n2, sl_n _ _ _, _, rfl, nl, _, (v : Int), _, rfl, rfl, hnum, ixInt (by omega) (by omega), ?_⟩
    rw [mapSet, Int.toNat_natCast]
    obtain ⟨H3, q3⟩ : ∃ H3, upd H nl (.lst ((x.set v z).map V.int)) = H3 := ⟨_, rfl⟩
    have fr3 : FrL [so, nl, pl] H H3 := by rw [← q3]; exact frUpd (by simp)
    have soN : so ≠ nl := ne_of h1 hnum (by intro z; cases z)
    have st3 : StAt CG CT A H3 so ⟨n, es, x.set v z, sc⟩ g nl pl := by
      rw [← q3] at fr3 ⊢
      exact ⟨⟨_, by rw [upd_ne soN]; exact h1⟩, st.gr.step (fr3.mono st.sub), upd_same, by rw [upd_ne st.ne.symm]; exact hpts, st.ne, by show (x.set v z).length = n; rw [List.length_set]; exact hlen, hfew, st.sA, st.nA, st.pA, st.dom.upd (fun vs z => by cases z)⟩
    rw [q3]
    refine ⟨_, rfl, _, rfl, by show 3 ≤ sizeLine; decide, fun iv niv => ?_⟩
    obtain ⟨H4, q4, s4, hiv⟩ := newAt (.tup [V.str "put", V.int (v : Int), V.int (x.getD v 0)]) niv
    rw [q4]
    refine ⟨by show 2 ≤ sizeLine; decide, fun t nt => ?_⟩
    obtain ⟨H5, q5, s5, ht⟩ := newAt (.tup [V.non, V.ref iv]) nt
    rw [q5]
    have s35 := s4.trans s5
    exact kont t iv g H5 (fr3.trans (sameFr s35)) (st3.same s35) (freeFr fr3 st3.there (s4.free nt)) ht (s5 _ _ hiv)
theorem sc_append_node : FnScope ["state", "number", "size"] ["state", "number"] (defScope s_append_node) := ⟨rfl, rfl, rfl, by decide +kernel, rfl, by decide +kernel, by decide +kernel⟩
theorem ok_append_node {f fI : Addr} {fd fdI : FuncData} (F : Fun K "append_node" "append_node" s_append_node f fd) (M : Nms mg) (T : GTxt K mg CG) (S : STxt K mg CT) {t16 : Tok} (m16 : mg "MOST_NODES" = some (.int 16 t16))
    (EMa : Ex P w K mg base "TooMany" CM) (tyEMa : PySem.W.typeIn K (.ref CM) = some (.type "type"))
    (GNu : At P w K mg base (L2.CX P w) 3 "check_number" ["number"] (spCheckNu K CNu)) (GSz : MAt P w K mg base CG CX0 1 "size" ["self"] (spSizeE CG)) (GEd : MAt P w K mg base CG CX0 1 "edges" ["self"] (spEdgesOf CG))
    (MK : Mk K CG fI) (GI : FnOk P w K mg base (L2.CX P w) 6 fI fdI ["self", "size", "edges"] (spGI01 K CG CS CM CE)) (bI : L2.Binds K fdI ["self", "size", "edges"] []) : FnOk P w K mg base (L2.CX P w) 8 f fd ["state", "number"] (spAct CG CT CPl CNg CE CM isAdd) := by
  obtain ⟨fNu, fdNu, GNu, mNu, kNu, bNu⟩ := GNu
  obtain ⟨fSz, fdSz, GSz, mSz, bSz⟩ := GSz
  obtain ⟨fEd, fdEd, GEd, mEd, bEd⟩ := GEd
  refine F.okX sc_append_node (fun vs H Q E h => ?_) (fun cdv A' outer s H vs Q E hr h => ?_)
  · obtain ⟨A, so, M, g, nl, pl, op, hk, rfl, _⟩ := h
    cases op <;> first | rfl | cases hk
  · obtain ⟨A, so, ⟨n, es, x, sc⟩, g, nl, pl, op, hk, rfl, st, ok, hd⟩ := h
    cases op <;> first | cases hk | skip
    rename_i z
    have nd := sc_append_node.nd
    obtain ⟨⟨dx, h1⟩, hg, hnum, hpts, hlen, hfew⟩ := st.all
    obtain ⟨dxg, jg, nrg, Ng, og, _⟩ := hg.obj
    have n1 := hg.n1
    have n16 := hg.n16
    have fewE := hg.good.few
    refine ⟨_, (pss_cons (ps_expr (pe_call GNu (hr.mono (by decide)) (by rfl) mNu kNu bNu .nil (passes_call (E := E) (takes_of rfl rfl rfl rfl) (fun _ _ _ _ h => h)) (pa_cons (pv 1) pa_nil)))
      (pss_cons (ps_set (i := 2) nd rfl (Or.inl rfl) (pe_meth0 (pe_fld (pv 0) rfl) T.cl mSz GSz (hr.mono (by decide)) bSz .nil pass0))
      (pss_cons (ps_if (pt_cmpR op_eq (pv 2) (pe_glob (v := .int 16) (by rfl) m16 ⟨_, rfl⟩) (nomark _)) (pss_one (ps_raiseX rfl EMa tyEMa (hr.mono (by decide)) (takes_of rfl rfl rfl rfl) rfl (pa_cons (pe_op op_add (pv 2) pe_int) pa_nil))) pss_nil)
      (pss_cons (ps_fld (pv 0) (pe_make MK GI (hr.mono (by decide)) (by rfl) T.mgC bI .nil (passes_call (E := E) (takes_of rfl rfl rfl rfl) (fun _ _ _ _ h => h)) (pa_cons (pe_op op_add (pv 2) pe_int) (pa_cons (pe_meth0 (pe_fld (pv 0) rfl) T.cl mEd GEd (hr.mono (by decide)) bEd .nil pass0) pa_nil))) rfl)
      (pss_cons (ps_expr (pe_bm PySem.F.plainAttrs_list PySem.F.slot_list_append PySem.F.type_list_append mt_append (pe_fld (pv 0) rfl) (pa_cons (pv 1) pa_nil)))
      (pss_one (ps_ret (pe_tup (pa_cons (pv 2) (pa_cons (pe_tup (pa_cons pe_str pa_nil)) pa_nil)))))))))), ?_⟩
    refine ⟨_, rfl, .int z, .int z, rfl, .dat (.int _), (fun h => by cases h), fun _ => ?_⟩
    refine ⟨_, rfl, so, CT, dx, _, _, rfl, h1, S.cl, S.n1, sl_g _ _ _, g, dxg, _, rfl, og, rfl, g, n, es, rfl, hg, ?_⟩
    refine ⟨_, rfl, rfl, _, rfl, ?_⟩
    by_cases c : n = 16
    · rw [decide_eq_true (show V.int (n : Int) = V.int 16 by rw [c]; rfl)]
      have te := opErr (er := .many 17) hd (by unfold stepM; dsimp only; rw [if_pos c])
      refine iteT ⟨_, rfl, _, _, rfl, rfl, _, rfl, fun dd H' nd s2 hx => ?_⟩
      rw [c] at hx
      exact te H' dd s2 nd hx
    rw [decide_eq_false (show ¬ V.int (n : Int) = V.int 16 from fun z => by injection z with z; omega)]
    have kont := opOk (r := (⟨n + 1, es, x ++ [z], sc⟩, .int (n : Int))) hd (by unfold stepM; dsimp only; rw [if_neg c])
    refine iteF ?_
    refine ⟨_, rfl, _, _, rfl, rfl, _, rfl, so, CT, dx, _, _, rfl, h1, S.cl, S.n1, sl_g _ _ _, g, dxg, _, rfl, og, rfl, g, n, es, rfl, hg, fun q H1 nq s1 hq => ?_⟩
    intro g' dxn nx ndx nex
    have sx0 := preS (CG := CG) nx ndx nex
    obtain ⟨tq, t1, t2⟩ := id (hq.same sx0)
    have gU : GoodU (n + 1) es := ⟨fun e he => by have := hg.good.node e he; omega, hg.good.toU.once, hg.good.toU.few⟩
    have gE : GoodE (n + 1) es := ⟨fun e he => by have := hg.good.node e he; omega, hg.good.once, hg.good.few⟩
    refine ⟨g', dxn, _, .ref q, rfl, upd_same, .inr ⟨n + 1, congrArg V.int (by omega), by omega, by omega, .inr (.inr ⟨es, ⟨q, tq, rfl, .inl t1, t2, gU⟩, fun h => by omega, fun _ H2 j nr N es' up hx' hj hN near pe sE nj nn => ⟨rfl, ?_⟩⟩)⟩⟩
    rw [ordMap hg.good] at pe
    obtain rfl := SrtE.uniq pe sE hg.asc
    have st1 := st.same s1
    obtain ⟨s12, gr2⟩ := graphNew st1.dom nx ndx nex up hx' hj near sE nj nn gE (by omega) (by omega)
    have s02 := s1.trans s12
    have st2 := st.same s02
    have h12 := s02 _ _ h1
    refine ⟨_, rfl, so, CT, dx, _, rfl, h12, S.cl, S.n1, by show 3 < 1000; decide, ?_⟩
    rw [putD]
    obtain ⟨H3, q3⟩ : ∃ H3, upd H2 so (.ins CT dx (sflds g' nl pl)) = H3 := ⟨_, rfl⟩
    have soN : so ≠ nl := ne_of h1 hnum (by intro z; cases z)
    have soP : so ≠ pl := ne_of h1 hpts (by intro z; cases z)
    have h13 : H3 so = some (.ins CT dx (sflds g' nl pl)) := by rw [← q3, upd_same]
    have hn3 : H3 nl = some (.lst (x.map V.int)) := by rw [← q3, upd_ne soN.symm]; exact st2.num
    have hp3 : H3 pl = some (.lst (sc.map V.int)) := by rw [← q3, upd_ne soP.symm]; exact st2.pts
    have fr23 : FrL [so, nl, pl] H2 H3 := by rw [← q3]; exact frUpd (by simp)
    rw [q3]
    refine ⟨_, rfl, so, CT, dx, _, _, rfl, h13, S.cl, S.n2, sl_n _ _ _, .inl ⟨rfl, _, SqL.of hn3⟩, _, rfl, nl, _, _, rfl, rfl, hn3, by rw [List.length_map, sizeLine_eq]; omega, ?_⟩
    rw [show x.map V.int ++ [V.int z] = (x ++ [z]).map V.int by rw [List.map_append]; rfl]
    obtain ⟨H4, q4⟩ : ∃ H4, upd H3 nl (.lst ((x ++ [z]).map V.int)) = H4 := ⟨_, rfl⟩
    have fr34 : FrL [so, nl, pl] H3 H4 := by rw [← q4]; exact frUpd (by simp)
    have fr24 := fr23.trans fr34
    have st4 : StAt CG CT A H4 so ⟨n + 1, es', x ++ [z], sc⟩ g' nl pl := ⟨⟨_, by rw [← q4, upd_ne soN]; exact h13⟩, gr2.step (fr24.mono st.sub), by rw [← q4, upd_same], by rw [← q4, upd_ne st.ne.symm]; exact hp3, st.ne, by show (x ++ [z]).length = n + 1; rw [List.length_append, hlen]; rfl, hfew, st.sA, st.nA, st.pA, by
      rw [← q4, ← q3]
      exact (st2.dom.upd (fun vs z => by cases z)).upd (fun vs z => by cases z)⟩
    rw [q4]
    refine ⟨_, rfl, by show 1 ≤ sizeLine; decide, fun iv niv => ?_⟩
    obtain ⟨H5, q5, s5, hiv⟩ := newAt (.tup [V.str "drop_node"]) niv
    rw [q5]
    refine ⟨by show 2 ≤ sizeLine; decide, fun t nt => ?_⟩
    obtain ⟨H6, q6, s6, ht⟩ := newAt (.tup [V.int (n : Int), V.ref iv]) nt
    rw [q6]
    have s46 := s5.trans s6
    have fr04 := (sameFr (A := [so, nl, pl]) s02).trans fr24
    exact kont t iv g' H6 (fr04.trans (sameFr s46)) (st4.same s46) (freeFr fr04 st4.there (s5.free nt)) ht (s6 _ _ hiv)
end
end K72
set_option Elab.async false
set_option linter.all false
set_option maxRecDepth 100000
set_option maxHeartbeats 8000000
namespace K72
open PySem PySem.Spec PyProof.Rows L2 FNX
theorem edApp {H : Hp} {p : Addr} {ta tz : List Addr} {es fs : List (Int × Int)} (q1 : TupsAt H ta es) (q2 : TupsAt H tz fs) (h : H p = some (.lst ((ta ++ tz).map V.ref))) : EdgesAt H p (es ++ fs) := by
  refine ⟨ta ++ tz, h, by rw [List.length_append, List.length_append, q1.1, q2.1], fun k t hk => ?_⟩
  by_cases c : k < ta.length
  · rw [List.getElem?_append_left c] at hk
    obtain ⟨e, w1, w2⟩ := q1.2 k t hk
    exact ⟨e, by rw [List.getElem?_append_left (by rw [← q1.1]; exact c)]; exact w1, w2⟩
  · rw [List.getElem?_append_right (by omega)] at hk
    obtain ⟨e, w1, w2⟩ := q2.2 _ t hk
    exact ⟨e, by rw [List.getElem?_append_right (by rw [← q1.1]; omega), ← q1.1]; exact w1, w2⟩
theorem edgIn {n a b : Nat} (ha : a < n) (hb : b < n) (h : a ≠ b) : 0 ≤ (edg a b).1 ∧ (edg a b).1 < (edg a b).2 ∧ (edg a b).2 < n := by
  unfold edg
  dsimp only
  omega
theorem goodSnoc {n : Nat} {es : List (Int × Int)} {e : Int × Int} (g : GoodE n es) (he : 0 ≤ e.1 ∧ e.1 < e.2 ∧ e.2 < n) (hn : e ∉ es) : GoodU n (es ++ [e]) ∧ (es ++ [e]).map ordP = es ++ [e] := by
  have m : (es ++ [e]).map ordP = es ++ [e] := by
    rw [List.map_append, ordMap g]
    show es ++ [ordP e] = _
    rw [ordId he.2.1]
  refine ⟨⟨fun d hd => ?_, ?_, by rw [List.length_append, List.length_singleton]; have := g.few; omega⟩, m⟩
  · rcases List.mem_append.mp hd with hd | hd
    · have := g.node d hd
      omega
    · rw [List.mem_singleton.mp hd]
      omega
  · rw [m]
    exact List.nodup_append.mpr ⟨g.once, by simp, fun x hx y hy => by
      rw [List.mem_singleton.mp hy]
      exact fun z => hn (z ▸ hx)⟩
def spCe (CG CT : Addr) : Sp := fun vs H Q _ => ∃ (A : List Addr) (so : Addr) (M : Mo) (g nl pl : Addr) (a b : Nat), vs = [.ref so, .int (a : Int), .int (b : Int)] ∧ StAt CG CT A H so M g nl pl ∧ a < M.n ∧ b < M.n ∧
  ∀ (t : Addr) (H' : Hp), H t = none → Same H H' → H' t = some (.tup [.int (edg a b).1, .int (edg a b).2]) → Q (.ref t) H'
section
variable {P : Program} {w : World} {K : PySem.W.Frag} {mg : Str → Option Value} {base : Heap} {CG CT CPl CNg CE CM CN CNu CS : Addr}
theorem sc_checked_edge : FnScope ["state", "one", "two"] ["state", "one", "two"] (defScope s_checked_edge) := ⟨rfl, rfl, rfl, by decide +kernel, rfl, by decide +kernel, by decide +kernel⟩
theorem ok_checked_edge {f : Addr} {fd : FuncData} (F : Fun K "checked_edge" "checked_edge" s_checked_edge f fd) (M : Nms mg) (T : GTxt K mg CG) (S : STxt K mg CT) (GNo : At P w K mg base (L2.CX P w) 4 "check_node" ["size", "node"] (spCheckNodeY K CN))
    (GSz : MAt P w K mg base CG CX0 1 "size" ["self"] (spSizeE CG)) : FnOk P w K mg base (L2.CX P w) 6 f fd ["state", "one", "two"] (spCe CG CT) := by
  obtain ⟨fNo, fdNo, GNo, mNo, kNo, bNo⟩ := GNo
  obtain ⟨fSz, fdSz, GSz, mSz, bSz⟩ := GSz
  refine F.okX sc_checked_edge (fun vs H Q E h => ?_) (fun cdv A' outer s H vs Q E hr h => ?_)
  · obtain ⟨A, so, M, g, nl, pl, a, b, rfl, _⟩ := h
    rfl
  · obtain ⟨A, so, ⟨n, es, x, sc⟩, g, nl, pl, a, b, rfl, st, ha, hb, k⟩ := h
    have nd := sc_checked_edge.nd
    obtain ⟨⟨dx, h1⟩, hg, hnum, hpts, hlen, hfew⟩ := st.all
    obtain ⟨dxg, jg, nrg, Ng, og, _⟩ := hg.obj
    have ha : a < n := ha
    have hb : b < n := hb
    refine ⟨_, (pss_cons (ps_expr (pe_call GNo (hr.mono (by decide)) (by rfl) mNo kNo bNo .nil (passes_call (E := E) (takes_of rfl rfl rfl rfl) (fun _ _ _ _ h => h)) (pa_cons (pe_meth0 (pe_fld (pv 0) rfl) T.cl mSz GSz (hr.mono (by decide)) bSz .nil pass0) (pa_cons (pv 1) pa_nil))))
      (pss_cons (ps_expr (pe_call GNo (hr.mono (by decide)) (by rfl) mNo kNo bNo .nil (passes_call (E := E) (takes_of rfl rfl rfl rfl) (fun _ _ _ _ h => h)) (pa_cons (pe_meth0 (pe_fld (pv 0) rfl) T.cl mSz GSz (hr.mono (by decide)) bSz .nil pass0) (pa_cons (pv 2) pa_nil))))
      (pss_one (ps_ret (pe_tup (pa_cons (pe_callB (call_min2 rfl) (by rfl) M.min boot_min1 (pa_cons (pv 1) (pa_cons (pv 2) pa_nil))) (pa_cons (pe_callB (call_max2 rfl) (by rfl) M.max boot_max1 (pa_cons (pv 1) (pa_cons (pv 2) pa_nil))) pa_nil))))))), ?_⟩
    refine ⟨_, rfl, so, CT, dx, _, _, rfl, h1, S.cl, S.n1, sl_g _ _ _, g, dxg, _, rfl, og, rfl, g, n, es, rfl, hg, _, rfl, n, .int (a : Int), .int (a : Int), rfl, .dat (.int _), (fun h => by rw [nodeNat, decide_eq_true ha] at h; cases h), fun _ => ?_⟩
    refine ⟨_, rfl, so, CT, dx, _, _, rfl, h1, S.cl, S.n1, sl_g _ _ _, g, dxg, _, rfl, og, rfl, g, n, es, rfl, hg, _, rfl, n, .int (b : Int), .int (b : Int), rfl, .dat (.int _), (fun h => by rw [nodeNat, decide_eq_true hb] at h; cases h), fun _ => ?_⟩
    refine ⟨_, rfl, _, rfl, (a : Int), (b : Int), rfl, _, rfl, _, rfl, (a : Int), (b : Int), rfl, by show 2 ≤ sizeLine; decide, fun t nt => ?_⟩
    have e1 : (if (b : Int) < (a : Int) then (b : Int) else (a : Int)) = (edg a b).1 := by
      unfold edg
      dsimp only
      split <;> omega
    have e2 : (if (b : Int) > (a : Int) then (b : Int) else (a : Int)) = (edg a b).2 := by
      unfold edg
      dsimp only
      split <;> omega
    rw [e1, e2]
    exact k t _ nt (same_upd nt) upd_same
theorem sc_join_nodes : FnScope ["state", "one", "two", "edge", "edges"] ["state", "one", "two"] (defScope s_join_nodes) := ⟨rfl, rfl, rfl, by decide +kernel, rfl, by decide +kernel, by decide +kernel⟩
theorem ok_join_nodes {f fI : Addr} {fd fdI : FuncData} (F : Fun K "join_nodes" "join_nodes" s_join_nodes f fd) (M : Nms mg) (T : GTxt K mg CG) (S : STxt K mg CT)
    (EEd : Ex P w K mg base "InvalidEdge" CE) (tyEEd : PySem.W.typeIn K (.ref CE) = some (.type "type"))
    (GCe : At P w K mg base (L2.CX P w) 6 "checked_edge" ["state", "one", "two"] (spCe CG CT)) (GSz : MAt P w K mg base CG CX0 1 "size" ["self"] (spSizeE CG)) (GEd : MAt P w K mg base CG CX0 1 "edges" ["self"] (spEdgesOf CG))
    (MK : Mk K CG fI) (GI : FnOk P w K mg base (L2.CX P w) 6 fI fdI ["self", "size", "edges"] (spGI01 K CG CS CM CE)) (bI : L2.Binds K fdI ["self", "size", "edges"] []) : FnOk P w K mg base (L2.CX P w) 8 f fd ["state", "one", "two"] (spAct CG CT CPl CNg CE CM isJoin) := by
  obtain ⟨fCe, fdCe, GCe, mCe, kCe, bCe⟩ := GCe
  obtain ⟨fSz, fdSz, GSz, mSz, bSz⟩ := GSz
  obtain ⟨fEd, fdEd, GEd, mEd, bEd⟩ := GEd
  refine F.okX sc_join_nodes (fun vs H Q E h => ?_) (fun cdv A' outer s H vs Q E hr h => ?_)
  · obtain ⟨A, so, M, g, nl, pl, op, hk, rfl, _⟩ := h
    cases op <;> first | rfl | cases hk
  · obtain ⟨A, so, ⟨n, es, x, sc⟩, g, nl, pl, op, hk, rfl, st, ok, hd⟩ := h
    cases op <;> first | cases hk | skip
    rename_i a b
    have nd := sc_join_nodes.nd
    have hu65 : A'.units + 3 + 65 < cLine := by
      have := hr.un
      show A'.units + 3 + 65 < _
      have z : A'.units + 3 + 16 * 7 + 200 < cLine := this
      omega
    obtain ⟨⟨dx, h1⟩, hg, hnum, hpts, hlen, hfew⟩ := st.all
    obtain ⟨dxg, jg, nrg, Ng, og, _⟩ := hg.obj
    have n1 := hg.n1
    have n16 := hg.n16
    have fewE := hg.good.few
    have ha : a < n := ok.1
    have hb : b < n := ok.2
    refine ⟨_, (pss_cons (ps_set (i := 3) nd rfl (Or.inl rfl) (pe_call GCe (hr.mono (by decide)) (by rfl) mCe kCe bCe .nil (passes_call (E := E) (takes_of rfl rfl rfl rfl) (fun _ _ _ _ h => h)) (pa_cons (pv 0) (pa_cons (pv 1) (pa_cons (pv 2) pa_nil)))))
      (pss_cons (ps_set (i := 4) nd rfl (Or.inl rfl) (pe_meth0 (pe_fld (pv 0) rfl) T.cl mEd GEd (hr.mono (by decide)) bEd .nil pass0))
      (pss_cons (ps_if (PW.pt (pw_or (pt_cmpR op_eq (pv 1) (pv 2) (nomark _)) (pw_or1 (pt_cmpR (show OpR _ (compareOp .In) (rInD K) from op_inD hu65) (pv 3) (pv 4) (by with_unfolding_all rfl))))) (pss_one (ps_raiseX rfl EEd tyEEd (hr.mono (by decide)) (takes_of rfl rfl rfl rfl) rfl (pa_cons (pe_tup (pa_cons (pv 1) (pa_cons (pv 2) pa_nil))) pa_nil))) pss_nil)
      (pss_cons (ps_fld (pv 0) (pe_make MK GI (hr.mono (by decide)) (by rfl) T.mgC bI .nil (passes_call (E := E) (takes_of rfl rfl rfl rfl) (fun _ _ _ _ h => h)) (pa_cons (pe_meth0 (pe_fld (pv 0) rfl) T.cl mSz GSz (hr.mono (by decide)) bSz .nil pass0) (pa_cons (pe_op op_cat (pv 4) (pe_lst (pa_cons (pv 3) pa_nil))) pa_nil))) rfl)
      (pss_one (ps_ret (pe_tup (pa_cons pe_non (pa_cons (pe_tup (pa_cons pe_str (pa_cons (pv 1) (pa_cons (pv 2) pa_nil)))) pa_nil))))))))), ?_⟩
    refine ⟨_, rfl, _, rfl, _, rfl, A, so, ⟨n, es, x, sc⟩, g, nl, pl, a, b, rfl, st, ha, hb, fun t0 H1 nt0 s1 ht0 => ?_⟩
    have h11 := s1 _ _ h1
    have hg1 := hg.same s1
    have og1 := s1 _ _ og
    refine ⟨_, rfl, so, CT, dx, _, _, rfl, h11, S.cl, S.n1, sl_g _ _ _, g, dxg, _, rfl, og1, rfl, g, n, es, rfl, hg1, fun q H2 nq s2 hq => ?_⟩
    obtain ⟨tq, t1, t2⟩ := id hq
    have s02 := s1.trans s2
    have ht02 := s2 _ _ ht0
    have bad : (a = b ∨ edg a b ∈ es) → ∀ (T : Addr) (H3 : Hp), Same H2 H3 → H3 T = some (.tup [.int (a : Int), .int (b : Int)]) → told CE (.ref T) H3 E := fun c T H3 s3 hT => opErr (er := .edge a b) hd (by unfold stepM; dsimp only; rw [if_pos c]) T H3 (s02.trans s3) hT
    refine ⟨_, rfl, _, rfl, rfl, _, rfl, ?_⟩
    by_cases c1 : a = b
    · rw [decide_eq_true (show V.int (a : Int) = V.int (b : Int) by rw [c1])]
      refine iteT ⟨_, rfl, _, rfl, by show 2 ≤ sizeLine; decide, fun T nT => ⟨.ref T, rfl, fun dd H' nd s3 hx => ?_⟩⟩
      exact bad (.inl c1) T _ (same_upd nT) upd_same H' dd s3 nd hx
    rw [decide_eq_false (show ¬ V.int (a : Int) = V.int (b : Int) from fun z => by injection z with z; omega)]
    refine iteF ⟨_, rfl, _, rfl, pairD (edg a b), es.map pairD, .tup (SqT.of ht02) (.cons (.int _) (.cons (.int _) .nil)), .lst (SqL.of t1) (dpTups t2), rfl, shapedPairs _, _, rfl, ?_⟩
    by_cases c2 : edg a b ∈ es
    · rw [anyPairT c2]
      refine iteT ⟨_, rfl, _, rfl, by show 2 ≤ sizeLine; decide, fun T nT => ⟨.ref T, rfl, fun dd H' nd s3 hx => ?_⟩⟩
      exact bad (.inr c2) T _ (same_upd nT) upd_same H' dd s3 nd hx
    rw [anyPair c2]
    refine iteF ?_
    have h12 := s02 _ _ h1
    have hg2 := hg.same s02
    have og2 := s02 _ _ og
    have ltq : tq.length ≤ 40 := by rw [t2.1]; exact fewE
    refine ⟨_, rfl, so, CT, dx, _, _, rfl, h12, S.cl, S.n1, sl_g _ _ _, g, dxg, _, rfl, og2, rfl, g, n, es, rfl, hg2, _, rfl, _, rfl, by show 1 ≤ sizeLine; decide, fun y ny => ?_⟩
    obtain ⟨H3, q3, s3, hy⟩ := newAt (.lst [V.ref t0]) ny
    rw [q3]
    refine ⟨q, y, _, _, rfl, rfl, s3 _ _ t1, hy, by rw [List.length_map, sizeLine_eq]; show tq.length + 1 ≤ _; omega, fun R nR => ?_⟩
    obtain ⟨H4, q4, s4, hR⟩ := newAt (.lst (tq.map V.ref ++ [V.ref t0])) nR
    rw [q4]
    have s34 := s3.trans s4
    have s04 := s02.trans s34
    have hRE : EdgesAt H4 R (es ++ [edg a b]) := edApp (ta := tq) (tz := [t0]) (t2.same s34) ⟨rfl, fun k t e => by
      cases k with
      | zero =>
        obtain rfl := Option.some.inj e
        exact ⟨_, rfl, s34 _ _ ht02⟩
      | succ k => simp at e⟩ (by rw [hR, List.map_append]; rfl)
    obtain ⟨gU, gM⟩ := goodSnoc hg.good (edgIn ha hb c1) c2
    intro g' dxn nx ndx nex
    have sx0 := preS (CG := CG) nx ndx nex
    obtain ⟨tr, r1, r2⟩ := id (hRE.same sx0)
    have lR : (es ++ [edg a b]).length = es.length + 1 := by rw [List.length_append]; rfl
    refine ⟨g', dxn, _, .ref R, rfl, upd_same, .inr ⟨n, rfl, n1, n16, .inr (.inr ⟨es ++ [edg a b], ⟨R, tr, rfl, .inl r1, r2, gU⟩, fun h => ?_, fun h40 H5 j nr N es' up hx' hj hN near pe sE nj nn => ⟨rfl, ?_⟩⟩)⟩⟩
    · have te := opErr (er := .many 41) hd (by unfold stepM; dsimp only; rw [if_neg (by rintro (h | h) <;> contradiction), if_pos (by omega)])
      have e41 : es.length + 1 = 41 := by omega
      rw [lR, e41]
      exact fun H' dd s5 nd hx => te H' dd (s04.trans (sx0.trans s5)) (s04.free (sx0.free nd)) hx
    rw [gM] at pe
    have kont := opOk (r := (⟨n, srtE (es ++ [edg a b]), x, sc⟩, .non)) hd (by unfold stepM; dsimp only; rw [if_neg (by rintro (h | h) <;> contradiction), if_neg (by omega)])
    have gE : GoodE n es' := by
      have := gU.ord (by rw [lR]; omega)
      rw [gM] at this
      exact this.perm pe
    obtain rfl : es' = srtE (es ++ [edg a b]) := SrtE.uniq (pe.trans (srtE_perm _).symm) sE (srtE_srt _)
    have st4 := st.same s04
    obtain ⟨s45, gr5⟩ := graphNew st4.dom nx ndx nex up hx' hj near sE nj nn gE n1 n16
    have s05 := s04.trans s45
    have st5 := st.same s05
    have h15 := s05 _ _ h1
    refine ⟨_, rfl, so, CT, dx, _, rfl, h15, S.cl, S.n1, by show 3 < 1000; decide, ?_⟩
    rw [putD]
    obtain ⟨H6, q6⟩ : ∃ H6, upd H5 so (.ins CT dx (sflds g' nl pl)) = H6 := ⟨_, rfl⟩
    have soN : so ≠ nl := ne_of h1 hnum (by intro z; cases z)
    have soP : so ≠ pl := ne_of h1 hpts (by intro z; cases z)
    have fr56 : FrL [so, nl, pl] H5 H6 := by rw [← q6]; exact frUpd (by simp)
    have st6 : StAt CG CT A H6 so ⟨n, srtE (es ++ [edg a b]), x, sc⟩ g' nl pl := ⟨⟨_, by rw [← q6, upd_same]⟩, gr5.step (fr56.mono st.sub), by rw [← q6, upd_ne soN.symm]; exact st5.num, by rw [← q6, upd_ne soP.symm]; exact st5.pts, st.ne, hlen, hfew, st.sA, st.nA, st.pA, by
      rw [← q6]
      exact st5.dom.upd (fun vs z => by cases z)⟩
    rw [q6]
    refine ⟨_, rfl, _, rfl, by show 3 ≤ sizeLine; decide, fun iv niv => ?_⟩
    obtain ⟨H7, q7, s7, hiv⟩ := newAt (.tup [V.str "remove_edge", V.int (a : Int), V.int (b : Int)]) niv
    rw [q7]
    refine ⟨by show 2 ≤ sizeLine; decide, fun t nt => ?_⟩
    obtain ⟨H8, q8, s8, ht⟩ := newAt (.tup [V.non, V.ref iv]) nt
    rw [q8]
    have s68 := s7.trans s8
    have fr06 := (sameFr (A := [so, nl, pl]) s05).trans fr56
    exact kont t iv g' H8 (fr06.trans (sameFr s68)) (st6.same s68) (freeFr fr06 st6.there (s7.free nt)) ht (s8 _ _ hiv)
end
end K72
set_option Elab.async false
set_option linter.all false
set_option maxRecDepth 100000
set_option maxHeartbeats 8000000
namespace K72
open PySem PySem.Spec PyProof.Rows L2 FNX
section
variable {P : Program} {w : World} {K : PySem.W.Frag} {mg : Str → Option Value} {base : Heap} {CG CT CPl CNg CE CM CN CNu CS : Addr}
theorem sc_part_nodes : FnScope ["state", "one", "two", "edge", "edges", "other"] ["state", "one", "two"] (defScope s_part_nodes) := ⟨rfl, rfl, rfl, by decide +kernel, rfl, by decide +kernel, by decide +kernel⟩
theorem ok_part_nodes {f fI : Addr} {fd fdI : FuncData} (F : Fun K "part_nodes" "part_nodes" s_part_nodes f fd) (M : Nms mg) (T : GTxt K mg CG) (S : STxt K mg CT)
    (EEd : Ex P w K mg base "InvalidEdge" CE) (tyEEd : PySem.W.typeIn K (.ref CE) = some (.type "type"))
    (GCe : At P w K mg base (L2.CX P w) 6 "checked_edge" ["state", "one", "two"] (spCe CG CT)) (GSz : MAt P w K mg base CG CX0 1 "size" ["self"] (spSizeE CG)) (GEd : MAt P w K mg base CG CX0 1 "edges" ["self"] (spEdgesOf CG))
    (MK : Mk K CG fI) (GI : FnOk P w K mg base (L2.CX P w) 6 fI fdI ["self", "size", "edges"] (spGI01 K CG CS CM CE)) (bI : L2.Binds K fdI ["self", "size", "edges"] []) : FnOk P w K mg base (L2.CX P w) 8 f fd ["state", "one", "two"] (spAct CG CT CPl CNg CE CM isPart) := by
  obtain ⟨fCe, fdCe, GCe, mCe, kCe, bCe⟩ := GCe
  obtain ⟨fSz, fdSz, GSz, mSz, bSz⟩ := GSz
  obtain ⟨fEd, fdEd, GEd, mEd, bEd⟩ := GEd
  refine F.okX sc_part_nodes (fun vs H Q E h => ?_) (fun cdv A' outer s H vs Q E hr h => ?_)
  · obtain ⟨A, so, M, g, nl, pl, op, hk, rfl, _⟩ := h
    cases op <;> first | rfl | cases hk
  · obtain ⟨A, so, ⟨n, es, x, sc⟩, g, nl, pl, op, hk, rfl, st, ok, hd⟩ := h
    cases op <;> first | cases hk | skip
    rename_i a b
    have nd := sc_part_nodes.nd
    have hu64 : A'.units + 3 + 64 < cLine := hr.units
    have hu65 : A'.units + 3 + 65 < cLine := by
      have := hr.un
      show A'.units + 3 + 65 < _
      have z : A'.units + 3 + 16 * 7 + 200 < cLine := this
      omega
    obtain ⟨⟨dx, h1⟩, hg, hnum, hpts, hlen, hfew⟩ := st.all
    obtain ⟨dxg, jg, nrg, Ng, og, _⟩ := hg.obj
    have n1 := hg.n1
    have n16 := hg.n16
    have fewE := hg.good.few
    have ha : a < n := ok.1
    have hb : b < n := ok.2
    refine ⟨_, (pss_cons (ps_set (i := 3) nd rfl (Or.inr rfl) (pe_call GCe (hr.mono (by decide)) (by rfl) mCe kCe bCe .nil (passes_call (E := E) (takes_of rfl rfl rfl rfl) (fun _ _ _ _ h => h)) (pa_cons (pv 0) (pa_cons (pv 1) (pa_cons (pv 2) pa_nil)))))
      (pss_cons (ps_set (i := 4) nd rfl (Or.inl rfl) (pe_meth0 (pe_fld (pv 0) rfl) T.cl mEd GEd (hr.mono (by decide)) bEd .nil pass0))
      (pss_cons (ps_if (pt_cmpR (op_notInD hu65) (pv 3) (pv 4) (by with_unfolding_all rfl)) (pss_one (ps_raiseX rfl EEd tyEEd (hr.mono (by decide)) (takes_of rfl rfl rfl rfl) rfl (pa_cons (pe_tup (pa_cons (pv 1) (pa_cons (pv 2) pa_nil))) pa_nil))) pss_nil)
      (pss_cons (ps_fld (pv 0) (pe_make MK GI (hr.mono (by decide)) (by rfl) T.mgC bI .nil (passes_call (E := E) (takes_of rfl rfl rfl rfl) (fun _ _ _ _ h => h)) (pa_cons (pe_meth0 (pe_fld (pv 0) rfl) T.cl mSz GSz (hr.mono (by decide)) bSz .nil pass0) (pa_cons (pe_lc (own := [("other", 5)]) (g := gName 5) rfl nd (pi_list (pv 4)) (blkOk_by (own := [("other", 5)]) (N := ["state", "one", "two", "edge", "edges", "other"]) (sc := defScope s_part_nodes) (by decide +kernel)) (fun _ _ _ _ _ => pg_name (i := 5) nd rfl (Or.inl rfl)) (fun _ _ _ _ _ => pts_one (pt_cmpR (show OpR _ (compareOp .NotEq) (rNeD K) from op_neD hu64) (pv 5) (pv 3) (nomark _))) (fun _ _ _ _ _ => (pv 5))) pa_nil))) rfl)
      (pss_one (ps_ret (pe_tup (pa_cons pe_non (pa_cons (pe_tup (pa_cons pe_str (pa_cons (pv 1) (pa_cons (pv 2) pa_nil)))) pa_nil))))))))), ?_⟩
    refine ⟨_, rfl, _, rfl, _, rfl, A, so, ⟨n, es, x, sc⟩, g, nl, pl, a, b, rfl, st, ha, hb, fun t0 H1 nt0 s1 ht0 => ?_⟩
    have h11 := s1 _ _ h1
    have hg1 := hg.same s1
    have og1 := s1 _ _ og
    refine ⟨_, rfl, so, CT, dx, _, _, rfl, h11, S.cl, S.n1, sl_g _ _ _, g, dxg, _, rfl, og1, rfl, g, n, es, rfl, hg1, fun q H2 nq s2 hq => ?_⟩
    obtain ⟨tq, t1, t2⟩ := id hq
    have s02 := s1.trans s2
    have ht02 := s2 _ _ ht0
    have ltq : tq.length ≤ 40 := by rw [t2.1]; exact fewE
    refine ⟨_, rfl, _, rfl, pairD (edg a b), es.map pairD, .tup (SqT.of ht02) (.cons (.int _) (.cons (.int _) .nil)), .lst (SqL.of t1) (dpTups t2), rfl, shapedPairs _, _, rfl, ?_⟩
    by_cases c : edg a b ∈ es
    case neg =>
      rw [anyPair c]
      refine iteT ⟨_, rfl, _, rfl, by show 2 ≤ sizeLine; decide, fun T nT => ⟨.ref T, rfl, fun dd H' nd s3 hx => ?_⟩⟩
      exact opErr (er := .edge a b) hd (by unfold stepM; dsimp only; rw [if_neg c]) T _ (s02.trans (same_upd nT)) upd_same H' dd s3 nd hx
    rw [anyPairT c]
    refine iteF ?_
    have kont := opOk (r := (⟨n, es.filter fun e => decide (e ≠ edg a b), x, sc⟩, .non)) hd (by unfold stepM; dsimp only; rw [if_pos c])
    have h12 := s02 _ _ h1
    have hg2 := hg.same s02
    have og2 := s02 _ _ og
    refine ⟨_, rfl, so, CT, dx, _, _, rfl, h12, S.cl, S.n1, sl_g _ _ _, g, dxg, _, rfl, og2, rfl, g, n, es, rfl, hg2, ?_⟩
    refine ⟨_, rfl, q, rfl, ⟨_, SqL.of t1⟩, fun D nD => ?_⟩
    refine lc_list (K := K) (a := q) (xs := tq.map V.ref) (fun i H3 => Same H2 H3 ∧ ∃ us : List Addr, H3 D = some (.lst (us.map V.ref)) ∧ TupsAt H3 us ((es.take i).filter fun e => decide (e ≠ edg a b)))
      ⟨same_upd nD, [], upd_same, ⟨rfl, fun k t e => by simp at e⟩⟩ (fun i H3 _ h => SqL.of (h.1 _ _ t1)) (fun i v H3 hv h => ?_) (fun H3 h => ?_)
    · obtain ⟨s3, us, hD, hu⟩ := h
      obtain ⟨t, ht, rfl⟩ := refAt hv
      obtain ⟨e, hei, het⟩ := t2.2 i t ht
      have het3 := s3 _ _ het
      refine ⟨rfl, ?_⟩
      refine ⟨_, rfl, _, rfl, pairD e, pairD (edg a b), .tup (SqT.of het3) (.cons (.int _) (.cons (.int _) .nil)), .tup (SqT.of (s3 _ _ ht02)) (.cons (.int _) (.cons (.int _) .nil)), rfl, rfl, _, rfl, ?_⟩
      rw [eqvPair]
      have lus : us.length ≤ 40 := by
        rw [hu.1]
        have := List.length_filter_le (fun e => decide (e ≠ edg a b)) (es.take i)
        rw [List.length_take] at this
        omega
      by_cases ce : e = edg a b
      · rw [decide_eq_true ce]
        refine iteF ⟨s3, us, hD, ?_⟩
        rw [takeMore hei, List.filter_append, List.filter_cons, if_neg (by simp [ce]), List.filter_nil, List.append_nil]
        exact hu
      · rw [decide_eq_false ce]
        have tp := hu.push (t := t) (e := e) het3
        refine iteT ⟨_, rfl, _, hD, by rw [List.length_map, sizeLine_eq]; omega, fun b o z => ?_, us ++ [t], by rw [upd_same, List.map_append]; rfl, ?_⟩
        · rw [upd_ne (ne_of_none z nD)]
          exact s3 _ _ z
        · rw [takeMore hei, List.filter_append, List.filter_cons, if_pos (by simp [ce]), List.filter_nil]
          refine ⟨tp.1, fun k t' hk => ?_⟩
          obtain ⟨z, z1, z2⟩ := tp.2 k t' hk
          exact ⟨z, z1, by rw [upd_ne (ne_of z2 hD (by intro y; cases y))]; exact z2⟩
    obtain ⟨s3, us, hD, hu⟩ := h
    rw [List.length_map, t2.1, List.take_length] at hu
    have s03 := s02.trans s3
    have gE : GoodE n (es.filter fun e => decide (e ≠ edg a b)) := ⟨fun e he => hg.good.node e ((List.mem_filter.mp he).1), hg.good.once.sublist List.filter_sublist, Nat.le_trans (List.length_filter_le _ _) fewE⟩
    intro g' dxn nx ndx nex
    have sx0 := preS (CG := CG) nx ndx nex
    refine ⟨g', dxn, _, .ref D, rfl, upd_same, .inr ⟨n, rfl, n1, n16, .inr (.inr ⟨_, ⟨D, us, rfl, .inl (sx0 _ _ hD), hu.same sx0, gE.toU⟩, fun h => absurd gE.few (by omega), fun h40 H5 j nr N es' up hx' hj hN near pe sE nj nn => ⟨rfl, ?_⟩⟩)⟩⟩
    rw [ordMap gE] at pe
    have sF : SrtE (es.filter fun e => decide (e ≠ edg a b)) := hg.asc.sublist List.filter_sublist
    obtain rfl := SrtE.uniq pe sE sF
    have st3 := st.same s03
    obtain ⟨s35, gr5⟩ := graphNew st3.dom nx ndx nex up hx' hj near sE nj nn gE n1 n16
    have s05 := s03.trans s35
    have st5 := st.same s05
    have h15 := s05 _ _ h1
    refine ⟨_, rfl, so, CT, dx, _, rfl, h15, S.cl, S.n1, by show 3 < 1000; decide, ?_⟩
    rw [putD]
    obtain ⟨H6, q6⟩ : ∃ H6, upd H5 so (.ins CT dx (sflds g' nl pl)) = H6 := ⟨_, rfl⟩
    have soN : so ≠ nl := ne_of h1 hnum (by intro z; cases z)
    have soP : so ≠ pl := ne_of h1 hpts (by intro z; cases z)
    have fr56 : FrL [so, nl, pl] H5 H6 := by rw [← q6]; exact frUpd (by simp)
    have st6 : StAt CG CT A H6 so ⟨n, es.filter fun e => decide (e ≠ edg a b), x, sc⟩ g' nl pl := ⟨⟨_, by rw [← q6, upd_same]⟩, gr5.step (fr56.mono st.sub), by rw [← q6, upd_ne soN.symm]; exact st5.num, by rw [← q6, upd_ne soP.symm]; exact st5.pts, st.ne, hlen, hfew, st.sA, st.nA, st.pA, by
      rw [← q6]
      exact st5.dom.upd (fun vs z => by cases z)⟩
    rw [q6]
    refine ⟨_, rfl, _, rfl, by show 3 ≤ sizeLine; decide, fun iv niv => ?_⟩
    obtain ⟨H7, q7, s7, hiv⟩ := newAt (.tup [V.str "add_edge", V.int (a : Int), V.int (b : Int)]) niv
    rw [q7]
    refine ⟨by show 2 ≤ sizeLine; decide, fun t nt => ?_⟩
    obtain ⟨H8, q8, s8, ht⟩ := newAt (.tup [V.non, V.ref iv]) nt
    rw [q8]
    have s68 := s7.trans s8
    have fr06 := (sameFr (A := [so, nl, pl]) s05).trans fr56
    exact kont t iv g' H8 (fr06.trans (sameFr s68)) (st6.same s68) (freeFr fr06 st6.there (s7.free nt)) ht (s8 _ _ hiv)
end
end K72
set_option Elab.async false
set_option linter.all false
set_option maxRecDepth 100000
set_option maxHeartbeats 8000000
namespace K72
open PySem PySem.Spec PyProof.Rows L2 FNX
theorem toldEr.same {CPl CNg CE CM : Addr} {er : Er} {H H1 : Hp} {E : XK} (h : toldEr CPl CNg CE CM er H E) (s : Same H H1) : toldEr CPl CNg CE CM er H1 E := by
  cases er with
  | player p => exact fun H' dd s' nd hx => h H' dd (s.trans s') (s.free nd) hx
  | neg v => exact fun H' dd s' nd hx => h H' dd (s.trans s') (s.free nd) hx
  | edge a b => exact fun t H' s' ht => h t H' (s.trans s') ht
  | many k => exact fun H' dd s' nd hx => h H' dd (s.trans s') (s.free nd) hx
theorem opDone.same {CG CT CPl CNg CE CM : Addr} {A : List Addr} {so nl pl : Addr} {M : Mo} {op : Op} {H H1 : Hp} {Q : VK} {E : XK} (h : opDone CG CT CPl CNg CE CM A so nl pl M op H Q E) (s : Same H H1) : opDone CG CT CPl CNg CE CM A so nl pl M op H1 Q E := by
  unfold opDone at *
  cases e : stepM M op with
  | error er =>
    rw [e] at h
    exact h.same s
  | ok r =>
    rw [e] at h
    exact fun t iv g' H' f st nt h1 h2 => h t iv g' H' ((sameFr s).trans f) st (s.free nt) h1 h2
def isFive (op : Op) : Bool := isFire op || isPut op || isAdd op || isJoin op || isPart op
def spPerform (CG CT CPl CNg CE CM : Addr) : Sp := fun vs H Q E => ∃ (A : List Addr) (so : Addr) (M : Mo) (g nl pl t : Addr) (op : Op), vs = [.ref so, .ref t] ∧ isFive op = true ∧ H t = some (.tup (opV op)) ∧ StAt CG CT A H so M g nl pl ∧ okOp M op ∧ opDone CG CT CPl CNg CE CM A so nl pl M op H Q E
def spSInit (K : PySem.W.Frag) (CT : Addr) : Sp := fun vs H Q _ => ∃ (x dx nq pq : Addr) (dv : Addr) (xs ys : List V), vs = [.ref x, .ref dv, .ref nq, .ref pq] ∧ H x = some (.ins CT dx []) ∧ SqL K H nq xs ∧ SqL K H pq ys ∧
  ∀ (nl pl : Addr) (H' : Hp), (∀ b o, b ≠ x → H b = some o → H' b = some o) → H' x = some (.ins CT dx (sflds dv nl pl)) → H nl = none → H pl = none → nl ≠ pl → H' nl = some (.lst xs) → H' pl = some (.lst ys) → Q .non H'
section
variable {P : Program} {w : World} {K : PySem.W.Frag} {mg : Str → Option Value} {base : Heap} {CG CT CPl CNg CE CM CN CNu CS : Addr}
theorem sc_sinit : FnScope ["self", "drawn", "numbers", "points"] ["self", "drawn", "numbers", "points"] (defScope s_State_init) := ⟨rfl, rfl, rfl, by decide +kernel, rfl, by decide +kernel, by decide +kernel⟩
theorem ok_sinit {f : Addr} {fd : FuncData} (F : Fun K "__init__" "State.__init__" s_State_init f fd) (S : STxt K mg CT) (M : Nms mg) : FnOk P w K mg base CX0 1 f fd ["self", "drawn", "numbers", "points"] (spSInit K CT) := by
  refine F.ok sc_sinit (fun vs H Q E h => ?_) (fun cdv A outer s H vs Q E hr h => ?_)
  · obtain ⟨x, dx, nq, pq, dv, xs, ys, rfl, _⟩ := h
    rfl
  · obtain ⟨x, dx, nq, pq, dv, xs, ys, rfl, hx, hn, hp, k⟩ := h
    refine ⟨_, pss_cons (ps_fld (pv 0) (pv 1) rfl)
      (pss_cons (ps_fld (pv 0) (pe_callTy call_list_of (by rfl) M.list (by decide +kernel) (pa_cons (pv 2) pa_nil)) rfl)
      (pss_one (ps_fld (pv 0) (pe_callTy call_list_of (by rfl) M.list (by decide +kernel) (pa_cons (pv 3) pa_nil)) rfl))), ?_⟩
    refine ⟨_, rfl, _, rfl, x, CT, dx, _, rfl, hx, S.cl, S.n1, by decide, ?_⟩
    obtain ⟨H1, q1⟩ : ∃ H1, upd H x (.ins CT dx (putF ("drawn" : Str) (.ref dv) [])) = H1 := ⟨_, rfl⟩
    rw [q1]
    have f1 : ∀ b o, b ≠ x → H b = some o → H1 b = some o := fun b o hb e => by rw [← q1, upd_ne hb]; exact e
    have x1 : H1 x = some (.ins CT dx (putF ("drawn" : Str) (.ref dv) [])) := by rw [← q1, upd_same]
    have seq1 : ∀ {a : Addr} {zs : List V}, SqL K H a zs → SqL K H1 a zs := fun {a zs} h => by
      rcases h with (h | ⟨o, h⟩) | h
      · exact .inl (.inl (f1 _ _ (ne_of h hx (by intro z; cases z)) h))
      · exact .inl (.inr ⟨o, f1 _ _ (ne_of h hx (by intro z; cases z)) h⟩)
      · exact .inr h
    refine ⟨_, rfl, nq, _, rfl, .inl (seq1 hn), fun nl nnl => ?_⟩
    obtain ⟨H2, q2, s2, hnl⟩ := newAt (.lst xs) nnl
    rw [q2]
    refine ⟨_, rfl, x, CT, dx, _, rfl, s2 _ _ x1, S.cl, S.n2, (by show 1 < 1000; decide), ?_⟩
    obtain ⟨H3, q3⟩ : ∃ H3, upd H2 x (.ins CT dx (putF ("numbers" : Str) (.ref nl) (putF ("drawn" : Str) (.ref dv) []))) = H3 := ⟨_, rfl⟩
    rw [q3]
    have nlx : nl ≠ x := (ne_of_none x1 nnl).symm
    have f3 : ∀ b o, b ≠ x → H2 b = some o → H3 b = some o := fun b o hb e => by rw [← q3, upd_ne hb]; exact e
    have x3 : H3 x = some (.ins CT dx (putF ("numbers" : Str) (.ref nl) (putF ("drawn" : Str) (.ref dv) []))) := by rw [← q3, upd_same]
    have seq3 : SqL K H3 pq ys := by
      rcases seq1 hp with (h | ⟨o, h⟩) | h
      · exact .inl (.inl (f3 _ _ (ne_of h x1 (by intro z; cases z)) (s2 _ _ h)))
      · exact .inl (.inr ⟨o, f3 _ _ (ne_of h x1 (by intro z; cases z)) (s2 _ _ h)⟩)
      · exact .inr h
    refine ⟨_, rfl, pq, _, rfl, .inl seq3, fun pl npl => ?_⟩
    obtain ⟨H4, q4, s4, hpl⟩ := newAt (.lst ys) npl
    rw [q4]
    refine ⟨_, rfl, x, CT, dx, _, rfl, s4 _ _ x3, S.cl, S.n3, (by show 2 < 1000; decide), ?_⟩
    have nl3 := f3 _ _ nlx hnl
    have nlpl : nl ≠ pl := ne_of_none nl3 npl
    have plx : pl ≠ x := (ne_of_none x3 npl).symm
    have free3 : ∀ b, b ≠ x → H3 b = none → H1 b = none := fun b hb e => by
      cases z : H1 b with
      | none => rfl
      | some o => rw [f3 b o hb (s2 _ _ z)] at e; cases e
    have free1 : ∀ b, b ≠ x → H1 b = none → H b = none := fun b hb e => by
      cases z : H b with
      | none => rfl
      | some o => rw [f1 b o hb z] at e; cases e
    refine k nl pl _ (fun b o hb e => ?_) (by rw [upd_same]; rfl) (free1 _ nlx nnl) (free1 _ plx (free3 _ plx npl)) nlpl (by rw [upd_ne nlx]; exact s4 _ _ nl3) (by rw [upd_ne plx]; exact hpl)
    rw [upd_ne hb]
    exact s4 _ _ (f3 b o hb (s2 _ _ (f1 b o hb e)))
theorem sc_perform : FnScope ["state", "operation", "action", "values"] ["state", "operation"] (defScope s_perform) := ⟨rfl, rfl, rfl, by decide +kernel, rfl, by decide +kernel, by decide +kernel⟩
theorem ok_perform {f aA fF fP fA fJ fR : Addr} {fd : FuncData} (F : Fun K "perform" "perform" s_perform f fd) (KB : K.In base) (mA : mg "ACTIONS" = some (.ref aA))
    (kF : KDct K w aA "fire" (.ref fF)) (kP : KDct K w aA "put" (.ref fP)) (kA : KDct K w aA "add_node" (.ref fA)) (kJ : KDct K w aA "add_edge" (.ref fJ)) (kR : KDct K w aA "remove_edge" (.ref fR))
    (mF : mg "fire_node" = some (.ref fF)) (mP : mg "put_number" = some (.ref fP)) (mAn : mg "append_node" = some (.ref fA)) (mJ : mg "join_nodes" = some (.ref fJ)) (mR : mg "part_nodes" = some (.ref fR))
    (GF : At P w K mg base (L2.CX P w) 8 "fire_node" ["state", "player", "node"] (spAct CG CT CPl CNg CE CM isFire)) (GP : At P w K mg base (L2.CX P w) 8 "put_number" ["state", "node", "number"] (spAct CG CT CPl CNg CE CM isPut))
    (GA : At P w K mg base (L2.CX P w) 8 "append_node" ["state", "number"] (spAct CG CT CPl CNg CE CM isAdd)) (GJ : At P w K mg base (L2.CX P w) 8 "join_nodes" ["state", "one", "two"] (spAct CG CT CPl CNg CE CM isJoin))
    (GR : At P w K mg base (L2.CX P w) 8 "part_nodes" ["state", "one", "two"] (spAct CG CT CPl CNg CE CM isPart)) :
    FnOk P w K mg base (L2.CX P w) 9 f fd ["state", "operation"] (spPerform CG CT CPl CNg CE CM) := by
  have inj : ∀ {x : Str} {a b : Addr}, mg x = some (.ref a) → mg x = some (.ref b) → a = b := fun h1 h2 => by
    rw [h1] at h2
    injection h2 with h2
    injection h2
  obtain ⟨gF, gdF, GF, m1, p1, b1⟩ := GF
  obtain rfl := inj m1 mF
  obtain ⟨gP, gdP, GP, m2, p2, b2⟩ := GP
  obtain rfl := inj m2 mP
  obtain ⟨gA, gdA, GA, m3, p3, b3⟩ := GA
  obtain rfl := inj m3 mAn
  obtain ⟨gJ, gdJ, GJ, m4, p4, b4⟩ := GJ
  obtain rfl := inj m4 mJ
  obtain ⟨gR, gdR, GR, m5, p5, b5⟩ := GR
  obtain rfl := inj m5 mR
  have HS : ∀ f sp, (f = gF ∧ sp = spAct CG CT CPl CNg CE CM isFire ∨ f = gP ∧ sp = spAct CG CT CPl CNg CE CM isPut ∨ f = gA ∧ sp = spAct CG CT CPl CNg CE CM isAdd ∨ f = gJ ∧ sp = spAct CG CT CPl CNg CE CM isJoin ∨ f = gR ∧ sp = spAct CG CT CPl CNg CE CM isPart) →
      FnR P w K mg base (L2.CX P w) 8 f sp ∧ PySem.W.keepIn K (.ref f) = true := fun f sp h => by
    rcases h with ⟨rfl, rfl⟩ | ⟨rfl, rfl⟩ | ⟨rfl, rfl⟩ | ⟨rfl, rfl⟩ | ⟨rfl, rfl⟩
    · exact ⟨fnR_of GF b1 KB, p1⟩
    · exact ⟨fnR_of GP b2 KB, p2⟩
    · exact ⟨fnR_of GA b3 KB, p3⟩
    · exact ⟨fnR_of GJ b4 KB, p4⟩
    · exact ⟨fnR_of GR b5 KB, p5⟩
  refine F.okX sc_perform (fun vs H Q E h => ?_) (fun cdv A' outer s H vs Q E hr h => ?_)
  · obtain ⟨A, so, M, g, nl, pl, t, op, rfl, _⟩ := h
    rfl
  · obtain ⟨A, so, M, g, nl, pl, t, op, rfl, h5, ht, st, ok, hd⟩ := h
    have nd := sc_perform.nd
    refine ⟨_, pss_cons (ps_set (i := 2) nd rfl (Or.inl rfl) (pe_ix (r := rIxD K w) ix_kdict (pe_glob (v := .ref aA) (by rfl) mA rfl) (pe_ix (r := rIxT K) ix_tup (pv 1) pe_int (fun _ _ => rfl)) (fun _ _ => rfl)))
      (pss_cons (ps_set (i := 3) nd rfl (Or.inl rfl) (pe_slice sl_tup (pv 1) (po_some pe_int) po_none))
      (pss_one (ps_ret (pe_callAS (i := 2) HS hr rfl (Or.inl rfl) (passes_call (E := E) (takes_of rfl rfl rfl rfl) (fun _ _ _ _ h => h)) (pa_cons (pv 0) (StX.pa_star (pv 3) pa_nil)))))), ?_⟩
    have cutT : cutV (opV op) (some 1) none = (opV op).tail ∧ 2 ≤ (opV op).length := by
      cases op <;> first | exact ⟨rfl, (by show 2 ≤ 3; decide)⟩ | exact ⟨rfl, (by show 2 ≤ 2; decide)⟩ | cases h5
    obtain ⟨h6, h7⟩ := cutT
    obtain ⟨f, kind, key, h1, h2, h3, h4⟩ : ∃ (f : Addr) (kind : Op → Bool) (key : Str), kind op = true ∧ opV op = .str key :: (opV op).tail ∧ KDct K w aA key (.ref f) ∧
        (f = gF ∧ spAct CG CT CPl CNg CE CM kind = spAct CG CT CPl CNg CE CM isFire ∨ f = gP ∧ spAct CG CT CPl CNg CE CM kind = spAct CG CT CPl CNg CE CM isPut ∨ f = gA ∧ spAct CG CT CPl CNg CE CM kind = spAct CG CT CPl CNg CE CM isAdd ∨ f = gJ ∧ spAct CG CT CPl CNg CE CM kind = spAct CG CT CPl CNg CE CM isJoin ∨ f = gR ∧ spAct CG CT CPl CNg CE CM kind = spAct CG CT CPl CNg CE CM isPart) := by
      cases op with
      | fire p v => exact ⟨gF, isFire, _, rfl, rfl, kF, .inl ⟨rfl, rfl⟩⟩
      | put v z => exact ⟨gP, isPut, _, rfl, rfl, kP, .inr (.inl ⟨rfl, rfl⟩)⟩
      | add z => exact ⟨gA, isAdd, _, rfl, rfl, kA, .inr (.inr (.inl ⟨rfl, rfl⟩))⟩
      | join a b => exact ⟨gJ, isJoin, _, rfl, rfl, kJ, .inr (.inr (.inr (.inl ⟨rfl, rfl⟩)))⟩
      | part a b => exact ⟨gR, isPart, _, rfl, rfl, kR, .inr (.inr (.inr (.inr ⟨rfl, rfl⟩)))⟩
      | back p v => cases h5
      | drop => cases h5
    refine ⟨_, rfl, t, _, (0 : Int), .str key, rfl, rfl, SqT.of ht, by rw [h2]; exact atI_nat (j := 0) rfl, aA, key, .ref f, rfl, rfl, h3, ?_⟩
    refine ⟨_, rfl, (1 : Int), rfl, t, _, rfl, SqT.of ht, ?_, fun tv ntv => ?_⟩
    · intro z
      have := HT.sIx_nat (opV op).length 0 1
      rw [show ((1 : Nat) : Int) = 1 from rfl] at this
      rw [this] at z
      omega
    rw [h6]
    obtain ⟨H1, q1, s1, htv⟩ := newAt (.tup (opV op).tail) ntv
    rw [q1]
    refine ⟨f, spAct CG CT CPl CNg CE CM kind, rfl, h4, _, rfl, _, rfl, tv, _, rfl, .inl (SqT.of htv), ?_⟩
    exact ⟨A, so, M, g, nl, pl, op, h1, by rw [List.append_nil], st.same s1, ok, hd.same s1⟩
end
end K72
set_option Elab.async false
set_option linter.all false
set_option maxRecDepth 100000
set_option maxHeartbeats 8000000
namespace K72
open PySem PySem.Spec PyProof.Rows L2 FNX
def bflds (so pk : Addr) : List (Str × V) := [("state", .ref so), ("past", .ref pk)]
theorem bl_s (so pk : Addr) : (bflds so pk).lookup ("state" : Str) = some (V.ref so) := rfl
theorem bl_p (so pk : Addr) : (bflds so pk).lookup ("past" : Str) = some (V.ref pk) := rfl
structure BTxt (K : PySem.W.Frag) (mg : Str → Option Value) (CB : Addr) : Prop where
  cl : Cls K CB
  n1 : NoAttr K CB "state"
  n2 : NoAttr K CB "past"
  mgC : mg "Board" = some (.ref CB)
/-- an entry of the log with what undoes it -/
inductive En
  | one (op inv : Op)
  | many (ops invs : List Op)
def OpsAt (H : Hp) (ts : List Addr) (ops : List Op) : Prop := ts.length = ops.length ∧ ∀ (k : Nat) (t : Addr), ts[k]? = some t → ∃ op, ops[k]? = some op ∧ H t = some (.tup (opV op))
def EntAt (H : Hp) (e : Addr) : En → Prop
  | .one op inv => ∃ o u iv, H e = some (.tup [.ref o, .ref u]) ∧ H o = some (.tup (opV op)) ∧ H u = some (.lst [.ref iv]) ∧ H iv = some (.tup (opV inv))
  | .many ops invs => ∃ o l u ts us, H e = some (.tup [.ref o, .ref u]) ∧ H o = some (.tup [.str "together", .ref l]) ∧ H l = some (.lst (ts.map V.ref)) ∧ OpsAt H ts ops ∧ H u = some (.lst (us.map V.ref)) ∧ OpsAt H us invs
def EntsAt (H : Hp) (es : List Addr) (log : List En) : Prop := es.length = log.length ∧ ∀ (k : Nat) (e : Addr), es[k]? = some e → ∃ en, log[k]? = some en ∧ EntAt H e en
structure BdAt (CG CT CB : Addr) (A : List Addr) (H : Hp) (b so pk : Addr) (M : Mo) (g nl pl : Addr) (log : List En) : Prop where
  obj : ∃ dx, H b = some (.ins CB dx (bflds so pk))
  st : StAt CG CT A H so M g nl pl
  past : ∃ es : List Addr, H pk = some (.lst (es.map V.ref)) ∧ Stb A H fun H' => EntsAt H' es log
  kn : pk ≠ nl
  kp : pk ≠ pl
  bA : b ∈ A
  kA : pk ∈ A
  few : log.length ≤ 1000
theorem BdAt.same {CG CT CB : Addr} {A : List Addr} {H H' : Hp} {b so pk : Addr} {M : Mo} {g nl pl : Addr} {log : List En} (h : BdAt CG CT CB A H b so pk M g nl pl log) (s : Same H H') : BdAt CG CT CB A H' b so pk M g nl pl log := by
  obtain ⟨⟨dx, h1⟩, h2, ⟨es, h3, h4⟩, h5, h6, h7, h8, h9⟩ := h
  exact ⟨⟨dx, s _ _ h1⟩, h2.same s, ⟨es, s _ _ h3, h4.step (sameFr s)⟩, h5, h6, h7, h8, h9⟩
def spBoardPos (CG CT CB : Addr) : Sp := fun vs H Q _ => ∃ (A : List Addr) (b so pk : Addr) (M : Mo) (g nl pl : Addr) (log : List En), vs = [.ref b] ∧ BdAt CG CT CB A H b so pk M g nl pl log ∧ ∀ q H', H q = none → Same H H' → H' q = some (.lst (M.x.map V.int)) → Q (.ref q) H'
def spBoardSco (CG CT CB : Addr) : Sp := fun vs H Q _ => ∃ (A : List Addr) (b so pk : Addr) (M : Mo) (g nl pl : Addr) (log : List En), vs = [.ref b] ∧ BdAt CG CT CB A H b so pk M g nl pl log ∧ ∀ q H', H q = none → Same H H' → H' q = some (.lst (M.sc.map V.int)) → Q (.ref q) H'
def spBoardGr (CG CT CB : Addr) : Sp := fun vs H Q _ => ∃ (A : List Addr) (b so pk : Addr) (M : Mo) (g nl pl : Addr) (log : List En), vs = [.ref b] ∧ BdAt CG CT CB A H b so pk M g nl pl log ∧ Q (.ref g) H
def spBoardLen (CG CT CB : Addr) : Sp := fun vs H Q _ => ∃ (A : List Addr) (b so pk : Addr) (M : Mo) (g nl pl : Addr) (log : List En), vs = [.ref b] ∧ BdAt CG CT CB A H b so pk M g nl pl log ∧ Q (.int (log.length : Int)) H
end K72
set_option Elab.async false
set_option linter.all false
set_option maxRecDepth 100000
set_option maxHeartbeats 8000000
namespace K72
open PySem PySem.Spec PyProof.Rows L2 FNX
theorem Stb.new {A L : List Addr} {H H' : Hp} {Φ : Hp → Prop} (h : Stb A H Φ) (f : FrL A H H') (n : ∀ c ∈ L, H c = none) : Stb (L ++ A) H' Φ := fun H2 f2 => h H2 fun b o hb e =>
  f2 b o (fun z => by
    rcases List.mem_append.mp z with z | z
    · rw [n b z] at e
      cases e
    · exact hb z) (f b o hb e)
theorem stepNon {M : Mo} {op : Op} {r : Mo × V} (h : stepM M op = .ok r) (n : isAdd op = false) : r.2 = .non := by
  cases op with
  | fire p v =>
    unfold stepM at h
    dsimp only at h
    split at h
    · cases h
    · split at h
      · cases h
      · injection h with h
        rw [← h]
  | back p v =>
    injection h with h
    rw [← h]
  | put v z =>
    injection h with h
    rw [← h]
  | add z => cases n
  | drop =>
    injection h with h
    rw [← h]
  | join a b =>
    unfold stepM at h
    dsimp only at h
    split at h
    · cases h
    · split at h
      · cases h
      · injection h with h
        rw [← h]
  | part a b =>
    unfold stepM at h
    dsimp only at h
    split at h
    · injection h with h
      rw [← h]
    · cases h
theorem repZ (p : Nat) : (List.replicate p [V.int 0]).flatten = (List.replicate p (0 : Int)).map V.int := by
  induction p with
  | zero => rfl
  | succ p ih =>
    rw [List.replicate_succ, List.replicate_succ, List.flatten_cons, ih]
    rfl
theorem strNe {a b : Str} (h : (a == b) = false) : decide (V.str a = V.str b) = false := decide_eq_false fun z => by
  injection z with z
  rw [z, beq_self_eq_true] at h
  cases h
def spBInit (K : PySem.W.Frag) (CG CT CB : Addr) : Sp := fun vs H Q _ => ∃ (A : List Addr) (b dx g q : Addr) (n : Nat) (es : List (Int × Int)) (x : List Int) (p : Nat), vs = [.ref b, .ref g, .ref q, .int (p : Int)] ∧ H b = some (.ins CB dx []) ∧ b ∈ A ∧ Dom A H ∧ (Stb A H fun H' => GE CG H' g n es) ∧
  SqL K H q (x.map V.int) ∧ x.length = n ∧ 1 ≤ p ∧ p ≤ 8 ∧
  ∀ (so nl pl pk : Addr) (H' : Hp), (∀ c o, c ≠ b → H c = some o → H' c = some o) → H so = none → H nl = none → H pl = none → H pk = none → BdAt CG CT CB (so :: nl :: pl :: pk :: A) H' b so pk ⟨n, es, x, List.replicate p 0⟩ g nl pl [] → Q .non H'
def opOf : En → Option Op
  | .one op _ => some op
  | .many _ _ => none
/-- a log of single operations -/
def Ones (log : List En) (ops : List Op) : Prop := log.map opOf = ops.map some
section
variable {P : Program} {w : World} {K : PySem.W.Frag} {mg : Str → Option Value} {base : Heap} {CG CT CB CPl CNg CE CM CN CNu CS CP : Addr}
theorem sc_binit : FnScope ["self", "graph", "position", "players"] ["self", "graph", "position", "players"] (defScope s_Board_init) := ⟨rfl, rfl, rfl, by decide +kernel, rfl, by decide +kernel, by decide +kernel⟩
theorem ok_binit {f fSI : Addr} {fd fdSI : FuncData} {dvs : List V} {kws : List (Str × V)} (F : FunD K "__init__" "Board.__init__" (defArgs s_Board_init) (defBody s_Board_init) (defScope s_Board_init) dvs kws f fd) (M : Nms mg) (T : GTxt K mg CG) (S : STxt K mg CT) (B : BTxt K mg CB) {t8 : Tok} (m8 : mg "MOST_PLAYERS" = some (.int 8 t8))
    (GCp : At P w K mg base (L2.CX P w) 3 "check_position" ["size", "position"] (spCheckPos K CP)) (GW : At P w K mg base CX0 2 "is_integer_within" ["thing", "low", "high"] (spWithin K)) (GSz : MAt P w K mg base CG CX0 1 "size" ["self"] (spSizeE CG))
    (MKS : Mk K CT fSI) (GSI : FnOk P w K mg base CX0 1 fSI fdSI ["self", "drawn", "numbers", "points"] (spSInit K CT)) (bSI : L2.Binds K fdSI ["self", "drawn", "numbers", "points"] []) :
    FnOk P w K mg base (L2.CX P w) 6 f fd ["self", "graph", "position", "players"] (spBInit K CG CT CB) := by
  obtain ⟨fCp, fdCp, GCp, mCp, kCp, bCp⟩ := GCp
  obtain ⟨fW, fdW, GW, mW, kW, bW⟩ := GW
  obtain ⟨fSz, fdSz, GSz, mSz, bSz⟩ := GSz
  refine F.ok sc_binit (fun vs H Q E h => ?_) (fun cdv A' outer s H vs Q E hr h => ?_)
  · obtain ⟨A, b, dx, g, q, n, es, x, p, rfl, _⟩ := h
    rfl
  · obtain ⟨A, b, dx, g, q, n, es, x, p, rfl, hb, bA, dom, hg, hq, hlen, p1, p8, k⟩ := h
    have nd := sc_binit.nd
    have n1 := hg.at.n1
    have n16 := hg.at.n16
    obtain ⟨dxg, jg, nrg, Ng, og, _⟩ := hg.at.obj
    refine ⟨_, (pss_cons (ps_expr (pe_call GCp (hr.mono (by decide)) (by rfl) mCp kCp bCp .nil (passes_call (E := E) (takes_of rfl rfl rfl rfl) (fun _ _ _ _ h => h)) (pa_cons (pe_meth0 (pv 1) T.cl mSz GSz (hr.mono (by decide)) bSz .nil pass0) (pa_cons (pv 2) pa_nil))))
      (pss_cons (ps_if (pt_not (pt_val (pe_call GW (hr.mono (by decide)) (by rfl) mW kW bW .nil pass0 (pa_cons (pv 3) (pa_cons pe_int (pa_cons (pe_glob (v := .int 8) (by rfl) m8 ⟨_, rfl⟩) pa_nil)))))) (pss_one ps_never) pss_nil)
      (pss_cons (ps_fld (pv 0) (pe_make MKS GSI (hr.mono (by decide)) (by rfl) S.mgC bSI .nil pass0 (pa_cons (pv 1) (pa_cons (pv 2) (pa_cons (pe_op op_rep (pe_lst (pa_cons pe_int pa_nil)) (pv 3)) pa_nil)))) rfl)
      (pss_one (ps_fld (pv 0) (pe_lst pa_nil) rfl))))), ?_⟩
    refine ⟨_, rfl, g, dxg, _, rfl, og, rfl, g, n, es, rfl, hg.at, _, rfl, .ref q, posD x, n, rfl, .dat (.lst hq (dpInts x)), by show (x.map PyData.int).length ≤ 100000; rw [List.length_map]; omega, fun H1 s1 _ => ?_, fun H' dd s' nd' hx z => by rw [ilPos hlen] at z; cases z⟩
    refine ⟨_, rfl, .int (p : Int), .int (p : Int), 1, 8, rfl, .dat (.int _), _, rfl, ?_⟩
    rw [show within 1 8 (.int (p : Int)) = true from by
      show (decide ((1 : Int) ≤ p) && decide ((p : Int) ≤ 8)) = true
      rw [decide_eq_true (by omega), decide_eq_true (by omega)]
      rfl]
    refine iteF ?_
    refine ⟨_, rfl, _, rfl, by show 1 ≤ sizeLine; decide, fun z nz => ?_⟩
    obtain ⟨H2, q2, s2, hz⟩ := newAt (.lst [V.int 0]) nz
    rw [q2]
    refine ⟨_, rfl, z, (p : Int), _, rfl, rfl, hz, by omega, by omega, by rw [sizeLine_eq, Int.toNat_natCast]; show 1 * p ≤ _; omega, fun pq npq => ?_⟩
    rw [Int.toNat_natCast, repZ]
    obtain ⟨H3, q3, s3, hpq⟩ := newAt (.lst ((List.replicate p (0 : Int)).map V.int)) npq
    rw [q3]
    intro so ds nso nds dne
    have sx := preS (CG := CT) nso nds dne
    have s13 := (s1.trans s2).trans s3
    refine ⟨so, ds, q, pq, g, _, _, rfl, upd_same, (s13.trans sx).seq hq, sx.seq (SqL.of hpq), fun nl pl H4 up hso nnl npl nlpl hnl hpl => ⟨rfl, ?_⟩⟩
    have s34 : Same H3 H4 := fun c o e => up c o (ne_of_none e nso) (sx _ _ e)
    have s04 := s13.trans s34
    have hb4 := s04 _ _ hb
    have nso0 := s13.free nso
    have nnl0 := s13.free (sx.free nnl)
    have npl0 := s13.free (sx.free npl)
    refine ⟨_, rfl, b, CB, dx, _, rfl, hb4, B.cl, B.n1, by decide, ?_⟩
    obtain ⟨H5, q5⟩ : ∃ H5, upd H4 b (.ins CB dx (putF ("state" : Str) (.ref so) [])) = H5 := ⟨_, rfl⟩
    have f5 : ∀ c o, c ≠ b → H4 c = some o → H5 c = some o := fun c o hc e => by rw [← q5, upd_ne hc]; exact e
    have hb5 : H5 b = some (.ins CB dx (putF ("state" : Str) (.ref so) [])) := by rw [← q5, upd_same]
    rw [q5]
    refine ⟨by show 0 ≤ sizeLine; decide, fun pk npk => ?_⟩
    obtain ⟨H6, q6, s6, hpk⟩ := newAt (.lst []) npk
    rw [q6]
    refine ⟨_, rfl, b, CB, dx, _, rfl, s6 _ _ hb5, B.cl, B.n2, by show 1 < 1000; decide, ?_⟩
    obtain ⟨H7, q7⟩ : ∃ H7, upd H6 b (.ins CB dx (putF ("past" : Str) (.ref pk) (putF ("state" : Str) (.ref so) []))) = H7 := ⟨_, rfl⟩
    rw [q7]
    have f7 : ∀ c o, c ≠ b → H6 c = some o → H7 c = some o := fun c o hc e => by rw [← q7, upd_ne hc]; exact e
    have hb7 : H7 b = some (.ins CB dx (bflds so pk)) := by rw [← q7, upd_same]; rfl
    have f47 : ∀ c o, c ≠ b → H4 c = some o → H7 c = some o := fun c o hc e => f7 c o hc (s6 _ _ (f5 c o hc e))
    have soB : so ≠ b := (ne_of_none hb nso0).symm
    have nlB : nl ≠ b := (ne_of_none hb nnl0).symm
    have plB : pl ≠ b := (ne_of_none hb npl0).symm
    have pkB : pk ≠ b := (ne_of_none hb5 npk).symm
    have npk4 : H4 pk = none := by rw [← q5, upd_ne pkB] at npk; exact npk
    have npk0 := s04.free npk4
    have f07 : ∀ c o, c ≠ b → H c = some o → H7 c = some o := fun c o hc e => f47 c o hc (s04 _ _ e)
    have so7 := f47 _ _ soB hso
    have nl7 := f47 _ _ nlB hnl
    have pl7 := f47 _ _ plB hpl
    have pk7 := f7 _ _ pkB hpk
    refine k so nl pl pk H7 f07 nso0 nnl0 npl0 npk0 ⟨⟨dx, hb7⟩, ⟨⟨ds, so7⟩, ?_, nl7, pl7, nlpl, hlen, by show (List.replicate p (0 : Int)).length ≤ 1000; rw [List.length_replicate]; omega, by simp, by simp, by simp, fun a ha => ?_⟩, ⟨[], pk7, fun H8 _ => ⟨rfl, fun k e z => by simp at z⟩⟩, (ne_of_none hnl npk4).symm, (ne_of_none hpl npk4).symm, by simp [bA], by simp, by show 0 ≤ 1000; omega⟩
    · refine Stb.new (L := [so, nl, pl, pk]) hg (fun c o hc e => f07 c o (fun z => hc (z ▸ bA)) e) (fun c hc => ?_)
      simp only [List.mem_cons, List.not_mem_nil, or_false] at hc
      rcases hc with rfl | rfl | rfl | rfl
      · exact nso0
      · exact nnl0
      · exact npl0
      · exact npk0
    · by_cases c : a = b
      · rw [c]
        exact ⟨_, hb7, fun vs z => by cases z⟩
      simp only [List.mem_cons] at ha
      rcases ha with rfl | rfl | rfl | rfl | ha
      · exact ⟨_, so7, fun vs z => by cases z⟩
      · exact ⟨_, nl7, fun vs z => by cases z⟩
      · exact ⟨_, pl7, fun vs z => by cases z⟩
      · exact ⟨_, pk7, fun vs z => by cases z⟩
      · obtain ⟨o, e, no⟩ := dom a ha
        exact ⟨o, f07 a o c e, no⟩
theorem sc_bgraph : FnScope ["self"] ["self"] (defScope s_Board_graph) := ⟨rfl, rfl, rfl, by decide +kernel, rfl, by decide +kernel, by decide +kernel⟩
theorem ok_bgraph {f : Addr} {fd : FuncData} (F : Fun K "graph" "Board.graph" s_Board_graph f fd) (S : STxt K mg CT) (B : BTxt K mg CB) : FnOk P w K mg base CX0 1 f fd ["self"] (spBoardGr CG CT CB) := by
  refine F.ok sc_bgraph (fun vs H Q E h => ?_) (fun cdv A' outer s H vs Q E hr h => ?_)
  · obtain ⟨A, b, so, pk, M, g, nl, pl, log, rfl, _⟩ := h
    rfl
  · obtain ⟨A, b, so, pk, mo, g, nl, pl, log, rfl, bd, k⟩ := h
    obtain ⟨dx, h1⟩ := bd.obj
    obtain ⟨dxs, h2⟩ := bd.st.obj
    refine ⟨_, (pss_one (ps_ret (pe_fld (pe_fld (pv 0) rfl) rfl))), ?_⟩
    exact ⟨_, rfl, b, CB, dx, _, _, rfl, h1, B.cl, B.n1, bl_s _ _, so, CT, dxs, _, _, rfl, h2, S.cl, S.n1, sl_g _ _ _, k⟩
theorem sc_bpos : FnScope ["self"] ["self"] (defScope s_Board_position) := ⟨rfl, rfl, rfl, by decide +kernel, rfl, by decide +kernel, by decide +kernel⟩
theorem ok_bpos {f : Addr} {fd : FuncData} (F : Fun K "position" "Board.position" s_Board_position f fd) (M : Nms mg) (S : STxt K mg CT) (B : BTxt K mg CB) : FnOk P w K mg base CX0 1 f fd ["self"] (spBoardPos CG CT CB) := by
  refine F.ok sc_bpos (fun vs H Q E h => ?_) (fun cdv A' outer s H vs Q E hr h => ?_)
  · obtain ⟨A, b, so, pk, M, g, nl, pl, log, rfl, _⟩ := h
    rfl
  · obtain ⟨A, b, so, pk, mo, g, nl, pl, log, rfl, bd, k⟩ := h
    obtain ⟨dx, h1⟩ := bd.obj
    obtain ⟨dxs, h2⟩ := bd.st.obj
    refine ⟨_, (pss_one (ps_ret (pe_callTy call_list_of (by rfl) M.list (by decide +kernel) (pa_cons (pe_fld (pe_fld (pv 0) rfl) rfl) pa_nil)))), ?_⟩
    exact ⟨_, rfl, b, CB, dx, _, _, rfl, h1, B.cl, B.n1, bl_s _ _, so, CT, dxs, _, _, rfl, h2, S.cl, S.n2, sl_n _ _ _, nl, _, rfl, .inl (SqL.of bd.st.num), fun q nq => k q _ nq (same_upd nq) upd_same⟩
theorem sc_bsco : FnScope ["self"] ["self"] (defScope s_Board_scores) := ⟨rfl, rfl, rfl, by decide +kernel, rfl, by decide +kernel, by decide +kernel⟩
theorem ok_bsco {f : Addr} {fd : FuncData} (F : Fun K "scores" "Board.scores" s_Board_scores f fd) (M : Nms mg) (S : STxt K mg CT) (B : BTxt K mg CB) : FnOk P w K mg base CX0 1 f fd ["self"] (spBoardSco CG CT CB) := by
  refine F.ok sc_bsco (fun vs H Q E h => ?_) (fun cdv A' outer s H vs Q E hr h => ?_)
  · obtain ⟨A, b, so, pk, M, g, nl, pl, log, rfl, _⟩ := h
    rfl
  · obtain ⟨A, b, so, pk, mo, g, nl, pl, log, rfl, bd, k⟩ := h
    obtain ⟨dx, h1⟩ := bd.obj
    obtain ⟨dxs, h2⟩ := bd.st.obj
    refine ⟨_, (pss_one (ps_ret (pe_callTy call_list_of (by rfl) M.list (by decide +kernel) (pa_cons (pe_fld (pe_fld (pv 0) rfl) rfl) pa_nil)))), ?_⟩
    exact ⟨_, rfl, b, CB, dx, _, _, rfl, h1, B.cl, B.n1, bl_s _ _, so, CT, dxs, _, _, rfl, h2, S.cl, S.n3, sl_p _ _ _, pl, _, rfl, .inl (SqL.of bd.st.pts), fun q nq => k q _ nq (same_upd nq) upd_same⟩
theorem sc_blen : FnScope ["self"] ["self"] (defScope s_Board_len) := ⟨rfl, rfl, rfl, by decide +kernel, rfl, by decide +kernel, by decide +kernel⟩
theorem ok_blen {f : Addr} {fd : FuncData} (F : Fun K "__len__" "Board.__len__" s_Board_len f fd) (M : Nms mg) (B : BTxt K mg CB) : FnOk P w K mg base CX0 1 f fd ["self"] (spBoardLen CG CT CB) := by
  refine F.ok sc_blen (fun vs H Q E h => ?_) (fun cdv A' outer s H vs Q E hr h => ?_)
  · obtain ⟨A, b, so, pk, M, g, nl, pl, log, rfl, _⟩ := h
    rfl
  · obtain ⟨A, b, so, pk, mo, g, nl, pl, log, rfl, bd, k⟩ := h
    obtain ⟨dx, h1⟩ := bd.obj
    obtain ⟨es, h3, h4⟩ := bd.past
    refine ⟨_, (pss_one (ps_ret (pe_callB call_len_seq (by rfl) M.len boot_len1 (pa_cons (pe_fld (pv 0) rfl) pa_nil)))), ?_⟩
    refine ⟨_, rfl, b, CB, dx, _, _, rfl, h1, B.cl, B.n2, bl_p _ _, pk, _, rfl, .inl (SqL.of h3), ?_⟩
    rw [List.length_map, h4.at.1]
    exact k
theorem sc_written : FnScope ["operation"] ["operation"] (defScope s_written) := ⟨rfl, rfl, rfl, by decide +kernel, rfl, by decide +kernel, by decide +kernel⟩
theorem sc_blog : FnScope ["self", "operation", "undoing"] ["self"] (defScope s_Board_log) := ⟨rfl, rfl, rfl, by decide +kernel, rfl, by decide +kernel, by decide +kernel⟩
end
end K72
set_option Elab.async false
set_option linter.all false
set_option maxRecDepth 100000
set_option maxHeartbeats 4000000
namespace FNX
open PySem PySem.Spec PyProof.Rows L2
/-- values that hold an instance somewhere: no data -/
inductive Bad (H : Hp) : V → Prop
  | ins {a C dx : Addr} {fs : List (Str × V)} (h : H a = some (.ins C dx fs)) : Bad H (.ref a)
  | lst {o : Addr} {ys : List V} {y : V} (h : H o = some (.lst ys)) (m : y ∈ ys) (b : Bad H y) : Bad H (.ref o)
theorem Bad.same {H H' : Hp} (s : Same H H') {v : V} (h : Bad H v) : Bad H' v := by
  induction h with
  | ins h => exact .ins (s _ _ h)
  | lst h m _ ih => exact .lst (s _ _ h) m ih
/-- guards whose lists hold instances -/
def GBad (g : List Code) (H : Hp) : Prop := ∀ c ∈ g, ∀ id v rest kw, c = .builtin id ⟨v :: rest, kw⟩ → ∃ o, v = .ref o ∧ Bad H (.ref o)
theorem GBad.same {H H' : Hp} (s : Same H H') {g : List Code} (h : GBad g H) : GBad g H' := fun c hc id v rest kw e => by
  obtain ⟨o, e', b⟩ := h c hc id v rest kw e
  exact ⟨o, e', b.same s⟩
theorem GBad.nil {H : Hp} : GBad [] H := fun c hc => by cases hc
/-- what stands around a part of a call's way -/
structure Arn (X : Cx) (A : Around) (k : Nat) (g : List Code) : Prop where
  fr : A.frames = X.A.frames
  hd : A.handled = X.A.handled
  dp : A.depth ≤ X.A.depth + k
  un : A.units ≤ X.A.units + k
  gd : A.guards = some g
theorem Arn.mono {X : Cx} {A : Around} {k l : Nat} {g : List Code} (h : Arn X A k g) (hk : k ≤ l) : Arn X A l g :=
  ⟨h.fr, h.hd, by have := h.dp; omega, by have := h.un; omega, h.gd⟩
theorem Arn.in1 {X : Cx} {A : Around} {k : Nat} {g : List Code} (h : Arn X A k g) : Arn X A.in1 (k + 1) g :=
  ⟨h.fr, h.hd, by have := h.dp; show A.depth ≤ _; omega, by have := h.un; show A.units + 1 ≤ _; omega, h.gd⟩
end FNX
set_option Elab.async false
set_option linter.all false
set_option maxRecDepth 100000
set_option maxHeartbeats 4000000
namespace FNX
open PySem PySem.Spec PyProof.Rows L2
def rRemD (K : PySem.W.Frag) : V → List V → Hp → VK → Prop := fun x xs H Q => ∃ l vs y d ds j z, x = .ref l ∧ xs = [y] ∧ H l = some (.lst vs) ∧ DpAll K H vs ds ∧ Dp K H y d ∧ SeqAt.shaped (.list ds) = true ∧ SeqAt.shaped d = true ∧ ds[j]? = some z ∧ PyData.eqv z d = true ∧
  (∀ (m : Nat) (z' : PyData), m < j → ds[m]? = some z' → PyData.eqv z' d = false) ∧ Q .non (upd H l (.lst (vs.eraseIdx j)))
section
variable {X : Cx}
theorem remLoop {s : Shared} {l : Addr} {its : Array Value} {n : Nat} {u : Value} {R : Result → Shared → Prop} {A : Around} {e : Value → Bool}
    (hl : s.heap.get? l = some { cls := .type "list", data := .seq its n }) (heq : ∀ y ∈ its, SeqAt.EqAt A.in1 s y u (e y)) {j : Nat} (hj : j < its.size) (hsz : its.size ≤ sizeLine) (ej : e its[j] = true) (ne : ∀ (m : Nat) (hm : m < its.size), m < j → e its[m] = false)
    (q : R (.ok (.ret .none)) { s with heap := s.heap.update l (Obj.mapSeq fun xs => xs.eraseIdxIfInBounds j) }) :
    ∀ (k i : Nat), j - i = k → i ≤ j → codeAny (model X.prog X.w) A (.builtin "list.remove.loop" ⟨[.ref l, u, rawInt (i : Int)], []⟩) R s := by
  have step : ∀ i (hi : i < its.size), wpAny (model X.prog X.w) A.in1 (eqBool its[i] u) (fun b s' => b = e its[i] ∧ s' = s) (fun _ _ => False) s := fun i hi =>
    heq _ (Array.getElem_mem hi) _ _ _ _ ⟨rfl, rfl⟩
  intro k
  induction k with
  | zero =>
    intro i hk hi
    have ei : i = j := by omega
    subst ei
    refine codeAny_builtin MeetsSeq.entry_remove_loop ?_
    show wpAny (model X.prog X.w) A.in1 (Builtin.List.listItems (.ref l) >>= _) _ _ s
    refine wpAny_bind (wpAny_listItems hl rfl ?_)
    rw [show its[((i : Int)).toNat]? = some its[i] from by rw [Int.toNat_natCast]; exact Array.getElem?_eq_getElem hj]
    dsimp only
    refine wpAny_bind (wpAny_mono (step i hj) (fun b s' hb => ?_) (fun _ _ h => h.elim))
    obtain ⟨rfl, rfl⟩ := hb
    rw [ej, if_pos rfl]
    refine wpAny_bind ?_
    show wpAny _ _ (updateSeq l _) _ _ _
    rw [Int.toNat_natCast]
    refine wpAny_updateSeq hl rfl ?_ hsz (by rw [Array.eraseIdxIfInBounds]; split <;> simp <;> omega)
    exact wpAny_pure q
  | succ k ih =>
    intro i hk hi
    have hi' : i < its.size := by omega
    refine codeAny_builtin MeetsSeq.entry_remove_loop ?_
    show wpAny (model X.prog X.w) A.in1 (Builtin.List.listItems (.ref l) >>= _) _ _ s
    refine wpAny_bind (wpAny_listItems hl rfl ?_)
    rw [show its[((i : Int)).toNat]? = some its[i] from by rw [Int.toNat_natCast]; exact Array.getElem?_eq_getElem hi']
    dsimp only
    refine wpAny_bind (wpAny_mono (step i hi') (fun b s' hb => ?_) (fun _ _ h => h.elim))
    obtain ⟨rfl, rfl⟩ := hb
    rw [ne i hi' (by omega), if_neg (by simp)]
    refine wpAny_pure ⟨plainId_quiet MeetsSeq.plain_remove_loop _, ?_⟩
    exact ih (i + 1) (by omega) (by omega)
theorem dpLen {K : PySem.W.Frag} {H : Hp} : ∀ {vs : List V} {ds : List PyData}, DpAll K H vs ds → vs.length = ds.length
  | _, _, .nil => rfl
  | _, _, .cons _ h => by rw [List.length_cons, List.length_cons, dpLen h]
theorem valsErase : ∀ {vs : List V} {us : List Value}, Vals vs us → ∀ j, Vals (vs.eraseIdx j) (us.eraseIdx j)
  | _, _, .nil, j => by
    cases j <;> exact .nil
  | _, _, .cons h hs, 0 => hs
  | _, _, .cons h hs, j + 1 => .cons h (valsErase hs j)
theorem mt_removeD (hu : X.A.units + 80 < cLine) : MtM X "list.remove" (rRemD X.K) := by
  intro pins s σ H x xs v us Q I r rs h
  obtain ⟨l, vs, y, d, ds, j, z, rfl, rfl, hl, hd, hy, sh1, sh2, hj, hz, ne, q⟩ := h
  cases r
  obtain ⟨u, rfl, ru⟩ := Vals.one rs
  obtain ⟨hsz, its, n, rv, hlen, e⟩ := I.lstM hl
  obtain ⟨as1, r1⟩ := Dp.readsAll I ds vs its hd rv
  obtain ⟨as2, r2⟩ := Dp.reads I d y u hy ru
  have cl : PyData.canLayAll0 ds = true := by
    have := SeqAt.canLay_of_shaped sh1
    simpa [PyData.canLay0] using this
  have hmap := SeqAt.readsAll_map ds its as1 cl r1
  have eqA := SeqAt.items_eqAt (A := X.A) (vs := its.toArray) r1 r2 cl (SeqAt.canLay_of_shaped sh2) (by
    have := SeqAt.depth_of_shaped sh2
    have : min (PyData.depthAll ds) d.depth ≤ d.depth := Nat.min_le_right _ _
    show X.A.units + 1 + min (PyData.depthAll ds) d.depth < cLine
    omega)
  have eAt : ∀ (m : Nat) (hm : m < its.toArray.size) (w : PyData), ds[m]? = some w → SeqAt.readOf s.heap its.toArray[m] = w := fun m hm w hw => by
    have e1 : (List.map (SeqAt.readOf s.heap) its)[m]? = some (SeqAt.readOf s.heap its.toArray[m]) := by
      rw [List.getElem?_map, List.getElem_toArray, List.getElem?_eq_getElem (by simpa using hm)]
      rfl
    rw [hmap, hw] at e1
    exact (Option.some.inj e1).symm
  have hdl := dpLen hd
  have hj' : j < its.toArray.size := by
    have := (List.getElem?_eq_some_iff.mp hj).1
    rw [List.size_toArray]
    omega
  have eq : EP X pins σ Q .none { s with heap := s.heap.update l (Obj.mapSeq fun xs => xs.eraseIdxIfInBounds j) } :=
    ⟨.non, _, I.lset (f := fun xs => xs.eraseIdxIfInBounds j) (its' := its.eraseIdx j) (t' := s.toks) hl e (by
      rw [Array.eraseIdxIfInBounds, dif_pos hj']
      simp) (valsErase rv j) (by have := List.length_eraseIdx_le vs j; omega), rfl, q⟩
  refine wpAny_call (codeAny_call_builtin F.slot_list_remove.plain F.entry_list_remove ?_)
  refine F.slot_list_remove.check _ _ _ _ _ _ _ _ ⟨_, e, rfl⟩ (F.args_list_remove_2 _ _) ?_
  refine wpAny_pure ⟨plainId_quiet MeetsSeq.plain_remove_loop _, ?_⟩
  refine remLoop (e := fun y => (SeqAt.readOf s.heap y).eqv d) e eqA hj' (by rw [List.size_toArray]; omega) (by
    show (SeqAt.readOf s.heap its.toArray[j]).eqv d = true
    rw [eAt j hj' z hj]
    exact hz) (fun m hm hlt => by
    obtain ⟨w, hw⟩ : ∃ w, ds[m]? = some w := ⟨_, List.getElem?_eq_getElem (by rw [List.size_toArray] at hm; omega)⟩
    show (SeqAt.readOf s.heap its.toArray[m]).eqv d = false
    rw [eAt m hm w hw]
    exact ne m w hlt hw) ?_ j 0 rfl (Nat.zero_le _)
  exact eq
end
end FNX
set_option Elab.async false
set_option linter.all false
set_option maxRecDepth 100000
set_option maxHeartbeats 8000000
namespace K72
open PySem PySem.Spec PyProof.Rows L2 FNX
theorem keyE_ext {H : Hp} {ts : List Addr} {es : List (Int × Int)} (h : TupsAt H ts es) : (ts.map V.ref).map (keyE H) = es := by
  apply List.ext_getElem
  · rw [List.length_map, List.length_map, h.1]
  · intro k h1 h2
    rw [List.length_map, List.length_map] at h1
    obtain ⟨e, q1, q2⟩ := h.2 k ts[k] (List.getElem?_eq_getElem h1)
    rw [List.getElem_map, List.getElem_map, keyE_at q2]
    rw [List.getElem?_eq_getElem h2] at q1
    exact (Option.some.inj q1).symm
theorem sortE {K : PySem.W.Frag} {H : Hp} {a : Addr} {ts : List Addr} {es : List (Int × Int)} {Q : VK} (h : H a = some (.lst (ts.map V.ref))) (t : TupsAt H ts es)
    (k : ∀ q H', H q = none → Same H H' → EdgesAt H' q (srtE es) → Q (.ref q) H') : rSortedPO K [.ref a] H Q := by
  refine ⟨a, _, keyE H, rfl, SqL.of h, fun y hy => ?_, fun ys q hsrt hstb nq => ?_⟩
  · obtain ⟨c, hc, rfl⟩ := List.mem_map.mp hy
    obtain ⟨i, hi, he⟩ := List.mem_iff_getElem.mp hc
    obtain ⟨x, q1, q2⟩ := t.2 i c (by rw [List.getElem?_eq_getElem hi, he])
    exact ⟨c, rfl, by rw [keyE_at q2]; exact q2⟩
  · obtain ⟨ts', es', rfl, r1, r2⟩ := permTups t hstb.perm
    have ek := keyE_ext r1
    have sE : SrtE es' := by
      unfold SrtE
      rw [← ek]
      refine List.pairwise_map.mpr (hsrt.imp fun {a b} h => ?_)
      have := SrtO.lexB_no.mp h
      omega
    obtain rfl : es' = srtE es := SrtE.uniq (r2.trans (srtE_perm _).symm) sE (srtE_srt _)
    exact k q _ nq (same_upd nq) ⟨ts', upd_same, r1.same (same_upd nq)⟩
abbrev kMany : Key := Sum.inr ("many" : Str)
abbrev kJoins : Key := Sum.inr ("joins" : Str)
abbrev kHere : Key := Sum.inr ("here" : Str)
abbrev kScores : Key := Sum.inr ("scores" : Str)
def mdl (n : Int) (j h c : Addr) : List (Key × V) := [(kMany, .int n), (kJoins, .ref j), (kHere, .ref h), (kScores, .ref c)]
theorem kMJ : decide (kMany = kJoins) = false := by decide +kernel
theorem kMH : decide (kMany = kHere) = false := by decide +kernel
theorem kMS : decide (kMany = kScores) = false := by decide +kernel
theorem kJM : decide (kJoins = kMany) = false := by decide +kernel
theorem kJH : decide (kJoins = kHere) = false := by decide +kernel
theorem kJS : decide (kJoins = kScores) = false := by decide +kernel
theorem kHM : decide (kHere = kMany) = false := by decide +kernel
theorem kHJ : decide (kHere = kJoins) = false := by decide +kernel
theorem kHS : decide (kHere = kScores) = false := by decide +kernel
theorem kSM : decide (kScores = kMany) = false := by decide +kernel
theorem kSJ : decide (kScores = kJoins) = false := by decide +kernel
theorem kSH : decide (kScores = kHere) = false := by decide +kernel
theorem neOfD {a b : Key} (h : decide (a = b) = false) : a ≠ b := of_decide_eq_false h
theorem md_many (n : Int) (j h c : Addr) : valV (mdl n j h c) kMany = some (.int n) := by
  unfold valV mdl
  rw [List.find?_cons_of_pos (by simp)]
  rfl
theorem md_joins (n : Int) (j h c : Addr) : valV (mdl n j h c) kJoins = some (.ref j) := by
  unfold valV mdl
  rw [List.find?_cons_of_neg (by rw [kMJ]; simp), List.find?_cons_of_pos (by simp)]
  rfl
theorem md_here (n : Int) (j h c : Addr) : valV (mdl n j h c) kHere = some (.ref h) := by
  unfold valV mdl
  rw [List.find?_cons_of_neg (by rw [kMH]; simp), List.find?_cons_of_neg (by rw [kJH]; simp), List.find?_cons_of_pos (by simp)]
  rfl
theorem md_scores (n : Int) (j h c : Addr) : valV (mdl n j h c) kScores = some (.ref c) := by
  unfold valV mdl
  rw [List.find?_cons_of_neg (by rw [kMS]; simp), List.find?_cons_of_neg (by rw [kJS]; simp), List.find?_cons_of_neg (by rw [kHS]; simp), List.find?_cons_of_pos (by simp)]
  rfl
theorem putAny {kvs : List (Key × V)} {k : Key} {v : V} (h : (kvs.any fun kv => decide (kv.1 = k)) = true) : putK kvs k v = kvs.map fun kv => if kv.1 = k then (kv.1, v) else kv := by
  unfold putK
  rw [if_pos h]
theorem putNot {kvs : List (Key × V)} {k : Key} {v : V} (h : (kvs.any fun kv => decide (kv.1 = k)) = false) : putK kvs k v = kvs ++ [(k, v)] := by
  unfold putK
  rw [if_neg (by rw [h]; simp)]
theorem md_pMany (n m : Int) (j h c : Addr) : putK (mdl n j h c) kMany (.int m) = mdl m j h c := by
  rw [putAny (by unfold mdl; rw [List.any_cons, decide_eq_true (show (kMany, V.int n).1 = kMany from rfl)]; rfl)]
  unfold mdl
  rw [List.map_cons, List.map_cons, List.map_cons, List.map_cons, if_pos rfl, if_neg (neOfD kJM), if_neg (neOfD kHM), if_neg (neOfD kSM)]
  rfl
theorem md_pJoins (n : Int) (i j h c : Addr) : putK (mdl n j h c) kJoins (.ref i) = mdl n i h c := by
  rw [putAny (by unfold mdl; rw [List.any_cons, List.any_cons, decide_eq_true (show (kJoins, V.ref j).1 = kJoins from rfl)]; simp)]
  unfold mdl
  rw [List.map_cons, List.map_cons, List.map_cons, List.map_cons, if_neg (neOfD kMJ), if_pos rfl, if_neg (neOfD kHJ), if_neg (neOfD kSJ)]
  rfl
theorem md_pHere (n : Int) (i j h c : Addr) : putK (mdl n j h c) kHere (.ref i) = mdl n j i c := by
  rw [putAny (by unfold mdl; rw [List.any_cons, List.any_cons, List.any_cons, decide_eq_true (show (kHere, V.ref h).1 = kHere from rfl)]; simp)]
  unfold mdl
  rw [List.map_cons, List.map_cons, List.map_cons, List.map_cons, if_neg (neOfD kMH), if_neg (neOfD kJH), if_pos rfl, if_neg (neOfD kSH)]
  rfl
theorem md_pScores (n : Int) (i j h c : Addr) : putK (mdl n j h c) kScores (.ref i) = mdl n j h i := by
  rw [putAny (by unfold mdl; rw [List.any_cons, List.any_cons, List.any_cons, List.any_cons, decide_eq_true (show (kScores, V.ref c).1 = kScores from rfl)]; simp)]
  unfold mdl
  rw [List.map_cons, List.map_cons, List.map_cons, List.map_cons, if_neg (neOfD kMS), if_neg (neOfD kJS), if_neg (neOfD kHS), if_pos rfl]
  rfl
theorem md_merge (n : Int) (j h c : Addr) : mergeK [] [(kMany, V.int n), (kJoins, .ref j), (kHere, .ref h), (kScores, .ref c)] = mdl n j h c := by
  unfold mergeK
  rw [List.foldl_cons, List.foldl_cons, List.foldl_cons, List.foldl_cons, List.foldl_nil]
  rw [putNot (kvs := []) rfl, List.nil_append]
  rw [putNot (kvs := [(kMany, V.int n)]) (by rw [List.any_cons, kMJ]; rfl)]
  rw [putNot (kvs := [(kMany, V.int n)] ++ [(kJoins, V.ref j)]) (by rw [List.any_append, List.any_cons, List.any_cons, kMH, kJH]; rfl)]
  rw [putNot (kvs := [(kMany, V.int n)] ++ [(kJoins, V.ref j)] ++ [(kHere, V.ref h)]) (by rw [List.any_append, List.any_append, List.any_cons, List.any_cons, List.any_cons, kMS, kJS, kHS]; rfl)]
  rfl
structure MdAt (H : Hp) (a : Addr) (M : Mo) (j h c : Addr) : Prop where
  dc : H a = some (.dK (mdl (M.n : Int) j h c))
  jn : EdgesAt H j M.es
  hr : H h = some (.lst (M.x.map V.int))
  sc : H c = some (.lst (M.sc.map V.int))
  jh : j ≠ h
  jc : j ≠ c
  hc : h ≠ c
theorem MdAt.same {H H' : Hp} {a : Addr} {M : Mo} {j h c : Addr} (m : MdAt H a M j h c) (s : Same H H') : MdAt H' a M j h c := ⟨s _ _ m.dc, m.jn.same s, s _ _ m.hr, s _ _ m.sc, m.jh, m.jc, m.hc⟩
def spModel (K : PySem.W.Frag) : Sp := fun vs H Q _ => ∃ (n p : Nat) (jq hq : Addr) (es : List (Int × Int)) (x : List Int), vs = [.int (n : Int), .ref jq, .ref hq, .int (p : Int)] ∧ EdgesAt H jq es ∧ SqL K H hq (x.map V.int) ∧ p ≤ 8 ∧
  ∀ (a j h c : Addr) (H' : Hp), Same H H' → H a = none → H j = none → H h = none → H c = none → MdAt H' a ⟨n, srtE es, x, List.replicate p 0⟩ j h c → Q (.ref a) H'
def spCopy : Sp := fun vs H Q _ => ∃ (a j h c : Addr) (M : Mo), vs = [.ref a] ∧ MdAt H a M j h c ∧ M.x.length ≤ 1000 ∧ M.sc.length ≤ 1000 ∧
  ∀ (a' j' h' c' : Addr) (H' : Hp), Same H H' → H a' = none → H j' = none → H h' = none → H c' = none → MdAt H' a' M j' h' c' → Q (.ref a') H'
section
variable {P : Program} {w : World} {K : PySem.W.Frag} {mg : Str → Option Value} {base : Heap}
theorem sc_model : FnScope ["_law_many", "_law_joins_here", "_law_here", "_law_players"] ["_law_many", "_law_joins_here", "_law_here", "_law_players"] (defScope s__law_model) := ⟨rfl, rfl, rfl, by decide +kernel, rfl, by decide +kernel, by decide +kernel⟩
theorem ok_model {f : Addr} {fd : FuncData} (F : Fun K "_law_model" "_law_model" s__law_model f fd) (M : Nms mg) : FnOk P w K mg base CX0 1 f fd ["_law_many", "_law_joins_here", "_law_here", "_law_players"] (spModel K) := by
  refine F.ok sc_model (fun vs H Q E h => ?_) (fun cdv A outer s H vs Q E hr h => ?_)
  · obtain ⟨n, p, jq, hq, es, x, rfl, _⟩ := h
    rfl
  · obtain ⟨n, p, jq, hq, es, x, rfl, ⟨ts, h1, h2⟩, hx, hp, k⟩ := h
    refine ⟨_, (pss_one (ps_ret (pe_disp (pps_cons pe_str (pv 0) (pps_cons pe_str (pe_callB (show CallR _ (.builtin "sorted") (rSortedPO K) from cr_sortedPO) (by rfl) M.sorted boot_sorted1 (pa_cons (pv 1) pa_nil)) (pps_cons pe_str (pe_callTy call_list_of (by rfl) M.list (by decide +kernel) (pa_cons (pv 2) pa_nil)) (pps_cons pe_str (pe_op op_rep (pe_lst (pa_cons pe_int pa_nil)) (pv 3)) pps_nil)))) (by rfl) (by rfl) (fun z => by cases z) (by decide)))), ?_⟩
    intro a na
    obtain ⟨H1, q1, s1, ha1⟩ := newAt (.dK []) na
    rw [q1]
    refine ⟨_, rfl, _, rfl, ?_⟩
    dsimp only [tNil]
    refine sortE (s1 _ _ h1) (h2.same s1) fun j H2 nj s2 hj => ?_
    refine ⟨_, rfl, hq, _, rfl, .inl ((s1.trans s2).seq hx), fun h nh => ?_⟩
    obtain ⟨H3, q3, s3, hh⟩ := newAt (.lst (x.map V.int)) nh
    rw [q3]
    refine ⟨by show 1 ≤ sizeLine; decide, fun z nz => ?_⟩
    obtain ⟨H4, q4, s4, hz⟩ := newAt (.lst [V.int 0]) nz
    rw [q4]
    refine ⟨_, rfl, z, (p : Int), _, rfl, rfl, hz, by omega, by omega, by rw [sizeLine_eq, Int.toNat_natCast]; show 1 * p ≤ _; omega, fun c nc => ?_⟩
    rw [Int.toNat_natCast, repZero]
    obtain ⟨H5, q5, s5, hc⟩ := newAt (.lst ((List.replicate p (0 : Int)).map V.int)) nc
    rw [q5]
    have s12 := s2.trans (s3.trans (s4.trans s5))
    have ha5 := s12 _ _ ha1
    refine ⟨ha5, [(kMany, V.int (n : Int)), (kJoins, .ref j), (kHere, .ref h), (kScores, .ref c)], rfl, by show 4 ≤ 15; decide, ?_⟩
    rw [md_merge]
    obtain ⟨H6, q6⟩ : ∃ H6, upd H5 a (.dK (mdl (n : Int) j h c)) = H6 := ⟨_, rfl⟩
    rw [q6]
    have s35 := s4.trans s5
    have s25 := s3.trans s35
    have a1 : a ≠ j := ne_of_none ha1 nj
    have a2 : a ≠ h := ne_of_none (s2 _ _ ha1) nh
    have a3 : a ≠ c := ne_of_none (s4 _ _ (s3 _ _ (s2 _ _ ha1))) nc
    obtain ⟨tj, j1, j2⟩ := hj
    have jh : j ≠ h := ne_of_none j1 nh
    have jc : j ≠ c := ne_of_none (s4 _ _ (s3 _ _ j1)) nc
    have hc' : h ≠ c := ne_of_none (s4 _ _ hh) nc
    have keep : ∀ b o, b ≠ a → H5 b = some o → H6 b = some o := fun b o nb e => by rw [← q6, upd_ne nb]; exact e
    have s06 : Same H H6 := fun b o e => keep b o (fun z => by rw [z, na] at e; cases e) (s12 _ _ (s1 _ _ e))
    refine k a j h c H6 s06 na (s1.free nj) (s1.free (s2.free nh)) (s1.free (s2.free (s3.free (s4.free nc)))) ⟨by rw [← q6, upd_same], ⟨tj, keep _ _ a1.symm (s25 _ _ j1), j2.1, fun i t e => ?_⟩, keep _ _ a2.symm (s35 _ _ hh), keep _ _ a3.symm hc, jh, jc, hc'⟩
    obtain ⟨y, y1, y2⟩ := j2.2 i t e
    exact ⟨y, y1, keep _ _ (ne_of (s25 _ _ y2) ha5 (by intro z; cases z)) (s25 _ _ y2)⟩
end
end K72
set_option Elab.async false
set_option linter.all false
set_option maxRecDepth 100000
set_option maxHeartbeats 8000000
namespace K72
open PySem PySem.Spec PyProof.Rows L2 FNX
theorem gMany {H : Hp} {a : Addr} {n : Int} {j h c : Addr} (e : H a = some (.dK (mdl n j h c))) : DGet H a (.str "many") (some (.int n)) := .inl ⟨_, kMany, .inl e, rfl, (md_many n j h c).symm⟩
theorem gJoins {H : Hp} {a : Addr} {n : Int} {j h c : Addr} (e : H a = some (.dK (mdl n j h c))) : DGet H a (.str "joins") (some (.ref j)) := .inl ⟨_, kJoins, .inl e, rfl, (md_joins n j h c).symm⟩
theorem gHere {H : Hp} {a : Addr} {n : Int} {j h c : Addr} (e : H a = some (.dK (mdl n j h c))) : DGet H a (.str "here") (some (.ref h)) := .inl ⟨_, kHere, .inl e, rfl, (md_here n j h c).symm⟩
theorem gScores {H : Hp} {a : Addr} {n : Int} {j h c : Addr} (e : H a = some (.dK (mdl n j h c))) : DGet H a (.str "scores") (some (.ref c)) := .inl ⟨_, kScores, .inl e, rfl, (md_scores n j h c).symm⟩
theorem len4 (n : Int) (j h c : Addr) : (mdl n j h c).length < sizeLine := by show 4 < sizeLine; decide
theorem pMany {H : Hp} {a : Addr} {n : Int} {j h c : Addr} (e : H a = some (.dK (mdl n j h c))) (m : Int) : DPut H a (.str "many") (.int m) (upd H a (.dK (mdl m j h c))) := .inl ⟨_, kMany, e, rfl, len4 _ _ _ _, by rw [md_pMany]⟩
theorem pJoins {H : Hp} {a : Addr} {n : Int} {j h c : Addr} (e : H a = some (.dK (mdl n j h c))) (i : Addr) : DPut H a (.str "joins") (.ref i) (upd H a (.dK (mdl n i h c))) := .inl ⟨_, kJoins, e, rfl, len4 _ _ _ _, by rw [md_pJoins]⟩
theorem pHere {H : Hp} {a : Addr} {n : Int} {j h c : Addr} (e : H a = some (.dK (mdl n j h c))) (i : Addr) : DPut H a (.str "here") (.ref i) (upd H a (.dK (mdl n j i c))) := .inl ⟨_, kHere, e, rfl, len4 _ _ _ _, by rw [md_pHere]⟩
theorem pScores {H : Hp} {a : Addr} {n : Int} {j h c : Addr} (e : H a = some (.dK (mdl n j h c))) (i : Addr) : DPut H a (.str "scores") (.ref i) (upd H a (.dK (mdl n j h i))) := .inl ⟨_, kScores, e, rfl, len4 _ _ _ _, by rw [md_pScores]⟩
section
variable {P : Program} {w : World} {K : PySem.W.Frag} {mg : Str → Option Value} {base : Heap}
theorem sc_copy : FnScope ["_law_model_here", "_law_found", "_law_word"] ["_law_model_here"] (defScope s__law_copy) := ⟨rfl, rfl, rfl, by decide +kernel, rfl, by decide +kernel, by decide +kernel⟩
theorem ok_copy {f : Addr} {fd : FuncData} (F : Fun K "_law_copy" "_law_copy" s__law_copy f fd) (M : Nms mg) (n_dict : mg "dict" = none) : FnOk P w K mg base CX0 1 f fd ["_law_model_here"] spCopy := by
  refine F.ok sc_copy (fun vs H Q E h => ?_) (fun cdv A outer s H vs Q E hr h => ?_)
  · obtain ⟨a, j, h, c, M, rfl, _⟩ := h
    rfl
  · obtain ⟨a, j, h, c, mo, rfl, m, lx, ls, k⟩ := h
    have nd := sc_copy.nd
    refine ⟨_, (pss_cons (ps_set (i := 1) nd rfl (Or.inl rfl) (pe_callTy call_dictD (by rfl) n_dict (by decide +kernel) (pa_cons (pv 0) pa_nil)))
      (pss_cons (ps_for PassesOwn.never rfl (pi_list (pe_lst (pa_cons pe_str (pa_cons pe_str (pa_cons pe_str pa_nil))))) (pg_name (i := 2) nd rfl (Or.inl rfl)) (pss_one (ps_dput (hu_of hr) (pv 1) (pv 2) (pe_callTy call_list_of (by rfl) M.list (by decide +kernel) (pa_cons (pe_dget (hu_of hr) (pv 0) (pv 2) (fun _ _ => rfl)) pa_nil)) rfl)))
      (pss_one (ps_ret (pv 1))))), ?_⟩
    refine ⟨_, rfl, a, _, rfl, .inl m.dc, fun f nf => ?_⟩
    obtain ⟨H1, q1, s1, hf⟩ := newAt (.dK (mdl (mo.n : Int) j h c)) nf
    rw [q1]
    refine ⟨by show 3 ≤ sizeLine; decide, fun L nL => ?_⟩
    obtain ⟨H2, q2, s2, hL⟩ := newAt (.lst [V.str "joins", V.str "here", V.str "scores"]) nL
    rw [q2]
    have m2 := m.same (s1.trans s2)
    have hf2 := s2 _ _ hf
    have fL : f ≠ L := ne_of_none hf nL
    have af : a ≠ f := ne_of_none m.dc nf
    refine ⟨L, rfl, ⟨_, SqL.of hL⟩, for_list (K := K) (a := L) (xs := [V.str "joins", V.str "here", V.str "scores"]) (fun i σ G => ∃ (o2 : Option V) (j1 h1 c1 : Addr), σ = [some (.ref a), some (.ref f), o2] ∧ (∀ b o, b ≠ f → H2 b = some o → G b = some o) ∧ G f = some (.dK (mdl (mo.n : Int) j1 h1 c1)) ∧
      (i < 1 → j1 = j) ∧ (1 ≤ i → H2 j1 = none ∧ EdgesAt G j1 mo.es) ∧ (i < 2 → h1 = h) ∧ (2 ≤ i → H2 h1 = none ∧ G h1 = some (.lst (mo.x.map V.int)) ∧ j1 ≠ h1) ∧ (i < 3 → c1 = c) ∧ (3 ≤ i → H2 c1 = none ∧ G c1 = some (.lst (mo.sc.map V.int)) ∧ j1 ≠ c1 ∧ h1 ≠ c1))
      ⟨_, j, h, c, rfl, fun b o _ e => e, hf2, fun _ => rfl, fun z => by omega, fun _ => rfl, fun z => by omega, fun _ => rfl, fun z => by omega⟩ (fun i σ G _ hP => ?_) (fun i x σ G hx hP => ?_) (fun σ G hP => ?_)⟩
    · obtain ⟨o2, j1, h1, c1, rfl, kp, _⟩ := hP
      exact SqL.of (kp _ _ fL.symm hL)
    · obtain ⟨o2, j1, h1, c1, rfl, kp, gf, a1, a2, a3, a4, a5, a6⟩ := hP
      have ga := kp _ _ af m2.dc
      have old : ∀ {G' : Hp} {b : Addr} {o : HO}, (∀ b o, b ≠ f → G b = some o → G' b = some o) → b ≠ f → H2 b = some o → G' b = some o := fun k' nb e => k' _ _ nb (kp _ _ nb e)
      match i, hx with
      | 0, hx =>
        obtain rfl := Option.some.inj hx
        obtain rfl := a1 (by omega)
        obtain rfl := a3 (by omega)
        obtain rfl := a5 (by omega)
        obtain ⟨tj, t1, t2⟩ := m2.jn
        have jf : j1 ≠ f := ne_of t1 hf2 (by intro z; cases z)
        refine ⟨_, rfl, _, rfl, a, _, rfl, gJoins ga, j1, _, rfl, .inl (SqL.of (kp _ _ jf t1)), fun q nq => ?_⟩
        obtain ⟨G1, r1, u1, hq⟩ := newAt (.lst (tj.map V.ref)) nq
        rw [r1]
        have qf : f ≠ q := ne_of_none gf nq
        have nq2 : H2 q = none := by
          cases z : H2 q with
          | none => rfl
          | some o => rw [kp q o qf.symm z] at nq; cases nq
        refine ⟨_, rfl, _, rfl, f, _, rfl, pJoins (u1 _ _ gf) q, ?_⟩
        obtain ⟨G2, r2⟩ : ∃ G2, upd G1 f (.dK (mdl (mo.n : Int) q h1 c1)) = G2 := ⟨_, rfl⟩
        rw [r2]
        have kp2 : ∀ b o, b ≠ f → H2 b = some o → G2 b = some o := fun b o nb e => by rw [← r2, upd_ne nb]; exact u1 _ _ (kp _ _ nb e)
        refine ⟨_, q, h1, c1, rfl, kp2, by rw [← r2, upd_same], fun z => by omega, fun _ => ⟨nq2, tj, by rw [← r2, upd_ne qf.symm]; exact hq, t2.1, fun i t e => ?_⟩, fun _ => rfl, fun z => by omega, fun _ => rfl, fun z => by omega⟩
        obtain ⟨y, y1, y2⟩ := t2.2 i t e
        exact ⟨y, y1, kp2 _ _ (ne_of y2 hf2 (by intro z; cases z)) y2⟩
      | 1, hx =>
        obtain rfl := Option.some.inj hx
        obtain ⟨nj1, tj, t1, t2⟩ := a2 (by omega)
        obtain rfl := a3 (by omega)
        obtain rfl := a5 (by omega)
        have hf' : h1 ≠ f := ne_of m2.hr hf2 (by intro z; cases z)
        refine ⟨_, rfl, _, rfl, a, _, rfl, gHere ga, h1, _, rfl, .inl (SqL.of (kp _ _ hf' m2.hr)), fun q nq => ?_⟩
        obtain ⟨G1, r1, u1, hq⟩ := newAt (.lst (mo.x.map V.int)) nq
        rw [r1]
        have qf : f ≠ q := ne_of_none gf nq
        have nq2 : H2 q = none := by
          cases z : H2 q with
          | none => rfl
          | some o => rw [kp q o qf.symm z] at nq; cases nq
        refine ⟨_, rfl, _, rfl, f, _, rfl, pHere (u1 _ _ gf) q, ?_⟩
        obtain ⟨G2, r2⟩ : ∃ G2, upd G1 f (.dK (mdl (mo.n : Int) j1 q c1)) = G2 := ⟨_, rfl⟩
        rw [r2]
        have kp2 : ∀ b o, b ≠ f → H2 b = some o → G2 b = some o := fun b o nb e => by rw [← r2, upd_ne nb]; exact u1 _ _ (kp _ _ nb e)
        have j1f : j1 ≠ f := fun z => by rw [z, hf2] at nj1; cases nj1
        refine ⟨_, j1, q, c1, rfl, kp2, by rw [← r2, upd_same], fun z => by omega, fun _ => ⟨nj1, tj, by rw [← r2, upd_ne j1f]; exact u1 _ _ t1, t2.1, fun i t e => ?_⟩, fun z => by omega, fun _ => ⟨nq2, by rw [← r2, upd_ne qf.symm]; exact hq, ne_of_none t1 nq⟩, fun _ => rfl, fun z => by omega⟩
        obtain ⟨y, y1, y2⟩ := t2.2 i t e
        exact ⟨y, y1, by rw [← r2, upd_ne (ne_of y2 gf (by intro z; cases z))]; exact u1 _ _ y2⟩
      | 2, hx =>
        obtain rfl := Option.some.inj hx
        obtain ⟨nj1, tj, t1, t2⟩ := a2 (by omega)
        obtain ⟨nh1, b1, b2⟩ := a4 (by omega)
        obtain rfl := a5 (by omega)
        have cf : c1 ≠ f := ne_of m2.sc hf2 (by intro z; cases z)
        refine ⟨_, rfl, _, rfl, a, _, rfl, gScores ga, c1, _, rfl, .inl (SqL.of (kp _ _ cf m2.sc)), fun q nq => ?_⟩
        obtain ⟨G1, r1, u1, hq⟩ := newAt (.lst (mo.sc.map V.int)) nq
        rw [r1]
        have qf : f ≠ q := ne_of_none gf nq
        have nq2 : H2 q = none := by
          cases z : H2 q with
          | none => rfl
          | some o => rw [kp q o qf.symm z] at nq; cases nq
        refine ⟨_, rfl, _, rfl, f, _, rfl, pScores (u1 _ _ gf) q, ?_⟩
        obtain ⟨G2, r2⟩ : ∃ G2, upd G1 f (.dK (mdl (mo.n : Int) j1 h1 q)) = G2 := ⟨_, rfl⟩
        rw [r2]
        have kp2 : ∀ b o, b ≠ f → H2 b = some o → G2 b = some o := fun b o nb e => by rw [← r2, upd_ne nb]; exact u1 _ _ (kp _ _ nb e)
        have j1f : j1 ≠ f := fun z => by rw [z, hf2] at nj1; cases nj1
        have h1f : h1 ≠ f := fun z => by rw [z, hf2] at nh1; cases nh1
        refine ⟨_, j1, h1, q, rfl, kp2, by rw [← r2, upd_same], fun z => by omega, fun _ => ⟨nj1, tj, by rw [← r2, upd_ne j1f]; exact u1 _ _ t1, t2.1, fun i t e => ?_⟩, fun z => by omega, fun _ => ⟨nh1, by rw [← r2, upd_ne h1f]; exact u1 _ _ b1, b2⟩, fun z => by omega, fun _ => ⟨nq2, by rw [← r2, upd_ne qf.symm]; exact hq, ne_of_none t1 nq, ne_of_none b1 nq⟩⟩
        obtain ⟨y, y1, y2⟩ := t2.2 i t e
        exact ⟨y, y1, by rw [← r2, upd_ne (ne_of y2 gf (by intro z; cases z))]; exact u1 _ _ y2⟩
      | i + 3, hx => simp at hx
    · obtain ⟨o2, j1, h1, c1, rfl, kp, gf, a1, a2, a3, a4, a5, a6⟩ := hP
      obtain ⟨b1, b2⟩ := a2 (by decide)
      obtain ⟨b3, b4, b5⟩ := a4 (by decide)
      obtain ⟨b6, b7, b8, b9⟩ := a6 (by decide)
      have s02 := s1.trans s2
      exact ⟨_, rfl, k f j1 h1 c1 G (fun b o e => kp _ _ (fun z => by rw [z, nf] at e; cases e) (s02 _ _ e)) nf (s02.free b1) (s02.free b3) (s02.free b6) ⟨gf, b2, b4, b7, b5, b8, b9⟩⟩
end
end K72
set_option Elab.async false
set_option linter.all false
set_option maxRecDepth 100000
set_option maxHeartbeats 8000000
namespace K72
open PySem PySem.Spec PyProof.Rows L2 FNX
structure OkM (M : Mo) : Prop where
  good : GoodE M.n M.es
  len : M.x.length = M.n
  n1 : 1 ≤ M.n
  n16 : M.n ≤ 16
  few : M.sc.length ≤ 1000
def valD : V → PyData
  | .int i => .int i
  | _ => .none
def dueW : Except Er (Mo × V) → Str × PyData
  | .error (.player p) => ("player", .int (p : Int))
  | .error (.neg v) => ("negative", .int (v : Int))
  | .error (.edge a b) => ("edge", .tuple [.int (a : Int), .int (b : Int)])
  | .error (.many k) => ("many", .int (k : Int))
  | .ok r => ("told", valD r.2)
def DueAt (K : PySem.W.Frag) (H : Hp) (q : Addr) (res : Except Er (Mo × V)) : Prop := ∃ v, H q = some (.lst [.str (dueW res).1, v]) ∧ Dp K H v (dueW res).2
theorem DueAt.same {K : PySem.W.Frag} {H H' : Hp} {q : Addr} {res : Except Er (Mo × V)} (h : DueAt K H q res) (s : Same H H') : DueAt K H' q res := by
  obtain ⟨v, h1, h2⟩ := h
  exact ⟨v, s _ _ h1, dpSame s _ _ h2⟩
def spDone (K : PySem.W.Frag) (kind : Op → Bool) : Sp := fun vs H Q _ => ∃ (a t j h c : Addr) (M : Mo) (op : Op), kind op = true ∧ vs = [.ref a, .ref t] ∧ MdAt H a M j h c ∧ H t = some (.tup (opV op)) ∧ okOp M op ∧ OkM M ∧
  ∀ (q : Addr) (H' : Hp), FrL [a, j, h, c] H H' → H q = none → DueAt K H' q (stepM M op) → (∀ r, stepM M op = .ok r → ∃ j' h', MdAt H' a r.1 j' h' c ∧ (j' = j ∨ H j' = none) ∧ (h' = h ∨ H h' = none)) → (∀ er, stepM M op = .error er → MdAt H' a M j h c) → Q (.ref q) H'
def edgeName : Op → Str
  | .join _ _ => "add_edge"
  | _ => "remove_edge"
def isEdge (op : Op) : Bool := isJoin op || isPart op
theorem mapErase {ts : List Addr} {j : Nat} : (ts.map V.ref).eraseIdx j = (ts.eraseIdx j).map V.ref := by
  induction ts generalizing j with
  | nil => cases j <;> rfl
  | cons t ts ih =>
    cases j with
    | zero => rfl
    | succ j =>
      show V.ref t :: (ts.map V.ref).eraseIdx j = _
      rw [ih]
      rfl
theorem TupsAt.erase {H : Hp} : ∀ {ts : List Addr} {es : List (Int × Int)}, TupsAt H ts es → ∀ j, TupsAt H (ts.eraseIdx j) (es.eraseIdx j) := fun {ts es} h j => by
  refine ⟨by rw [List.length_eraseIdx, List.length_eraseIdx, h.1], fun k t hk => ?_⟩
  rw [List.getElem?_eraseIdx] at hk ⊢
  split at hk
  · rename_i c
    rw [if_pos c]
    exact h.2 k t hk
  · rename_i c
    rw [if_neg c]
    exact h.2 (k + 1) t hk
theorem eraseFilt {e : Int × Int} : ∀ {es : List (Int × Int)} {j : Nat}, es.Nodup → es[j]? = some e → es.eraseIdx j = es.filter fun x => decide (x ≠ e)
  | [], j, _, h => by simp at h
  | x :: es, 0, nd, h => by
    obtain rfl := Option.some.inj h
    rw [List.nodup_cons] at nd
    show es = _
    rw [List.filter_cons_of_neg (by simp)]
    symm
    exact List.filter_eq_self.mpr fun y hy => decide_eq_true fun z => nd.1 (z ▸ hy)
  | x :: es, j + 1, nd, h => by
    rw [List.nodup_cons] at nd
    have h : es[j]? = some e := h
    have hx : x ≠ e := fun z => nd.1 (z ▸ List.mem_of_getElem? h)
    rw [List.filter_cons_of_pos (by simpa using hx), ← eraseFilt nd.2 h]
    rfl
theorem aheadNe {e : Int × Int} {es : List (Int × Int)} {j : Nat} (nd : es.Nodup) (h : es[j]? = some e) {m : Nat} {z : Int × Int} (hm : m < j) (hz : es[m]? = some z) : z ≠ e := fun q => by
  obtain ⟨h1, h2⟩ := List.getElem?_eq_some_iff.mp h
  obtain ⟨z1, z2⟩ := List.getElem?_eq_some_iff.mp hz
  exact List.pairwise_iff_getElem.mp nd m j z1 h1 hm (by rw [z2, h2, q])
theorem minE (a b : Nat) : (if (b : Int) < (a : Int) then (b : Int) else (a : Int)) = (edg a b).1 := by
  unfold edg
  dsimp only
  split <;> omega
theorem maxE (a b : Nat) : (if (b : Int) > (a : Int) then (b : Int) else (a : Int)) = (edg a b).2 := by
  unfold edg
  dsimp only
  split <;> omega
section
variable {P : Program} {w : World} {K : PySem.W.Frag} {mg : Str → Option Value} {base : Heap}
theorem sc_edone : FnScope ["_law_model_here", "_law_row_here", "_law_edge"] ["_law_model_here", "_law_row_here"] (defScope s__law_edges_done) := ⟨rfl, rfl, rfl, by decide +kernel, rfl, by decide +kernel, by decide +kernel⟩
theorem ok_edone {f : Addr} {fd : FuncData} (F : Fun K "_law_edges_done" "_law_edges_done" s__law_edges_done f fd) (M : Nms mg) : FnOk P w K mg base CX0 1 f fd ["_law_model_here", "_law_row_here"] (spDone K isEdge) := by
  refine F.ok sc_edone (fun vs H Q E h => ?_) (fun cdv A outer s H vs Q E hr h => ?_)
  · obtain ⟨a, t, j, h, c, M, op, _, rfl, _⟩ := h
    rfl
  · obtain ⟨a, t, j, h, c, ⟨n, es, x, sc⟩, op, hk, rfl, m, ht, ok, good, k⟩ := h
    have nd := sc_edone.nd
    have hu65 : A.units + 3 + 65 < cLine := by have := hr.un; show A.units + 3 + 65 < cLine; have : A.units + 3 + 16 * 0 + 200 < cLine := this; omega
    have hu80 : A.units + 3 + 80 < cLine := by have := hr.un; have : A.units + 3 + 16 * 0 + 200 < cLine := this; omega
    refine ⟨_, (pss_cons (ps_set (i := 2) nd rfl (Or.inl rfl) (pe_tup (pa_cons (pe_callB (call_min2 rfl) (by rfl) M.min boot_min1 (pa_cons (pe_ix (r := rIxT K) ix_tup (pv 1) pe_int (fun _ _ => rfl)) (pa_cons (pe_ix (r := rIxT K) ix_tup (pv 1) pe_int (fun _ _ => rfl)) pa_nil))) (pa_cons (pe_callB (call_max2 rfl) (by rfl) M.max boot_max1 (pa_cons (pe_ix (r := rIxT K) ix_tup (pv 1) pe_int (fun _ _ => rfl)) (pa_cons (pe_ix (r := rIxT K) ix_tup (pv 1) pe_int (fun _ _ => rfl)) pa_nil))) pa_nil))))
      (pss_cons (ps_if (pt_cmpR op_eq (pe_ix (r := rIxT K) ix_tup (pv 1) pe_int (fun _ _ => rfl)) pe_str (nomark _)) (pss_cons (ps_if (PW.pt (pw_or (pt_cmpR op_eq (pe_ix (r := rIxT K) ix_tup (pv 1) pe_int (fun _ _ => rfl)) (pe_ix (r := rIxT K) ix_tup (pv 1) pe_int (fun _ _ => rfl)) (nomark _)) (pw_or1 (pt_cmpR (show OpR _ (compareOp .In) (rInD K) from op_inD hu65) (pv 2) (pe_dget (hu_of hr) (pv 0) pe_str (fun _ _ => rfl)) (by with_unfolding_all rfl))))) (pss_one (ps_ret (pe_lst (pa_cons pe_str (pa_cons (pe_tup (pa_cons (pe_ix (r := rIxT K) ix_tup (pv 1) pe_int (fun _ _ => rfl)) (pa_cons (pe_ix (r := rIxT K) ix_tup (pv 1) pe_int (fun _ _ => rfl)) pa_nil))) pa_nil))))) pss_nil)
      (pss_cons (ps_if (pt_cmpR op_ge (pe_callB call_len_seq (by rfl) M.len boot_len1 (pa_cons (pe_dget (hu_of hr) (pv 0) pe_str (fun _ _ => rfl)) pa_nil)) pe_int (nomark _)) (pss_one (ps_ret (pe_lst (pa_cons pe_str (pa_cons pe_int pa_nil))))) pss_nil)
      (pss_cons (ps_dput (hu_of hr) (pv 0) pe_str (pe_callB (show CallR _ (.builtin "sorted") (rSortedPO K) from cr_sortedPO) (by rfl) M.sorted boot_sorted1 (pa_cons (pe_op op_cat (pe_dget (hu_of hr) (pv 0) pe_str (fun _ _ => rfl)) (pe_lst (pa_cons (pv 2) pa_nil))) pa_nil)) rfl)
      (pss_one (ps_ret (pe_lst (pa_cons pe_str (pa_cons pe_non pa_nil)))))))) pss_nil)
      (pss_cons (ps_if (pt_cmpR (op_notInD hu65) (pv 2) (pe_dget (hu_of hr) (pv 0) pe_str (fun _ _ => rfl)) (by with_unfolding_all rfl)) (pss_one (ps_ret (pe_lst (pa_cons pe_str (pa_cons (pe_tup (pa_cons (pe_ix (r := rIxT K) ix_tup (pv 1) pe_int (fun _ _ => rfl)) (pa_cons (pe_ix (r := rIxT K) ix_tup (pv 1) pe_int (fun _ _ => rfl)) pa_nil))) pa_nil))))) pss_nil)
      (pss_cons (ps_expr (pe_bm PySem.F.plainAttrs_list PySem.F.slot_list_remove PySem.F.type_list_remove (mt_removeD hu80) (pe_dget (hu_of hr) (pv 0) pe_str (fun _ _ => rfl)) (pa_cons (pv 2) pa_nil)))
      (pss_one (ps_ret (pe_lst (pa_cons pe_str (pa_cons pe_non pa_nil))))))))), ?_⟩
    obtain ⟨o1, o2, hp⟩ : ∃ (p q : Nat), op = .join p q ∨ op = .part p q := by
      cases op <;> first | exact ⟨_, _, .inl rfl⟩ | exact ⟨_, _, .inr rfl⟩ | cases hk
    have hrow : H t = some (.tup [.str (edgeName op), .int (o1 : Int), .int (o2 : Int)]) := by
      rcases hp with rfl | rfl <;> exact ht
    refine ⟨_, rfl, t, _, (1 : Int), _, rfl, rfl, SqT.of hrow, atI_nat (j := 1) rfl, _, rfl, t, _, (2 : Int), _, rfl, rfl, SqT.of hrow, atI_nat (j := 2) rfl, (o1 : Int), (o2 : Int), rfl, _, rfl, t, _, (1 : Int), _, rfl, rfl, SqT.of hrow, atI_nat (j := 1) rfl, _, rfl, t, _, (2 : Int), _, rfl, rfl, SqT.of hrow, atI_nat (j := 2) rfl, (o1 : Int), (o2 : Int), rfl, by show 2 ≤ sizeLine; decide, fun e ne => ?_⟩
    rw [minE, maxE]
    obtain ⟨H1, q1, s1, he⟩ := newAt (.tup [.int (edg o1 o2).1, .int (edg o1 o2).2]) ne
    rw [q1]
    have m1 := m.same s1
    have ht1 := s1 _ _ hrow
    obtain ⟨tj, t1, t2⟩ := m1.jn
    have aj : a ≠ j := ne_of m1.dc t1 (by intro z; cases z)
    have ah : a ≠ h := ne_of m1.dc m1.hr (by intro z; cases z)
    have ac : a ≠ c := ne_of m1.dc m1.sc (by intro z; cases z)
    have dE : Dp K H1 (.ref e) (pairD (edg o1 o2)) := .tup (SqT.of he) (.cons (.int _) (.cons (.int _) .nil))
    have dJ : Dp K H1 (.ref j) (.list (es.map pairD)) := .lst (SqL.of t1) (dpTups t2)
    have due2 : ∀ {G : Hp} {q : Addr} {r : Mo × V}, r.2 = .non → G q = some (.lst [.str "told", .non]) → DueAt K G q (.ok r) := fun {G q r} hr hq => ⟨.non, hq, by show Dp K G .non (valD r.2); rw [hr]; exact .non⟩
    have leJ : (tj.map V.ref).length = es.length := by rw [List.length_map, t2.1]
    refine ⟨_, rfl, t, _, (0 : Int), _, rfl, rfl, SqT.of ht1, atI_nat (j := 0) rfl, rfl, _, rfl, ?_⟩
    rcases hp with rfl | rfl
    · rw [show decide (V.str (edgeName (.join o1 o2)) = V.str "add_edge") = true from decide_eq_true rfl]
      refine iteT ⟨_, rfl, t, _, (1 : Int), _, rfl, rfl, SqT.of ht1, atI_nat (j := 1) rfl, _, rfl, t, _, (2 : Int), _, rfl, rfl, SqT.of ht1, atI_nat (j := 2) rfl, rfl, _, rfl, ?_⟩
      have bad : (o1 = o2 ∨ edg o1 o2 ∈ es) → ∀ (T q : Addr) (G : Hp), Same H1 G → H1 q = none → G T = some (.tup [.int (o1 : Int), .int (o2 : Int)]) → G q = some (.lst [.str "edge", .ref T]) → Q (.ref q) G := fun cc T q G sG nq hT hq => by
        have es' : stepM ⟨n, es, x, sc⟩ (.join o1 o2) = .error (.edge o1 o2) := by unfold stepM; dsimp only; rw [if_pos cc]
        refine k q G (sameFr (s1.trans sG)) (s1.free nq) ?_ (fun r hr => by rw [es'] at hr; cases hr) (fun _ _ => m.same (s1.trans sG))
        rw [es']
        exact ⟨.ref T, hq, .tup (SqT.of hT) (.cons (.int _) (.cons (.int _) .nil))⟩
      have telB : (o1 = o2 ∨ edg o1 o2 ∈ es) → ∀ (T : Addr), H1 T = none → ∀ (q : Addr), (upd H1 T (.tup [.int (o1 : Int), .int (o2 : Int)])) q = none → Q (.ref q) (upd (upd H1 T (.tup [.int (o1 : Int), .int (o2 : Int)])) q (.lst [.str "edge", .ref T])) := fun cc T nT q nq =>
        bad cc T q _ ((same_upd nT).trans (same_upd nq)) ((same_upd nT).free nq) (by rw [upd_ne (ne_of_none upd_same nq)]; exact upd_same) upd_same
      by_cases c1 : o1 = o2
      · rw [decide_eq_true (show V.int (o1 : Int) = V.int (o2 : Int) by rw [c1])]
        exact iteT ⟨_, rfl, t, _, (1 : Int), _, rfl, rfl, SqT.of ht1, atI_nat (j := 1) rfl, _, rfl, t, _, (2 : Int), _, rfl, rfl, SqT.of ht1, atI_nat (j := 2) rfl, by show 2 ≤ sizeLine; decide, fun T nT => ⟨by show 2 ≤ sizeLine; decide, fun q nq => telB (.inl c1) T nT q nq⟩⟩
      rw [decide_eq_false (show ¬ V.int (o1 : Int) = V.int (o2 : Int) from fun z => by injection z with z; omega)]
      refine iteF ⟨_, rfl, _, rfl, a, _, rfl, gJoins m1.dc, pairD (edg o1 o2), es.map pairD, dE, dJ, rfl, shapedPairs _, _, rfl, ?_⟩
      by_cases c2 : edg o1 o2 ∈ es
      · rw [anyPairT c2]
        exact iteT ⟨_, rfl, t, _, (1 : Int), _, rfl, rfl, SqT.of ht1, atI_nat (j := 1) rfl, _, rfl, t, _, (2 : Int), _, rfl, rfl, SqT.of ht1, atI_nat (j := 2) rfl, by show 2 ≤ sizeLine; decide, fun T nT => ⟨by show 2 ≤ sizeLine; decide, fun q nq => telB (.inr c2) T nT q nq⟩⟩
      rw [anyPair c2]
      refine iteF ⟨_, rfl, a, _, rfl, gJoins m1.dc, j, _, rfl, .inl (SqL.of t1), _, _, rfl, rfl, _, rfl, ?_⟩
      rw [leJ]
      by_cases c3 : 40 ≤ es.length
      · rw [decide_eq_true (show ((es.length : Int)) ≥ 40 by omega)]
        refine iteT ⟨by show 2 ≤ sizeLine; decide, fun q nq => ?_⟩
        have es' : stepM ⟨n, es, x, sc⟩ (.join o1 o2) = .error (.many 41) := by unfold stepM; dsimp only; rw [if_neg (by rintro (z | z) <;> contradiction), if_pos c3]
        refine k q _ (sameFr (s1.trans (same_upd nq))) (s1.free nq) ?_ (fun r hr => by rw [es'] at hr; cases hr) (fun _ _ => m.same (s1.trans (same_upd nq)))
        rw [es']
        exact ⟨.int 41, upd_same, .int 41⟩
      rw [decide_eq_false (show ¬ ((es.length : Int)) ≥ 40 by omega)]
      refine iteF ⟨_, rfl, a, _, rfl, gJoins m1.dc, _, rfl, by show 1 ≤ sizeLine; decide, fun y ny => ?_⟩
      obtain ⟨H2, q2, s2, hy⟩ := newAt (.lst [V.ref e]) ny
      rw [q2]
      refine ⟨j, y, _, _, rfl, rfl, s2 _ _ t1, hy, by rw [leJ, sizeLine_eq]; have := good.good.few; show es.length + 1 ≤ _; have : es.length ≤ 40 := this; omega, fun y2 ny2 => ?_⟩
      obtain ⟨H3, q3, s3, hy2⟩ := newAt (.lst (tj.map V.ref ++ [V.ref e])) ny2
      rw [q3]
      dsimp only [tNil]
      have s13 := s2.trans s3
      have t3 : TupsAt H3 (tj ++ [e]) (es ++ [edg o1 o2]) := by
        refine ⟨by rw [List.length_append, List.length_append, t2.1]; rfl, fun i u hu => ?_⟩
        by_cases hl : i < tj.length
        · rw [List.getElem?_append_left hl] at hu
          obtain ⟨z, z1, z2⟩ := t2.2 i u hu
          exact ⟨z, by rw [List.getElem?_append_left (by rw [← t2.1]; exact hl)]; exact z1, s13 _ _ z2⟩
        · rw [List.getElem?_append_right (by omega)] at hu
          have hi : i = tj.length := by
            have := (List.getElem?_eq_some_iff.mp hu).1
            simp at this
            omega
          subst hi
          rw [Nat.sub_self] at hu
          obtain rfl := Option.some.inj hu
          exact ⟨edg o1 o2, by rw [t2.1, List.getElem?_append_right (Nat.le_refl _), Nat.sub_self]; rfl, s13 _ _ he⟩
      refine sortE (ts := tj ++ [e]) (by rw [hy2, List.map_append]; rfl) t3 fun q H4 nq s4 hq => ?_
      have s14 := s13.trans s4
      have m4 := m1.same s14
      refine ⟨_, rfl, a, _, rfl, pJoins m4.dc q, ?_⟩
      obtain ⟨H5, q5⟩ : ∃ H5, upd H4 a (.dK (mdl (n : Int) q h c)) = H5 := ⟨_, rfl⟩
      have q5' : upd H4 a (.dK (mdl ((Mo.mk n es x sc).n : Int) q h c)) = H5 := q5
      rw [q5']
      refine ⟨by show 2 ≤ sizeLine; decide, fun r nr => ?_⟩
      obtain ⟨H6, q6, s6, hr6⟩ := newAt (.lst [V.str "told", V.non]) nr
      rw [q6]
      have f45 : FrL [a, j, h, c] H4 H5 := by rw [← q5]; exact frUpd (by simp)
      have kp : ∀ b o, b ≠ a → H4 b = some o → H6 b = some o := fun b o nb z => s6 _ _ (by rw [← q5, upd_ne nb]; exact z)
      have es' : stepM ⟨n, es, x, sc⟩ (.join o1 o2) = .ok (⟨n, srtE (es ++ [edg o1 o2]), x, sc⟩, .non) := by unfold stepM; dsimp only; rw [if_neg (by rintro (z | z) <;> contradiction), if_neg c3]
      have nq0 := s1.free (s13.free nq)
      obtain ⟨tq, u1, u2⟩ := hq
      have qa : q ≠ a := fun z => by rw [z, m.dc] at nq0; cases nq0
      have nr0 : H r = none := by
        cases z : H r with
        | none => rfl
        | some o =>
          by_cases ra : r = a
          · rw [ra, ← q5, upd_same] at nr
            cases nr
          · rw [← q5, upd_ne ra, s14 _ _ (s1 _ _ z)] at nr
            cases nr
      refine k r H6 (((sameFr (s1.trans s14)).trans f45).trans (sameFr s6)) nr0 ?_ (fun r2 hr2 => ?_) (fun er he => by rw [es'] at he; cases he)
      · rw [es']
        exact due2 rfl hr6
      · rw [es'] at hr2
        injection hr2 with hr2
        subst hr2
        refine ⟨q, h, ⟨s6 _ _ (by rw [← q5, upd_same]), ⟨tq, kp _ _ qa u1, u2.1, fun i u hu => ?_⟩, kp _ _ ah.symm m4.hr, kp _ _ ac.symm m4.sc, ?_, ?_, m.hc⟩, .inr nq0, .inl rfl⟩
        · obtain ⟨z, z1, z2⟩ := u2.2 i u hu
          exact ⟨z, z1, kp _ _ (ne_of z2 m4.dc (by intro z; cases z)) z2⟩
        · exact fun z => by rw [z, m.hr] at nq0; cases nq0
        · exact fun z => by rw [z, m.sc] at nq0; cases nq0
    · rw [show decide (V.str (edgeName (.part o1 o2)) = V.str "add_edge") = false from strNe (show (("remove_edge" : Str) == "add_edge") = false by decide +kernel)]
      refine iteF ⟨_, rfl, _, rfl, a, _, rfl, gJoins m1.dc, pairD (edg o1 o2), es.map pairD, dE, dJ, rfl, shapedPairs _, _, rfl, ?_⟩
      by_cases c2 : edg o1 o2 ∈ es
      case neg =>
        rw [anyPair c2]
        refine iteT ⟨_, rfl, t, _, (1 : Int), _, rfl, rfl, SqT.of ht1, atI_nat (j := 1) rfl, _, rfl, t, _, (2 : Int), _, rfl, rfl, SqT.of ht1, atI_nat (j := 2) rfl, by show 2 ≤ sizeLine; decide, fun T nT => ⟨by show 2 ≤ sizeLine; decide, fun q nq => ?_⟩⟩
        have es' : stepM ⟨n, es, x, sc⟩ (.part o1 o2) = .error (.edge o1 o2) := by unfold stepM; dsimp only; rw [if_neg c2]
        refine k q _ (sameFr (s1.trans ((same_upd nT).trans (same_upd nq)))) (s1.free ((same_upd nT).free nq)) ?_ (fun r hr => by rw [es'] at hr; cases hr) (fun _ _ => m.same (s1.trans ((same_upd nT).trans (same_upd nq))))
        rw [es']
        exact ⟨.ref T, upd_same, .tup (SqT.of (by rw [upd_ne (ne_of_none upd_same nq)]; exact upd_same)) (.cons (.int _) (.cons (.int _) .nil))⟩
      rw [anyPairT c2]
      obtain ⟨i, hi⟩ := List.getElem?_of_mem c2
      refine iteF ⟨_, rfl, a, _, rfl, gJoins m1.dc, .inl ⟨rfl, _, SqL.of t1⟩, _, rfl, j, tj.map V.ref, .ref e, pairD (edg o1 o2), es.map pairD, i, pairD (edg o1 o2), rfl, rfl, t1, dpTups t2, dE, shapedPairs _, rfl, by rw [List.getElem?_map, hi]; rfl, by rw [eqvPair]; exact decide_eq_true rfl, fun k z' hk hz => ?_, ?_⟩
      · rw [List.getElem?_map] at hz
        cases w : es[k]? with
        | none => rw [w] at hz; cases hz
        | some z =>
          rw [w] at hz
          obtain rfl := Option.some.inj hz
          rw [eqvPair]
          exact decide_eq_false (aheadNe good.good.once hi hk w)
      rw [mapErase]
      obtain ⟨H5, q5⟩ : ∃ H5, upd H1 j (.lst ((tj.eraseIdx i).map V.ref)) = H5 := ⟨_, rfl⟩
      rw [q5]
      refine ⟨by show 2 ≤ sizeLine; decide, fun r nr => ?_⟩
      obtain ⟨H6, q6, s6, hr6⟩ := newAt (.lst [V.str "told", V.non]) nr
      rw [q6]
      have f15 : FrL [a, j, h, c] H1 H5 := by rw [← q5]; exact frUpd (by simp)
      have kp : ∀ b o, b ≠ j → H1 b = some o → H6 b = some o := fun b o nb z => s6 _ _ (by rw [← q5, upd_ne nb]; exact z)
      have es' : stepM ⟨n, es, x, sc⟩ (.part o1 o2) = .ok (⟨n, es.filter fun e => decide (e ≠ edg o1 o2), x, sc⟩, .non) := by unfold stepM; dsimp only; rw [if_pos c2]
      have nr0 : H r = none := by
        cases z : H r with
        | none => rfl
        | some o =>
          by_cases ra : r = j
          · rw [ra, ← q5, upd_same] at nr
            cases nr
          · rw [← q5, upd_ne ra, s1 _ _ z] at nr
            cases nr
      have u2 := t2.erase i
      rw [eraseFilt good.good.once hi] at u2
      refine k r H6 (((sameFr s1).trans f15).trans (sameFr s6)) nr0 ?_ (fun r2 hr2 => ?_) (fun er he => by rw [es'] at he; cases he)
      · rw [es']
        exact due2 rfl hr6
      · rw [es'] at hr2
        injection hr2 with hr2
        subst hr2
        refine ⟨j, h, ⟨kp _ _ aj m1.dc, ⟨tj.eraseIdx i, s6 _ _ (by rw [← q5, upd_same]), u2.1, fun i u hu => ?_⟩, kp _ _ m.jh.symm m1.hr, kp _ _ m.jc.symm m1.sc, m.jh, m.jc, m.hc⟩, .inl rfl, .inl rfl⟩
        obtain ⟨z, z1, z2⟩ := u2.2 i u hu
        exact ⟨z, z1, kp _ _ (ne_of z2 t1 (by intro z; cases z)) z2⟩
end
end K72
set_option Elab.async false
set_option linter.all false
set_option maxRecDepth 100000
set_option maxHeartbeats 8000000
namespace K72
open PySem PySem.Spec PyProof.Rows L2 FNX
theorem freeFrL {L : List Addr} {H H' : Hp} {r : Addr} (f : FrL L H H') (h : ∀ c ∈ L, ∃ o, H' c = some o) (n : H' r = none) : H r = none := freeFr f h n
theorem MdAt.there {H : Hp} {a : Addr} {M : Mo} {j h c : Addr} (m : MdAt H a M j h c) : ∀ b ∈ [a, j, h, c], ∃ o, H b = some o := fun b hb => by
  simp only [List.mem_cons, List.not_mem_nil, or_false] at hb
  rcases hb with rfl | rfl | rfl | rfl
  · exact ⟨_, m.dc⟩
  · obtain ⟨ts, h1, _⟩ := m.jn
    exact ⟨_, h1⟩
  · exact ⟨_, m.hr⟩
  · exact ⟨_, m.sc⟩
theorem EdgesAt.keep {H H' : Hp} {j : Addr} {es : List (Int × Int)} {L : List Addr} (h : EdgesAt H j es) (f : FrL L H H') (n : j ∉ L) (t : ∀ b ∈ L, ∀ vs, H b ≠ some (.tup vs)) : EdgesAt H' j es := by
  obtain ⟨ts, h1, h2⟩ := h
  refine ⟨ts, f _ _ n h1, h2.1, fun i u hu => ?_⟩
  obtain ⟨z, z1, z2⟩ := h2.2 i u hu
  exact ⟨z, z1, f _ _ (fun hm => t u hm _ z2) z2⟩
section
variable {P : Program} {w : World} {K : PySem.W.Frag} {mg : Str → Option Value} {base : Heap}
theorem sc_done : FnScope ["_law_model_here", "_law_row_here", "_law_near_here"] ["_law_model_here", "_law_row_here"] (defScope s__law_done) := ⟨rfl, rfl, rfl, by decide +kernel, rfl, by decide +kernel, by decide +kernel⟩
theorem ok_done {f : Addr} {fd : FuncData} (F : Fun K "_law_done" "_law_done" s__law_done f fd) (M : Nms mg) (GNe : At P w K mg base CX0 1 "_law_near" ["_law_many", "_law_joins_here"] (spNear K)) (GTu : At P w K mg base CX0 1 "_law_turned" ["_law_near_here", "_law_here", "_law_node"] (spTurned K))
    (GEd : At P w K mg base CX0 1 "_law_edges_done" ["_law_model_here", "_law_row_here"] (spDone K isEdge)) : FnOk P w K mg base CX0 2 f fd ["_law_model_here", "_law_row_here"] (spDone K isFive) := by
  obtain ⟨fNe, fdNe, GNe, mNe, kNe, bNe⟩ := GNe
  obtain ⟨fTu, fdTu, GTu, mTu, kTu, bTu⟩ := GTu
  obtain ⟨fEd, fdEd, GEd, mEd, kEd, bEd⟩ := GEd
  refine F.ok sc_done (fun vs H Q E h => ?_) (fun cdv A outer s H vs Q E hr h => ?_)
  · obtain ⟨a, t, j, h, c, M, op, _, rfl, _⟩ := h
    rfl
  · obtain ⟨a, t, j, h, c, ⟨n, es, x, sc⟩, op, hk, rfl, m, ht, ok, good, k⟩ := h
    have nd := sc_done.nd
    have lenx : x.length = n := good.len
    have aj : a ≠ j := by
      obtain ⟨tj, t1, t2⟩ := m.jn
      exact ne_of m.dc t1 (by intro z; cases z)
    have ah : a ≠ h := ne_of m.dc m.hr (by intro z; cases z)
    have ac : a ≠ c := ne_of m.dc m.sc (by intro z; cases z)
    have dnt : ∀ b ∈ [a, j, h, c], ∀ vs, H b ≠ some (.tup vs) := fun b hb vs z => by
      simp only [List.mem_cons, List.not_mem_nil, or_false] at hb
      rcases hb with rfl | rfl | rfl | rfl
      · rw [m.dc] at z; cases z
      · obtain ⟨ts, h1, _⟩ := m.jn
        rw [h1] at z; cases z
      · rw [m.hr] at z; cases z
      · rw [m.sc] at z; cases z
    refine ⟨_, (pss_cons (ps_if (pt_cmpR op_eq (pe_ix (r := rIxT K) ix_tup (pv 1) pe_int (fun _ _ => rfl)) pe_str (nomark _)) (pss_cons (ps_if (pt_cmpR op_ge (pe_ix (r := rIxT K) ix_tup (pv 1) pe_int (fun _ _ => rfl)) (pe_callB call_len_seq (by rfl) M.len boot_len1 (pa_cons (pe_dget (hu_of hr) (pv 0) pe_str (fun _ _ => rfl)) pa_nil)) (nomark _)) (pss_one (ps_ret (pe_lst (pa_cons pe_str (pa_cons (pe_ix (r := rIxT K) ix_tup (pv 1) pe_int (fun _ _ => rfl)) pa_nil))))) pss_nil)
      (pss_cons (ps_if (pt_cmpR op_ge (pe_ix (r := rIxL K) ix_list (pe_dget (hu_of hr) (pv 0) pe_str (fun _ _ => rfl)) (pe_ix (r := rIxT K) ix_tup (pv 1) pe_int (fun _ _ => rfl)) (fun _ _ => rfl)) pe_int (nomark _)) (pss_one (ps_ret (pe_lst (pa_cons pe_str (pa_cons (pe_ix (r := rIxT K) ix_tup (pv 1) pe_int (fun _ _ => rfl)) pa_nil))))) pss_nil)
      (pss_cons (ps_set (i := 2) nd rfl (Or.inl rfl) (pe_call GNe (hr.mono (by decide)) (by rfl) mNe kNe bNe .nil pass0 (pa_cons (pe_dget (hu_of hr) (pv 0) pe_str (fun _ _ => rfl)) (pa_cons (pe_dget (hu_of hr) (pv 0) pe_str (fun _ _ => rfl)) pa_nil))))
      (pss_cons (ps_dput (hu_of hr) (pv 0) pe_str (pe_call GTu (hr.mono (by decide)) (by rfl) mTu kTu bTu .nil pass0 (pa_cons (pv 2) (pa_cons (pe_dget (hu_of hr) (pv 0) pe_str (fun _ _ => rfl)) (pa_cons (pe_ix (r := rIxT K) ix_tup (pv 1) pe_int (fun _ _ => rfl)) pa_nil)))) rfl)
      (pss_cons (ps_asg (pe_op op_add (pe_ix (r := rIxL K) ix_list (pe_dget (hu_of hr) (pv 0) pe_str (fun _ _ => rfl)) (pe_ix (r := rIxT K) ix_tup (pv 1) pe_int (fun _ _ => rfl)) (fun _ _ => rfl)) pe_int) (pg_sub (pe_dget (hu_of hr) (pv 0) pe_str (fun _ _ => rfl)) (pe_ix (r := rIxT K) ix_tup (pv 1) pe_int (fun _ _ => rfl)) set_list))
      (pss_one (ps_ret (pe_lst (pa_cons pe_str (pa_cons pe_non pa_nil)))))))))) pss_nil)
      (pss_cons (ps_if (pt_cmpR op_eq (pe_ix (r := rIxT K) ix_tup (pv 1) pe_int (fun _ _ => rfl)) pe_str (nomark _)) (pss_cons (ps_asg (pe_ix (r := rIxT K) ix_tup (pv 1) pe_int (fun _ _ => rfl)) (pg_sub (pe_dget (hu_of hr) (pv 0) pe_str (fun _ _ => rfl)) (pe_ix (r := rIxT K) ix_tup (pv 1) pe_int (fun _ _ => rfl)) set_list))
      (pss_one (ps_ret (pe_lst (pa_cons pe_str (pa_cons pe_non pa_nil)))))) pss_nil)
      (pss_cons (ps_if (pt_cmpR op_eq (pe_ix (r := rIxT K) ix_tup (pv 1) pe_int (fun _ _ => rfl)) pe_str (nomark _)) (pss_cons (ps_if (pt_cmpR op_ge (pe_dget (hu_of hr) (pv 0) pe_str (fun _ _ => rfl)) pe_int (nomark _)) (pss_one (ps_ret (pe_lst (pa_cons pe_str (pa_cons pe_int pa_nil))))) pss_nil)
      (pss_cons (ps_dput (hu_of hr) (pv 0) pe_str (pe_op op_add (pe_dget (hu_of hr) (pv 0) pe_str (fun _ _ => rfl)) pe_int) rfl)
      (pss_cons (ps_expr (pe_bm PySem.F.plainAttrs_list PySem.F.slot_list_append PySem.F.type_list_append mt_append (pe_dget (hu_of hr) (pv 0) pe_str (fun _ _ => rfl)) (pa_cons (pe_ix (r := rIxT K) ix_tup (pv 1) pe_int (fun _ _ => rfl)) pa_nil)))
      (pss_one (ps_ret (pe_lst (pa_cons pe_str (pa_cons (pe_op op_sub (pe_dget (hu_of hr) (pv 0) pe_str (fun _ _ => rfl)) pe_int) pa_nil)))))))) pss_nil)
      (pss_one (ps_ret (pe_call GEd (hr.mono (by decide)) (by rfl) mEd kEd bEd .nil pass0 (pa_cons (pv 0) (pa_cons (pv 1) pa_nil)))))))), ?_⟩
    cases op with
    | back p v => cases hk
    | drop => cases hk
    | fire p v =>
      have ht : H t = some (.tup [.str "fire", .int (p : Int), .int (v : Int)]) := ht
      have hv : v < n := ok
      refine ⟨_, rfl, t, _, (0 : Int), _, rfl, rfl, SqT.of ht, atI_nat (j := 0) rfl, rfl, _, rfl, ?_⟩
      rw [decide_eq_true rfl]
      refine iteT ⟨_, rfl, t, _, (1 : Int), _, rfl, rfl, SqT.of ht, atI_nat (j := 1) rfl, _, rfl, a, _, rfl, gScores m.dc, c, _, rfl, .inl (SqL.of m.sc), _, _, rfl, rfl, _, rfl, ?_⟩
      rw [List.length_map]
      by_cases c1 : sc.length ≤ p
      · rw [decide_eq_true (show ((p : Int)) ≥ ((sc.length : Nat) : Int) by omega)]
        refine iteT ⟨_, rfl, t, _, (1 : Int), _, rfl, rfl, SqT.of ht, atI_nat (j := 1) rfl, by show 2 ≤ sizeLine; decide, fun q nq => ?_⟩
        have es' : stepM ⟨n, es, x, sc⟩ (.fire p v) = .error (.player p) := by unfold stepM; dsimp only; rw [if_pos c1]
        refine k q _ (sameFr (same_upd nq)) nq ?_ (fun r hr => by rw [es'] at hr; cases hr) (fun _ _ => m.same (same_upd nq))
        rw [es']
        exact ⟨.int (p : Int), upd_same, .int _⟩
      rw [decide_eq_false (show ¬ ((p : Int)) ≥ ((sc.length : Nat) : Int) by omega)]
      refine iteF ⟨_, rfl, a, _, rfl, gHere m.dc, _, rfl, t, _, (2 : Int), _, rfl, rfl, SqT.of ht, atI_nat (j := 2) rfl, h, _, (v : Int), _, rfl, rfl, SqL.of m.hr, atInt (by omega) (by show (v : Int) < x.length; omega), _, _, rfl, rfl, _, rfl, ?_⟩
      rw [Int.toNat_natCast]
      by_cases c2 : 0 ≤ x.getD v 0
      · rw [decide_eq_true (show x.getD v 0 ≥ 0 from c2)]
        refine iteT ⟨_, rfl, t, _, (2 : Int), _, rfl, rfl, SqT.of ht, atI_nat (j := 2) rfl, by show 2 ≤ sizeLine; decide, fun q nq => ?_⟩
        have es' : stepM ⟨n, es, x, sc⟩ (.fire p v) = .error (.neg v) := by unfold stepM; dsimp only; rw [if_neg c1, if_pos c2]
        refine k q _ (sameFr (same_upd nq)) nq ?_ (fun r hr => by rw [es'] at hr; cases hr) (fun _ _ => m.same (same_upd nq))
        rw [es']
        exact ⟨.int (v : Int), upd_same, .int _⟩
      rw [decide_eq_false (show ¬ x.getD v 0 ≥ 0 from c2)]
      have es' : stepM ⟨n, es, x, sc⟩ (.fire p v) = .ok (⟨n, es, flipM ⟨n, es, x, sc⟩ v, sc.set p (sc.getD p 0 + 1)⟩, .non) := by unfold stepM; dsimp only; rw [if_neg c1, if_neg c2]
      refine iteF ⟨_, rfl, a, _, rfl, gMany m.dc, _, rfl, a, _, rfl, gJoins m.dc, n, j, es, rfl, m.jn, good.good, by have := good.n16; show n ≤ 1000; have : n ≤ 16 := this; omega, fun q H1 N nq s1 newN near => ?_⟩
      obtain rfl : N = nearF n es := near.uniq (nearF_is n es)
      have m1 := m.same s1
      have ht1 := s1 _ _ ht
      refine ⟨_, rfl, _, rfl, a, _, rfl, gHere m1.dc, _, rfl, t, _, (2 : Int), _, rfl, rfl, SqT.of ht1, atI_nat (j := 2) rfl, q, h, nearF n es, x, (v : Int), rfl, newN.at, near.wf good.good.node, m1.hr, by rw [near.len]; exact lenx, by omega, by rw [near.len]; omega, fun q2 H2 nq2 s2 hq2 => ?_⟩
      rw [Int.toNat_natCast] at hq2
      have m2 := m1.same s2
      refine ⟨_, rfl, a, _, rfl, pHere m2.dc q2, ?_⟩
      obtain ⟨H3, q3⟩ : ∃ H3, upd H2 a (.dK (mdl (n : Int) j q2 c)) = H3 := ⟨_, rfl⟩
      have q3' : upd H2 a (.dK (mdl ((Mo.mk n es x sc).n : Int) j q2 c)) = H3 := q3
      rw [q3']
      have k3 : ∀ b o, b ≠ a → H2 b = some o → H3 b = some o := fun b o nb z => by rw [← q3, upd_ne nb]; exact z
      have d3 : H3 a = some (.dK (mdl (n : Int) j q2 c)) := by rw [← q3, upd_same]
      have ht3 := k3 _ _ (ne_of (s2 _ _ ht1) m2.dc (by intro z; cases z)) (s2 _ _ ht1)
      have c3 := k3 _ _ ac.symm m2.sc
      refine ⟨_, rfl, a, _, rfl, gScores d3, _, rfl, t, _, (1 : Int), _, rfl, rfl, SqT.of ht3, atI_nat (j := 1) rfl, c, _, (p : Int), _, rfl, rfl, SqL.of c3, atInt (by omega) (by show (p : Int) < sc.length; omega), _, _, rfl, rfl, _, rfl, a, _, rfl, gScores d3, _, rfl, t, _, (1 : Int), _, rfl, rfl, SqT.of ht3, atI_nat (j := 1) rfl, c, _, (p : Int), _, rfl, rfl, c3, ixInt (by omega) (by show (p : Int) < sc.length; omega), ?_⟩
      rw [Int.toNat_natCast, mapSet]
      obtain ⟨H4, q4⟩ : ∃ H4, upd H3 c (.lst ((sc.set p (sc.getD p 0 + 1)).map V.int)) = H4 := ⟨_, rfl⟩
      rw [q4]
      have k4 : ∀ b o, b ≠ c → H3 b = some o → H4 b = some o := fun b o nb z => by rw [← q4, upd_ne nb]; exact z
      refine ⟨by show 2 ≤ sizeLine; decide, fun r nr => ?_⟩
      obtain ⟨HZ, qZ, sZ, hrZ⟩ := newAt (.lst [V.str "told", V.non]) nr
      rw [qZ]
      have f04 : FrL [a, j, h, c] H H4 := ((sameFr (s1.trans s2)).trans (show FrL [a, j, h, c] H2 H3 by rw [← q3]; exact frUpd (by simp))).trans (by rw [← q4]; exact frUpd (by simp))
      have nq20 := s1.free nq2
      have cq : q2 ≠ c := fun z => by rw [z, m.sc] at nq20; cases nq20
      have aq : q2 ≠ a := fun z => by rw [z, m.dc] at nq20; cases nq20
      have jq : j ≠ q2 := fun z => by
        obtain ⟨tj, t1, t2⟩ := m.jn
        rw [z, nq20] at t1
        cases t1
      have there : ∀ b ∈ [a, j, h, c], ∃ o, H4 b = some o := fun b hb => by
        obtain ⟨o, e⟩ := m2.there b hb
        by_cases b1 : b = c
        · exact ⟨_, by rw [b1, ← q4, upd_same]⟩
        by_cases b2 : b = a
        · exact ⟨_, by rw [b2]; exact k4 _ _ ac d3⟩
        · exact ⟨o, k4 _ _ b1 (k3 _ _ b2 e)⟩
      refine k r HZ (f04.trans (sameFr sZ)) (freeFrL f04 there nr) ?_ (fun r2 hr2 => ?_) (fun er he => by rw [es'] at he; cases he)
      · rw [es']
        exact ⟨.non, hrZ, .non⟩
      · rw [es'] at hr2
        injection hr2 with hr2
        subst hr2
        have f24 : FrL [a, c] H2 HZ := (show FrL [a, c] H2 H3 by rw [← q3]; exact frUpd (by simp)).trans ((show FrL [a, c] H3 H4 by rw [← q4]; exact frUpd (by simp)).trans (sameFr sZ))
        refine ⟨j, q2, ⟨sZ _ _ (k4 _ _ ac d3), m2.jn.keep f24 (by simp [aj.symm, m.jc]) (fun b hb vs z => ?_), sZ _ _ (k4 _ _ cq (k3 _ _ aq hq2)), sZ _ _ (by rw [← q4, upd_same]), jq, m.jc, cq⟩, .inl rfl, .inr nq20⟩
        simp only [List.mem_cons, List.not_mem_nil, or_false] at hb
        rcases hb with rfl | rfl
        · rw [m2.dc] at z; cases z
        · rw [m2.sc] at z; cases z
    | put v z =>
      have ht : H t = some (.tup [.str "put", .int (v : Int), .int z]) := ht
      have hv : v < n := ok
      refine ⟨_, rfl, t, _, (0 : Int), _, rfl, rfl, SqT.of ht, atI_nat (j := 0) rfl, rfl, _, rfl, ?_⟩
      rw [strNe (show (("put" : Str) == "fire") = false by decide +kernel)]
      refine iteF ⟨_, rfl, t, _, (0 : Int), _, rfl, rfl, SqT.of ht, atI_nat (j := 0) rfl, rfl, _, rfl, ?_⟩
      rw [decide_eq_true rfl]
      refine iteT ⟨_, rfl, t, _, (2 : Int), _, rfl, rfl, SqT.of ht, atI_nat (j := 2) rfl, _, rfl, a, _, rfl, gHere m.dc, _, rfl, t, _, (1 : Int), _, rfl, rfl, SqT.of ht, atI_nat (j := 1) rfl, h, _, (v : Int), _, rfl, rfl, m.hr, ixInt (by omega) (by show (v : Int) < x.length; omega), ?_⟩
      rw [Int.toNat_natCast, mapSet]
      obtain ⟨H4, q4⟩ : ∃ H4, upd H h (.lst ((x.set v z).map V.int)) = H4 := ⟨_, rfl⟩
      rw [q4]
      have k4 : ∀ b o, b ≠ h → H b = some o → H4 b = some o := fun b o nb z => by rw [← q4, upd_ne nb]; exact z
      refine ⟨by show 2 ≤ sizeLine; decide, fun r nr => ?_⟩
      obtain ⟨HZ, qZ, sZ, hrZ⟩ := newAt (.lst [V.str "told", V.non]) nr
      rw [qZ]
      have es' : stepM ⟨n, es, x, sc⟩ (.put v z) = .ok (⟨n, es, x.set v z, sc⟩, .non) := rfl
      have f04 : FrL [a, j, h, c] H H4 := by rw [← q4]; exact frUpd (by simp)
      have there : ∀ b ∈ [a, j, h, c], ∃ o, H4 b = some o := fun b hb => by
        obtain ⟨o, e⟩ := m.there b hb
        by_cases b1 : b = h
        · exact ⟨_, by rw [b1, ← q4, upd_same]⟩
        · exact ⟨o, k4 _ _ b1 e⟩
      refine k r HZ (f04.trans (sameFr sZ)) (freeFrL f04 there nr) ?_ (fun r2 hr2 => ?_) (fun er he => by rw [es'] at he; cases he)
      · rw [es']
        exact ⟨.non, hrZ, .non⟩
      · rw [es'] at hr2
        injection hr2 with hr2
        subst hr2
        refine ⟨j, h, ⟨sZ _ _ (k4 _ _ ah m.dc), (m.jn.keep (L := [h]) (H' := H4) (by rw [← q4]; exact frUpd (by simp)) (by simp [m.jh]) (fun b hb vs z => ?_)).same sZ, sZ _ _ (by rw [← q4, upd_same]), sZ _ _ (k4 _ _ m.hc.symm m.sc), m.jh, m.jc, m.hc⟩, .inl rfl, .inl rfl⟩
        rw [List.mem_singleton.mp hb, m.hr] at z
        cases z
    | add z =>
      have ht : H t = some (.tup [.str "add_node", .int z]) := ht
      refine ⟨_, rfl, t, _, (0 : Int), _, rfl, rfl, SqT.of ht, atI_nat (j := 0) rfl, rfl, _, rfl, ?_⟩
      rw [strNe (show (("add_node" : Str) == "fire") = false by decide +kernel)]
      refine iteF ⟨_, rfl, t, _, (0 : Int), _, rfl, rfl, SqT.of ht, atI_nat (j := 0) rfl, rfl, _, rfl, ?_⟩
      rw [strNe (show (("add_node" : Str) == "put") = false by decide +kernel)]
      refine iteF ⟨_, rfl, t, _, (0 : Int), _, rfl, rfl, SqT.of ht, atI_nat (j := 0) rfl, rfl, _, rfl, ?_⟩
      rw [decide_eq_true rfl]
      have n16 : n ≤ 16 := good.n16
      refine iteT ⟨_, rfl, a, _, rfl, gMany m.dc, _, _, rfl, rfl, _, rfl, ?_⟩
      by_cases c1 : n = 16
      · rw [decide_eq_true (show ((Mo.mk n es x sc).n : Int) ≥ 16 by show (n : Int) ≥ 16; omega)]
        refine iteT ⟨by show 2 ≤ sizeLine; decide, fun q nq => ?_⟩
        have es' : stepM ⟨n, es, x, sc⟩ (.add z) = .error (.many 17) := by unfold stepM; dsimp only; rw [if_pos c1]
        refine k q _ (sameFr (same_upd nq)) nq ?_ (fun r hr => by rw [es'] at hr; cases hr) (fun _ _ => m.same (same_upd nq))
        rw [es']
        exact ⟨.int 17, upd_same, .int 17⟩
      rw [decide_eq_false (show ¬ ((Mo.mk n es x sc).n : Int) ≥ 16 by show ¬ (n : Int) ≥ 16; omega)]
      have es' : stepM ⟨n, es, x, sc⟩ (.add z) = .ok (⟨n + 1, es, x ++ [z], sc⟩, .int (n : Int)) := by unfold stepM; dsimp only; rw [if_neg c1]
      refine iteF ⟨_, rfl, a, _, rfl, gMany m.dc, _, _, rfl, rfl, _, rfl, a, _, rfl, pMany m.dc _, ?_⟩
      obtain ⟨H3, q3⟩ : ∃ H3, upd H a (.dK (mdl ((n + 1 : Nat) : Int) j h c)) = H3 := ⟨_, rfl⟩
      have q3' : upd H a (.dK (mdl (((Mo.mk n es x sc).n : Int) + 1) j h c)) = H3 := by rw [← q3]; rfl
      rw [q3']
      have k3 : ∀ b o, b ≠ a → H b = some o → H3 b = some o := fun b o nb z => by rw [← q3, upd_ne nb]; exact z
      have d3 : H3 a = some (.dK (mdl ((n + 1 : Nat) : Int) j h c)) := by rw [← q3, upd_same]
      have ht3 := k3 _ _ (ne_of ht m.dc (by intro z; cases z)) ht
      have h3 := k3 _ _ ah.symm m.hr
      refine ⟨_, rfl, a, _, rfl, gHere d3, .inl ⟨rfl, _, SqL.of h3⟩, _, rfl, t, _, (1 : Int), _, rfl, rfl, SqT.of ht3, atI_nat (j := 1) rfl, h, _, _, rfl, rfl, h3, by rw [List.length_map, sizeLine_eq]; show x.length < _; omega, ?_⟩
      obtain ⟨H4, q4⟩ : ∃ H4, upd H3 h (.lst ((x ++ [z]).map V.int)) = H4 := ⟨_, rfl⟩
      have q4' : upd H3 h (.lst ((Mo.mk n es x sc).x.map V.int ++ [V.int z])) = H4 := by rw [← q4, List.map_append]; rfl
      rw [q4']
      have k4 : ∀ b o, b ≠ h → H3 b = some o → H4 b = some o := fun b o nb z => by rw [← q4, upd_ne nb]; exact z
      have d4 := k4 _ _ ah d3
      refine ⟨_, rfl, a, _, rfl, gMany d4, _, _, rfl, rfl, by show 2 ≤ sizeLine; decide, fun r nr => ?_⟩
      obtain ⟨HZ, qZ, sZ, hrZ⟩ := newAt (.lst [V.str "told", V.int (((n + 1 : Nat) : Int) - 1)]) nr
      rw [qZ]
      have f04 : FrL [a, j, h, c] H H4 := (show FrL [a, j, h, c] H H3 by rw [← q3]; exact frUpd (by simp)).trans (by rw [← q4]; exact frUpd (by simp))
      have there : ∀ b ∈ [a, j, h, c], ∃ o, H4 b = some o := fun b hb => by
        obtain ⟨o, e⟩ := m.there b hb
        by_cases b1 : b = h
        · exact ⟨_, by rw [b1, ← q4, upd_same]⟩
        by_cases b2 : b = a
        · exact ⟨_, by rw [b2]; exact d4⟩
        · exact ⟨o, k4 _ _ b1 (k3 _ _ b2 e)⟩
      refine k r HZ (f04.trans (sameFr sZ)) (freeFrL f04 there nr) ?_ (fun r2 hr2 => ?_) (fun er he => by rw [es'] at he; cases he)
      · rw [es']
        refine ⟨_, hrZ, ?_⟩
        rw [show ((n + 1 : Nat) : Int) - 1 = (n : Int) by omega]
        exact .int _
      · rw [es'] at hr2
        injection hr2 with hr2
        subst hr2
        have f24 : FrL [a, h] H HZ := (show FrL [a, h] H H3 by rw [← q3]; exact frUpd (by simp)).trans ((show FrL [a, h] H3 H4 by rw [← q4]; exact frUpd (by simp)).trans (sameFr sZ))
        refine ⟨j, h, ⟨sZ _ _ d4, m.jn.keep f24 (by simp [aj.symm, m.jh]) (fun b hb vs z => ?_), sZ _ _ (by rw [← q4, upd_same]), sZ _ _ (k4 _ _ m.hc.symm (k3 _ _ ac.symm m.sc)), m.jh, m.jc, m.hc⟩, .inl rfl, .inl rfl⟩
        simp only [List.mem_cons, List.not_mem_nil, or_false] at hb
        rcases hb with rfl | rfl
        · rw [m.dc] at z; cases z
        · rw [m.hr] at z; cases z
    | join p q =>
      have ht' : H t = some (.tup [.str "add_edge", .int (p : Int), .int (q : Int)]) := ht
      refine ⟨_, rfl, t, _, (0 : Int), _, rfl, rfl, SqT.of ht', atI_nat (j := 0) rfl, rfl, _, rfl, ?_⟩
      rw [strNe (show (("add_edge" : Str) == "fire") = false by decide +kernel)]
      refine iteF ⟨_, rfl, t, _, (0 : Int), _, rfl, rfl, SqT.of ht', atI_nat (j := 0) rfl, rfl, _, rfl, ?_⟩
      rw [strNe (show (("add_edge" : Str) == "put") = false by decide +kernel)]
      refine iteF ⟨_, rfl, t, _, (0 : Int), _, rfl, rfl, SqT.of ht', atI_nat (j := 0) rfl, rfl, _, rfl, ?_⟩
      rw [strNe (show (("add_edge" : Str) == "add_node") = false by decide +kernel)]
      exact iteF ⟨_, rfl, _, rfl, a, t, j, h, c, ⟨n, es, x, sc⟩, .join p q, rfl, rfl, m, ht, ok, good, k⟩
    | part p q =>
      have ht' : H t = some (.tup [.str "remove_edge", .int (p : Int), .int (q : Int)]) := ht
      refine ⟨_, rfl, t, _, (0 : Int), _, rfl, rfl, SqT.of ht', atI_nat (j := 0) rfl, rfl, _, rfl, ?_⟩
      rw [strNe (show (("remove_edge" : Str) == "fire") = false by decide +kernel)]
      refine iteF ⟨_, rfl, t, _, (0 : Int), _, rfl, rfl, SqT.of ht', atI_nat (j := 0) rfl, rfl, _, rfl, ?_⟩
      rw [strNe (show (("remove_edge" : Str) == "put") = false by decide +kernel)]
      refine iteF ⟨_, rfl, t, _, (0 : Int), _, rfl, rfl, SqT.of ht', atI_nat (j := 0) rfl, rfl, _, rfl, ?_⟩
      rw [strNe (show (("remove_edge" : Str) == "add_node") = false by decide +kernel)]
      exact iteF ⟨_, rfl, _, rfl, a, t, j, h, c, ⟨n, es, x, sc⟩, .part p q, rfl, rfl, m, ht, ok, good, k⟩
end
end K72
set_option Elab.async false
set_option linter.all false
set_option maxRecDepth 100000
set_option maxHeartbeats 8000000
namespace K72
open PySem PySem.Spec PyProof.Rows L2 FNX
def BIG : Nat := 100000000000000000000000000000000000000
def opB : Op → Prop
  | .fire p _ => p ≤ 9
  | .put _ z => z.natAbs ≤ BIG
  | .add z => z.natAbs ≤ BIG
  | _ => True
def spRow : Sp := fun vs H Q _ => ∃ (p a j h c : Addr) (M : Mo), vs = [.ref p, .ref a] ∧ PoolAt H p ∧ MdAt H a M j h c ∧ p ≠ j ∧ p ≠ h ∧ p ≠ c ∧ OkM M ∧
  ∀ (t : Addr) (op : Op) (H' : Hp), H t = none → SameX p H H' → PoolAt H' p → H' t = some (.tup (opV op)) → isFive op = true → okOp M op → opB op → Q (.ref t) H'
theorem MdAt.x {p : Addr} {H H' : Hp} {a : Addr} {M : Mo} {j h c : Addr} (m : MdAt H a M j h c) (hp : PoolAt H p) (pj : p ≠ j) (ph : p ≠ h) (pc : p ≠ c) (s : SameX p H H') : MdAt H' a M j h c := by
  obtain ⟨tj, t1, t2⟩ := m.jn
  have np : ∀ {b : Addr} {o : HO}, H b = some o → (∀ xs, o ≠ .lst xs) → b ≠ p := fun {b o} e n z => by
    obtain ⟨u, w, e', _⟩ := hp
    rw [z, e'] at e
    exact n _ (Option.some.inj e).symm
  refine ⟨s _ _ (np m.dc (fun xs z => by cases z)) m.dc, ⟨tj, s _ _ pj.symm t1, t2.1, fun i u hu => ?_⟩, s _ _ ph.symm m.hr, s _ _ pc.symm m.sc, m.jh, m.jc, m.hc⟩
  obtain ⟨z, z1, z2⟩ := t2.2 i u hu
  exact ⟨z, z1, s _ _ (np z2 (fun xs z => by cases z)) z2⟩
section
variable {P : Program} {w : World} {K : PySem.W.Frag} {mg : Str → Option Value} {base : Heap}
theorem sc_row : FnScope ["_law_pool_here", "_law_model_here", "_law_word", "_law_one", "_law_two", "_law_low", "_law_node"] ["_law_pool_here", "_law_model_here"] (defScope s__law_row) := ⟨rfl, rfl, rfl, by decide +kernel, rfl, by decide +kernel, by decide +kernel⟩
theorem ok_row {f : Addr} {fd : FuncData} (F : Fun K "_law_row" "_law_row" s__law_row f fd) (M : Nms mg) (GT : At P w K mg base CX0 1 "_law_take" ["_law_pool_here", "_law_sides"] spTake) (GNm : At P w K mg base CX0 2 "_law_number" ["_law_pool_here"] spNumber) :
    FnOk P w K mg base CX0 3 f fd ["_law_pool_here", "_law_model_here"] spRow := by
  obtain ⟨fT, fdT, GT, mT, kT, bT⟩ := GT
  obtain ⟨fNm, fdNm, GNm, mNm, kNm, bNm⟩ := GNm
  refine F.ok sc_row (fun vs H Q E h => ?_) (fun cdv A outer s H vs Q E hr h => ?_)
  · obtain ⟨p, a, j, h, c, M, rfl, _⟩ := h
    rfl
  · obtain ⟨p, a, j, h, c, ⟨n, es, x, sc⟩, rfl, hp, m, pj, ph, pc, good, k⟩ := h
    have nd := sc_row.nd
    have n1 : 1 ≤ n := good.n1
    have n16 : n ≤ 16 := good.n16
    have lenx : x.length = n := good.len
    have fsc : sc.length ≤ 1000 := good.few
    refine ⟨_, (pss_cons (ps_set (i := 2) nd rfl (Or.inl rfl) (pe_ix (r := rIxL K) ix_list (pe_lst (pa_cons pe_str (pa_cons pe_str (pa_cons pe_str (pa_cons pe_str (pa_cons pe_str (pa_cons pe_str (pa_cons pe_str (pa_cons pe_str (pa_cons pe_str pa_nil)))))))))) (pe_call GT (hr.mono (by decide)) (by rfl) mT kT bT .nil pass0 (pa_cons (pv 0) (pa_cons pe_int pa_nil))) (fun _ _ => rfl)))
      (pss_cons (ps_par (i := 3) (j := 4) (by rfl) nd rfl rfl (by decide) rfl rfl (pa_cons (pe_call GT (hr.mono (by decide)) (by rfl) mT kT bT .nil pass0 (pa_cons (pv 0) (pa_cons (pe_dget (hu_of hr) (pv 1) pe_str (fun _ _ => rfl)) pa_nil))) (pa_cons (pe_call GT (hr.mono (by decide)) (by rfl) mT kT bT .nil pass0 (pa_cons (pv 0) (pa_cons (pe_dget (hu_of hr) (pv 1) pe_str (fun _ _ => rfl)) pa_nil))) pa_nil)) (by rfl))
      (pss_cons (ps_if (pt_cmpR op_eq (pv 2) pe_str (nomark _)) (pss_cons (ps_set (i := 5) nd rfl (Or.inl rfl) (pe_op op_cat (pe_lc (own := [("_law_node", 6)]) (g := gName 6) rfl nd (pi_range1 rfl M.range (pa_cons (pe_dget (hu_of hr) (pv 1) pe_str (fun _ _ => rfl)) pa_nil)) (blkOk_by (own := [("_law_node", 6)]) (N := ["_law_pool_here", "_law_model_here", "_law_word", "_law_one", "_law_two", "_law_low", "_law_node"]) (sc := defScope s__law_row) (by decide +kernel)) (fun _ _ _ _ _ => pg_name (i := 6) nd rfl (Or.inl rfl)) (fun _ _ _ _ _ => pts_one (pt_cmpR op_lt (pe_ix (r := rIxL K) ix_list (pe_dget (hu_of hr) (pv 1) pe_str (fun _ _ => rfl)) (pv 6) (fun _ _ => rfl)) pe_int (nomark _))) (fun _ _ _ _ _ => (pv 6))) (pe_lst (pa_cons (pv 3) pa_nil))))
      (pss_one (ps_ret (pe_tup (pa_cons (pv 2) (pa_cons (pe_op op_mod (pe_call GT (hr.mono (by decide)) (by rfl) mT kT bT .nil pass0 (pa_cons (pv 0) (pa_cons (pe_op op_add (pe_callB call_len_seq (by rfl) M.len boot_len1 (pa_cons (pe_dget (hu_of hr) (pv 1) pe_str (fun _ _ => rfl)) pa_nil)) pe_int) pa_nil))) pe_int) (pa_cons (pe_ix (r := rIxL K) ix_list (pv 5) (pe_call GT (hr.mono (by decide)) (by rfl) mT kT bT .nil pass0 (pa_cons (pv 0) (pa_cons (pe_callB call_len_seq (by rfl) M.len boot_len1 (pa_cons (pv 5) pa_nil)) pa_nil))) (fun _ _ => rfl)) pa_nil))))))) pss_nil)
      (pss_cons (ps_if (pt_cmpR op_eq (pv 2) pe_str (nomark _)) (pss_one (ps_ret (pe_tup (pa_cons (pv 2) (pa_cons (pv 3) (pa_cons (pe_call GNm (hr.mono (by decide)) (by rfl) mNm kNm bNm .nil pass0 (pa_cons (pv 0) pa_nil)) pa_nil)))))) pss_nil)
      (pss_cons (ps_if (pt_cmpR op_eq (pv 2) pe_str (nomark _)) (pss_one (ps_ret (pe_tup (pa_cons (pv 2) (pa_cons (pe_call GNm (hr.mono (by decide)) (by rfl) mNm kNm bNm .nil pass0 (pa_cons (pv 0) pa_nil)) pa_nil))))) pss_nil)
      (pss_one (ps_ret (pe_tup (pa_cons (pv 2) (pa_cons (pv 3) (pa_cons (pv 4) pa_nil))))))))))), ?_⟩
    refine ⟨by show 9 ≤ sizeLine; decide, fun D nD => ?_⟩
    obtain ⟨H1, q1, s1, hD⟩ := newAt (.lst [V.str "fire", V.str "fire", V.str "fire", V.str "put", V.str "put", V.str "add_node", V.str "add_edge", V.str "add_edge", V.str "remove_edge"]) nD
    rw [q1]
    have hp1 := hp.same s1
    have pD : D ≠ p := (hp.ne nD).symm
    refine ⟨_, rfl, p, 9, rfl, hp1, by decide, by decide, fun e H2 e0 e9 hp2 t2 => ?_⟩
    have x2 := sameX_take t2
    have D2 := x2 _ _ pD hD
    have m2 := (m.same s1).x hp1 pj ph pc x2
    have sx02 : SameX p H H2 := (Same.x s1).trans x2
    have hw : ∃ wd : Str, atI [V.str "fire", V.str "fire", V.str "fire", V.str "put", V.str "put", V.str "add_node", V.str "add_edge", V.str "add_edge", V.str "remove_edge"] e = some (V.str wd) ∧ (wd = "fire" ∨ wd = "put" ∨ wd = "add_node" ∨ wd = "add_edge" ∨ wd = "remove_edge") := by
      obtain rfl | rfl | rfl | rfl | rfl | rfl | rfl | rfl | rfl : e = 0 ∨ e = 1 ∨ e = 2 ∨ e = 3 ∨ e = 4 ∨ e = 5 ∨ e = 6 ∨ e = 7 ∨ e = 8 := by omega
      · exact ⟨_, rfl, .inl rfl⟩
      · exact ⟨_, rfl, .inl rfl⟩
      · exact ⟨_, rfl, .inl rfl⟩
      · exact ⟨_, rfl, .inr (.inl rfl)⟩
      · exact ⟨_, rfl, .inr (.inl rfl)⟩
      · exact ⟨_, rfl, .inr (.inr (.inl rfl))⟩
      · exact ⟨_, rfl, .inr (.inr (.inr (.inl rfl)))⟩
      · exact ⟨_, rfl, .inr (.inr (.inr (.inl rfl)))⟩
      · exact ⟨_, rfl, .inr (.inr (.inr (.inr rfl)))⟩
    obtain ⟨wd, hw, hwd⟩ := hw
    refine ⟨D, _, e, .str wd, rfl, rfl, SqL.of D2, hw, ?_⟩
    have hn : ((n : Nat) : Int) < 10000000000000000000 := by omega
    refine ⟨_, rfl, _, rfl, a, _, rfl, gMany m2.dc, p, (n : Int), rfl, hp2, by omega, hn, fun o1 H3 a0 a1 hp3 t3 => ?_⟩
    have x3 := sameX_take t3
    have m3 := m2.x hp2 pj ph pc x3
    refine ⟨_, rfl, _, rfl, a, _, rfl, gMany m3.dc, p, (n : Int), rfl, hp3, by omega, hn, fun o2 H4 b0 b1 hp4 t4 => ?_⟩
    have x4 := sameX_take t4
    have m4 := m3.x hp3 pj ph pc x4
    have sx04 := (sx02.trans x3).trans x4
    obtain ⟨v1, rfl⟩ : ∃ v1 : Nat, o1 = (v1 : Int) := ⟨o1.toNat, by omega⟩
    obtain ⟨v2, rfl⟩ : ∃ v2 : Nat, o2 = (v2 : Int) := ⟨o2.toNat, by omega⟩
    have l1 : v1 < n := by omega
    have l2 : v2 < n := by omega
    have free4 : ∀ {G : Hp} {b : Addr}, SameX p H G → PoolAt G p → G b = none → H b = none := fun {G b} sx hg nb => sx.free hp nb hg
    refine ⟨_, _, rfl, ?_⟩
    refine ⟨_, rfl, rfl, _, rfl, ?_⟩
    rcases hwd with rfl | hwd
    · rw [decide_eq_true rfl]
      refine iteT ⟨_, rfl, a, _, rfl, gMany m4.dc, n, rfl, by omega, by omega, fun L nL => ?_⟩
      have pL := (hp4.ne nL)
      refine lc_range (lo := 0) (n := n) (fun i G => Same H4 G ∧ ∃ ns : List Nat, G L = some (.lst (ns.map fun i : Nat => V.int (i : Int))) ∧ ns.length ≤ i ∧ ∀ z ∈ ns, z < n) ⟨same_upd nL, [], upd_same, Nat.le_refl _, fun z hz => by cases hz⟩ (fun i G hi hG => ?_) (fun G hG => ?_)
      · obtain ⟨sm, ns, g1, g2, g3⟩ := hG
        have mG := m4.same sm
        refine ⟨rfl, _, rfl, a, _, rfl, gHere mG.dc, _, rfl, h, _, (0 + i : Int), _, rfl, rfl, SqL.of mG.hr, atInt (by omega) (by show (0 + (i : Int)) < x.length; omega), _, _, rfl, rfl, _, rfl, ?_⟩
        by_cases cc : x.getD ((0 : Int) + i).toNat 0 < 0
        · rw [decide_eq_true (show x.getD ((0 : Int) + i).toNat 0 < 0 from cc)]
          refine iteT ⟨_, rfl, _, g1, by rw [List.length_map, sizeLine_eq]; omega, fun b o z => ?_, ns ++ [i], by rw [upd_same, List.map_append, List.map_cons, List.map_nil, Int.zero_add], by rw [List.length_append]; show ns.length + 1 ≤ i + 1; omega, fun z hz => ?_⟩
          · rw [upd_ne (ne_of_none z nL)]
            exact sm _ _ z
          · rcases List.mem_append.mp hz with hz | hz
            · exact g3 z hz
            · rw [List.mem_singleton.mp hz]
              exact hi
        · rw [decide_eq_false (show ¬ x.getD ((0 : Int) + i).toNat 0 < 0 from cc)]
          exact iteF ⟨sm, ns, g1, by omega, g3⟩
      · obtain ⟨sm, ns, g1, g2, g3⟩ := hG
        refine ⟨_, rfl, by show 1 ≤ sizeLine; decide, fun y ny => ?_⟩
        obtain ⟨G1, r1, u1, hy⟩ := newAt (.lst [V.int (v1 : Int)]) ny
        rw [r1]
        refine ⟨L, y, _, _, rfl, rfl, u1 _ _ g1, hy, by rw [List.length_map, sizeLine_eq]; show ns.length + 1 ≤ _; omega, fun y2 ny2 => ?_⟩
        obtain ⟨G2, r2, u2, hy2⟩ := newAt (.lst ((ns.map fun i : Nat => V.int (i : Int)) ++ [V.int (v1 : Int)])) ny2
        rw [r2]
        have s42 := (sm.trans u1).trans u2
        have hpG := hp4.same s42
        have mG := m4.same s42
        have y2p : y2 ≠ p := (PoolAt.ne (hp4.same (sm.trans u1)) ny2).symm
        refine ⟨_, rfl, _, rfl, _, rfl, a, _, rfl, gScores mG.dc, c, _, rfl, .inl (SqL.of mG.sc), _, _, rfl, rfl, p, _, rfl, hpG, by rw [List.length_map]; omega, by rw [List.length_map]; show ((sc.length : Nat) : Int) + 1 < _; omega, fun u H5 c0 c1 hp5 t5 => ?_⟩
        have x5 := sameX_take t5
        have y5 := x5 _ _ y2p hy2
        refine ⟨_, _, rfl, rfl, by show (0 : Int) < 9; decide, _, rfl, _, rfl, _, rfl, y2, _, rfl, .inl (SqL.of y5), p, _, rfl, hp5, by rw [List.length_append, List.length_map]; show (0 : Int) < ((ns.length + 1 : Nat) : Int); omega, by rw [List.length_append, List.length_map]; show ((ns.length + 1 : Nat) : Int) < _; omega, fun i2 H6 d0 d1 hp6 t6 => ?_⟩
        have x6 := sameX_take t6
        have y6 := x6 _ _ y2p y5
        have eL : (ns.map fun i : Nat => V.int (i : Int)) ++ [V.int (v1 : Int)] = (ns ++ [v1]).map fun i : Nat => V.int (i : Int) := by rw [List.map_append]; rfl
        rw [eL, List.length_map] at d1
        rw [eL] at y6
        obtain ⟨i3, rfl⟩ : ∃ i3 : Nat, i2 = (i3 : Int) := ⟨i2.toNat, by omega⟩
        have hi3 : i3 < (ns ++ [v1]).length := by omega
        have hlt : (ns ++ [v1])[i3] < n := by
          have hm : (ns ++ [v1])[i3] ∈ ns ++ [v1] := List.getElem_mem _
          rcases List.mem_append.mp hm with hm | hm
          · exact g3 _ hm
          · rw [List.mem_singleton.mp hm]
            exact l1
        obtain ⟨v, hv⟩ : ∃ v, (ns ++ [v1])[i3] = v := ⟨_, rfl⟩
        rw [hv] at hlt
        refine ⟨y2, _, (i3 : Int), .int (v : Int), rfl, rfl, SqL.of y6, atI_nat (by rw [List.getElem?_map, List.getElem?_eq_getElem hi3, hv]; rfl), by show 3 ≤ sizeLine; decide, fun t nt => ?_⟩
        obtain ⟨pl, rfl⟩ : ∃ pl : Nat, u = (pl : Int) := ⟨u.toNat, by omega⟩
        have e9' : ((fun i j : Int => V.int (i % j)) (pl : Int) 9) = V.int ((pl % 9 : Nat) : Int) := by
          show V.int ((pl : Int) % 9) = _
          congr 1
        rw [e9']
        obtain ⟨H7, q7, s7, ht⟩ := newAt (.tup [V.str "fire", V.int ((pl % 9 : Nat) : Int), V.int (v : Int)]) nt
        rw [q7]
        have sx : SameX p H H7 := (((sx04.trans (Same.x s42)).trans x5).trans x6).trans (Same.x s7)
        have hp7 := hp6.same s7
        exact k t (.fire (pl % 9) v) H7 (free4 (((sx04.trans (Same.x s42)).trans x5).trans x6) hp6 nt) sx hp7 ht rfl hlt (by show pl % 9 ≤ 9; omega)
    · have nf : decide (V.str wd = V.str "fire") = false := by
        rcases hwd with rfl | rfl | rfl | rfl <;> exact strNe (by decide +kernel)
      rw [nf]
      refine iteF ⟨_, rfl, rfl, _, rfl, ?_⟩
      rcases hwd with rfl | hwd
      · rw [decide_eq_true rfl]
        refine iteT ⟨_, rfl, _, rfl, _, rfl, p, rfl, hp4, fun r H5 hb x5 hp5 => ⟨by show 3 ≤ sizeLine; decide, fun t nt => ?_⟩⟩
        obtain ⟨H6, q6, s6, ht⟩ := newAt (.tup [V.str "put", V.int (v1 : Int), V.int r]) nt
        rw [q6]
        exact k t (.put v1 r) H6 (free4 (sx04.trans x5) hp5 nt) ((sx04.trans x5).trans (Same.x s6)) (hp5.same s6) ht rfl l1 hb
      · have np : decide (V.str wd = V.str "put") = false := by
          rcases hwd with rfl | rfl | rfl <;> exact strNe (by decide +kernel)
        rw [np]
        refine iteF ⟨_, rfl, rfl, _, rfl, ?_⟩
        rcases hwd with rfl | hwd
        · rw [decide_eq_true rfl]
          refine iteT ⟨_, rfl, _, rfl, p, rfl, hp4, fun r H5 hb x5 hp5 => ⟨by show 2 ≤ sizeLine; decide, fun t nt => ?_⟩⟩
          obtain ⟨H6, q6, s6, ht⟩ := newAt (.tup [V.str "add_node", V.int r]) nt
          rw [q6]
          exact k t (.add r) H6 (free4 (sx04.trans x5) hp5 nt) ((sx04.trans x5).trans (Same.x s6)) (hp5.same s6) ht rfl True.intro hb
        · have na : decide (V.str wd = V.str "add_node") = false := by
            rcases hwd with rfl | rfl <;> exact strNe (by decide +kernel)
          rw [na]
          refine iteF ⟨_, rfl, _, rfl, _, rfl, by show 3 ≤ sizeLine; decide, fun t nt => ?_⟩
          obtain ⟨H6, q6, s6, ht⟩ := newAt (.tup [V.str wd, V.int (v1 : Int), V.int (v2 : Int)]) nt
          rw [q6]
          rcases hwd with rfl | rfl
          · exact k t (.join v1 v2) H6 (free4 sx04 hp4 nt) (sx04.trans (Same.x s6)) (hp4.same s6) ht rfl ⟨l1, l2⟩ True.intro
          · exact k t (.part v1 v2) H6 (free4 sx04 hp4 nt) (sx04.trans (Same.x s6)) (hp4.same s6) ht rfl ⟨l1, l2⟩ True.intro
end
end K72
set_option Elab.async false
set_option linter.all false
set_option maxRecDepth 100000
set_option maxHeartbeats 8000000
namespace K72
open PySem PySem.Spec PyProof.Rows L2 FNX
theorem GE.ext {CG : Addr} {H H' : Hp} {g : Addr} {n : Nat} {es : List (Int × Int)} (h : GE CG H g n es) (s : LamX.ExtN H H') : GE CG H' g n es := by
  obtain ⟨⟨dx, j, nr, N, h1, h2, h3, h4⟩, a, b, c, d⟩ := h
  exact ⟨⟨dx, j, nr, N, s _ _ h1 (fun _ z => by cases z), edExt h2 s, naExt h3 s, h4⟩, a, b, c, d⟩
theorem OpsAt.ext {H H' : Hp} {ts : List Addr} {ops : List Op} (h : OpsAt H ts ops) (s : LamX.ExtN H H') : OpsAt H' ts ops := ⟨h.1, fun k t e => by
  obtain ⟨op, h1, h2⟩ := h.2 k t e
  exact ⟨op, h1, s _ _ h2 fun _ z => by cases z⟩⟩
theorem EntAt.ext {H H' : Hp} {e : Addr} {en : En} (h : EntAt H e en) (s : LamX.ExtN H H') : EntAt H' e en := by
  have w : ∀ {b : Addr} {o : HO}, (∀ ps, o ≠ .tbl ps) → H b = some o → H' b = some o := fun n e => s _ _ e n
  cases en with
  | one op inv =>
    obtain ⟨o, u, iv, h1, h2, h3, h4⟩ := h
    exact ⟨o, u, iv, w (fun _ z => by cases z) h1, w (fun _ z => by cases z) h2, w (fun _ z => by cases z) h3, w (fun _ z => by cases z) h4⟩
  | many ops invs =>
    obtain ⟨o, l, u, ts, us, h1, h2, h3, h4, h5, h6⟩ := h
    exact ⟨o, l, u, ts, us, w (fun _ z => by cases z) h1, w (fun _ z => by cases z) h2, w (fun _ z => by cases z) h3, h4.ext s, w (fun _ z => by cases z) h5, h6.ext s⟩
theorem EntsAt.ext {H H' : Hp} {es : List Addr} {log : List En} (h : EntsAt H es log) (s : LamX.ExtN H H') : EntsAt H' es log := ⟨h.1, fun k e he => by
  obtain ⟨en, h1, h2⟩ := h.2 k e he
  exact ⟨en, h1, h2.ext s⟩⟩
open Classical in
theorem Stb.ext {A : List Addr} {H H1 : Hp} {Φ : Hp → Prop} (h : Stb A H Φ) (hΦ : ∀ G G', LamX.ExtN G G' → Φ G → Φ G') (s : LamX.ExtN H H1) : Stb A H1 Φ := fun H2 f => by
  refine hΦ (fun b => if ∃ ps, H b = some (.tbl ps) then H b else H2 b) H2 (fun b o e n => ?_) (h _ fun b o hb e => ?_)
  · dsimp only at e
    split at e
    · rename_i c
      obtain ⟨ps, c⟩ := c
      rw [c] at e
      exact absurd (Option.some.inj e).symm (n ps)
    · exact e
  · split
    · exact e
    · rename_i c
      exact f b o hb (s b o e fun ps z => c ⟨ps, by rw [e, z]⟩)
/-- no table of code objects is among them -/
def NoTb (A : List Addr) (H : Hp) : Prop := ∀ a ∈ A, ∃ o, H a = some o ∧ ∀ ps, o ≠ .tbl ps
theorem NoTb.same {A : List Addr} {H H' : Hp} (h : NoTb A H) (s : Same H H') : NoTb A H' := fun a ha => by
  obtain ⟨o, e, n⟩ := h a ha
  exact ⟨o, s _ _ e, n⟩
theorem NoTb.ext {A : List Addr} {H H' : Hp} (h : NoTb A H) (s : LamX.ExtN H H') : NoTb A H' := fun a ha => by
  obtain ⟨o, e, n⟩ := h a ha
  exact ⟨o, s _ _ e n, n⟩
theorem Dom.ext {A : List Addr} {H H' : Hp} (h : Dom A H) (nt : NoTb A H) (s : LamX.ExtN H H') : Dom A H' := fun a ha => by
  obtain ⟨o, e, n⟩ := h a ha
  obtain ⟨o', e', n'⟩ := nt a ha
  rw [e] at e'
  obtain rfl := Option.some.inj e'
  exact ⟨o, s _ _ e n', n⟩
theorem BdAt.ext {CG CT CB : Addr} {A : List Addr} {H H' : Hp} {b so pk : Addr} {M : Mo} {g nl pl : Addr} {log : List En} (h : BdAt CG CT CB A H b so pk M g nl pl log) (nt : NoTb A H) (s : LamX.ExtN H H') : BdAt CG CT CB A H' b so pk M g nl pl log := by
  have w : ∀ {b : Addr} {o : HO}, (∀ ps, o ≠ .tbl ps) → H b = some o → H' b = some o := fun n e => s _ _ e n
  obtain ⟨⟨dx, h1⟩, ⟨⟨dxs, o1⟩, o2, o3, o4, o5, o6, o7, o8, o9, o10, o11⟩, ⟨es, h3, h4⟩, h5, h6, h7, h8, h9⟩ := h
  exact ⟨⟨dx, w (fun _ z => by cases z) h1⟩, ⟨⟨dxs, w (fun _ z => by cases z) o1⟩, o2.ext (fun G G' s g => g.ext s) s, w (fun _ z => by cases z) o3, w (fun _ z => by cases z) o4, o5, o6, o7, o8, o9, o10, o11.ext nt s⟩, ⟨es, w (fun _ z => by cases z) h3, h4.ext (fun G G' s g => g.ext s) s⟩, h5, h6, h7, h8, h9⟩
theorem MdAt.ext {H H' : Hp} {a : Addr} {M : Mo} {j h c : Addr} (m : MdAt H a M j h c) (s : LamX.ExtN H H') : MdAt H' a M j h c :=
  ⟨s _ _ m.dc (fun _ z => by cases z), edExt m.jn s, s _ _ m.hr (fun _ z => by cases z), s _ _ m.sc (fun _ z => by cases z), m.jh, m.jc, m.hc⟩
/-- more addresses that may change -/
theorem BdAt.more {CG CT CB : Addr} {A L : List Addr} {H H' : Hp} {b so pk : Addr} {M : Mo} {g nl pl : Addr} {log : List En} (h : BdAt CG CT CB A H b so pk M g nl pl log) (s : Same H H') (n : ∀ c ∈ L, H c = none) (d : Dom L H') : BdAt CG CT CB (L ++ A) H' b so pk M g nl pl log := by
  obtain ⟨⟨dx, h1⟩, ⟨⟨dxs, o1⟩, o2, o3, o4, o5, o6, o7, o8, o9, o10, o11⟩, ⟨es, h3, h4⟩, h5, h6, h7, h8, h9⟩ := h
  have r : ∀ {c : Addr}, c ∈ A → c ∈ L ++ A := fun h => List.mem_append_right _ h
  refine ⟨⟨dx, s _ _ h1⟩, ⟨⟨dxs, s _ _ o1⟩, o2.new (sameFr s) n, s _ _ o3, s _ _ o4, o5, o6, o7, r o8, r o9, r o10, fun a ha => ?_⟩, ⟨es, s _ _ h3, h4.new (sameFr s) n⟩, h5, h6, r h7, r h8, h9⟩
  rcases List.mem_append.mp ha with ha | ha
  · exact d a ha
  · exact (o11.same s) a ha
/-- what else among them changes -/
theorem BdAt.keep {CG CT CB : Addr} {A L : List Addr} {H H' : Hp} {b so pk : Addr} {M : Mo} {g nl pl : Addr} {log : List En} (h : BdAt CG CT CB A H b so pk M g nl pl log) (f : FrL L H H') (sub : ∀ c ∈ L, c ∈ A) (n : ∀ c ∈ [b, so, nl, pl, pk], c ∉ L) (d : Dom L H') : BdAt CG CT CB A H' b so pk M g nl pl log := by
  obtain ⟨⟨dx, h1⟩, ⟨⟨dxs, o1⟩, o2, o3, o4, o5, o6, o7, o8, o9, o10, o11⟩, ⟨es, h3, h4⟩, h5, h6, h7, h8, h9⟩ := h
  refine ⟨⟨dx, f _ _ (n _ (by simp)) h1⟩, ⟨⟨dxs, f _ _ (n _ (by simp)) o1⟩, o2.step (f.mono sub), f _ _ (n _ (by simp)) o3, f _ _ (n _ (by simp)) o4, o5, o6, o7, o8, o9, o10, fun a ha => ?_⟩, ⟨es, f _ _ (n _ (by simp)) h3, h4.step (f.mono sub)⟩, h5, h6, h7, h8, h9⟩
  by_cases c : a ∈ L
  · exact d a c
  · obtain ⟨o, e, no⟩ := o11 a ha
    exact ⟨o, f _ _ c e, no⟩
/-- behind an operation -/
theorem NoTb.op {CG CT CB : Addr} {A : List Addr} {H H' : Hp} {b so pk : Addr} {M : Mo} {g nl pl : Addr} {log : List En} (h : NoTb A H) (f : FrL [so, nl, pl, pk] H H') (bd : BdAt CG CT CB A H' b so pk M g nl pl log) : NoTb A H' := fun a ha => by
  obtain ⟨_, ⟨⟨dxs, o1⟩, o2, o3, o4, _⟩, ⟨es, h3, h4⟩, _⟩ := bd
  by_cases c : a ∈ [so, nl, pl, pk]
  · simp only [List.mem_cons, List.not_mem_nil, or_false] at c
    rcases c with rfl | rfl | rfl | rfl
    · exact ⟨_, o1, fun _ z => by cases z⟩
    · exact ⟨_, o3, fun _ z => by cases z⟩
    · exact ⟨_, o4, fun _ z => by cases z⟩
    · exact ⟨_, h3, fun _ z => by cases z⟩
  · obtain ⟨o, e, n⟩ := h a ha
    exact ⟨o, f _ _ c e, n⟩
def spStart : Sp := fun vs H Q _ => ∃ p : Addr, vs = [.ref p] ∧ PoolAt H p ∧ ∀ (a j h c : Addr) (M : Mo) (k : Nat) (H' : Hp), SameX p H H' → PoolAt H' p → H a = none → H j = none → H h = none → H c = none → MdAt H' a M j h c → OkM M → SrtE M.es → M.sc = List.replicate k 0 → 1 ≤ k → k ≤ 3 → (∀ o ∈ M.x, o.natAbs ≤ BIG) → Q (.ref a) H'
def spLooks (CG CT CB : Addr) : Sp := fun vs H Q _ => ∃ (A : List Addr) (b so pk : Addr) (M : Mo) (g nl pl : Addr) (log : List En) (a j h c : Addr), vs = [.ref b, .ref a] ∧ BdAt CG CT CB A H b so pk M g nl pl log ∧ MdAt H a M j h c ∧ (∀ o ∈ M.x, o.natAbs < 10 ^ 100) ∧ (∀ o ∈ M.sc, o.natAbs < 10 ^ 100) ∧ M.sc.length ≤ 16 ∧
  ∀ H', Same H H' → Q (.bl true) H'
theorem depPairs2 : ∀ es : List (Int × Int), PyData.depthAll (es.map pairD) ≤ 2
  | [] => Nat.zero_le _
  | e :: es => by
    have ih := depPairs2 es
    show max (PyData.depth (pairD e)) (PyData.depthAll (es.map pairD)) ≤ 2
    have : PyData.depth (pairD e) ≤ 2 := by
      show PyData.depth (.tuple [.int e.1, .int e.2]) ≤ 2
      simp [PyData.depth, PyData.depthAll]
    omega
theorem shapedNE (n : Int) (es : List (Int × Int)) : SeqAt.shaped (.list [.int n, .list (es.map pairD)]) = true := by
  have h := shapedPairs es
  unfold SeqAt.shaped at h ⊢
  rw [Bool.and_eq_true, decide_eq_true_eq] at h
  have e1 : PyData.canLay0 (.list [.int n, .list (es.map pairD)]) = true := by
    show (true && (PyData.canLay0 (.list (es.map pairD)) && true)) = true
    rw [h.1]
    rfl
  have e2 : PyData.depth (.list [.int n, .list (es.map pairD)]) ≤ 64 := by
    have e3 : PyData.depth (.list (es.map pairD)) ≤ 3 := by
      rw [show PyData.depth (.list (es.map pairD)) = PyData.depthAll (es.map pairD) + 1 from by simp only [PyData.depth]]
      have := depPairs2 es
      omega
    simp only [PyData.depth, PyData.depthAll] at e3 ⊢
    omega
  rw [e1, decide_eq_true e2]
  rfl
section
variable {P : Program} {w : World} {K : PySem.W.Frag} {mg : Str → Option Value} {base : Heap} {CG CT CB CPl CNg CE CM : Addr}
theorem sc_start : FnScope ["_law_pool_here", "_law_many", "_law_joins_here"] ["_law_pool_here"] (defScope s__law_start) := ⟨rfl, rfl, rfl, by decide +kernel, rfl, by decide +kernel, by decide +kernel⟩
theorem ok_start {f : Addr} {fd : FuncData} (F : Fun K "_law_start" "_law_start" s__law_start f fd) (GT : At P w K mg base CX0 1 "_law_take" ["_law_pool_here", "_law_sides"] spTake) (GJ : At P w K mg base CX0 2 "_law_joins" ["_law_pool_here", "_law_many", "_law_top"] spJoins)
    (GNs : At P w K mg base CX0 3 "_law_numbers" ["_law_pool_here", "_law_many"] spNumbers) (GMd : At P w K mg base CX0 1 "_law_model" ["_law_many", "_law_joins_here", "_law_here", "_law_players"] (spModel K)) : FnOk P w K mg base CX0 4 f fd ["_law_pool_here"] spStart := by
  obtain ⟨fT, fdT, GT, mT, kT, bT⟩ := GT
  obtain ⟨fJ, fdJ, GJ, mJ, kJ, bJ⟩ := GJ
  obtain ⟨fNs, fdNs, GNs, mNs, kNs, bNs⟩ := GNs
  obtain ⟨fMd, fdMd, GMd, mMd, kMd, bMd⟩ := GMd
  refine F.ok sc_start (fun vs H Q E h => ?_) (fun cdv A outer s H vs Q E hr h => ?_)
  · obtain ⟨p, rfl, _⟩ := h
    rfl
  · obtain ⟨p, rfl, hp, k⟩ := h
    have nd := sc_start.nd
    refine ⟨_, (pss_cons (ps_set (i := 1) nd rfl (Or.inl rfl) (pe_op op_add pe_int (pe_call GT (hr.mono (by decide)) (by rfl) mT kT bT .nil pass0 (pa_cons (pv 0) (pa_cons pe_int pa_nil)))))
      (pss_cons (ps_set (i := 2) nd rfl (Or.inl rfl) (pe_call GJ (hr.mono (by decide)) (by rfl) mJ kJ bJ .nil pass0 (pa_cons (pv 0) (pa_cons (pv 1) (pa_cons pe_int pa_nil)))))
      (pss_one (ps_ret (pe_call GMd (hr.mono (by decide)) (by rfl) mMd kMd bMd .nil pass0 (pa_cons (pv 1) (pa_cons (pv 2) (pa_cons (pe_call GNs (hr.mono (by decide)) (by rfl) mNs kNs bNs .nil pass0 (pa_cons (pv 0) (pa_cons (pv 1) pa_nil))) (pa_cons (pe_op op_add pe_int (pe_call GT (hr.mono (by decide)) (by rfl) mT kT bT .nil pass0 (pa_cons (pv 0) (pa_cons pe_int pa_nil)))) pa_nil))))))))), ?_⟩
    refine ⟨_, rfl, p, 7, rfl, hp, by decide, by decide, fun r H1 r0 r1 hp1 t1 => ⟨_, _, rfl, rfl, ?_⟩⟩
    obtain ⟨n, hn⟩ : ∃ n : Nat, 1 + r = (n : Int) := ⟨(1 + r).toNat, by omega⟩
    have e1 : ((fun i j : Int => V.int (i + j)) 1 r) = V.int (n : Int) := congrArg V.int hn
    rw [e1]
    have x1 := sameX_take t1
    refine ⟨_, rfl, _, rfl, p, n, 8, rfl, hp1, by omega, by omega, by decide, fun q H2 es nq x2 hp2 hq ge => ?_⟩
    have pq : p ≠ q := hp1.ne nq
    refine ⟨_, rfl, _, rfl, _, rfl, _, rfl, p, n, rfl, hp2, by omega, fun q2 H3 x nq2 x3 hp3 hq2 lx bx => ?_⟩
    have pq2 : p ≠ q2 := hp2.ne nq2
    refine ⟨_, rfl, p, 3, rfl, hp3, by decide, by decide, fun r4 H4 u0 u1 hp4 t4 => ⟨_, _, rfl, rfl, ?_⟩⟩
    obtain ⟨pl, hpl⟩ : ∃ pl : Nat, 1 + r4 = (pl : Int) := ⟨(1 + r4).toNat, by omega⟩
    have e2 : ((fun i j : Int => V.int (i + j)) 1 r4) = V.int (pl : Int) := congrArg V.int hpl
    rw [e2]
    have x4 := sameX_take t4
    have x34 := x3.trans x4
    have x04 := (x1.trans x2).trans x34
    refine ⟨n, pl, q, q2, es, x, rfl, edX hq hp2 pq x34, SqL.of (x4 _ _ pq2.symm hq2), by omega, fun a j h c H5 s5 na nj nh nc m => ?_⟩
    have fr : ∀ {b : Addr}, H4 b = none → H b = none := fun {b} nb => x04.free hp nb hp4
    exact k a j h c _ pl H5 (x04.trans (Same.x s5)) (hp4.same s5) (fr na) (fr nj) (fr nh) (fr nc) m ⟨ge.perm (srtE_perm es), lx, by show 1 ≤ n; omega, by show n ≤ 16; omega, by show (List.replicate pl (0 : Int)).length ≤ 1000; rw [List.length_replicate]; omega⟩ (srtE_srt es) rfl (by omega) (by omega) bx
theorem sc_looks : FnScope ["_law_board_here", "_law_model_here", "_law_graph"] ["_law_board_here", "_law_model_here"] (defScope s__law_looks) := ⟨rfl, rfl, rfl, by decide +kernel, rfl, by decide +kernel, by decide +kernel⟩
theorem ok_looks {f : Addr} {fd : FuncData} (F : Fun K "_law_looks" "_law_looks" s__law_looks f fd) (M : Nms mg) (T : GTxt K mg CG) (B : BTxt K mg CB) (GBg : MAt P w K mg base CB CX0 1 "graph" ["self"] (spBoardGr CG CT CB)) (GBp : MAt P w K mg base CB CX0 1 "position" ["self"] (spBoardPos CG CT CB)) (GBs : MAt P w K mg base CB CX0 1 "scores" ["self"] (spBoardSco CG CT CB))
    (GSz : MAt P w K mg base CG CX0 1 "size" ["self"] (spSizeE CG)) (GEd : MAt P w K mg base CG CX0 1 "edges" ["self"] (spEdgesOf CG)) : GOk P w K mg base 2 f fd ["_law_board_here", "_law_model_here"] (spLooks CG CT CB) := by
  obtain ⟨fBg, fdBg, GBg, mBg, bBg⟩ := GBg
  obtain ⟨fBp, fdBp, GBp, mBp, bBp⟩ := GBp
  obtain ⟨fBs, fdBs, GBs, mBs, bBs⟩ := GBs
  obtain ⟨fSz, fdSz, GSz, mSz, bSz⟩ := GSz
  obtain ⟨fEd, fdEd, GEd, mEd, bEd⟩ := GEd
  refine okG F sc_looks (fun vs H Q E h => ?_) (fun cdv A' outer s H vs Q E hgd hr h => ?_)
  · obtain ⟨A, b, so, pk, M, g, nl, pl, log, a, j, h, c, rfl, _⟩ := h
    rfl
  · obtain ⟨A, b, so, pk, mo, g, nl, pl, log, a, j, h, c, rfl, bd, m, bx, bs, ls, k⟩ := h
    have nd := sc_looks.nd
    have hu64 : A'.units + 3 + 64 < cLine := hr.units
    obtain ⟨dx, h1⟩ := bd.obj
    have hg := bd.st.gr.at
    obtain ⟨dxg, jg, nrg, Ng, og, _⟩ := hg.obj
    refine ⟨_, (pss_cons (ps_set (i := 2) nd rfl (Or.inl rfl) (pe_meth0 (pv 0) B.cl mBg GBg (hr.mono (by decide)) bBg .nil pass0))
      (pss_cons (ps_if (pt_cmpR (show OpR _ (compareOp .NotEq) (rNeD K) from op_neD hu64) (pe_lst (pa_cons (pe_meth0 (pv 2) T.cl mSz GSz (hr.mono (by decide)) bSz .nil pass0) (pa_cons (pe_meth0 (pv 2) T.cl mEd GEd (hr.mono (by decide)) bEd .nil pass0) pa_nil))) (pe_lst (pa_cons (pe_dget (hu_of hr) (pv 1) pe_str (fun _ _ => rfl)) (pa_cons (pe_dget (hu_of hr) (pv 1) pe_str (fun _ _ => rfl)) pa_nil))) (nomark _)) (pss_one (ps_ret pe_bl)) pss_nil)
      (pss_one (ps_ret (pe_cmpR op_eq (pe_callB (show CallR _ (.builtin "repr") (rRepr K) from call_repr hgd hr.units) (by rfl) M.repr boot_repr1 (pa_cons (pe_lst (pa_cons (pe_meth0 (pv 0) B.cl mBp GBp (hr.mono (by decide)) bBp .nil pass0) (pa_cons (pe_meth0 (pv 0) B.cl mBs GBs (hr.mono (by decide)) bBs .nil pass0) pa_nil))) pa_nil)) (pe_callB (show CallR _ (.builtin "repr") (rRepr K) from call_repr hgd hr.units) (by rfl) M.repr boot_repr1 (pa_cons (pe_lst (pa_cons (pe_dget (hu_of hr) (pv 1) pe_str (fun _ _ => rfl)) (pa_cons (pe_dget (hu_of hr) (pv 1) pe_str (fun _ _ => rfl)) pa_nil))) pa_nil)) (nomark _)))))), ?_⟩
    refine ⟨_, rfl, b, dx, _, rfl, h1, rfl, A, b, so, pk, mo, g, nl, pl, log, rfl, bd, ?_⟩
    refine ⟨_, rfl, g, dxg, _, rfl, og, rfl, g, mo.n, mo.es, rfl, hg, _, rfl, g, dxg, _, rfl, og, rfl, g, mo.n, mo.es, rfl, hg, fun q H1 nq s1 hq => ?_⟩
    refine ⟨by show 2 ≤ sizeLine; decide, fun L nL => ?_⟩
    obtain ⟨H2, q2, s2, hL⟩ := newAt (.lst [V.int (mo.n : Int), V.ref q]) nL
    rw [q2]
    have m2 := (m.same s1).same s2
    refine ⟨_, rfl, a, _, rfl, gMany m2.dc, _, rfl, a, _, rfl, gJoins m2.dc, by show 2 ≤ sizeLine; decide, fun L2 nL2 => ?_⟩
    obtain ⟨H3, q3, s3, hL2⟩ := newAt (.lst [V.int (mo.n : Int), V.ref j]) nL2
    rw [q3]
    have m3 := m2.same s3
    obtain ⟨tq, t1, t2⟩ := (hq.same s2).same s3
    obtain ⟨tj, t3, t4⟩ := m3.jn
    refine ⟨.list [.int (mo.n : Int), .list (mo.es.map pairD)], .list [.int (mo.n : Int), .list (mo.es.map pairD)], .lst (SqL.of (s3 _ _ hL)) (.cons (.int _) (.cons (.lst (SqL.of t1) (dpTups t2)) .nil)), .lst (SqL.of hL2) (.cons (.int _) (.cons (.lst (SqL.of t3) (dpTups t4)) .nil)), shapedNE _ _, shapedNE _ _, _, rfl, ?_⟩
    rw [eqvSame (shapedNE _ _)]
    refine iteF ?_
    have bd3 := ((bd.same s1).same s2).same s3
    obtain ⟨dx3, h13⟩ := bd3.obj
    have lx : mo.x.length ≤ 16 := by rw [bd.st.len]; exact hg.n16
    obtain ⟨l1, l2, l3⟩ := shwLine (d := .list [posD mo.x, posD mo.sc]) (shwList (k := 1) (L := 1650) (m := 2) (fun e he => by
      rcases List.mem_cons.mp he with rfl | he
      · exact shwInts (k := 100) (m := 16) (by decide) (by decide) bx lx
      · rw [List.mem_singleton.mp he]
        exact shwInts (k := 100) (m := 16) (by decide) (by decide) bs ls) (by show 2 ≤ 2; decide)) (by decide) (by decide)
    refine ⟨_, rfl, b, dx3, _, rfl, h13, rfl, A, b, so, pk, mo, g, nl, pl, log, rfl, bd3, fun u H4 nu s4 hu => ?_⟩
    have bd4 := bd3.same s4
    obtain ⟨dx4, h14⟩ := bd4.obj
    refine ⟨_, rfl, b, dx4, _, rfl, h14, rfl, A, b, so, pk, mo, g, nl, pl, log, rfl, bd4, fun u2 H5 nu2 s5 hu2 => ?_⟩
    refine ⟨by show 2 ≤ sizeLine; decide, fun L3 nL3 => ?_⟩
    obtain ⟨H6, q6, s6, hL3⟩ := newAt (.lst [V.ref u, V.ref u2]) nL3
    rw [q6]
    refine ⟨_, .list [posD mo.x, posD mo.sc], rfl, .dat (.lst (SqL.of hL3) (.cons (.lst (SqL.of (s6 _ _ (s5 _ _ hu))) (dpInts _)) (.cons (.lst (SqL.of (s6 _ _ hu2)) (dpInts _)) .nil))), l1, l2, l3, ?_⟩
    have m6 := ((m3.same s4).same s5).same s6
    refine ⟨_, rfl, a, _, rfl, gHere m6.dc, _, rfl, a, _, rfl, gScores m6.dc, by show 2 ≤ sizeLine; decide, fun L4 nL4 => ?_⟩
    obtain ⟨H7, q7, s7, hL4⟩ := newAt (.lst [V.ref h, V.ref c]) nL4
    rw [q7]
    have m7 := m6.same s7
    refine ⟨_, .list [posD mo.x, posD mo.sc], rfl, .dat (.lst (SqL.of hL4) (.cons (.lst (SqL.of m7.hr) (dpInts _)) (.cons (.lst (SqL.of m7.sc) (dpInts _)) .nil))), l1, l2, l3, rfl, ?_⟩
    rw [decide_eq_true rfl]
    exact k H7 ((((((s1.trans s2).trans s3).trans s4).trans s5).trans s6).trans s7)
end
end K72
set_option Elab.async false
set_option linter.all false
set_option maxRecDepth 100000
set_option maxHeartbeats 8000000
set_option Elab.async false
set_option linter.all false
set_option maxRecDepth 100000
set_option maxHeartbeats 8000000
namespace K72
open PySem PySem.Spec PyProof.Rows L2 FNX
theorem toldHeadG {K : PySem.W.Frag} {C : Addr} {m : MkC} {r : List (Addr × MkC)} {v : V} {d : PyData} {H : Hp} {Q : VK} (x : PySem.W.exmOne K (.ref C) (.ref C) = some true) (hd : ∀ H', Same H H' → Rd K H' v d)
    (k : ∀ H', Same H H' → m v d H' Q) : told C v H (wErrG K Q ((C, m) :: r)) :=
  fun H' dd s _ hx => ⟨true, x, fun _ => ⟨rfl, dd, v, d, rfl, hx, hd H' s, k H' s⟩, (fun z => nomatch z)⟩
abbrev cl4 (CPl CNg CE CM : Addr) : List (Addr × MkC) := [(CPl, mkV "player"), (CNg, mkV "negative"), (CE, mkV "edge"), (CM, mkV "many")]
/-- what the door keeps of a result -/
abbrev kept (Q : VK) : VK := fun v H' => 2 ≤ sizeLine ∧ ∀ p, H' p = none → ∃ u : V, some (some (V.ref p)) = some (some u) ∧ Q u (upd H' p (.lst [.str "told", v]))
structure Exm4 (K : PySem.W.Frag) (CPl CNg CE CM : Addr) : Prop where
  x00 : PySem.W.exmOne K (.ref CPl) (.ref CPl) = some true
  x10 : PySem.W.exmOne K (.ref CNg) (.ref CPl) = some false
  x11 : PySem.W.exmOne K (.ref CNg) (.ref CNg) = some true
  x20 : PySem.W.exmOne K (.ref CE) (.ref CPl) = some false
  x21 : PySem.W.exmOne K (.ref CE) (.ref CNg) = some false
  x22 : PySem.W.exmOne K (.ref CE) (.ref CE) = some true
  x30 : PySem.W.exmOne K (.ref CM) (.ref CPl) = some false
  x31 : PySem.W.exmOne K (.ref CM) (.ref CNg) = some false
  x32 : PySem.W.exmOne K (.ref CM) (.ref CE) = some false
  x33 : PySem.W.exmOne K (.ref CM) (.ref CM) = some true
def opN : Op → Str
  | .fire _ _ => "fire"
  | .back _ _ => "take_back"
  | .put _ _ => "put"
  | .add _ => "add_node"
  | .drop => "drop_node"
  | .join _ _ => "add_edge"
  | .part _ _ => "remove_edge"
def opI : Op → List Int
  | .fire p v => [(p : Int), (v : Int)]
  | .back p v => [(p : Int), (v : Int)]
  | .put v z => [(v : Int), z]
  | .add z => [z]
  | .drop => []
  | .join a b => [(a : Int), (b : Int)]
  | .part a b => [(a : Int), (b : Int)]
def opD (op : Op) : PyData := .tuple (.str (opN op) :: (opI op).map PyData.int)
def OpS (op : Op) : Prop := ∀ z ∈ opI op, z.natAbs ≤ BIG
def logD (ops : List Op) : PyData := .list (ops.map opD)
theorem opVe (op : Op) : opV op = .str (opN op) :: (opI op).map V.int := by cases op <;> rfl
theorem opDp {K : PySem.W.Frag} {H : Hp} {t : Addr} {op : Op} (h : H t = some (.tup (opV op))) : Dp K H (.ref t) (opD op) := by
  rw [opVe] at h
  exact .tup (SqT.of h) (.cons (.str _) (dpInts _))
theorem dpOps {K : PySem.W.Frag} {H : Hp} : ∀ {ts : List Addr} {ops : List Op}, OpsAt H ts ops → DpAll K H (ts.map V.ref) (ops.map opD)
  | [], [], _ => .nil
  | [], _ :: _, h => by cases h.1
  | _ :: _, [], h => by cases h.1
  | t :: ts, op :: ops, h => by
    obtain ⟨o, h1, h2⟩ := h.2 0 t rfl
    obtain rfl := Option.some.inj h1
    exact .cons (opDp h2) (dpOps ⟨by have := h.1; simpa using this, fun k u e => h.2 (k + 1) u e⟩)
theorem OpsAt.snoc {H : Hp} {ts : List Addr} {ops : List Op} {t : Addr} {op : Op} (h : OpsAt H ts ops) (ht : H t = some (.tup (opV op))) : OpsAt H (ts ++ [t]) (ops ++ [op]) := by
  refine ⟨by rw [List.length_append, List.length_append, h.1]; rfl, fun k u e => ?_⟩
  by_cases hl : k < ts.length
  · rw [List.getElem?_append_left hl] at e
    obtain ⟨o, h1, h2⟩ := h.2 k u e
    exact ⟨o, by rw [List.getElem?_append_left (by rw [← h.1]; exact hl)]; exact h1, h2⟩
  · rw [List.getElem?_append_right (by omega)] at e
    have hk : k = ts.length := by
      have := (List.getElem?_eq_some_iff.mp e).1
      simp at this
      omega
    subst hk
    rw [Nat.sub_self] at e
    obtain rfl := Option.some.inj e
    exact ⟨op, by rw [h.1, List.getElem?_append_right (Nat.le_refl _), Nat.sub_self]; rfl, ht⟩
theorem OpsAt.same {H H' : Hp} {ts : List Addr} {ops : List Op} (h : OpsAt H ts ops) (s : Same H H') : OpsAt H' ts ops := ⟨h.1, fun k t e => by
  obtain ⟨op, h1, h2⟩ := h.2 k t e
  exact ⟨op, h1, s _ _ h2⟩⟩
/-- tuples are never among what changes -/
theorem OpsAt.fr {A L : List Addr} {H H' : Hp} {ts : List Addr} {ops : List Op} (h : OpsAt H ts ops) (f : FrL L H H') (sub : ∀ c ∈ L, c ∈ A) (d : Dom A H) : OpsAt H' ts ops := ⟨h.1, fun k t e => by
  obtain ⟨op, h1, h2⟩ := h.2 k t e
  refine ⟨op, h1, f _ _ (fun hm => ?_) h2⟩
  obtain ⟨o, e1, n1⟩ := d t (sub _ hm)
  rw [h2] at e1
  exact n1 _ (Option.some.inj e1).symm⟩
theorem shwOp {op : Op} (h : OpS op) : Shw 1 200 (opD op) := by
  have hl : (PyData.str (opN op) :: (opI op).map PyData.int).length ≤ 3 := by
    rw [List.length_cons, List.length_map]
    cases op <;> simp [opI]
  refine (shwTup (k := 0) (L := 45) (m := 3) (fun z hz => ?_) hl).mono (by decide) (by decide)
  rcases List.mem_cons.mp hz with rfl | hz
  · have hn : opN op = "fire" ∨ opN op = "take_back" ∨ opN op = "put" ∨ opN op = "add_node" ∨ opN op = "drop_node" ∨ opN op = "add_edge" ∨ opN op = "remove_edge" := by cases op <;> simp [opN]
    rcases hn with e | e | e | e | e | e | e <;> rw [e] <;> exact ⟨by decide +kernel, by decide +kernel, by decide +kernel⟩
  · obtain ⟨i, hi, rfl⟩ := List.mem_map.mp hz
    exact (shwPow (k := 39) (by decide) (by decide) (Nat.lt_of_le_of_lt (h i hi) (by decide +kernel))).mono (by decide) (by decide)
theorem opSm {M : Mo} {op : Op} (h5 : isFive op = true) (ok : okOp M op) (hb : opB op) (n16 : M.n ≤ 16) : OpS op := by
  have b16 : ∀ {v : Nat}, v < M.n → ((v : Nat) : Int).natAbs ≤ BIG := fun {v} hv => by unfold BIG; omega
  intro z hz
  cases op with
  | fire p v =>
    have hp : p ≤ 9 := hb
    simp only [opI, List.mem_cons, List.not_mem_nil, or_false] at hz
    rcases hz with rfl | rfl
    · unfold BIG; omega
    · exact b16 ok
  | back p v => cases h5
  | put v z =>
    simp only [opI, List.mem_cons, List.not_mem_nil, or_false] at hz
    rcases hz with rfl | rfl
    · exact b16 ok
    · exact hb
  | add z =>
    simp only [opI, List.mem_cons, List.not_mem_nil, or_false] at hz
    rcases hz with rfl
    exact hb
  | drop => cases h5
  | join a c =>
    simp only [opI, List.mem_cons, List.not_mem_nil, or_false] at hz
    rcases hz with rfl | rfl
    · exact b16 ok.1
    · exact b16 ok.2
  | part a c =>
    simp only [opI, List.mem_cons, List.not_mem_nil, or_false] at hz
    rcases hz with rfl | rfl
    · exact b16 ok.1
    · exact b16 ok.2
theorem rowLen {n v : Nat} {es : List (Int × Int)} (h : es.length ≤ 40) (hv : v < n) : ((nearF n es).getD v []).length ≤ 80 := by
  rw [nearF_at hv, List.length_mergeSort]
  have : ∀ (fs : List (Int × Int)) (i : Int), (rowOf fs i).length ≤ 2 * fs.length := fun fs i => rowOf_len fs i
  have := this es (v : Int)
  omega
theorem stepBd {M : Mo} {op : Op} {r : Mo × V} {C : Nat} (h : stepM M op = .ok r) (h5 : isFive op = true) (ok : okOp M op) (hb : opB op) (few : M.es.length ≤ 40) (big : BIG ≤ C) (hx : Bd C M.x) : Bd (81 * C) r.1.x := by
  have le : C ≤ 81 * C := by omega
  cases op with
  | fire p v =>
    unfold stepM at h
    dsimp only at h
    split at h
    · cases h
    · split at h
      · cases h
      · injection h with h
        rw [← h]
        exact hx.flip (rowLen few ok)
  | back p v => cases h5
  | put v z =>
    injection h with h
    rw [← h]
    exact (hx.set (Nat.le_trans hb big)).mono le
  | add z =>
    unfold stepM at h
    dsimp only at h
    split at h
    · cases h
    · injection h with h
      rw [← h]
      intro y hy
      rcases List.mem_append.mp hy with hy | hy
      · exact Nat.le_trans (hx y hy) le
      · rw [List.mem_singleton.mp hy]
        exact Nat.le_trans (Nat.le_trans hb big) le
  | drop => cases h5
  | join a c =>
    unfold stepM at h
    dsimp only at h
    split at h
    · cases h
    · split at h
      · cases h
      · injection h with h
        rw [← h]
        exact hx.mono le
  | part a c =>
    unfold stepM at h
    dsimp only at h
    split at h
    · injection h with h
      rw [← h]
      exact hx.mono le
    · cases h
theorem stepSc {M : Mo} {op : Op} {r : Mo × V} {C : Nat} (h : stepM M op = .ok r) (h5 : isFive op = true) (hx : Bd C M.sc) : Bd (C + 1) r.1.sc ∧ r.1.sc.length = M.sc.length := by
  have same : r.1.sc = M.sc → Bd (C + 1) r.1.sc ∧ r.1.sc.length = M.sc.length := fun e => by
    rw [e]
    exact ⟨hx.mono (by omega), rfl⟩
  cases op with
  | fire p v =>
    unfold stepM at h
    dsimp only at h
    split at h
    · cases h
    · split at h
      · cases h
      · injection h with h
        rw [← h]
        refine ⟨(hx.mono (by omega : C ≤ C + 1)).set ?_, List.length_set⟩
        have := hx.getD p
        omega
  | back p v => cases h5
  | put v z =>
    injection h with h
    exact same (by rw [← h])
  | add z =>
    unfold stepM at h
    dsimp only at h
    split at h
    · cases h
    · injection h with h
      exact same (by rw [← h])
  | drop => cases h5
  | join a c =>
    unfold stepM at h
    dsimp only at h
    split at h
    · cases h
    · split at h
      · cases h
      · injection h with h
        exact same (by rw [← h])
  | part a c =>
    unfold stepM at h
    dsimp only at h
    split at h
    · injection h with h
      exact same (by rw [← h])
    · cases h
theorem pow100 {i : Nat} (h : i ≤ 31) : 81 ^ i * BIG < 10 ^ 100 := by
  have : 81 ^ i ≤ 81 ^ 31 := Nat.pow_le_pow_right (by decide) h
  exact Nat.lt_of_le_of_lt (Nat.mul_le_mul_right BIG this) (by decide +kernel)
end K72
set_option Elab.async false
set_option linter.all false
set_option maxRecDepth 100000
set_option maxHeartbeats 8000000
namespace K72
open PySem PySem.Spec PyProof.Rows L2 FNX
/-- lists and instances -/
def Lis (A : List Addr) (H : Hp) : Prop := ∀ a ∈ A, (∃ xs, H a = some (.lst xs)) ∨ ∃ C dx fs, H a = some (.ins C dx fs)
theorem Lis.noTb {A : List Addr} {H : Hp} (h : Lis A H) : NoTb A H := fun a ha => by
  rcases h a ha with ⟨xs, e⟩ | ⟨C, dx, fs, e⟩
  · exact ⟨_, e, fun _ z => by cases z⟩
  · exact ⟨_, e, fun _ z => by cases z⟩
theorem Lis.dom {A : List Addr} {H : Hp} (h : Lis A H) : Dom A H := fun a ha => by
  rcases h a ha with ⟨xs, e⟩ | ⟨C, dx, fs, e⟩
  · exact ⟨_, e, fun _ z => by cases z⟩
  · exact ⟨_, e, fun _ z => by cases z⟩
theorem Lis.same {A : List Addr} {H H' : Hp} (h : Lis A H) (s : Same H H') : Lis A H' := fun a ha => by
  rcases h a ha with ⟨xs, e⟩ | ⟨C, dx, fs, e⟩
  · exact .inl ⟨xs, s _ _ e⟩
  · exact .inr ⟨C, dx, fs, s _ _ e⟩
theorem Lis.ext {A : List Addr} {H H' : Hp} (h : Lis A H) (s : LamX.ExtN H H') : Lis A H' := fun a ha => by
  rcases h a ha with ⟨xs, e⟩ | ⟨C, dx, fs, e⟩
  · exact .inl ⟨xs, s _ _ e fun _ z => by cases z⟩
  · exact .inr ⟨C, dx, fs, s _ _ e fun _ z => by cases z⟩
theorem Lis.fr {A L : List Addr} {H H' : Hp} (h : Lis A H) (f : FrL L H H') (l : Lis L H') : Lis A H' := fun a ha => by
  by_cases c : a ∈ L
  · exact l a c
  · rcases h a ha with ⟨xs, e⟩ | ⟨C, dx, fs, e⟩
    · exact .inl ⟨xs, f _ _ c e⟩
    · exact .inr ⟨C, dx, fs, f _ _ c e⟩
theorem Lis.mono {A B : List Addr} {H : Hp} (h : Lis B H) (s : ∀ c ∈ A, c ∈ B) : Lis A H := fun a ha => h a (s a ha)
theorem BdAt.lis {CG CT CB : Addr} {A : List Addr} {H : Hp} {b so pk : Addr} {M : Mo} {g nl pl : Addr} {log : List En} (bd : BdAt CG CT CB A H b so pk M g nl pl log) : Lis [so, nl, pl, pk] H := fun a ha => by
  obtain ⟨_, ⟨⟨dxs, o1⟩, o2, o3, o4, _⟩, ⟨es, h3, h4⟩, _⟩ := bd
  simp only [List.mem_cons, List.not_mem_nil, or_false] at ha
  rcases ha with rfl | rfl | rfl | rfl
  · exact .inr ⟨_, _, _, o1⟩
  · exact .inl ⟨_, o3⟩
  · exact .inl ⟨_, o4⟩
  · exact .inl ⟨_, h3⟩
theorem BdAt.sub {CG CT CB : Addr} {A : List Addr} {H : Hp} {b so pk : Addr} {M : Mo} {g nl pl : Addr} {log : List En} (bd : BdAt CG CT CB A H b so pk M g nl pl log) : ∀ c ∈ [so, nl, pl, pk], c ∈ A := fun a ha => by
  simp only [List.mem_cons, List.not_mem_nil, or_false] at ha
  rcases ha with rfl | rfl | rfl | rfl
  · exact bd.st.sA
  · exact bd.st.nA
  · exact bd.st.pA
  · exact bd.kA
theorem tabsFr {T : List (Addr × Str)} {L : List Addr} {H H' : Hp} (t : LamX.Tabs T H) (l : Lis L H) (f : FrL L H H') : LamX.Tabs T H' := fun q hq => by
  have no : ∀ {z : Addr} {o : HO}, H z = some o → (∀ xs, o ≠ .lst xs) → (∀ C dx fs, o ≠ .ins C dx fs) → z ∉ L := fun {z o} e n1 n2 hm => by
    rcases l z hm with ⟨xs, e'⟩ | ⟨C, dx, fs, e'⟩
    · rw [e] at e'
      exact n1 _ (Option.some.inj e')
    · rw [e] at e'
      exact n2 _ _ _ (Option.some.inj e')
  obtain ⟨ps, h1, h2, h3⟩ := t q hq
  refine ⟨ps, f _ _ (no h1 (fun _ z => by cases z) (fun _ _ _ z => by cases z)) h1, h2, fun pos cv e => ?_⟩
  obtain ⟨c, h4, h5⟩ := h3 pos cv e
  exact ⟨c, h4, f _ _ (no h5 (fun _ z => by cases z) (fun _ _ _ z => by cases z)) h5⟩
theorem extFr {L : List Addr} {H0 G G' : Hp} (x : LamX.ExtN H0 G) (f : FrL L G G') (n : ∀ z ∈ L, H0 z = none) : LamX.ExtN H0 G' := fun b o e h => f b o (fun hm => by rw [n b hm] at e; cases e) (x b o e h)
theorem frX {p : Addr} {H H' : Hp} (s : SameX p H H') : FrL [p] H H' := fun b o n e => s b o (fun z => n (by rw [z]; simp)) e
theorem MdAt.fr {L : List Addr} {H H' : Hp} {a : Addr} {M : Mo} {j h c : Addr} (m : MdAt H a M j h c) (f : FrL L H H') (l : Lis L H) (n : ∀ z ∈ [a, j, h, c], z ∉ L) : MdAt H' a M j h c :=
  ⟨f _ _ (n _ (by simp)) m.dc, m.jn.keep f (n _ (by simp)) (fun b hb vs z => by
    rcases l b hb with ⟨xs, e⟩ | ⟨C, dx, fs, e⟩
    · rw [z] at e; cases e
    · rw [z] at e; cases e), f _ _ (n _ (by simp)) m.hr, f _ _ (n _ (by simp)) m.sc, m.jh, m.jc, m.hc⟩
theorem sqTFr {K : PySem.W.Frag} {L : List Addr} {H H' : Hp} {t : Addr} {xs : List V} (h : SqT K H t xs) (f : FrL L H H') (l : Lis L H) : SqT K H' t xs := by
  have no : ∀ {z : Addr} {o : HO}, H z = some o → (∀ xs, o ≠ .lst xs) → (∀ C dx fs, o ≠ .ins C dx fs) → z ∉ L := fun {z o} e n1 n2 hm => by
    rcases l z hm with ⟨xs, e'⟩ | ⟨C, dx, fs, e'⟩
    · rw [e] at e'
      exact n1 _ (Option.some.inj e')
    · rw [e] at e'
      exact n2 _ _ _ (Option.some.inj e')
  rcases h with (h | ⟨o, h⟩) | h
  · exact .inl (.inl (f _ _ (no h (fun _ z => by cases z) (fun _ _ _ z => by cases z)) h))
  · exact .inl (.inr ⟨o, f _ _ (no h (fun _ z => by cases z) (fun _ _ _ z => by cases z)) h⟩)
  · exact .inr h
theorem sqTExt {K : PySem.W.Frag} {H H' : Hp} {t : Addr} {xs : List V} (h : SqT K H t xs) (s : LamX.ExtN H H') : SqT K H' t xs := by
  rcases h with (h | ⟨o, h⟩) | h
  · exact .inl (.inl (s _ _ h fun _ z => by cases z))
  · exact .inl (.inr ⟨o, s _ _ h fun _ z => by cases z⟩)
  · exact .inr h
/-- what is due holds no list -/
theorem dueMove {K : PySem.W.Frag} {H H' : Hp} {v : V} {res : Except Er (Mo × V)} (h : Dp K H v (dueW res).2) (hs : ∀ t xs, SqT K H t xs → SqT K H' t xs) : Dp K H' v (dueW res).2 := by
  cases res with
  | ok r =>
    have h : Dp K H v (valD r.2) := h
    show Dp K H' v (valD r.2)
    have e : valD r.2 = .none ∨ ∃ i, valD r.2 = .int i := by
      generalize r.2 = u
      cases u <;> first | exact .inl rfl | exact .inr ⟨_, rfl⟩
    rcases e with e | ⟨i, e⟩
    · rw [e] at h ⊢
      cases h
      exact .non
    · rw [e] at h ⊢
      cases h
      exact .int _
  | error er =>
    cases er with
    | player p => cases (show Dp K H v (.int _) from h); exact .int _
    | neg u => cases (show Dp K H v (.int _) from h); exact .int _
    | many n => cases (show Dp K H v (.int _) from h); exact .int _
    | edge a c =>
      have h : Dp K H v (.tuple [.int (a : Int), .int (c : Int)]) := h
      cases h with
      | tup h1 h2 =>
        cases h2 with
        | cons u1 u2 =>
          cases u1
          cases u2 with
          | cons w1 w2 =>
            cases w1
            cases w2
            exact .tup (hs _ _ h1) (.cons (.int _) (.cons (.int _) .nil))
theorem DueAt.fr {K : PySem.W.Frag} {L : List Addr} {H H' : Hp} {q : Addr} {res : Except Er (Mo × V)} (h : DueAt K H q res) (f : FrL L H H') (l : Lis L H) (n : q ∉ L) : DueAt K H' q res := by
  obtain ⟨v, h1, h2⟩ := h
  exact ⟨v, f _ _ n h1, dueMove h2 fun t xs z => sqTFr z f l⟩
theorem DueAt.ext {K : PySem.W.Frag} {H H' : Hp} {q : Addr} {res : Except Er (Mo × V)} (h : DueAt K H q res) (s : LamX.ExtN H H') : DueAt K H' q res := by
  obtain ⟨v, h1, h2⟩ := h
  exact ⟨v, s _ _ h1 (fun _ z => by cases z), dueMove h2 fun t xs z => sqTExt z s⟩
def dueL (res : Except Er (Mo × V)) : PyData := .list [.str (dueW res).1, (dueW res).2]
theorem DueAt.dp {K : PySem.W.Frag} {H : Hp} {q : Addr} {res : Except Er (Mo × V)} (h : DueAt K H q res) : Dp K H (.ref q) (dueL res) := by
  obtain ⟨v, h1, h2⟩ := h
  exact .lst (SqL.of h1) (.cons (.str _) (.cons h2 .nil))
def DueSm : Except Er (Mo × V) → Prop
  | .error (.player p) => p ≤ 16
  | .error (.neg v) => v ≤ 16
  | .error (.edge a b) => a ≤ 16 ∧ b ≤ 16
  | .error (.many k) => k ≤ 41
  | .ok r => r.2 = .non ∨ ∃ n : Nat, n ≤ 16 ∧ r.2 = .int (n : Int)
theorem dueSm {M : Mo} {op : Op} (h5 : isFive op = true) (ok : okOp M op) (hb : opB op) (n16 : M.n ≤ 16) : DueSm (stepM M op) := by
  cases op with
  | fire p v =>
    have hp : p ≤ 9 := hb
    have hv : v < M.n := ok
    unfold stepM
    dsimp only
    split
    · show p ≤ 16; omega
    · split
      · show v ≤ 16; omega
      · exact .inl rfl
  | back p v => cases h5
  | put v z => exact .inl rfl
  | add z =>
    unfold stepM
    dsimp only
    split
    · show 17 ≤ 41; decide
    · exact .inr ⟨M.n, n16, rfl⟩
  | drop => cases h5
  | join a c =>
    have h1 : a < M.n := ok.1
    have h2 : c < M.n := ok.2
    unfold stepM
    dsimp only
    split
    · exact ⟨by omega, by omega⟩
    · split
      · show 41 ≤ 41; decide
      · exact .inl rfl
  | part a c =>
    have h1 : a < M.n := ok.1
    have h2 : c < M.n := ok.2
    unfold stepM
    dsimp only
    split
    · exact .inl rfl
    · exact ⟨by omega, by omega⟩
theorem shwDue {res : Except Er (Mo × V)} (h : DueSm res) : Shw 2 500 (dueL res) := by
  have sI : ∀ n : Nat, n ≤ 41 → Shw 1 100 (.int (n : Int)) := fun n hn => (shwInt (Nat.lt_of_le_of_lt (show ((n : Nat) : Int).natAbs ≤ 41 by omega) (by decide +kernel))).mono (by decide) (by decide)
  have sN : Shw 1 100 .none := ⟨by decide +kernel, by decide +kernel, by decide +kernel⟩
  have sW : ∀ w : Str, (w = "player" ∨ w = "negative" ∨ w = "edge" ∨ w = "many" ∨ w = "told") → Shw 1 100 (.str w) := fun w hw => by
    rcases hw with rfl | rfl | rfl | rfl | rfl <;> exact ⟨by decide +kernel, by decide +kernel, by decide +kernel⟩
  have mk : ∀ {w : Str} {d : PyData}, (w = "player" ∨ w = "negative" ∨ w = "edge" ∨ w = "many" ∨ w = "told") → Shw 1 100 d → Shw 2 500 (.list [.str w, d]) := fun {w d} hw hd =>
    (shwList (k := 1) (L := 100) (m := 2) (fun e he => by
      rcases List.mem_cons.mp he with rfl | he
      · exact sW w hw
      · rw [List.mem_singleton.mp he]
        exact hd) (by show 2 ≤ 2; decide)).mono (by decide) (by decide)
  cases res with
  | ok r =>
    refine mk (w := "told") (by simp) ?_
    rcases h with e | ⟨n, hn, e⟩
    · show Shw 1 100 (valD r.2)
      rw [e]
      exact sN
    · show Shw 1 100 (valD r.2)
      rw [e]
      exact sI n (by omega)
  | error er =>
    cases er with
    | player p => exact mk (w := "player") (by simp) (sI p (Nat.le_trans h (by decide)))
    | neg u => exact mk (w := "negative") (by simp) (sI u (Nat.le_trans h (by decide)))
    | many n => exact mk (w := "many") (by simp) (sI n h)
    | edge a c =>
      refine mk (w := "edge") (by simp) ?_
      exact (shwTup (k := 0) (L := 13) (m := 2) (fun z hz => by
        rcases List.mem_cons.mp hz with rfl | hz
        · exact shwInt (Nat.lt_of_le_of_lt (show ((a : Nat) : Int).natAbs ≤ 16 by have := h.1; omega) (by decide +kernel))
        · rw [List.mem_singleton.mp hz]
          exact shwInt (Nat.lt_of_le_of_lt (show ((c : Nat) : Int).natAbs ≤ 16 by have := h.2; omega) (by decide +kernel))) (by show 2 ≤ 2; decide)).mono (by decide) (by decide)
theorem neS {x y : Str} (h : x = y) : (!decide (V.str x = V.str y)) = false := by
  rw [h, decide_eq_true rfl]
  rfl
def LI (CG CT CB Pt : Addr) (H0 : Hp) (p b r : Addr) (i : Nat) (G : Hp) (a : Addr) : Prop := ∃ (A : List Addr) (so pk : Addr) (M : Mo) (g nl pl : Addr) (log : List En) (ops : List Op) (ts : List Addr) (j h c : Addr),
  LamX.ExtN H0 G ∧ (∀ z ∈ A, H0 z = none) ∧ PoolAt G p ∧ LamX.Tabs (lamT Pt) G ∧ BdAt CG CT CB A G b so pk M g nl pl log ∧ Lis A G ∧ (p ∈ A ∧ r ∈ A ∧ p ≠ r ∧ ∀ z ∈ [b, so, nl, pl, pk], z ≠ p ∧ z ≠ r) ∧ MdAt G a M j h c ∧ (∀ z ∈ [a, j, h, c], z ∉ A) ∧ G r = some (.lst (ts.map V.ref)) ∧ OpsAt G ts ops ∧ Ones log ops ∧
  log.length ≤ i ∧ Bd (81 ^ i * BIG) M.x ∧ Bd i M.sc ∧ M.sc.length ≤ 3 ∧ ∀ op ∈ ops, OpS op
theorem LI.same {CG CT CB Pt : Addr} {H0 : Hp} {p b r : Addr} {i : Nat} {G G' : Hp} {a : Addr} (h : LI CG CT CB Pt H0 p b r i G a) (s : Same G G') : LI CG CT CB Pt H0 p b r i G' a := by
  obtain ⟨A, so, pk, mo, g, nl, pl, log, ops, ts, j, h, c, xt, fA, hp, tb, bd, lis, ds, m, nA, hrr, ho, ones, hl, bx, bs, ls, os⟩ := h
  exact ⟨A, so, pk, mo, g, nl, pl, log, ops, ts, j, h, c, xt.trans (Same.ext s), fA, hp.same s, Same.tabs s tb, bd.same s, lis.same s, ds, m.same s, nA, s _ _ hrr, ho.same s, ones, hl, bx, bs, ls, os⟩
end K72
set_option Elab.async false
set_option linter.all false
set_option maxRecDepth 100000
set_option maxHeartbeats 4000000
namespace FNX
open PySem PySem.Spec PyProof.Rows L2
/-- what a dict of the top has under a text -/
def KAsk (K : PySem.W.Frag) (w : World) (a : Addr) (x : Str) (r : Option Value) : Prop :=
  ∃ es n, List.lookup a K = some { cls := .type "dict", data := .dict es n } ∧ PySem.W.KeysLit w.params es.toList ∧ PySem.W.nsIn K a x = some r ∧ (a == sysModules) = false
def rNotInC (K : PySem.W.Frag) (w : World) : R2 := fun x y H Q => ∃ (z : Str) (a : Addr) (r : Option Value), x = .str z ∧ y = .ref a ∧ KAsk K w a z r ∧ Q (.bl !r.isSome) H
theorem op_notInC {X : Cx} : OpR X (compareOp .NotIn) (rNotInC X.K X.w) := by
  intro pins s σ H x y v u Q I rx ry h
  obtain ⟨z, a, r, rfl, rfl, ⟨es, n, h1, h2, h3, h4⟩, q⟩ := h
  obtain ⟨t, rfl⟩ := rx
  cases ry
  refine wpAny_notIn_of (knd := PySem.strKind X.prog X.w) (PySem.strKind_is _ _ _ _) h4 (PySem.W.mapOf_K I.kIn h1 h2) ?_
  rw [PySem.W.find_K h1 h3]
  exact ⟨.bl _, H, I.un (t' := s.toks + 1) (Un.kept fun _ _ e => e) (I.hok.kept fun _ _ e => e), rfl, q⟩
end FNX
set_option Elab.async false
set_option linter.all false
set_option maxRecDepth 100000
set_option maxHeartbeats 8000000
namespace K72
open PySem PySem.Spec PyProof.Rows L2 FNX
theorem kitSt (K : PySem.W.Frag) : ∀ d : PyData, PySem.W.kitOne K (.type (tyD d)) (.type "str") = some (match d with | .str _ => true | _ => false)
  | .none => (kit_ty (by decide +kernel) : PySem.W.kitOne K (.type "NoneType") (.type "str") = some false)
  | .bool _ => (kit_ty (by decide +kernel) : PySem.W.kitOne K (.type "bool") (.type "str") = some false)
  | .int _ => (kit_ty (by decide +kernel) : PySem.W.kitOne K (.type "int") (.type "str") = some false)
  | .str _ => (kit_ty (by decide +kernel) : PySem.W.kitOne K (.type "str") (.type "str") = some true)
  | .list _ => (kit_ty (by decide +kernel) : PySem.W.kitOne K (.type "list") (.type "str") = some false)
  | .tuple _ => (kit_ty (by decide +kernel) : PySem.W.kitOne K (.type "tuple") (.type "str") = some false)
  | .dict _ => (kit_ty (by decide +kernel) : PySem.W.kitOne K (.type "dict") (.type "str") = some false)
def spCopied (CG CT : Addr) : Sp := fun vs H Q _ => ∃ (A : List Addr) (so : Addr) (M : Mo) (g nl pl : Addr), vs = [.ref so] ∧ StAt CG CT A H so M g nl pl ∧
  ∀ (so2 nl2 pl2 dx2 : Addr) (H' : Hp), Same H H' → H so2 = none → H nl2 = none → H pl2 = none → nl2 ≠ pl2 → H' so2 = some (.ins CT dx2 (sflds g nl2 pl2)) → H' nl2 = some (.lst (M.x.map V.int)) → H' pl2 = some (.lst (M.sc.map V.int)) → Q (.ref so2) H'
/-- the arguments that an operation takes, as the program's own dict has it -/
def takesD (K : PySem.W.Frag) (aB : Addr) (z : Str) : Option Int := match PySem.W.nsIn K aB z with
  | some (some (.int k _)) => some k
  | _ => none
def AskOk (K : PySem.W.Frag) (w : World) (aB : Addr) (d : PyData) : Prop := ∀ z ds, d = .tuple (.str z :: ds) → ∃ r, KAsk K w aB z r ∧ ∀ u, r = some u → ∃ k tk, u = .int k tk
def opOkD (K : PySem.W.Frag) (aB : Addr) : PyData → Bool
  | .tuple (.str z :: ds) => match takesD K aB z with
    | some k => decide (((ds.length + 1 : Nat) : Int) = 1 + k)
    | none => false
  | _ => false
def spCheckOp (K : PySem.W.Frag) (w : World) (aB CO : Addr) : Sp := fun vs H Q E => ∃ (v : V) (d : PyData), vs = [v] ∧ Rd K H v d ∧ AskOk K w aB d ∧ (opOkD K aB d = false → told CO v H E) ∧ (opOkD K aB d = true → Q .non H)
theorem dpAll0 {K : PySem.W.Frag} {H : Hp} {d : PyData} {ds : List PyData} {ys : List V} (h : DpAll K H ys (d :: ds)) : ∃ y ys', ys = y :: ys' ∧ Dp K H y d := by
  cases h with
  | cons h1 h2 => exact ⟨_, _, rfl, h1⟩
section
variable {P : Program} {w : World} {K : PySem.W.Frag} {mg : Str → Option Value} {base : Heap} {CG CT CB CPl CNg CE CM CN CNu CS CP CO aB : Addr}
theorem sc_copied : FnScope ["self"] ["self"] (defScope s_State_copied) := ⟨rfl, rfl, rfl, by decide +kernel, rfl, by decide +kernel, by decide +kernel⟩
theorem ok_copied {f fSI : Addr} {fd fdSI : FuncData} (F : Fun K "copied" "State.copied" s_State_copied f fd) (S : STxt K mg CT) (MKS : Mk K CT fSI) (GSI : FnOk P w K mg base CX0 1 fSI fdSI ["self", "drawn", "numbers", "points"] (spSInit K CT)) (bSI : L2.Binds K fdSI ["self", "drawn", "numbers", "points"] []) :
    FnOk P w K mg base CX0 3 f fd ["self"] (spCopied CG CT) := by
  refine F.ok sc_copied (fun vs H Q E h => ?_) (fun cdv A' outer s H vs Q E hr h => ?_)
  · obtain ⟨A, so, M, g, nl, pl, rfl, _⟩ := h
    rfl
  · obtain ⟨A, so, M, g, nl, pl, rfl, st, k⟩ := h
    obtain ⟨dx, h1⟩ := st.obj
    refine ⟨_, (pss_one (ps_ret (pe_make MKS GSI (hr.mono (by decide)) (by rfl) S.mgC bSI .nil pass0 (pa_cons (pe_fld (pv 0) rfl) (pa_cons (pe_fld (pv 0) rfl) (pa_cons (pe_fld (pv 0) rfl) pa_nil)))))), ?_⟩
    refine ⟨_, rfl, so, CT, dx, _, _, rfl, h1, S.cl, S.n1, sl_g _ _ _, _, rfl, so, CT, dx, _, _, rfl, h1, S.cl, S.n2, sl_n _ _ _, _, rfl, so, CT, dx, _, _, rfl, h1, S.cl, S.n3, sl_p _ _ _, ?_⟩
    intro so2 ds ns nds ne
    have sx := preS (CG := CT) ns nds ne
    refine ⟨so2, ds, nl, pl, g, _, _, rfl, upd_same, SqL.of (sx _ _ st.num), SqL.of (sx _ _ st.pts), fun nl2 pl2 H4 up hso nnl npl nlpl hnl hpl => ⟨rfl, ?_⟩⟩
    exact k so2 nl2 pl2 ds H4 (fun c o e => up c o (ne_of_none e ns) (sx _ _ e)) ns (sx.free nnl) (sx.free npl) nlpl hso hnl hpl
theorem sc_checkop : FnScope ["thing"] ["thing"] (defScope s_check_operation) := ⟨rfl, rfl, rfl, by decide +kernel, rfl, by decide +kernel, by decide +kernel⟩
theorem ok_checkop {f : Addr} {fd : FuncData} (F : Fun K "check_operation" "check_operation" s_check_operation f fd) (M : Nms mg) (n_str : mg "str" = none) (mB : mg "ARGUMENTS" = some (.ref aB)) (EOp : Ex P w K mg base "InvalidOperation" CO) (tyEOp : PySem.W.typeIn K (.ref CO) = some (.type "type")) :
    FnOk P w K mg base (L2.CX P w) 3 f fd ["thing"] (spCheckOp K w aB CO) := by
  refine F.okX sc_checkop (fun vs H Q E h => ?_) (fun cdv A' outer s H vs Q E hr h => ?_)
  · obtain ⟨v, d, rfl, _⟩ := h
    rfl
  · obtain ⟨v, d, rfl, hd, ask, t, k⟩ := h
    have nd := sc_checkop.nd
    have bad : opOkD K aB d = false → ∀ dd H', H dd = none → Same H H' → H' dd = some (.xd [(("value" : Str), v)]) → E (.ref CO) (some dd) H' := fun e dd H' nd s2 hx => t e H' dd s2 nd hx
    refine ⟨_, (pss_cons (ps_if (PW.pt (pw_or (pt_not (pt_val (pe_callB call_isi (by rfl) M.isi boot_isi (pa_cons (pv 0) (pa_cons (pe_bltn (v := V.ty "tuple") rfl M.tuple (by decide +kernel) rfl) pa_nil))))) (pw_or (pt_cmpR op_eq (pe_callB call_len_seq (by rfl) M.len boot_len1 (pa_cons (pv 0) pa_nil)) pe_int (nomark _)) (pw_or1 (pt_not (pt_val (pe_callB call_isi (by rfl) M.isi boot_isi (pa_cons (pe_ix (r := rIxT K) ix_tup (pv 0) pe_int (fun _ _ => rfl)) (pa_cons (pe_bltn (v := V.ty "str") rfl n_str (by decide +kernel) rfl) pa_nil))))))))) (pss_one (ps_raiseX rfl EOp tyEOp (hr.mono (by decide)) (takes_of rfl rfl rfl rfl) rfl (pa_cons (pv 0) pa_nil))) pss_nil)
      (pss_one (ps_if (PW.pt (pw_or (pt_cmpR (show OpR _ (compareOp .NotIn) (rNotInC K w) from op_notInC) (pe_ix (r := rIxT K) ix_tup (pv 0) pe_int (fun _ _ => rfl)) (pe_glob (v := .ref aB) (by rfl) mB rfl) (by with_unfolding_all rfl)) (pw_or1 (pt_cmpR op_ne (pe_callB call_len_seq (by rfl) M.len boot_len1 (pa_cons (pv 0) pa_nil)) (pe_op op_add pe_int (pe_ix (r := rIxD K w) ix_kdict (pe_glob (v := .ref aB) (by rfl) mB rfl) (pe_ix (r := rIxT K) ix_tup (pv 0) pe_int (fun _ _ => rfl)) (fun _ _ => rfl))) (nomark _))))) (pss_one (ps_raiseX rfl EOp tyEOp (hr.mono (by decide)) (takes_of rfl rfl rfl rfl) rfl (pa_cons (pv 0) pa_nil))) pss_nil))), ?_⟩
    refine ⟨_, rfl, v, _, _, _, _, rfl, .ty _, rdTy hd, kitTu K d, _, rfl, ?_⟩
    cases d with
    | none => exact iteT ⟨_, rfl, v, rfl, bad rfl⟩
    | bool _ => exact iteT ⟨_, rfl, v, rfl, bad rfl⟩
    | int _ => exact iteT ⟨_, rfl, v, rfl, bad rfl⟩
    | str _ => exact iteT ⟨_, rfl, v, rfl, bad rfl⟩
    | list _ => exact iteT ⟨_, rfl, v, rfl, bad rfl⟩
    | dict _ => exact iteT ⟨_, rfl, v, rfl, bad rfl⟩
    | tuple ds =>
      obtain ⟨tt, ys, rfl, ht, hds⟩ := rdTup hd
      have hl := dpAllLen hds
      refine iteF ⟨_, rfl, tt, _, rfl, .inr ht, rfl, _, rfl, ?_⟩
      cases ds with
      | nil =>
        rw [hl]
        rw [decide_eq_true (show V.int ((([] : List PyData).length : Nat) : Int) = V.int 0 from rfl)]
        exact iteT ⟨_, rfl, _, rfl, bad rfl⟩
      | cons d0 ds =>
        rw [hl]
        rw [decide_eq_false (show ¬ V.int (((d0 :: ds).length : Nat) : Int) = V.int 0 from fun z => by injection z with z; rw [List.length_cons] at z; omega)]
        obtain ⟨y, ys', rfl, hy⟩ := dpAll0 hds
        refine iteF ⟨_, rfl, tt, _, (0 : Int), y, rfl, rfl, ht, atI_nat (j := 0) rfl, y, _, _, _, _, rfl, .ty _, rdTy (.dat hy), kitSt K d0, _, rfl, ?_⟩
        cases d0 with
        | none => exact iteT ⟨_, rfl, _, rfl, bad rfl⟩
        | bool _ => exact iteT ⟨_, rfl, _, rfl, bad rfl⟩
        | int _ => exact iteT ⟨_, rfl, _, rfl, bad rfl⟩
        | list _ => exact iteT ⟨_, rfl, _, rfl, bad rfl⟩
        | tuple _ => exact iteT ⟨_, rfl, _, rfl, bad rfl⟩
        | dict _ => exact iteT ⟨_, rfl, _, rfl, bad rfl⟩
        | str z =>
          cases hy
          obtain ⟨r, hr', hu⟩ := ask z ds rfl
          refine iteF ⟨_, rfl, tt, _, (0 : Int), _, rfl, rfl, ht, atI_nat (j := 0) rfl, z, aB, r, rfl, rfl, hr', _, rfl, ?_⟩
          obtain ⟨es, n, a1, a2, a3, a4⟩ := hr'
          cases r with
          | none =>
            have tz : takesD K aB z = none := by
              unfold takesD
              rw [a3]
            have e : opOkD K aB (.tuple (.str z :: ds)) = false := by
              show (match takesD K aB z with | some k => decide (((ds.length + 1 : Nat) : Int) = 1 + k) | none => false) = false
              rw [tz]
            exact iteT ⟨_, rfl, _, rfl, bad e⟩
          | some u =>
            obtain ⟨kk, tk, rfl⟩ := hu u rfl
            refine iteF ⟨_, rfl, tt, _, rfl, .inr ht, _, rfl, tt, _, (0 : Int), _, rfl, rfl, ht, atI_nat (j := 0) rfl, aB, z, .int kk, rfl, rfl, ⟨es, n, _, a1, a2, a3, ⟨tk, rfl⟩⟩, _, _, rfl, rfl, rfl, _, rfl, ?_⟩
            rw [hl]
            have tz : takesD K aB z = some kk := by
              unfold takesD
              rw [a3]
            have e : opOkD K aB (.tuple (.str z :: ds)) = decide (((ds.length + 1 : Nat) : Int) = 1 + kk) := by
              show (match takesD K aB z with | some k => decide (((ds.length + 1 : Nat) : Int) = 1 + k) | none => false) = _
              rw [tz]
            by_cases c : ((ds.length + 1 : Nat) : Int) = 1 + kk
            · rw [show (!decide (V.int (((PyData.str z :: ds).length : Nat) : Int) = V.int (1 + kk))) = false from by
                show (!decide (V.int ((ds.length + 1 : Nat) : Int) = V.int (1 + kk))) = false
                rw [decide_eq_true (congrArg V.int c)]
                rfl]
              exact iteF (k (by rw [e]; exact decide_eq_true c))
            · rw [show (!decide (V.int (((PyData.str z :: ds).length : Nat) : Int) = V.int (1 + kk))) = true from by
                rw [decide_eq_false (fun z => c (by injection z))]
                rfl]
              exact iteT ⟨_, rfl, _, rfl, bad (by rw [e]; exact decide_eq_false c)⟩
end
end K72
set_option Elab.async false
set_option linter.all false
set_option maxRecDepth 100000
set_option maxHeartbeats 8000000
namespace K72
open PySem PySem.Spec PyProof.Rows L2 FNX
inductive Itm
  | op (o : Op)
  | bad
/-- an entry of what is performed together -/
def ItmAt (K : PySem.W.Frag) (w : World) (aB : Addr) (H : Hp) (v : V) (d : PyData) : Itm → Prop
  | .op o => (∃ t, v = .ref t ∧ H t = some (.tup (opV o))) ∧ d = opD o ∧ isFive o = true ∧ opOkD K aB d = true ∧ AskOk K w aB d
  | .bad => Rd K H v d ∧ opOkD K aB d = false ∧ AskOk K w aB d
theorem ItmAt.same {K : PySem.W.Frag} {w : World} {aB : Addr} {H H' : Hp} {v : V} {d : PyData} {it : Itm} (h : ItmAt K w aB H v d it) (s : Same H H') : ItmAt K w aB H' v d it := by
  cases it with
  | op o =>
    obtain ⟨⟨t, rfl, h1⟩, h2⟩ := h
    exact ⟨⟨t, rfl, s _ _ h1⟩, h2⟩
  | bad => exact ⟨rdSame s h.1, h.2⟩
def runI : Mo → List Itm → Except (Nat × Option Er) (Mo × List V × List Op)
  | M, [] => .ok (M, [], [])
  | M, .bad :: _ => .error (0, none)
  | M, .op o :: r => match stepM M o with
    | .error e => .error (0, some e)
    | .ok (M', v) => match runI M' r with
      | .error (k, e) => .error (k + 1, e)
      | .ok (M'', vs, ivs) => .ok (M'', v :: vs, invM M o :: ivs)
def okI : Mo → List Itm → Prop
  | _, [] => True
  | _, .bad :: _ => True
  | M, .op o :: r => okOp M o ∧ ∀ M' v, stepM M o = .ok (M', v) → okI M' r
def itmOp : Itm → Option Op
  | .op o => some o
  | .bad => none
/-- what a run has left to do -/
def togErr (CO CPl CNg CE CM : Addr) (vs : List V) (ke : Nat × Option Er) (H : Hp) (E : XK) : Prop := match ke with
  | (k, none) => ∀ v, vs[k]? = some v → told CO v H E
  | (_, some er) => toldEr CPl CNg CE CM er H E
theorem togErr.same {CO CPl CNg CE CM : Addr} {vs : List V} {ke : Nat × Option Er} {H H1 : Hp} {E : XK} (h : togErr CO CPl CNg CE CM vs ke H E) (s : Same H H1) : togErr CO CPl CNg CE CM vs ke H1 E := by
  obtain ⟨k, _ | er⟩ := ke
  · exact fun v hv H' dd s' nd hx => h v hv H' dd (s.trans s') (s.free nd) hx
  · exact (show toldEr CPl CNg CE CM er H E from h).same s
def spTog (K : PySem.W.Frag) (w : World) (aB CG CT CB CPl CNg CE CM CO : Addr) : Sp := fun vs H Q E => ∃ (A : List Addr) (b so pk : Addr) (M : Mo) (g nl pl : Addr) (log : List En) (L : Addr) (xs : List V) (ds : List PyData) (its : List Itm), vs = [.ref b, .ref L] ∧ BdAt CG CT CB A H b so pk M g nl pl log ∧ log.length < 1000 ∧ (H L = some (.lst xs) ∨ H L = some (.tup xs)) ∧
  xs.length ≤ 100 ∧ xs.length = its.length ∧ xs.length = ds.length ∧ (∀ (k : Nat) (v : V), xs[k]? = some v → ∃ d it, ds[k]? = some d ∧ its[k]? = some it ∧ ItmAt K w aB H v d it) ∧ okI M its ∧
  (match runI M its with
  | .error ke => togErr CO CPl CNg CE CM xs ke H E
  | .ok r => ∀ (A' : List Addr) (so2 nl2 pl2 g' q : Addr) (ops : List Op) (H' : Hp), FrL [b, pk] H H' → (∀ z ∈ A, z ∈ A') → (∀ z ∈ A', z ∈ A ∨ H z = none) → (Lis A H → Lis A' H') → its.map itmOp = ops.map some → BdAt CG CT CB A' H' b so2 pk r.1 g' nl2 pl2 (log ++ [.many ops r.2.2.reverse]) → (∀ z ∈ [so2, nl2, pl2], H z = none) → H q = none → H' q = some (.lst r.2.1) → Q (.ref q) H')
/-- the results so far -/
theorem runI_snoc {M M1 M2 : Mo} {its : List Itm} {o : Op} {vs : List V} {ivs : List Op} {v : V} (h : runI M its = .ok (M1, vs, ivs)) (e : stepM M1 o = .ok (M2, v)) : runI M (its ++ [Itm.op o]) = .ok (M2, vs ++ [v], ivs ++ [invM M1 o]) := by
  induction its generalizing M vs ivs with
  | nil =>
    injection h with h
    injection h with h1 h2
    injection h2 with h2 h3
    subst h1 h2 h3
    show (match stepM M o with | .error e => Except.error (0, some e) | .ok (M', v) => match runI M' [] with | .error (k, e) => Except.error (k + 1, e) | .ok (M'', vs, ivs) => Except.ok (M'', v :: vs, invM M o :: ivs)) = _
    rw [e]
    rfl
  | cons it its ih =>
    cases it with
    | bad => cases h
    | op p =>
      have h : (match stepM M p with | .error e => Except.error (0, some e) | .ok (M', v) => match runI M' its with | .error (k, e) => Except.error (k + 1, e) | .ok (M'', vs, ivs) => Except.ok (M'', v :: vs, invM M p :: ivs)) = .ok (M1, vs, ivs) := h
      show (match stepM M p with | .error e => Except.error (0, some e) | .ok (M', v) => match runI M' (its ++ [Itm.op o]) with | .error (k, e) => Except.error (k + 1, e) | .ok (M'', vs, ivs) => Except.ok (M'', v :: vs, invM M p :: ivs)) = _
      cases e1 : stepM M p with
      | error er => rw [e1] at h; cases h
      | ok r =>
        obtain ⟨M', v'⟩ := r
        rw [e1] at h
        dsimp only at h ⊢
        cases e2 : runI M' its with
        | error ke => rw [e2] at h; cases h
        | ok r2 =>
          obtain ⟨Ma, va, ia⟩ := r2
          rw [e2] at h
          injection h with h
          injection h with h1 h2
          injection h2 with h2 h3
          subst h1 h2 h3
          rw [ih e2]
          rfl
theorem runI_fail {M M1 : Mo} {its r : List Itm} {o : Op} {vs : List V} {ivs : List Op} {er : Er} (h : runI M its = .ok (M1, vs, ivs)) (e : stepM M1 o = .error er) : runI M (its ++ Itm.op o :: r) = .error (its.length, some er) := by
  induction its generalizing M vs ivs with
  | nil =>
    injection h with h
    injection h with h1 h2
    subst h1
    show (match stepM M o with | .error e => Except.error (0, some e) | .ok (M', v) => match runI M' r with | .error (k, e) => Except.error (k + 1, e) | .ok (M'', vs, ivs) => Except.ok (M'', v :: vs, invM M o :: ivs)) = _
    rw [e]
    rfl
  | cons it its ih =>
    cases it with
    | bad => cases h
    | op p =>
      have h : (match stepM M p with | .error e => Except.error (0, some e) | .ok (M', v) => match runI M' its with | .error (k, e) => Except.error (k + 1, e) | .ok (M'', vs, ivs) => Except.ok (M'', v :: vs, invM M p :: ivs)) = .ok (M1, vs, ivs) := h
      show (match stepM M p with | .error e => Except.error (0, some e) | .ok (M', v) => match runI M' (its ++ Itm.op o :: r) with | .error (k, e) => Except.error (k + 1, e) | .ok (M'', vs, ivs) => Except.ok (M'', v :: vs, invM M p :: ivs)) = _
      cases e1 : stepM M p with
      | error er => rw [e1] at h; cases h
      | ok q =>
        obtain ⟨M', v'⟩ := q
        rw [e1] at h
        dsimp only at h ⊢
        cases e2 : runI M' its with
        | error ke => rw [e2] at h; cases h
        | ok r2 =>
          obtain ⟨Ma, va, ia⟩ := r2
          rw [e2] at h
          injection h with h
          injection h with h1 h2
          subst h1
          rw [ih e2]
          rfl
theorem runI_bad {M M1 : Mo} {its r : List Itm} {vs : List V} {ivs : List Op} (h : runI M its = .ok (M1, vs, ivs)) : runI M (its ++ Itm.bad :: r) = .error (its.length, none) := by
  induction its generalizing M M1 vs ivs with
  | nil => rfl
  | cons it its ih =>
    cases it with
    | bad => cases h
    | op p =>
      have h : (match stepM M p with | .error e => Except.error (0, some e) | .ok (M', v) => match runI M' its with | .error (k, e) => Except.error (k + 1, e) | .ok (M'', vs, ivs) => Except.ok (M'', v :: vs, invM M p :: ivs)) = .ok (M1, vs, ivs) := h
      show (match stepM M p with | .error e => Except.error (0, some e) | .ok (M', v) => match runI M' (its ++ Itm.bad :: r) with | .error (k, e) => Except.error (k + 1, e) | .ok (M'', vs, ivs) => Except.ok (M'', v :: vs, invM M p :: ivs)) = _
      cases e1 : stepM M p with
      | error er => rw [e1] at h; cases h
      | ok q =>
        obtain ⟨M', v'⟩ := q
        rw [e1] at h
        dsimp only at h ⊢
        cases e2 : runI M' its with
        | error ke => rw [e2] at h; cases h
        | ok r2 =>
          obtain ⟨Ma, va, ia⟩ := r2
          rw [e2] at h
          rw [ih e2]
          rfl
theorem okI_at {M M1 : Mo} {its r : List Itm} {o : Op} {vs : List V} {ivs : List Op} (h : runI M its = .ok (M1, vs, ivs)) (ok : okI M (its ++ Itm.op o :: r)) : okOp M1 o := by
  induction its generalizing M vs ivs with
  | nil =>
    injection h with h
    injection h with h1 h2
    subst h1
    exact ok.1
  | cons it its ih =>
    cases it with
    | bad => cases h
    | op p =>
      have h : (match stepM M p with | .error e => Except.error (0, some e) | .ok (M', v) => match runI M' its with | .error (k, e) => Except.error (k + 1, e) | .ok (M'', vs, ivs) => Except.ok (M'', v :: vs, invM M p :: ivs)) = .ok (M1, vs, ivs) := h
      cases e1 : stepM M p with
      | error er => rw [e1] at h; cases h
      | ok q =>
        obtain ⟨M', v'⟩ := q
        rw [e1] at h
        dsimp only at h
        cases e2 : runI M' its with
        | error ke => rw [e2] at h; cases h
        | ok r2 =>
          obtain ⟨Ma, va, ia⟩ := r2
          rw [e2] at h
          injection h with h
          injection h with h1 h2
          subst h1
          exact ih (vs := va) (ivs := ia) e2 (ok.2 M' v' e1)
theorem runI_ops {M : Mo} {its : List Itm} {r : Mo × List V × List Op} (h : runI M its = .ok r) : ∃ ops : List Op, its.map itmOp = ops.map some := by
  induction its generalizing M r with
  | nil => exact ⟨[], rfl⟩
  | cons it its ih =>
    cases it with
    | bad => cases h
    | op p =>
      have h : (match stepM M p with | .error e => Except.error (0, some e) | .ok (M', v) => match runI M' its with | .error (k, e) => Except.error (k + 1, e) | .ok (M'', vs, ivs) => Except.ok (M'', v :: vs, invM M p :: ivs)) = .ok r := h
      cases e1 : stepM M p with
      | error er => rw [e1] at h; cases h
      | ok q =>
        obtain ⟨M', v'⟩ := q
        rw [e1] at h
        dsimp only at h
        cases e2 : runI M' its with
        | error ke => rw [e2] at h; cases h
        | ok r2 =>
          obtain ⟨ops, ho⟩ := ih e2
          exact ⟨p :: ops, by rw [List.map_cons, List.map_cons, ho]; rfl⟩
theorem OpsAt.rev {H : Hp} {ts : List Addr} {ops : List Op} (h : OpsAt H ts ops) : OpsAt H ts.reverse ops.reverse := by
  refine ⟨by rw [List.length_reverse, List.length_reverse, h.1], fun k t e => ?_⟩
  have hk : k < ts.length := by
    have := (List.getElem?_eq_some_iff.mp e).1
    rwa [List.length_reverse] at this
  rw [List.getElem?_reverse hk] at e
  rw [List.getElem?_reverse (by rw [← h.1]; exact hk), ← h.1]
  exact h.2 _ t e
/-- the operations' own tuples -/
theorem itmRefs {K : PySem.W.Frag} {w : World} {aB : Addr} {H : Hp} {xs : List V} {ds : List PyData} {its : List Itm} {ops : List Op} (ho : its.map itmOp = ops.map some) (lit : xs.length = its.length)
    (hit : ∀ (k : Nat) (v : V), xs[k]? = some v → ∃ d it, ds[k]? = some d ∧ its[k]? = some it ∧ ItmAt K w aB H v d it) : ∃ ts : List Addr, xs = ts.map V.ref ∧ OpsAt H ts ops := by
  induction xs generalizing ds its ops with
  | nil =>
    have : its = [] := List.eq_nil_of_length_eq_zero (by rw [← lit]; rfl)
    subst this
    have : ops = [] := by
      cases ops with
      | nil => rfl
      | cons a b => cases ho
    subst this
    exact ⟨[], rfl, rfl, fun k t e => by simp at e⟩
  | cons x xs ih =>
    obtain ⟨d, it, hd, hi, hat⟩ := hit 0 x rfl
    cases its with
    | nil => cases lit
    | cons i0 its =>
      obtain rfl := Option.some.inj hi
      cases ops with
      | nil => cases ho
      | cons o ops =>
        rw [List.map_cons, List.map_cons] at ho
        injection ho with ho1 ho2
        cases i0 with
        | bad => cases ho1
        | op o' =>
          obtain rfl := Option.some.inj ho1
          obtain ⟨⟨t, rfl, ht⟩, _⟩ := hat
          cases ds with
          | nil => cases hd
          | cons d0 ds =>
            obtain ⟨ts, rfl, hts⟩ := ih (ds := ds) (its := its) ho2 (by simpa using lit) (fun k v e => hit (k + 1) v e)
            exact ⟨t :: ts, rfl, by rw [List.length_cons, List.length_cons, hts.1], fun k u e => by
              cases k with
              | zero =>
                obtain rfl := Option.some.inj e
                exact ⟨_, rfl, ht⟩
              | succ k => exact hts.2 k u e⟩
theorem takeSucc {α : Type} {l : List α} {i : Nat} {x : α} (h : l[i]? = some x) : l = l.take i ++ x :: l.drop (i + 1) := by
  obtain ⟨h1, h2⟩ := List.getElem?_eq_some_iff.mp h
  rw [← h2, List.getElem_cons_drop, List.take_append_drop]
section
variable {P : Program} {w : World} {K : PySem.W.Frag} {mg : Str → Option Value} {base : Heap} {CG CT CB CPl CNg CE CM CN CNu CS CP CO aB : Addr}
theorem sc_tog : FnScope ["self", "operations", "trial", "results", "undoing", "operation", "result", "inverse"] ["self", "operations"] (defScope s_Board_together) := ⟨rfl, rfl, rfl, by decide +kernel, rfl, by decide +kernel, by decide +kernel⟩
theorem ok_tog {f : Addr} {fd : FuncData} (F : Fun K "together" "Board.together" s_Board_together f fd) (M : Nms mg) (S : STxt K mg CT) (B : BTxt K mg CB) (GCd : MAt P w K mg base CT CX0 3 "copied" ["self"] (spCopied CG CT))
    (GCo : At P w K mg base (L2.CX P w) 3 "check_operation" ["thing"] (spCheckOp K w aB CO)) (GPe : At P w K mg base (L2.CX P w) 9 "perform" ["state", "operation"] (spPerform CG CT CPl CNg CE CM)) :
    FnOk P w K mg base (L2.CX P w) 10 f fd ["self", "operations"] (spTog K w aB CG CT CB CPl CNg CE CM CO) := by
  obtain ⟨fCd, fdCd, GCd, mCd, bCd⟩ := GCd
  obtain ⟨fCo, fdCo, GCo, mCo, kCo, bCo⟩ := GCo
  obtain ⟨fPe, fdPe, GPe, mPe, kPe, bPe⟩ := GPe
  refine F.okX sc_tog (fun vs H Q E h => ?_) (fun cdv A' outer s H vs Q E hr h => ?_)
  · obtain ⟨A, b, so, pk, mo, g, nl, pl, log, L, xs, ds, its, rfl, _⟩ := h
    rfl
  · obtain ⟨A, b, so, pk, mo, g, nl, pl, log, L, xs, ds, its, rfl, bd, hlog, hL, lx, lit, lds, hit, ok, hd⟩ := h
    have nd := sc_tog.nd
    obtain ⟨dx, h1⟩ := bd.obj
    obtain ⟨dxs, hs⟩ := bd.st.obj
    rcases hL with hL | hL
    · refine ⟨_, (pss_cons (ps_if (pt_not (pt_val (pe_callB call_isiT (by rfl) M.isi boot_isi (pa_cons (pv 1) (pa_cons (pe_tup (pa_cons (pe_bltn (v := V.ty "list") rfl M.list (by decide +kernel) rfl) (pa_cons (pe_bltn (v := V.ty "tuple") rfl M.tuple (by decide +kernel) rfl) pa_nil))) pa_nil))))) (pss_one ps_never) pss_nil)
      (pss_cons (ps_set (i := 2) nd rfl (Or.inl rfl) (pe_meth0 (pe_fld (pv 0) rfl) S.cl mCd GCd (hr.mono (by decide)) bCd .nil pass0))
      (pss_cons (ps_set (i := 3) nd rfl (Or.inl rfl) (pe_lst pa_nil))
      (pss_cons (ps_set (i := 4) nd rfl (Or.inl rfl) (pe_lst pa_nil))
      (pss_cons (ps_for PassesOwn.leaving rfl (pi_list (pv 1)) (pg_name (i := 5) nd rfl (Or.inl rfl)) (pss_cons (ps_expr (pe_call GCo (hr.mono (by decide)) (by rfl) mCo kCo bCo .nil (passes_call (E := E) (takes_of rfl rfl rfl rfl) (fun _ _ _ _ h => h)) (pa_cons (pv 5) pa_nil)))
      (pss_cons (ps_asg (pe_call GPe (hr.mono (by decide)) (by rfl) mPe kPe bPe .nil (passes_call (E := E) (takes_of rfl rfl rfl rfl) (fun _ _ _ _ h => h)) (pa_cons (pv 2) (pa_cons (pv 5) pa_nil))) (pg_tup rfl (pgs_cons (pg_name (i := 6) nd rfl (Or.inl rfl)) (pgs_cons (pg_name (i := 7) nd rfl (Or.inl rfl)) pgs_nil))))
      (pss_cons (ps_expr (pe_bm PySem.F.plainAttrs_list PySem.F.slot_list_append PySem.F.type_list_append mt_append (pv 3) (pa_cons (pv 6) pa_nil)))
      (pss_one (ps_expr (pe_bm PySem.F.plainAttrs_list PySem.F.slot_list_append PySem.F.type_list_append mt_append (pv 4) (pa_cons (pv 7) pa_nil))))))))
      (pss_cons (ps_fld (pv 0) (pv 2) rfl)
      (pss_cons (ps_expr (pe_bm PySem.F.plainAttrs_list PySem.F.slot_list_append PySem.F.type_list_append mt_append (pe_fld (pv 0) rfl) (pa_cons (pe_tup (pa_cons (pe_tup (pa_cons pe_str (pa_cons (pe_callTy call_list_of (by rfl) M.list (by decide +kernel) (pa_cons (pv 1) pa_nil)) pa_nil))) (pa_cons (pe_revL (pv 4)) pa_nil))) pa_nil)))
      (pss_one (ps_ret (pv 3)))))))))), ?_⟩
      refine ⟨_, rfl, by show 2 ≤ sizeLine; decide, fun tp ntp => ⟨.ref L, tp, _, _, _, _, rfl, upd_same, .cons (.ty _) (.cons (.ty _) .nil), .base (.lst (same_upd ntp _ _ hL)), kitLT K, _, rfl, iteF ?_⟩⟩
      obtain ⟨H1, q1, s1, _⟩ := newAt (.tup [V.ty "list", V.ty "tuple"]) ntp
      rw [q1]
      have bd1 := bd.same s1
      refine ⟨_, rfl, b, CB, dx, _, _, rfl, s1 _ _ h1, B.cl, B.n1, bl_s _ _, so, dxs, _, rfl, s1 _ _ hs, rfl, A, so, mo, g, nl, pl, rfl, bd1.st, fun so2 nl2 pl2 dx2 H2 s2 nso nnl npl nlpl hso hnl hpl => ?_⟩
      refine ⟨by show 0 ≤ sizeLine; decide, fun rq nrq => ?_⟩
      obtain ⟨H3, q3, s3, hrq⟩ := newAt (.lst []) nrq
      rw [q3]
      refine ⟨by show 0 ≤ sizeLine; decide, fun uq nuq => ?_⟩
      obtain ⟨H4, q4, s4, huq⟩ := newAt (.lst []) nuq
      rw [q4]
      have s02 := s1.trans s2
      have s24 := s3.trans s4
      have s04 := s02.trans s24
      have nso0 := s1.free nso
      have nnl0 := s1.free nnl
      have npl0 := s1.free npl
      have f2 : ∀ z ∈ [so2, nl2, pl2], H z = none := fun z hz => by
        simp only [List.mem_cons, List.not_mem_nil, or_false] at hz
        rcases hz with q | q | q <;> rw [q] <;> assumption
      have hso4 := s24 _ _ hso
      have hnl4 := s24 _ _ hnl
      have hpl4 := s24 _ _ hpl
      have rqN : ∀ z ∈ [so2, nl2, pl2], z ≠ rq ∧ z ≠ uq := fun z hz => by
        simp only [List.mem_cons, List.not_mem_nil, or_false] at hz
        rcases hz with q | q | q <;> rw [q]
        · exact ⟨ne_of_none hso nrq, ne_of_none (s3 _ _ hso) nuq⟩
        · exact ⟨ne_of_none hnl nrq, ne_of_none (s3 _ _ hnl) nuq⟩
        · exact ⟨ne_of_none hpl nrq, ne_of_none (s3 _ _ hpl) nuq⟩
      have rqu : rq ≠ uq := ne_of_none hrq nuq
      have nrq0 : H rq = none := s02.free nrq
      have nuq0 : H uq = none := s02.free (s3.free nuq)
      have f5 : ∀ z ∈ [so2, nl2, pl2, rq, uq], H z = none := fun z hz => by
        simp only [List.mem_cons, List.not_mem_nil, or_false] at hz
        rcases hz with q | q | q | q | q <;> rw [q] <;> assumption
      have l5 : Lis [so2, nl2, pl2, rq, uq] H4 := fun z hz => by
        simp only [List.mem_cons, List.not_mem_nil, or_false] at hz
        rcases hz with q | q | q | q | q <;> rw [q]
        · exact .inr ⟨_, _, _, hso4⟩
        · exact .inl ⟨_, hnl4⟩
        · exact .inl ⟨_, hpl4⟩
        · exact .inl ⟨_, s4 _ _ hrq⟩
        · exact .inl ⟨_, huq⟩
      have st4 : StAt CG CT ([so2, nl2, pl2, rq, uq] ++ A) H4 so2 mo g nl2 pl2 := ⟨⟨dx2, hso4⟩, bd.st.gr.new (sameFr s04) f5, hnl4, hpl4, nlpl, bd.st.len, bd.st.few, by simp, by simp, by simp, fun z hz => by
        rcases List.mem_append.mp hz with hz | hz
        · exact l5.dom z hz
        · exact (bd.st.dom.same s04) z hz⟩
      refine ⟨_, rfl, L, rfl, ⟨_, SqL.of (s04 _ _ hL)⟩, for_list (K := K) (a := L) (xs := xs) (fun i σ G => ∃ (o5 o6 o7 : Option V) (Mi : Mo) (gi : Addr) (vals : List V) (ivs : List Op) (us : List Addr), σ = [some (.ref b), some (.ref L), some (.ref so2), some (.ref rq), some (.ref uq), o5, o6, o7] ∧ Same H G ∧ Lis [so2, nl2, pl2, rq, uq] G ∧
        StAt CG CT ([so2, nl2, pl2, rq, uq] ++ A) G so2 Mi gi nl2 pl2 ∧ G rq = some (.lst vals) ∧ G uq = some (.lst (us.map V.ref)) ∧ OpsAt G us ivs ∧ vals.length = i ∧ us.length = i ∧ runI mo (its.take i) = .ok (Mi, vals, ivs))
        ⟨_, _, _, mo, g, [], [], [], rfl, s04, l5, st4, s4 _ _ hrq, huq, ⟨rfl, fun k t e => by simp at e⟩, rfl, rfl, rfl⟩ (fun i σ G _ hP => ?_) (fun i x σ G hx hP => ?_) (fun σ G hP => ?_)⟩
      · obtain ⟨_, _, _, _, _, _, _, _, _, s, _⟩ := hP
        exact SqL.of (s _ _ hL)
      · obtain ⟨o5, o6, o7, Mi, gi, vals, ivs, us, rfl, s0, ls, st, hr, hu, ho, lv, lu, run⟩ := hP
        obtain ⟨d, it, hd', hi', iat⟩ := hit i x hx
        have hli : i < its.length := (List.getElem?_eq_some_iff.mp hi').1
        have split := takeSucc hi'
        have ltk : (its.take i).length = i := by rw [List.length_take]; omega
        have iatG := iat.same s0
        cases it with
        | bad =>
          refine ⟨_, rfl, x, d, rfl, iatG.1, iatG.2.2, fun _ => ?_, fun e => by rw [iatG.2.1] at e; cases e⟩
          have e : runI mo its = .error (i, none) := by
            have := runI_bad (r := its.drop (i + 1)) run
            rw [← split, ltk] at this
            exact this
          rw [e] at hd
          have hd : ∀ v, xs[i]? = some v → told CO v H E := hd
          exact fun H' dd s' nd' hx' => hd x hx H' dd (s0.trans s') (s0.free nd') hx'
        | op o =>
          obtain ⟨⟨t, rfl, ht⟩, rfl, h5, okD, ask⟩ := iatG
          refine ⟨_, rfl, .ref t, opD o, rfl, .dat (opDp ht), ask, fun e => (by rw [okD] at e; cases e), fun _ => ?_⟩
          have okOpI : okOp Mi o := okI_at (r := its.drop (i + 1)) run (by rw [← split]; exact ok)
          refine ⟨_, rfl, _, rfl, [so2, nl2, pl2, rq, uq] ++ A, so2, Mi, gi, nl2, pl2, t, o, rfl, h5, ht, st, okOpI, ?_⟩
          unfold opDone
          cases e : stepM Mi o with
          | error er =>
            have e2 : runI mo its = .error (i, some er) := by
              have := runI_fail (r := its.drop (i + 1)) run e
              rw [← split, ltk] at this
              exact this
            rw [e2] at hd
            exact (show toldEr CPl CNg CE CM er H E from hd).same s0
          | ok r =>
            intro T iv g' G1 f1 st1 nT hT hiv
            have s1G : Same H G1 := fun z y e => f1 z y (fun hm => by rw [f2 z hm] at e; cases e) (s0 z y e)
            have hr1 := f1 _ _ (fun hm => (rqN rq hm).1 rfl) hr
            have hu1 := f1 _ _ (fun hm => (rqN uq hm).2 rfl) hu
            have ho1 : OpsAt G1 us ivs := ho.fr f1 (fun z hz => List.mem_append_left _ (by simp only [List.mem_cons, List.not_mem_nil, or_false] at hz ⊢; rcases hz with q | q | q <;> simp [q])) st.dom
            refine ⟨T, _, rfl, SqT.of hT, rfl, _, _, rfl, _, _, rfl, rfl, ?_⟩
            refine ⟨_, rfl, .inl ⟨rfl, _, SqL.of hr1⟩, _, rfl, rq, _, _, rfl, rfl, hr1, by rw [lv, sizeLine_eq]; omega, ?_⟩
            obtain ⟨G2, q2⟩ : ∃ G2, upd G1 rq (.lst (vals ++ [r.2])) = G2 := ⟨_, rfl⟩
            rw [q2]
            have k2 : ∀ z y, z ≠ rq → G1 z = some y → G2 z = some y := fun z y nz e => by rw [← q2, upd_ne nz]; exact e
            have hu2 := k2 _ _ rqu.symm hu1
            refine ⟨_, rfl, .inl ⟨rfl, _, SqL.of hu2⟩, _, rfl, uq, _, _, rfl, rfl, hu2, by rw [List.length_map, lu, sizeLine_eq]; omega, ?_⟩
            obtain ⟨G3, q3'⟩ : ∃ G3, upd G2 uq (.lst ((us ++ [iv]).map V.ref)) = G3 := ⟨_, rfl⟩
            have q3'' : upd G2 uq (.lst (us.map V.ref ++ [V.ref iv])) = G3 := by rw [← q3', List.map_append]; rfl
            rw [q3'']
            have k3 : ∀ z y, z ≠ rq → z ≠ uq → G1 z = some y → G3 z = some y := fun z y n1 n2 e => by rw [← q3', upd_ne n2]; exact k2 z y n1 e
            have fr13 : FrL [rq, uq] G1 G3 := fun z y nz e => k3 z y (fun q => nz (by rw [q]; simp)) (fun q => nz (by rw [q]; simp)) e
            have inA : ∀ z ∈ [rq, uq], z ∈ [so2, nl2, pl2, rq, uq] ++ A := fun z hz => by
              simp only [List.mem_cons, List.not_mem_nil, or_false] at hz
              rcases hz with q | q <;> simp [q]
            have tupK : ∀ {z : Addr} {ys : List V}, G1 z = some (.tup ys) → G3 z = some (.tup ys) := fun {z ys} e => k3 z _ (ne_of e hr1 (by intro q; cases q)) (ne_of e hu1 (by intro q; cases q)) e
            obtain ⟨⟨dxt, t1⟩, t2, t3, t4, t5, t6, t7, t8, t9, t10, t11⟩ := st1
            have hr3 : G3 rq = some (.lst (vals ++ [r.2])) := by rw [← q3', upd_ne rqu, ← q2, upd_same]
            have hu3 : G3 uq = some (.lst ((us ++ [iv]).map V.ref)) := by rw [← q3', upd_same]
            have ls3 : Lis [so2, nl2, pl2, rq, uq] G3 := fun z hz => by
              simp only [List.mem_cons, List.not_mem_nil, or_false] at hz
              rcases hz with q | q | q | q | q <;> rw [q]
              · exact .inr ⟨_, _, _, k3 _ _ (rqN _ (by simp)).1 (rqN _ (by simp)).2 t1⟩
              · exact .inl ⟨_, k3 _ _ (rqN _ (by simp)).1 (rqN _ (by simp)).2 t3⟩
              · exact .inl ⟨_, k3 _ _ (rqN _ (by simp)).1 (rqN _ (by simp)).2 t4⟩
              · exact .inl ⟨_, hr3⟩
              · exact .inl ⟨_, hu3⟩
            have L13 : Lis [rq, uq] G3 := ls3.mono (fun z hz => by simp only [List.mem_cons, List.not_mem_nil, or_false] at hz; rcases hz with q | q <;> simp [q])
            refine ⟨_, _, _, r.1, g', vals ++ [r.2], ivs ++ [invM Mi o], us ++ [iv], rfl, fun z y e => k3 z y (fun q => by rw [q, nrq0] at e; cases e) (fun q => by rw [q, nuq0] at e; cases e) (s1G z y e), ls3, ⟨⟨dxt, k3 _ _ (rqN _ (by simp)).1 (rqN _ (by simp)).2 t1⟩, t2.step (fr13.mono inA), k3 _ _ (rqN _ (by simp)).1 (rqN _ (by simp)).2 t3, k3 _ _ (rqN _ (by simp)).1 (rqN _ (by simp)).2 t4, t5, t6, t7, t8, t9, t10, fun z hz => ?_⟩, hr3, hu3, OpsAt.snoc (ts := us) ⟨ho1.1, fun k u e => ?_⟩ (tupK hiv), by rw [List.length_append, lv]; rfl, by rw [List.length_append, lu]; rfl, ?_⟩
            · by_cases c : z ∈ [rq, uq]
              · exact L13.dom z c
              · obtain ⟨y, ey, ny⟩ := t11 z hz
                exact ⟨y, fr13 z y c ey, ny⟩
            · obtain ⟨op', h6, h7⟩ := ho1.2 k u e
              exact ⟨op', h6, tupK h7⟩
            · rw [show its.take (i + 1) = its.take i ++ [Itm.op o] from by rw [List.take_add_one, hi']; rfl]
              exact runI_snoc run e
      · obtain ⟨o5, o6, o7, Mi, gi, vals, ivs, us, rfl, s0, ls, st, hr, hu, ho, lv, lu, run⟩ := hP
        rw [lit, List.take_length] at run
        rw [run] at hd
        obtain ⟨ops, hops⟩ := runI_ops run
        obtain ⟨ts, rfl, hts⟩ := itmRefs hops lit hit
        have sub5 : ∀ z ∈ [so2, nl2, pl2, rq, uq], z ∈ [so2, nl2, pl2, rq, uq] ++ A := fun z hz => List.mem_append_left _ hz
        have hbG := s0 _ _ h1
        refine ⟨_, rfl, _, rfl, b, CB, dx, _, rfl, hbG, B.cl, B.n1, by show 2 < 1000; decide, ?_⟩
        obtain ⟨J1, j1⟩ : ∃ J1, upd G b (.ins CB dx (bflds so2 pk)) = J1 := ⟨_, rfl⟩
        have j1' : upd G b (.ins CB dx (putF ("state" : Str) (.ref so2) (bflds so pk))) = J1 := j1
        rw [j1']
        have hb1 : J1 b = some (.ins CB dx (bflds so2 pk)) := by rw [← j1, upd_same]
        have k1 : ∀ z y, z ≠ b → G z = some y → J1 z = some y := fun z y nz e => by rw [← j1, upd_ne nz]; exact e
        obtain ⟨es, hpk, hes⟩ := bd.past
        have pkb : pk ≠ b := ne_of hpk h1 (by intro q; cases q)
        have hpk1 := k1 _ _ pkb (s0 _ _ hpk)
        have hL1 := k1 _ _ (ne_of hL h1 (by intro q; cases q)) (s0 _ _ hL)
        refine ⟨_, rfl, b, CB, dx, _, _, rfl, hb1, B.cl, B.n2, bl_p _ _, .inl ⟨rfl, _, SqL.of hpk1⟩, _, rfl, L, _, rfl, .inl (SqL.of hL1), fun l nl' => ?_⟩
        obtain ⟨J2, j2, z2, hl⟩ := newAt (.lst (ts.map V.ref)) nl'
        rw [j2]
        refine ⟨by show 2 ≤ sizeLine; decide, fun o1 no1 => ?_⟩
        obtain ⟨J3, j3, z3, ho1⟩ := newAt (.tup [V.str "together", V.ref l]) no1
        rw [j3]
        have z23 := z2.trans z3
        have uqb : uq ≠ b := fun q => by rw [q, h1] at nuq0; cases nuq0
        have rqb : rq ≠ b := fun q => by rw [q, h1] at nrq0; cases nrq0
        have hu3 := z23 _ _ (k1 _ _ uqb hu)
        refine ⟨_, rfl, uq, _, rfl, SqL.of hu3, fun uu nuu => ?_⟩
        obtain ⟨J4, j4, z4, huu⟩ := newAt (.lst (us.reverse.map V.ref)) nuu
        rw [show (us.map V.ref).reverse = us.reverse.map V.ref from List.map_reverse.symm, j4]
        refine ⟨by show 2 ≤ sizeLine; decide, fun e0 ne0 => ?_⟩
        obtain ⟨J5, j5, z5, he0⟩ := newAt (.tup [V.ref o1, V.ref uu]) ne0
        rw [j5]
        have z15 := z23.trans (z4.trans z5)
        have hpk5 := z15 _ _ hpk1
        have les : es.length = log.length := hes.at.1
        refine ⟨pk, _, _, rfl, rfl, hpk5, by rw [List.length_map, sizeLine_eq]; omega, ?_⟩
        obtain ⟨J6, j6⟩ : ∃ J6, upd J5 pk (.lst ((es ++ [e0]).map V.ref)) = J6 := ⟨_, rfl⟩
        have j6' : upd J5 pk (.lst (es.map V.ref ++ [V.ref e0])) = J6 := by rw [← j6, List.map_append]; rfl
        rw [j6']
        have k6 : ∀ z y, z ≠ pk → J5 z = some y → J6 z = some y := fun z y nz e => by rw [← j6, upd_ne nz]; exact e
        have fG6 : FrL [b, pk] G J6 := fun z y nz e => k6 z y (fun q => nz (by rw [q]; simp)) (z15 _ _ (k1 z y (fun q => nz (by rw [q]; simp)) e))
        have inA : ∀ z ∈ [b, pk], z ∈ [so2, nl2, pl2, rq, uq] ++ A := fun z hz => by
          simp only [List.mem_cons, List.not_mem_nil, or_false] at hz
          rcases hz with q | q <;> rw [q]
          · exact List.mem_append_right _ bd.bA
          · exact List.mem_append_right _ bd.kA
        have new5 : ∀ z ∈ [so2, nl2, pl2, rq, uq], z ≠ b ∧ z ≠ pk := fun z hz => ⟨fun q => (by have := f5 z hz; rw [q, h1] at this; cases this), fun q => (by have := f5 z hz; rw [q, hpk] at this; cases this)⟩
        have kG : ∀ {z : Addr} {y : HO}, z ∈ [so2, nl2, pl2, rq, uq] → G z = some y → J6 z = some y := fun {z y} hz e => fG6 z y (fun hm => by
          simp only [List.mem_cons, List.not_mem_nil, or_false] at hm
          rcases hm with q | q
          · exact (new5 z hz).1 q
          · exact (new5 z hz).2 q) e
        have hb6 : J6 b = some (.ins CB dx (bflds so2 pk)) := k6 _ _ pkb.symm (z15 _ _ hb1)
        have hpk6 : J6 pk = some (.lst ((es ++ [e0]).map V.ref)) := by rw [← j6, upd_same]
        have ls6 : Lis [so2, nl2, pl2, rq, uq] J6 := fun z hz => by
          rcases ls z hz with ⟨ys, e⟩ | ⟨C', dx', fs, e⟩
          · exact .inl ⟨_, kG hz e⟩
          · exact .inr ⟨_, _, _, kG hz e⟩
        have lbp : Lis [b, pk] J6 := fun z hz => by
          simp only [List.mem_cons, List.not_mem_nil, or_false] at hz
          rcases hz with q | q <;> rw [q]
          · exact .inr ⟨_, _, _, hb6⟩
          · exact .inl ⟨_, hpk6⟩
        have f06 : FrL [b, pk] H J6 := fun z y nz e => fG6 z y nz (s0 z y e)
        obtain ⟨⟨dxt, t1⟩, t2, t3, t4, t5, t6, t7, t8, t9, t10, t11⟩ := st
        have dom6 : Dom ([so2, nl2, pl2, rq, uq] ++ A) J6 := fun z hz => by
          by_cases c : z ∈ [b, pk]
          · exact lbp.dom z c
          · obtain ⟨y, ey, ny⟩ := t11 z hz
            exact ⟨y, fG6 z y c ey, ny⟩
        have aliveNot : ∀ {z : Addr}, J1 z = none → z ∉ [so2, nl2, pl2, rq, uq] ++ A := fun {z} nz hm => by
          obtain ⟨y, ey, _⟩ := t11 z hm
          by_cases c : z = b
          · rw [c, hb1] at nz; cases nz
          · rw [k1 z y c ey] at nz; cases nz
        have nl1 : J1 l = none := nl'
        have no1' : J1 o1 = none := z2.free no1
        have nuu1 : J1 uu = none := z23.free nuu
        have ne1 : J1 e0 = none := z23.free (z4.free ne0)
        have nk : ∀ {z : Addr}, J1 z = none → z ≠ pk := fun {z} nz q => by rw [q, hpk1] at nz; cases nz
        have hl6 := k6 _ _ (nk nl1) (z5 _ _ (z4 _ _ (z3 _ _ hl)))
        have ho6 := k6 _ _ (nk no1') (z5 _ _ (z4 _ _ ho1))
        have hu6 := k6 _ _ (nk nuu1) (z5 _ _ huu)
        have he6 := k6 _ _ (nk ne1) he0
        have hts6 : OpsAt J6 ts ops := hts.fr f06 (fun z hz => by
          simp only [List.mem_cons, List.not_mem_nil, or_false] at hz
          rcases hz with q | q <;> rw [q]
          · exact bd.bA
          · exact bd.kA) bd.st.dom
        have hus6 : OpsAt J6 us.reverse ivs.reverse := (ho.fr fG6 inA t11).rev
        have st6 : StAt CG CT ([so2, nl2, pl2, rq, uq] ++ A) J6 so2 Mi gi nl2 pl2 := ⟨⟨dxt, kG (by simp) t1⟩, t2.step (fG6.mono inA), kG (by simp) t3, kG (by simp) t4, t5, t6, t7, t8, t9, t10, dom6⟩
        have f55 : ∀ z ∈ [so2, nl2, pl2], H z = none := f2
        refine ⟨_, rfl, hd ([so2, nl2, pl2, rq, uq] ++ A) so2 nl2 pl2 gi rq ops J6 f06 (fun z hz => List.mem_append_right _ hz) (fun z hz => ?_) (fun lA z hz => ?_) hops ⟨⟨dx, hb6⟩, st6, ⟨es ++ [e0], hpk6, fun J7 f7 => ?_⟩, ?_, ?_, List.mem_append_right _ bd.bA, List.mem_append_right _ bd.kA, by rw [List.length_append]; show log.length + 1 ≤ 1000; omega⟩ f55 nrq0 (kG (by simp) hr)⟩
        · rcases List.mem_append.mp hz with hz | hz
          · exact .inr (f5 z hz)
          · exact .inl hz
        · rcases List.mem_append.mp hz with hz | hz
          · exact ls6 z hz
          · exact (lA.fr f06 lbp) z hz
        · have old := (hes.new (L := [so2, nl2, pl2, rq, uq]) (H' := J6) (fun z y nz e => f06 z y (fun hm => nz (by
            simp only [List.mem_cons, List.not_mem_nil, or_false] at hm
            rcases hm with q | q <;> rw [q]
            · exact bd.bA
            · exact bd.kA)) e) f5) J7 f7
          refine ⟨by rw [List.length_append, List.length_append, les]; rfl, fun k e hk => ?_⟩
          by_cases hlt : k < es.length
          · rw [List.getElem?_append_left hlt] at hk
            obtain ⟨en, y1, y2⟩ := old.2 k e hk
            exact ⟨en, by rw [List.getElem?_append_left (by omega)]; exact y1, y2⟩
          · rw [List.getElem?_append_right (by omega)] at hk
            have hk' : k = es.length := by
              have := (List.getElem?_eq_some_iff.mp hk).1
              simp at this
              omega
            subst hk'
            rw [Nat.sub_self] at hk
            obtain rfl := Option.some.inj hk
            have st7 : ∀ {z : Addr} {y : HO}, J1 z = none → J6 z = some y → J7 z = some y := fun {z y} nz e => f7 z y (aliveNot nz) e
            exact ⟨.many ops ivs.reverse, by rw [les, List.getElem?_append_right (Nat.le_refl _), Nat.sub_self]; rfl, o1, l, uu, ts, us.reverse, st7 ne1 he6, st7 no1' ho6, st7 nl1 hl6, hts6.fr f7 (fun z hz => hz) dom6, st7 nuu1 hu6, hus6.fr f7 (fun z hz => hz) dom6⟩
        · exact fun q => (new5 nl2 (by simp)).2 q.symm
        · exact fun q => (new5 pl2 (by simp)).2 q.symm
    · refine ⟨_, (pss_cons (ps_if (pt_not (pt_val (pe_callB call_isiT (by rfl) M.isi boot_isi (pa_cons (pv 1) (pa_cons (pe_tup (pa_cons (pe_bltn (v := V.ty "list") rfl M.list (by decide +kernel) rfl) (pa_cons (pe_bltn (v := V.ty "tuple") rfl M.tuple (by decide +kernel) rfl) pa_nil))) pa_nil))))) (pss_one ps_never) pss_nil)
      (pss_cons (ps_set (i := 2) nd rfl (Or.inl rfl) (pe_meth0 (pe_fld (pv 0) rfl) S.cl mCd GCd (hr.mono (by decide)) bCd .nil pass0))
      (pss_cons (ps_set (i := 3) nd rfl (Or.inl rfl) (pe_lst pa_nil))
      (pss_cons (ps_set (i := 4) nd rfl (Or.inl rfl) (pe_lst pa_nil))
      (pss_cons (ps_for PassesOwn.leaving rfl (pi_tup (pv 1)) (pg_name (i := 5) nd rfl (Or.inl rfl)) (pss_cons (ps_expr (pe_call GCo (hr.mono (by decide)) (by rfl) mCo kCo bCo .nil (passes_call (E := E) (takes_of rfl rfl rfl rfl) (fun _ _ _ _ h => h)) (pa_cons (pv 5) pa_nil)))
      (pss_cons (ps_asg (pe_call GPe (hr.mono (by decide)) (by rfl) mPe kPe bPe .nil (passes_call (E := E) (takes_of rfl rfl rfl rfl) (fun _ _ _ _ h => h)) (pa_cons (pv 2) (pa_cons (pv 5) pa_nil))) (pg_tup rfl (pgs_cons (pg_name (i := 6) nd rfl (Or.inl rfl)) (pgs_cons (pg_name (i := 7) nd rfl (Or.inl rfl)) pgs_nil))))
      (pss_cons (ps_expr (pe_bm PySem.F.plainAttrs_list PySem.F.slot_list_append PySem.F.type_list_append mt_append (pv 3) (pa_cons (pv 6) pa_nil)))
      (pss_one (ps_expr (pe_bm PySem.F.plainAttrs_list PySem.F.slot_list_append PySem.F.type_list_append mt_append (pv 4) (pa_cons (pv 7) pa_nil))))))))
      (pss_cons (ps_fld (pv 0) (pv 2) rfl)
      (pss_cons (ps_expr (pe_bm PySem.F.plainAttrs_list PySem.F.slot_list_append PySem.F.type_list_append mt_append (pe_fld (pv 0) rfl) (pa_cons (pe_tup (pa_cons (pe_tup (pa_cons pe_str (pa_cons (pe_callTy call_list_of (by rfl) M.list (by decide +kernel) (pa_cons (pv 1) pa_nil)) pa_nil))) (pa_cons (pe_revL (pv 4)) pa_nil))) pa_nil)))
      (pss_one (ps_ret (pv 3)))))))))), ?_⟩
      refine ⟨_, rfl, by show 2 ≤ sizeLine; decide, fun tp ntp => ⟨.ref L, tp, _, _, _, _, rfl, upd_same, .cons (.ty _) (.cons (.ty _) .nil), .base (.tup (same_upd ntp _ _ hL)), kitTT K, _, rfl, iteF ?_⟩⟩
      obtain ⟨H1, q1, s1, _⟩ := newAt (.tup [V.ty "list", V.ty "tuple"]) ntp
      rw [q1]
      have bd1 := bd.same s1
      refine ⟨_, rfl, b, CB, dx, _, _, rfl, s1 _ _ h1, B.cl, B.n1, bl_s _ _, so, dxs, _, rfl, s1 _ _ hs, rfl, A, so, mo, g, nl, pl, rfl, bd1.st, fun so2 nl2 pl2 dx2 H2 s2 nso nnl npl nlpl hso hnl hpl => ?_⟩
      refine ⟨by show 0 ≤ sizeLine; decide, fun rq nrq => ?_⟩
      obtain ⟨H3, q3, s3, hrq⟩ := newAt (.lst []) nrq
      rw [q3]
      refine ⟨by show 0 ≤ sizeLine; decide, fun uq nuq => ?_⟩
      obtain ⟨H4, q4, s4, huq⟩ := newAt (.lst []) nuq
      rw [q4]
      have s02 := s1.trans s2
      have s24 := s3.trans s4
      have s04 := s02.trans s24
      have nso0 := s1.free nso
      have nnl0 := s1.free nnl
      have npl0 := s1.free npl
      have f2 : ∀ z ∈ [so2, nl2, pl2], H z = none := fun z hz => by
        simp only [List.mem_cons, List.not_mem_nil, or_false] at hz
        rcases hz with q | q | q <;> rw [q] <;> assumption
      have hso4 := s24 _ _ hso
      have hnl4 := s24 _ _ hnl
      have hpl4 := s24 _ _ hpl
      have rqN : ∀ z ∈ [so2, nl2, pl2], z ≠ rq ∧ z ≠ uq := fun z hz => by
        simp only [List.mem_cons, List.not_mem_nil, or_false] at hz
        rcases hz with q | q | q <;> rw [q]
        · exact ⟨ne_of_none hso nrq, ne_of_none (s3 _ _ hso) nuq⟩
        · exact ⟨ne_of_none hnl nrq, ne_of_none (s3 _ _ hnl) nuq⟩
        · exact ⟨ne_of_none hpl nrq, ne_of_none (s3 _ _ hpl) nuq⟩
      have rqu : rq ≠ uq := ne_of_none hrq nuq
      have nrq0 : H rq = none := s02.free nrq
      have nuq0 : H uq = none := s02.free (s3.free nuq)
      have f5 : ∀ z ∈ [so2, nl2, pl2, rq, uq], H z = none := fun z hz => by
        simp only [List.mem_cons, List.not_mem_nil, or_false] at hz
        rcases hz with q | q | q | q | q <;> rw [q] <;> assumption
      have l5 : Lis [so2, nl2, pl2, rq, uq] H4 := fun z hz => by
        simp only [List.mem_cons, List.not_mem_nil, or_false] at hz
        rcases hz with q | q | q | q | q <;> rw [q]
        · exact .inr ⟨_, _, _, hso4⟩
        · exact .inl ⟨_, hnl4⟩
        · exact .inl ⟨_, hpl4⟩
        · exact .inl ⟨_, s4 _ _ hrq⟩
        · exact .inl ⟨_, huq⟩
      have st4 : StAt CG CT ([so2, nl2, pl2, rq, uq] ++ A) H4 so2 mo g nl2 pl2 := ⟨⟨dx2, hso4⟩, bd.st.gr.new (sameFr s04) f5, hnl4, hpl4, nlpl, bd.st.len, bd.st.few, by simp, by simp, by simp, fun z hz => by
        rcases List.mem_append.mp hz with hz | hz
        · exact l5.dom z hz
        · exact (bd.st.dom.same s04) z hz⟩
      refine ⟨_, rfl, L, rfl, ⟨_, SqT.of (s04 _ _ hL)⟩, for_tup (K := K) (a := L) (xs := xs) (fun i σ G => ∃ (o5 o6 o7 : Option V) (Mi : Mo) (gi : Addr) (vals : List V) (ivs : List Op) (us : List Addr), σ = [some (.ref b), some (.ref L), some (.ref so2), some (.ref rq), some (.ref uq), o5, o6, o7] ∧ Same H G ∧ Lis [so2, nl2, pl2, rq, uq] G ∧
        StAt CG CT ([so2, nl2, pl2, rq, uq] ++ A) G so2 Mi gi nl2 pl2 ∧ G rq = some (.lst vals) ∧ G uq = some (.lst (us.map V.ref)) ∧ OpsAt G us ivs ∧ vals.length = i ∧ us.length = i ∧ runI mo (its.take i) = .ok (Mi, vals, ivs))
        ⟨_, _, _, mo, g, [], [], [], rfl, s04, l5, st4, s4 _ _ hrq, huq, ⟨rfl, fun k t e => by simp at e⟩, rfl, rfl, rfl⟩ (fun i σ G _ hP => ?_) (fun i x σ G hx hP => ?_) (fun σ G hP => ?_)⟩
      · obtain ⟨_, _, _, _, _, _, _, _, _, s, _⟩ := hP
        exact SqT.of (s _ _ hL)
      · obtain ⟨o5, o6, o7, Mi, gi, vals, ivs, us, rfl, s0, ls, st, hr, hu, ho, lv, lu, run⟩ := hP
        obtain ⟨d, it, hd', hi', iat⟩ := hit i x hx
        have hli : i < its.length := (List.getElem?_eq_some_iff.mp hi').1
        have split := takeSucc hi'
        have ltk : (its.take i).length = i := by rw [List.length_take]; omega
        have iatG := iat.same s0
        cases it with
        | bad =>
          refine ⟨_, rfl, x, d, rfl, iatG.1, iatG.2.2, fun _ => ?_, fun e => by rw [iatG.2.1] at e; cases e⟩
          have e : runI mo its = .error (i, none) := by
            have := runI_bad (r := its.drop (i + 1)) run
            rw [← split, ltk] at this
            exact this
          rw [e] at hd
          have hd : ∀ v, xs[i]? = some v → told CO v H E := hd
          exact fun H' dd s' nd' hx' => hd x hx H' dd (s0.trans s') (s0.free nd') hx'
        | op o =>
          obtain ⟨⟨t, rfl, ht⟩, rfl, h5, okD, ask⟩ := iatG
          refine ⟨_, rfl, .ref t, opD o, rfl, .dat (opDp ht), ask, fun e => (by rw [okD] at e; cases e), fun _ => ?_⟩
          have okOpI : okOp Mi o := okI_at (r := its.drop (i + 1)) run (by rw [← split]; exact ok)
          refine ⟨_, rfl, _, rfl, [so2, nl2, pl2, rq, uq] ++ A, so2, Mi, gi, nl2, pl2, t, o, rfl, h5, ht, st, okOpI, ?_⟩
          unfold opDone
          cases e : stepM Mi o with
          | error er =>
            have e2 : runI mo its = .error (i, some er) := by
              have := runI_fail (r := its.drop (i + 1)) run e
              rw [← split, ltk] at this
              exact this
            rw [e2] at hd
            exact (show toldEr CPl CNg CE CM er H E from hd).same s0
          | ok r =>
            intro T iv g' G1 f1 st1 nT hT hiv
            have s1G : Same H G1 := fun z y e => f1 z y (fun hm => by rw [f2 z hm] at e; cases e) (s0 z y e)
            have hr1 := f1 _ _ (fun hm => (rqN rq hm).1 rfl) hr
            have hu1 := f1 _ _ (fun hm => (rqN uq hm).2 rfl) hu
            have ho1 : OpsAt G1 us ivs := ho.fr f1 (fun z hz => List.mem_append_left _ (by simp only [List.mem_cons, List.not_mem_nil, or_false] at hz ⊢; rcases hz with q | q | q <;> simp [q])) st.dom
            refine ⟨T, _, rfl, SqT.of hT, rfl, _, _, rfl, _, _, rfl, rfl, ?_⟩
            refine ⟨_, rfl, .inl ⟨rfl, _, SqL.of hr1⟩, _, rfl, rq, _, _, rfl, rfl, hr1, by rw [lv, sizeLine_eq]; omega, ?_⟩
            obtain ⟨G2, q2⟩ : ∃ G2, upd G1 rq (.lst (vals ++ [r.2])) = G2 := ⟨_, rfl⟩
            rw [q2]
            have k2 : ∀ z y, z ≠ rq → G1 z = some y → G2 z = some y := fun z y nz e => by rw [← q2, upd_ne nz]; exact e
            have hu2 := k2 _ _ rqu.symm hu1
            refine ⟨_, rfl, .inl ⟨rfl, _, SqL.of hu2⟩, _, rfl, uq, _, _, rfl, rfl, hu2, by rw [List.length_map, lu, sizeLine_eq]; omega, ?_⟩
            obtain ⟨G3, q3'⟩ : ∃ G3, upd G2 uq (.lst ((us ++ [iv]).map V.ref)) = G3 := ⟨_, rfl⟩
            have q3'' : upd G2 uq (.lst (us.map V.ref ++ [V.ref iv])) = G3 := by rw [← q3', List.map_append]; rfl
            rw [q3'']
            have k3 : ∀ z y, z ≠ rq → z ≠ uq → G1 z = some y → G3 z = some y := fun z y n1 n2 e => by rw [← q3', upd_ne n2]; exact k2 z y n1 e
            have fr13 : FrL [rq, uq] G1 G3 := fun z y nz e => k3 z y (fun q => nz (by rw [q]; simp)) (fun q => nz (by rw [q]; simp)) e
            have inA : ∀ z ∈ [rq, uq], z ∈ [so2, nl2, pl2, rq, uq] ++ A := fun z hz => by
              simp only [List.mem_cons, List.not_mem_nil, or_false] at hz
              rcases hz with q | q <;> simp [q]
            have tupK : ∀ {z : Addr} {ys : List V}, G1 z = some (.tup ys) → G3 z = some (.tup ys) := fun {z ys} e => k3 z _ (ne_of e hr1 (by intro q; cases q)) (ne_of e hu1 (by intro q; cases q)) e
            obtain ⟨⟨dxt, t1⟩, t2, t3, t4, t5, t6, t7, t8, t9, t10, t11⟩ := st1
            have hr3 : G3 rq = some (.lst (vals ++ [r.2])) := by rw [← q3', upd_ne rqu, ← q2, upd_same]
            have hu3 : G3 uq = some (.lst ((us ++ [iv]).map V.ref)) := by rw [← q3', upd_same]
            have ls3 : Lis [so2, nl2, pl2, rq, uq] G3 := fun z hz => by
              simp only [List.mem_cons, List.not_mem_nil, or_false] at hz
              rcases hz with q | q | q | q | q <;> rw [q]
              · exact .inr ⟨_, _, _, k3 _ _ (rqN _ (by simp)).1 (rqN _ (by simp)).2 t1⟩
              · exact .inl ⟨_, k3 _ _ (rqN _ (by simp)).1 (rqN _ (by simp)).2 t3⟩
              · exact .inl ⟨_, k3 _ _ (rqN _ (by simp)).1 (rqN _ (by simp)).2 t4⟩
              · exact .inl ⟨_, hr3⟩
              · exact .inl ⟨_, hu3⟩
            have L13 : Lis [rq, uq] G3 := ls3.mono (fun z hz => by simp only [List.mem_cons, List.not_mem_nil, or_false] at hz; rcases hz with q | q <;> simp [q])
            refine ⟨_, _, _, r.1, g', vals ++ [r.2], ivs ++ [invM Mi o], us ++ [iv], rfl, fun z y e => k3 z y (fun q => by rw [q, nrq0] at e; cases e) (fun q => by rw [q, nuq0] at e; cases e) (s1G z y e), ls3, ⟨⟨dxt, k3 _ _ (rqN _ (by simp)).1 (rqN _ (by simp)).2 t1⟩, t2.step (fr13.mono inA), k3 _ _ (rqN _ (by simp)).1 (rqN _ (by simp)).2 t3, k3 _ _ (rqN _ (by simp)).1 (rqN _ (by simp)).2 t4, t5, t6, t7, t8, t9, t10, fun z hz => ?_⟩, hr3, hu3, OpsAt.snoc (ts := us) ⟨ho1.1, fun k u e => ?_⟩ (tupK hiv), by rw [List.length_append, lv]; rfl, by rw [List.length_append, lu]; rfl, ?_⟩
            · by_cases c : z ∈ [rq, uq]
              · exact L13.dom z c
              · obtain ⟨y, ey, ny⟩ := t11 z hz
                exact ⟨y, fr13 z y c ey, ny⟩
            · obtain ⟨op', h6, h7⟩ := ho1.2 k u e
              exact ⟨op', h6, tupK h7⟩
            · rw [show its.take (i + 1) = its.take i ++ [Itm.op o] from by rw [List.take_add_one, hi']; rfl]
              exact runI_snoc run e
      · obtain ⟨o5, o6, o7, Mi, gi, vals, ivs, us, rfl, s0, ls, st, hr, hu, ho, lv, lu, run⟩ := hP
        rw [lit, List.take_length] at run
        rw [run] at hd
        obtain ⟨ops, hops⟩ := runI_ops run
        obtain ⟨ts, rfl, hts⟩ := itmRefs hops lit hit
        have sub5 : ∀ z ∈ [so2, nl2, pl2, rq, uq], z ∈ [so2, nl2, pl2, rq, uq] ++ A := fun z hz => List.mem_append_left _ hz
        have hbG := s0 _ _ h1
        refine ⟨_, rfl, _, rfl, b, CB, dx, _, rfl, hbG, B.cl, B.n1, by show 2 < 1000; decide, ?_⟩
        obtain ⟨J1, j1⟩ : ∃ J1, upd G b (.ins CB dx (bflds so2 pk)) = J1 := ⟨_, rfl⟩
        have j1' : upd G b (.ins CB dx (putF ("state" : Str) (.ref so2) (bflds so pk))) = J1 := j1
        rw [j1']
        have hb1 : J1 b = some (.ins CB dx (bflds so2 pk)) := by rw [← j1, upd_same]
        have k1 : ∀ z y, z ≠ b → G z = some y → J1 z = some y := fun z y nz e => by rw [← j1, upd_ne nz]; exact e
        obtain ⟨es, hpk, hes⟩ := bd.past
        have pkb : pk ≠ b := ne_of hpk h1 (by intro q; cases q)
        have hpk1 := k1 _ _ pkb (s0 _ _ hpk)
        have hL1 := k1 _ _ (ne_of hL h1 (by intro q; cases q)) (s0 _ _ hL)
        refine ⟨_, rfl, b, CB, dx, _, _, rfl, hb1, B.cl, B.n2, bl_p _ _, .inl ⟨rfl, _, SqL.of hpk1⟩, _, rfl, L, _, rfl, .inr (SqT.of hL1), fun l nl' => ?_⟩
        obtain ⟨J2, j2, z2, hl⟩ := newAt (.lst (ts.map V.ref)) nl'
        rw [j2]
        refine ⟨by show 2 ≤ sizeLine; decide, fun o1 no1 => ?_⟩
        obtain ⟨J3, j3, z3, ho1⟩ := newAt (.tup [V.str "together", V.ref l]) no1
        rw [j3]
        have z23 := z2.trans z3
        have uqb : uq ≠ b := fun q => by rw [q, h1] at nuq0; cases nuq0
        have rqb : rq ≠ b := fun q => by rw [q, h1] at nrq0; cases nrq0
        have hu3 := z23 _ _ (k1 _ _ uqb hu)
        refine ⟨_, rfl, uq, _, rfl, SqL.of hu3, fun uu nuu => ?_⟩
        obtain ⟨J4, j4, z4, huu⟩ := newAt (.lst (us.reverse.map V.ref)) nuu
        rw [show (us.map V.ref).reverse = us.reverse.map V.ref from List.map_reverse.symm, j4]
        refine ⟨by show 2 ≤ sizeLine; decide, fun e0 ne0 => ?_⟩
        obtain ⟨J5, j5, z5, he0⟩ := newAt (.tup [V.ref o1, V.ref uu]) ne0
        rw [j5]
        have z15 := z23.trans (z4.trans z5)
        have hpk5 := z15 _ _ hpk1
        have les : es.length = log.length := hes.at.1
        refine ⟨pk, _, _, rfl, rfl, hpk5, by rw [List.length_map, sizeLine_eq]; omega, ?_⟩
        obtain ⟨J6, j6⟩ : ∃ J6, upd J5 pk (.lst ((es ++ [e0]).map V.ref)) = J6 := ⟨_, rfl⟩
        have j6' : upd J5 pk (.lst (es.map V.ref ++ [V.ref e0])) = J6 := by rw [← j6, List.map_append]; rfl
        rw [j6']
        have k6 : ∀ z y, z ≠ pk → J5 z = some y → J6 z = some y := fun z y nz e => by rw [← j6, upd_ne nz]; exact e
        have fG6 : FrL [b, pk] G J6 := fun z y nz e => k6 z y (fun q => nz (by rw [q]; simp)) (z15 _ _ (k1 z y (fun q => nz (by rw [q]; simp)) e))
        have inA : ∀ z ∈ [b, pk], z ∈ [so2, nl2, pl2, rq, uq] ++ A := fun z hz => by
          simp only [List.mem_cons, List.not_mem_nil, or_false] at hz
          rcases hz with q | q <;> rw [q]
          · exact List.mem_append_right _ bd.bA
          · exact List.mem_append_right _ bd.kA
        have new5 : ∀ z ∈ [so2, nl2, pl2, rq, uq], z ≠ b ∧ z ≠ pk := fun z hz => ⟨fun q => (by have := f5 z hz; rw [q, h1] at this; cases this), fun q => (by have := f5 z hz; rw [q, hpk] at this; cases this)⟩
        have kG : ∀ {z : Addr} {y : HO}, z ∈ [so2, nl2, pl2, rq, uq] → G z = some y → J6 z = some y := fun {z y} hz e => fG6 z y (fun hm => by
          simp only [List.mem_cons, List.not_mem_nil, or_false] at hm
          rcases hm with q | q
          · exact (new5 z hz).1 q
          · exact (new5 z hz).2 q) e
        have hb6 : J6 b = some (.ins CB dx (bflds so2 pk)) := k6 _ _ pkb.symm (z15 _ _ hb1)
        have hpk6 : J6 pk = some (.lst ((es ++ [e0]).map V.ref)) := by rw [← j6, upd_same]
        have ls6 : Lis [so2, nl2, pl2, rq, uq] J6 := fun z hz => by
          rcases ls z hz with ⟨ys, e⟩ | ⟨C', dx', fs, e⟩
          · exact .inl ⟨_, kG hz e⟩
          · exact .inr ⟨_, _, _, kG hz e⟩
        have lbp : Lis [b, pk] J6 := fun z hz => by
          simp only [List.mem_cons, List.not_mem_nil, or_false] at hz
          rcases hz with q | q <;> rw [q]
          · exact .inr ⟨_, _, _, hb6⟩
          · exact .inl ⟨_, hpk6⟩
        have f06 : FrL [b, pk] H J6 := fun z y nz e => fG6 z y nz (s0 z y e)
        obtain ⟨⟨dxt, t1⟩, t2, t3, t4, t5, t6, t7, t8, t9, t10, t11⟩ := st
        have dom6 : Dom ([so2, nl2, pl2, rq, uq] ++ A) J6 := fun z hz => by
          by_cases c : z ∈ [b, pk]
          · exact lbp.dom z c
          · obtain ⟨y, ey, ny⟩ := t11 z hz
            exact ⟨y, fG6 z y c ey, ny⟩
        have aliveNot : ∀ {z : Addr}, J1 z = none → z ∉ [so2, nl2, pl2, rq, uq] ++ A := fun {z} nz hm => by
          obtain ⟨y, ey, _⟩ := t11 z hm
          by_cases c : z = b
          · rw [c, hb1] at nz; cases nz
          · rw [k1 z y c ey] at nz; cases nz
        have nl1 : J1 l = none := nl'
        have no1' : J1 o1 = none := z2.free no1
        have nuu1 : J1 uu = none := z23.free nuu
        have ne1 : J1 e0 = none := z23.free (z4.free ne0)
        have nk : ∀ {z : Addr}, J1 z = none → z ≠ pk := fun {z} nz q => by rw [q, hpk1] at nz; cases nz
        have hl6 := k6 _ _ (nk nl1) (z5 _ _ (z4 _ _ (z3 _ _ hl)))
        have ho6 := k6 _ _ (nk no1') (z5 _ _ (z4 _ _ ho1))
        have hu6 := k6 _ _ (nk nuu1) (z5 _ _ huu)
        have he6 := k6 _ _ (nk ne1) he0
        have hts6 : OpsAt J6 ts ops := hts.fr f06 (fun z hz => by
          simp only [List.mem_cons, List.not_mem_nil, or_false] at hz
          rcases hz with q | q <;> rw [q]
          · exact bd.bA
          · exact bd.kA) bd.st.dom
        have hus6 : OpsAt J6 us.reverse ivs.reverse := (ho.fr fG6 inA t11).rev
        have st6 : StAt CG CT ([so2, nl2, pl2, rq, uq] ++ A) J6 so2 Mi gi nl2 pl2 := ⟨⟨dxt, kG (by simp) t1⟩, t2.step (fG6.mono inA), kG (by simp) t3, kG (by simp) t4, t5, t6, t7, t8, t9, t10, dom6⟩
        have f55 : ∀ z ∈ [so2, nl2, pl2], H z = none := f2
        refine ⟨_, rfl, hd ([so2, nl2, pl2, rq, uq] ++ A) so2 nl2 pl2 gi rq ops J6 f06 (fun z hz => List.mem_append_right _ hz) (fun z hz => ?_) (fun lA z hz => ?_) hops ⟨⟨dx, hb6⟩, st6, ⟨es ++ [e0], hpk6, fun J7 f7 => ?_⟩, ?_, ?_, List.mem_append_right _ bd.bA, List.mem_append_right _ bd.kA, by rw [List.length_append]; show log.length + 1 ≤ 1000; omega⟩ f55 nrq0 (kG (by simp) hr)⟩
        · rcases List.mem_append.mp hz with hz | hz
          · exact .inr (f5 z hz)
          · exact .inl hz
        · rcases List.mem_append.mp hz with hz | hz
          · exact ls6 z hz
          · exact (lA.fr f06 lbp) z hz
        · have old := (hes.new (L := [so2, nl2, pl2, rq, uq]) (H' := J6) (fun z y nz e => f06 z y (fun hm => nz (by
            simp only [List.mem_cons, List.not_mem_nil, or_false] at hm
            rcases hm with q | q <;> rw [q]
            · exact bd.bA
            · exact bd.kA)) e) f5) J7 f7
          refine ⟨by rw [List.length_append, List.length_append, les]; rfl, fun k e hk => ?_⟩
          by_cases hlt : k < es.length
          · rw [List.getElem?_append_left hlt] at hk
            obtain ⟨en, y1, y2⟩ := old.2 k e hk
            exact ⟨en, by rw [List.getElem?_append_left (by omega)]; exact y1, y2⟩
          · rw [List.getElem?_append_right (by omega)] at hk
            have hk' : k = es.length := by
              have := (List.getElem?_eq_some_iff.mp hk).1
              simp at this
              omega
            subst hk'
            rw [Nat.sub_self] at hk
            obtain rfl := Option.some.inj hk
            have st7 : ∀ {z : Addr} {y : HO}, J1 z = none → J6 z = some y → J7 z = some y := fun {z y} nz e => f7 z y (aliveNot nz) e
            exact ⟨.many ops ivs.reverse, by rw [les, List.getElem?_append_right (Nat.le_refl _), Nat.sub_self]; rfl, o1, l, uu, ts, us.reverse, st7 ne1 he6, st7 no1' ho6, st7 nl1 hl6, hts6.fr f7 (fun z hz => hz) dom6, st7 nuu1 hu6, hus6.fr f7 (fun z hz => hz) dom6⟩
        · exact fun q => (new5 nl2 (by simp)).2 q.symm
        · exact fun q => (new5 pl2 (by simp)).2 q.symm
end
end K72
set_option Elab.async false
set_option linter.all false
set_option maxRecDepth 100000
set_option maxHeartbeats 8000000
namespace K72
open PySem PySem.Spec PyProof.Rows L2 FNX
/-- an entry as a log shows it -/
def LogAt (H0 H : Hp) (t : Addr) : En → Prop
  | .one op _ => H t = some (.tup (opV op))
  | .many ops _ => ∃ l ts, H t = some (.tup [.str "together", .ref l]) ∧ H0 l = none ∧ H l = some (.lst (ts.map V.ref)) ∧ OpsAt H ts ops
def LogsAt (H0 H : Hp) (ts : List Addr) (log : List En) : Prop := ts.length = log.length ∧ ∀ (k : Nat) (t : Addr), ts[k]? = some t → ∃ en, log[k]? = some en ∧ LogAt H0 H t en
theorem LogAt.same {H0 H H' : Hp} {t : Addr} {en : En} (h : LogAt H0 H t en) (s : Same H H') : LogAt H0 H' t en := by
  cases en with
  | one op inv => exact s _ _ h
  | many ops invs =>
    obtain ⟨l, ts, h1, h2, h3, h4⟩ := h
    exact ⟨l, ts, s _ _ h1, h2, s _ _ h3, h4.same s⟩
theorem LogsAt.same {H0 H H' : Hp} {ts : List Addr} {log : List En} (h : LogsAt H0 H ts log) (s : Same H H') : LogsAt H0 H' ts log := ⟨h.1, fun k t e => by
  obtain ⟨en, h1, h2⟩ := h.2 k t e
  exact ⟨en, h1, h2.same s⟩⟩
/-- an entry as data -/
def entD : En → PyData
  | .one op _ => opD op
  | .many ops _ => .tuple [.str "together", logD ops]
theorem LogAt.dp {K : PySem.W.Frag} {H0 H : Hp} {t : Addr} {en : En} (h : LogAt H0 H t en) : Dp K H (.ref t) (entD en) := by
  cases en with
  | one op inv => exact opDp h
  | many ops invs =>
    obtain ⟨l, ts, h1, h2, h3, h4⟩ := h
    exact .tup (SqT.of h1) (.cons (.str _) (.cons (.lst (SqL.of h3) (dpOps h4)) .nil))
theorem dpLogs {K : PySem.W.Frag} {H0 H : Hp} : ∀ {ts : List Addr} {log : List En}, LogsAt H0 H ts log → DpAll K H (ts.map V.ref) (log.map entD)
  | [], [], _ => .nil
  | [], _ :: _, h => by cases h.1
  | _ :: _, [], h => by cases h.1
  | t :: ts, en :: log, h => by
    obtain ⟨o, h1, h2⟩ := h.2 0 t rfl
    obtain rfl := Option.some.inj h1
    exact .cons h2.dp (dpLogs ⟨by have := h.1; simpa using this, fun k u e => h.2 (k + 1) u e⟩)
def spWrittenA (K : PySem.W.Frag) : Sp := fun vs H Q _ => ∃ t, vs = [.ref t] ∧ ((∃ op, H t = some (.tup (opV op)) ∧ Q (.ref t) H) ∨
  (∃ l0 xs, H t = some (.tup [.str "together", .ref l0]) ∧ H l0 = some (.lst xs) ∧ ∀ (l t' : Addr) (H' : Hp), Same H H' → H l = none → H t' = none → H' l = some (.lst xs) → H' t' = some (.tup [.str "together", .ref l]) → Q (.ref t') H'))
def spLogA (CG CT CB : Addr) : Sp := fun vs H Q _ => ∃ (A : List Addr) (b so pk : Addr) (M : Mo) (g nl pl : Addr) (log : List En), vs = [.ref b] ∧ BdAt CG CT CB A H b so pk M g nl pl log ∧
  ∀ (q : Addr) (ts : List Addr) H', H q = none → Same H H' → H' q = some (.lst (ts.map V.ref)) → LogsAt H H' ts log → Q (.ref q) H'
def spLBoard (CG CT CB : Addr) : Sp := fun vs H Q _ => ∃ (A0 : List Addr) (a j h c : Addr) (M : Mo) (k : Nat), vs = [.ref a] ∧ MdAt H a M j h c ∧ OkM M ∧ SrtE M.es ∧ M.sc = List.replicate k 0 ∧ 1 ≤ k ∧ k ≤ 8 ∧ Lis A0 H ∧
  ∀ (b so nl pl pk g : Addr) (H' : Hp), Same H H' → (∀ z ∈ [so, nl, pl, pk, b], H z = none) → BdAt CG CT CB ([so, nl, pl, pk, b] ++ A0) H' b so pk M g nl pl [] → Lis ([so, nl, pl, pk, b] ++ A0) H' → Q (.ref b) H'
section
variable {P : Program} {w : World} {K : PySem.W.Frag} {mg : Str → Option Value} {base : Heap} {CG CT CB CS CM CE : Addr}
theorem ok_writtenA {f : Addr} {fd : FuncData} (F : Fun K "written" "written" s_written f fd) (M : Nms mg) : FnOk P w K mg base CX0 1 f fd ["operation"] (spWrittenA K) := by
  refine F.ok sc_written (fun vs H Q E h => ?_) (fun cdv A' outer s H vs Q E hr h => ?_)
  · obtain ⟨t, rfl, _⟩ := h
    rfl
  · obtain ⟨t, rfl, ⟨op, ht, k⟩ | ⟨l0, xs, ht, hl, k⟩⟩ := h
    · have h0 : ∃ key, (opV op)[0]? = some (.str key) ∧ (key == ("together" : Str)) = false := by
        cases op <;> exact ⟨_, rfl, by decide +kernel⟩
      obtain ⟨key, h0, h1⟩ := h0
      refine ⟨_, (pss_cons (ps_if (pt_cmpR op_eq (pe_ix (r := rIxT K) ix_tup (pv 0) pe_int (fun _ _ => rfl)) pe_str (nomark _)) (pss_one (ps_ret (pe_tup (pa_cons pe_str (pa_cons (pe_callTy call_list_of (by rfl) M.list (by decide +kernel) (pa_cons (pe_ix (r := rIxT K) ix_tup (pv 0) pe_int (fun _ _ => rfl)) pa_nil)) pa_nil))))) pss_nil)
      (pss_one (ps_ret (pv 0)))), ?_⟩
      refine ⟨_, rfl, t, _, (0 : Int), .str key, rfl, rfl, SqT.of ht, atI_nat (j := 0) h0, rfl, _, rfl, ?_⟩
      rw [strNe h1]
      exact iteF ⟨_, rfl, k⟩
    · refine ⟨_, (pss_cons (ps_if (pt_cmpR op_eq (pe_ix (r := rIxT K) ix_tup (pv 0) pe_int (fun _ _ => rfl)) pe_str (nomark _)) (pss_one (ps_ret (pe_tup (pa_cons pe_str (pa_cons (pe_callTy call_list_of (by rfl) M.list (by decide +kernel) (pa_cons (pe_ix (r := rIxT K) ix_tup (pv 0) pe_int (fun _ _ => rfl)) pa_nil)) pa_nil))))) pss_nil)
      (pss_one (ps_ret (pv 0)))), ?_⟩
      refine ⟨_, rfl, t, _, (0 : Int), _, rfl, rfl, SqT.of ht, atI_nat (j := 0) rfl, rfl, _, rfl, ?_⟩
      rw [decide_eq_true rfl]
      refine iteT ⟨_, rfl, t, _, (1 : Int), _, rfl, rfl, SqT.of ht, atI_nat (j := 1) rfl, l0, _, rfl, .inl (SqL.of hl), fun l nl => ?_⟩
      obtain ⟨H1, q1, s1, h1⟩ := newAt (.lst xs) nl
      rw [q1]
      refine ⟨by show 2 ≤ sizeLine; decide, fun t' nt => ?_⟩
      obtain ⟨H2, q2, s2, h2⟩ := newAt (.tup [V.str "together", V.ref l]) nt
      rw [q2]
      exact k l t' H2 (s1.trans s2) nl (s1.free nt) (s2 _ _ h1) h2
theorem ok_logA {f : Addr} {fd : FuncData} (F : Fun K "log" "Board.log" s_Board_log f fd) (B : BTxt K mg CB) (GWr : At P w K mg base CX0 1 "written" ["operation"] (spWrittenA K)) : FnOk P w K mg base CX0 2 f fd ["self"] (spLogA CG CT CB) := by
  obtain ⟨fWr, fdWr, GWr, mWr, kWr, bWr⟩ := GWr
  refine F.ok sc_blog (fun vs H Q E h => ?_) (fun cdv A' outer s H vs Q E hr h => ?_)
  · obtain ⟨A, b, so, pk, M, g, nl, pl, log, rfl, _⟩ := h
    rfl
  · obtain ⟨A, b, so, pk, M, g, nl, pl, log, rfl, bd, k⟩ := h
    have nd := sc_blog.nd
    obtain ⟨dx, h1⟩ := bd.obj
    obtain ⟨es, h3, h4⟩ := bd.past
    refine ⟨_, (pss_one (ps_ret (pe_lc (own := [("operation", 1), ("undoing", 2)]) (g := gTup K 2 (gCons (gName 1) (gCons (gName 2) (gNil)))) (tt := tYes) rfl nd (pi_list (pe_fld (pv 0) rfl)) (blkOk_by (own := [("operation", 1), ("undoing", 2)]) (N := ["self", "operation", "undoing"]) (sc := defScope s_Board_log) (by decide +kernel)) (fun _ _ _ _ _ => pg_tup rfl (pgs_cons (pg_name (i := 1) nd rfl (Or.inl rfl)) (pgs_cons (pg_name (i := 2) nd rfl (Or.inl rfl)) pgs_nil))) (fun _ _ _ _ _ => pts_nil) (fun _ _ _ _ _ => (pe_call GWr (hr.mono (by decide)) (by rfl) mWr kWr bWr .nil pass0 (pa_cons (pv 1) pa_nil)))))), ?_⟩
    refine ⟨_, rfl, b, CB, dx, _, _, rfl, h1, B.cl, B.n2, bl_p _ _, pk, rfl, ⟨_, SqL.of h3⟩, fun q nq => ?_⟩
    obtain ⟨el, ea⟩ := h4.at
    refine lc_list (K := K) (a := pk) (xs := es.map V.ref) (fun i H'' => Same H H'' ∧ ∃ ts : List Addr, H'' q = some (.lst (ts.map V.ref)) ∧ ts.length = i ∧ ∀ (k : Nat) (t : Addr), ts[k]? = some t → ∃ en, log[k]? = some en ∧ LogAt (upd H q (.lst [])) H'' t en)
      ⟨same_upd nq, [], upd_same, rfl, fun k t e => by simp at e⟩ (fun i H'' _ h => SqL.of (h.1 _ _ h3)) (fun i x H'' hi h => ?_) (fun H'' h => ?_)
    · obtain ⟨sm, ts, f1, f2, f3⟩ := h
      obtain ⟨e, he, rfl⟩ := refAt hi
      obtain ⟨en, hen, ent⟩ := ea i e he
      have hlt : i < log.length := (List.getElem?_eq_some_iff.mp hen).1
      have fin : ∀ (t' : Addr) (G : Hp), Same H'' G → LogAt (upd H q (.lst [])) G t' en → (∀ l : Addr, G q = some (.lst (ts.map V.ref))) → ∃ acc, G q = some (.lst acc) ∧ acc.length < sizeLine ∧ Same H (upd G q (.lst (acc ++ [V.ref t']))) ∧ ∃ ts2 : List Addr, upd G q (.lst (acc ++ [V.ref t'])) q = some (.lst (ts2.map V.ref)) ∧ ts2.length = i + 1 ∧ ∀ (k : Nat) (t : Addr), ts2[k]? = some t → ∃ en, log[k]? = some en ∧ LogAt (upd H q (.lst [])) (upd G q (.lst (acc ++ [V.ref t']))) t en := fun t' G s la hq => by
        have hq := hq t'
        have keep : ∀ {t : Addr} {en : En}, LogAt (upd H q (.lst [])) G t en → LogAt (upd H q (.lst [])) (upd G q (.lst (ts.map V.ref ++ [V.ref t']))) t en := fun {t en} h => by
          have tk : ∀ {z : Addr} {ys : List V}, G z = some (.tup ys) → upd G q (.lst (ts.map V.ref ++ [V.ref t'])) z = some (.tup ys) := fun {z ys} e => by
            rw [upd_ne (ne_of e hq (by intro c; cases c))]
            exact e
          cases en with
          | one op inv => exact tk h
          | many ops invs =>
            obtain ⟨l, us, a1, a2, a3, a4, a5⟩ := h
            by_cases c : l = q
            · rw [c, upd_same] at a2; cases a2
            · exact ⟨l, us, tk a1, a2, by rw [upd_ne c]; exact a3, a4, fun k u e => by
                obtain ⟨op, b1, b2⟩ := a5 k u e
                exact ⟨op, b1, tk b2⟩⟩
        refine ⟨_, hq, by have := bd.few; rw [List.length_map, f2, sizeLine_eq]; omega, fun c v hv => ?_, ts ++ [t'], by rw [upd_same, List.map_append]; rfl, by rw [List.length_append, f2]; rfl, fun k t hk => ?_⟩
        · rw [upd_ne (ne_of_none hv nq)]
          exact s _ _ (sm _ _ hv)
        · by_cases hl : k < ts.length
          · rw [List.getElem?_append_left hl] at hk
            obtain ⟨en', c1, c2⟩ := f3 k t hk
            exact ⟨en', c1, keep (c2.same s)⟩
          · rw [List.getElem?_append_right (by omega)] at hk
            have hk' : k = ts.length := by
              have := (List.getElem?_eq_some_iff.mp hk).1
              simp at this
              omega
            subst hk'
            rw [Nat.sub_self] at hk
            obtain rfl : t' = t := Option.some.inj hk
            exact ⟨en, by rw [f2]; exact hen, keep la⟩
      have frQ : ∀ {l : Addr}, H'' l = none → (upd H q (.lst [])) l = none := fun {l} nl => by
        rw [upd_ne (fun c => by rw [c, f1] at nl; cases nl)]
        exact sm.free nl
      cases en with
      | one op inv =>
        obtain ⟨o, u, iv, w1, w2, w3, w4⟩ := ent
        exact ⟨e, _, rfl, SqT.of (sm _ _ w1), rfl, _, _, rfl, _, _, rfl, rfl, rfl, _, rfl, o, rfl, .inl ⟨op, sm _ _ w2, fin o H'' (Same.refl H'') (sm _ _ w2) fun _ => f1⟩⟩
      | many ops invs =>
        obtain ⟨o, l0, u, ts0, us, w1, w2, w3, w4, w5, w6⟩ := ent
        refine ⟨e, _, rfl, SqT.of (sm _ _ w1), rfl, _, _, rfl, _, _, rfl, rfl, rfl, _, rfl, o, rfl, .inr ⟨l0, _, sm _ _ w2, sm _ _ w3, fun l t' G s nl nt hl ht => ?_⟩⟩
        exact fin t' G s ⟨l, ts0, ht, frQ nl, hl, (w4.same sm).same s⟩ fun _ => s _ _ f1
    · obtain ⟨sm, ts, f1, f2, f3⟩ := h
      rw [List.length_map] at f2
      refine k q ts H'' nq sm f1 ⟨by omega, fun j t e => ?_⟩
      obtain ⟨en, c1, c2⟩ := f3 j t e
      refine ⟨en, c1, ?_⟩
      cases en with
      | one op inv => exact c2
      | many ops invs =>
        obtain ⟨l, us, a1, a2, a3, a4⟩ := c2
        refine ⟨l, us, a1, ?_, a3, a4⟩
        by_cases c : l = q
        · rw [c]; exact nq
        · rw [upd_ne c] at a2; exact a2
end
end K72
set_option Elab.async false
set_option linter.all false
set_option maxRecDepth 100000
set_option maxHeartbeats 8000000
namespace K72
open PySem PySem.Spec PyProof.Rows L2 FNX
section
variable {P : Program} {w : World} {K : PySem.W.Frag} {mg : Str → Option Value} {base : Heap} {CG CT CB CS CM CE : Addr}
theorem sc_lboard : FnScope ["_law_model_here"] ["_law_model_here"] (defScope s__law_board) := ⟨rfl, rfl, rfl, by decide +kernel, rfl, by decide +kernel, by decide +kernel⟩
theorem ok_lboard {f fI fBI : Addr} {fd fdI fdBI : FuncData} (F : Fun K "_law_board" "_law_board" s__law_board f fd) (M : Nms mg) (T : GTxt K mg CG) (B : BTxt K mg CB)
    (MK : Mk K CG fI) (GI : FnOk P w K mg base (L2.CX P w) 6 fI fdI ["self", "size", "edges"] (spGI01 K CG CS CM CE)) (bI : L2.Binds K fdI ["self", "size", "edges"] [])
    (MKB : Mk K CB fBI) (GBI : FnOk P w K mg base (L2.CX P w) 6 fBI fdBI ["self", "graph", "position", "players"] (spBInit K CG CT CB)) (bBI : L2.Binds K fdBI ["self", "graph", "position", "players"] []) :
    FnOk P w K mg base CX0 8 f fd ["_law_model_here"] (spLBoard CG CT CB) := by
  refine F.ok sc_lboard (fun vs H Q E h => ?_) (fun cdv A' outer s H vs Q E hr h => ?_)
  · obtain ⟨A0, a, j, h, c, M, k, rfl, _⟩ := h
    rfl
  · obtain ⟨A0, a, j, h, c, ⟨n, es, x, sc⟩, kp, rfl, m3, okm, sE, sc0, k1, k8, L3, kont⟩ := h
    have sc0 : sc = List.replicate kp 0 := sc0
    subst sc0
    have lenx : x.length = n := okm.len
    have n1 : 1 ≤ n := okm.n1
    have n16 : n ≤ 16 := okm.n16
    have good : GoodE n es := okm.good
    have few : es.length ≤ 40 := good.few
    have D3 := L3.dom
    refine ⟨_, (pss_one (ps_ret (pe_make MKB GBI (hr.mono (by decide)) (by rfl) B.mgC bBI .nil passL (pa_cons (pe_make MK GI (hr.mono (by decide)) (by rfl) T.mgC bI .nil passL (pa_cons (pe_dget (hu_of hr) (pv 0) pe_str (fun _ _ => rfl)) (pa_cons (pe_dget (hu_of hr) (pv 0) pe_str (fun _ _ => rfl)) pa_nil))) (pa_cons (pe_dget (hu_of hr) (pv 0) pe_str (fun _ _ => rfl)) (pa_cons (pe_callB call_len_seq (by rfl) M.len boot_len1 (pa_cons (pe_dget (hu_of hr) (pv 0) pe_str (fun _ _ => rfl)) pa_nil)) pa_nil)))))), ?_⟩
    refine ⟨_, rfl, a, _, rfl, gMany m3.dc, _, rfl, a, _, rfl, gJoins m3.dc, ?_⟩
    intro g dxn nx ndx nex
    have sx0 := preS (CG := CG) nx ndx nex
    obtain ⟨tq, t1, t2⟩ := id m3.jn
    refine ⟨g, dxn, _, .ref j, rfl, upd_same, .inr ⟨n, rfl, n1, n16, .inr (.inr ⟨es, ⟨j, tq, rfl, .inl (sx0 _ _ t1), t2.same sx0, good.toU⟩, fun h => by omega, fun _ H4 jj nr N es' up hx' hj hN near pe sE' nj' nn => ⟨rfl, ?_⟩⟩)⟩⟩
    rw [ordMap good] at pe
    obtain rfl := SrtE.uniq pe sE' sE
    obtain ⟨s34, gr4⟩ := graphNew D3 nx ndx nex up hx' hj near sE' nj' nn good n1 n16
    have m4 := m3.same s34
    refine ⟨_, rfl, a, _, rfl, gHere m4.dc, _, rfl, a, _, rfl, gScores m4.dc, c, _, rfl, .inl (SqL.of m4.sc), ?_⟩
    intro b dxb nb ndb neb
    have sxb := preS (CG := CB) nb ndb neb
    obtain ⟨H5, q5⟩ : ∃ H5, upd (upd H4 dxb (.own b)) b (.ins CB dxb []) = H5 := ⟨_, rfl⟩
    have hb5 : H5 b = some (.ins CB dxb []) := by rw [← q5, upd_same]
    rw [q5] at sxb ⊢
    have s35 := s34.trans sxb
    have D5 : Dom ([b] ++ A0) H5 := fun z hz => by
      rcases List.mem_append.mp hz with hz | hz
      · rw [List.mem_singleton.mp hz]
        exact ⟨_, hb5, fun _ z => by cases z⟩
      · exact (D3.same s35) z hz
    have nb0 := s34.free nb
    refine ⟨[b] ++ A0, b, dxb, g, h, n, es', x, kp, congrArg (fun z => [V.ref b, V.ref g, V.ref h, z]) (congrArg V.int (by rw [List.length_map, List.length_replicate])), hb5, by simp, D5, Stb.new (L := [b]) gr4 (sameFr sxb) (fun z hz => by rw [List.mem_singleton.mp hz]; exact nb), SqL.of (s35 _ _ m3.hr), lenx, k1, k8, fun so nl pl pk H6 f6 nso nnl npl npk bd6 => ⟨rfl, ?_⟩⟩
    have s06 : Same _ H6 := fun z o e => f6 z o (fun q => by rw [q, nb0] at e; cases e) (s35 _ _ e)
    have lis6 := bd6.lis
    obtain ⟨dxb6, hb6⟩ := bd6.obj
    have hA : ∀ z, z ∈ [so, nl, pl, pk, b] ++ A0 ↔ z ∈ so :: nl :: pl :: pk :: ([b] ++ A0) := fun z => by simp
    have e : so :: nl :: pl :: pk :: ([b] ++ A0) = [so, nl, pl, pk, b] ++ A0 := rfl
    rw [e] at bd6
    refine kont b so nl pl pk g H6 s06 (fun z hz => ?_) bd6 (fun z hz => ?_)
    · simp only [List.mem_cons, List.not_mem_nil, or_false] at hz
      rcases hz with q | q | q | q | q <;> rw [q]
      · exact s35.free nso
      · exact s35.free nnl
      · exact s35.free npl
      · exact s35.free npk
      · exact nb0
    · rcases List.mem_append.mp hz with hz | hz
      · simp only [List.mem_cons, List.not_mem_nil, or_false] at hz
        rcases hz with q | q | q | q | q
        · exact lis6 z (by rw [q]; simp)
        · exact lis6 z (by rw [q]; simp)
        · exact lis6 z (by rw [q]; simp)
        · exact lis6 z (by rw [q]; simp)
        · rw [q]; exact .inr ⟨_, _, _, hb6⟩
      · exact (L3.same s06) z hz
end
end K72
set_option Elab.async false
set_option linter.all false
set_option maxRecDepth 100000
set_option maxHeartbeats 8000000
namespace K72
open PySem PySem.Spec PyProof.Rows L2 FNX
/-- an operation whose nodes are below n -/
def okN (n : Nat) : Op → Prop
  | .fire _ v => v < n
  | .put v _ => v < n
  | .add _ => True
  | .join a b => a < n ∧ b < n
  | .part a b => a < n ∧ b < n
  | _ => False
theorem okN.ok {M : Mo} {op : Op} (h : okN M.n op) : okOp M op := by
  cases op with
  | fire p v => exact h
  | put v z => exact h
  | add z => exact h
  | join a b => exact h
  | part a b => exact h
  | back p v => exact h.elim
  | drop => exact h.elim
theorem okOp.n {M : Mo} {op : Op} (h : okOp M op) (h5 : isFive op = true) : okN M.n op := by
  cases op with
  | fire p v => exact h
  | put v z => exact h
  | add z => exact h
  | join a b => exact h
  | part a b => exact h
  | back p v => cases h5
  | drop => cases h5
theorem okN.mono {n m : Nat} {op : Op} (h : okN n op) (le : n ≤ m) : okN m op := by
  cases op with
  | fire p v => exact Nat.lt_of_lt_of_le h le
  | put v z => exact Nat.lt_of_lt_of_le h le
  | add z => exact True.intro
  | join a b => exact ⟨Nat.lt_of_lt_of_le h.1 le, Nat.lt_of_lt_of_le h.2 le⟩
  | part a b => exact ⟨Nat.lt_of_lt_of_le h.1 le, Nat.lt_of_lt_of_le h.2 le⟩
  | back p v => exact h.elim
  | drop => exact h.elim
theorem stepN {M : Mo} {op : Op} {r : Mo × V} (h : stepM M op = .ok r) (h5 : isFive op = true) : M.n ≤ r.1.n := by
  cases op with
  | back p v => cases h5
  | drop => cases h5
  | fire p v =>
    unfold stepM at h
    dsimp only at h
    split at h
    · cases h
    · split at h
      · cases h
      · injection h with h
        rw [← h]
        exact Nat.le_refl _
  | put v z =>
    injection h with h
    rw [← h]
    exact Nat.le_refl _
  | add z =>
    unfold stepM at h
    dsimp only at h
    split at h
    · cases h
    · injection h with h
      rw [← h]
      exact Nat.le_succ _
  | join a c =>
    unfold stepM at h
    dsimp only at h
    split at h
    · cases h
    · split at h
      · cases h
      · injection h with h
        rw [← h]
        exact Nat.le_refl _
  | part a c =>
    unfold stepM at h
    dsimp only at h
    split at h
    · injection h with h
      rw [← h]
      exact Nat.le_refl _
    · cases h
/-- the model stays one -/
theorem stepOkM {M : Mo} {op : Op} {r : Mo × V} (h : stepM M op = .ok r) (h5 : isFive op = true) (ok : okOp M op) (m : OkM M) (s : SrtE M.es) : OkM r.1 ∧ SrtE r.1.es := by
  obtain ⟨good, len, n1, n16, few⟩ := m
  cases op with
  | back p v => cases h5
  | drop => cases h5
  | fire p v =>
    unfold stepM at h
    dsimp only at h
    split at h
    · cases h
    · split at h
      · cases h
      · injection h with h
        rw [← h]
        exact ⟨⟨good, by show (flipM M v).length = M.n; unfold flipM; rw [flipLen]; exact len, n1, n16, by show (M.sc.set _ _).length ≤ 1000; rw [List.length_set]; exact few⟩, s⟩
  | put v z =>
    injection h with h
    rw [← h]
    exact ⟨⟨good, by show (M.x.set v z).length = M.n; rw [List.length_set]; exact len, n1, n16, few⟩, s⟩
  | add z =>
    unfold stepM at h
    dsimp only at h
    split at h
    · cases h
    · rename_i c
      injection h with h
      rw [← h]
      exact ⟨⟨⟨fun e he => by have := good.node e he; exact ⟨this.1, this.2.1, by show e.2 < ((M.n + 1 : Nat) : Int); omega⟩, good.once, good.few⟩, by show (M.x ++ [z]).length = M.n + 1; rw [List.length_append, len]; rfl, by show 1 ≤ M.n + 1; omega, by show M.n + 1 ≤ 16; omega, few⟩, s⟩
  | join a c =>
    unfold stepM at h
    dsimp only at h
    split at h
    · cases h
    · rename_i c1
      split at h
      · cases h
      · rename_i c2
        injection h with h
        rw [← h]
        obtain ⟨gU, gM⟩ := goodSnoc good (edgIn ok.1 ok.2 (fun z => c1 (.inl z))) (fun z => c1 (.inr z))
        have gE := gU.ord (by rw [List.length_append]; show M.es.length + 1 ≤ 40; omega)
        rw [gM] at gE
        exact ⟨⟨gE.perm (srtE_perm _), len, n1, n16, few⟩, srtE_srt _⟩
  | part a c =>
    unfold stepM at h
    dsimp only at h
    split at h
    · injection h with h
      rw [← h]
      exact ⟨⟨⟨fun e he => good.node e (List.mem_filter.mp he).1, good.once.filter _, Nat.le_trans (List.length_filter_le _ _) good.few⟩, len, n1, n16, few⟩, s.filter _⟩
    · cases h
/-- what fails changes nothing -/
def skipM (M : Mo) (op : Op) : Mo := match stepM M op with
  | .ok r => r.1
  | .error _ => M
def okS : Mo → List Op → Prop
  | _, [] => True
  | M, op :: r => okOp M op ∧ okS (skipM M op) r
theorem okS_snoc {M : Mo} {ops : List Op} {op : Op} (h : okS M ops) (o : okOp (ops.foldl skipM M) op) : okS M (ops ++ [op]) := by
  induction ops generalizing M with
  | nil => exact ⟨o, True.intro⟩
  | cons p ops ih => exact ⟨h.1, ih h.2 o⟩
theorem skipN {M : Mo} {op : Op} (h5 : isFive op = true) : M.n ≤ (skipM M op).n := by
  unfold skipM
  cases e : stepM M op with
  | ok r => exact stepN e h5
  | error er => exact Nat.le_refl _
theorem skipOkM {M : Mo} {op : Op} (h5 : isFive op = true) (ok : okOp M op) (m : OkM M) (s : SrtE M.es) : OkM (skipM M op) ∧ SrtE (skipM M op).es := by
  unfold skipM
  cases e : stepM M op with
  | ok r => exact stepOkM e h5 ok m s
  | error er => exact ⟨m, s⟩
theorem okI_snoc {M M1 : Mo} {its : List Itm} {o : Op} {vs : List V} {ivs : List Op} (ok : okI M its) (h : runI M its = .ok (M1, vs, ivs)) (o1 : okOp M1 o) : okI M (its ++ [Itm.op o]) := by
  induction its generalizing M M1 vs ivs with
  | nil =>
    injection h with h
    injection h with h1 h2
    subst h1
    exact ⟨o1, fun _ _ _ => True.intro⟩
  | cons it its ih =>
    cases it with
    | bad => cases h
    | op p =>
      refine ⟨ok.1, fun M' v' e1 => ?_⟩
      have h : (match stepM M p with | .error e => Except.error (0, some e) | .ok (M', v) => match runI M' its with | .error (k, e) => Except.error (k + 1, e) | .ok (M'', vs, ivs) => Except.ok (M'', v :: vs, invM M p :: ivs)) = .ok (M1, vs, ivs) := h
      rw [e1] at h
      dsimp only at h
      cases e2 : runI M' its with
      | error ke => rw [e2] at h; cases h
      | ok r2 =>
        obtain ⟨Ma, va, ia⟩ := r2
        rw [e2] at h
        injection h with h
        injection h with h1 h2
        subst h1
        exact ih (ok.2 M' v' e1) e2 o1
/-- behind a failure nothing more is asked -/
theorem okI_more {M : Mo} {its r : List Itm} {ke : Nat × Option Er} (ok : okI M its) (h : runI M its = .error ke) : okI M (its ++ r) := by
  induction its generalizing M ke with
  | nil => cases h
  | cons it its ih =>
    cases it with
    | bad => exact True.intro
    | op p =>
      refine ⟨ok.1, fun M' v' e1 => ?_⟩
      have h : (match stepM M p with | .error e => Except.error (0, some e) | .ok (M', v) => match runI M' its with | .error (k, e) => Except.error (k + 1, e) | .ok (M'', vs, ivs) => Except.ok (M'', v :: vs, invM M p :: ivs)) = .error ke := h
      rw [e1] at h
      dsimp only at h
      cases e2 : runI M' its with
      | error ke2 => exact ih (ok.2 M' v' e1) e2
      | ok r2 => rw [e2] at h; cases h
theorem runI_more {M : Mo} {its r : List Itm} {ke : Nat × Option Er} (h : runI M its = .error ke) : runI M (its ++ r) = .error ke := by
  induction its generalizing M ke with
  | nil => cases h
  | cons it its ih =>
    cases it with
    | bad => exact h
    | op p =>
      have h : (match stepM M p with | .error e => Except.error (0, some e) | .ok (M', v) => match runI M' its with | .error (k, e) => Except.error (k + 1, e) | .ok (M'', vs, ivs) => Except.ok (M'', v :: vs, invM M p :: ivs)) = .error ke := h
      show (match stepM M p with | .error e => Except.error (0, some e) | .ok (M', v) => match runI M' (its ++ r) with | .error (k, e) => Except.error (k + 1, e) | .ok (M'', vs, ivs) => Except.ok (M'', v :: vs, invM M p :: ivs)) = _
      cases e1 : stepM M p with
      | error er => rw [e1] at h; exact h
      | ok q =>
        obtain ⟨M', v'⟩ := q
        rw [e1] at h
        dsimp only at h ⊢
        cases e2 : runI M' its with
        | error ke2 =>
          rw [e2] at h
          rw [ih e2]
          exact h
        | ok r2 => rw [e2] at h; cases h
end K72
set_option Elab.async false
set_option linter.all false
set_option maxRecDepth 100000
set_option maxHeartbeats 8000000
namespace K72
open PySem PySem.Spec PyProof.Rows L2 FNX
def SevAt (K : PySem.W.Frag) (H0 H : Hp) (d : Addr) (M : Mo) (ops : List Op) : Prop := match runI M (ops.map Itm.op) with
  | .ok r => ∃ l, H0 l = none ∧ H d = some (.lst [.str "told", .ref l]) ∧ H l = some (.lst r.2.1)
  | .error (_, some er) => DueAt K H d (.error er)
  | .error (_, none) => False
def spSeveral (K : PySem.W.Frag) : Sp := fun vs H Q _ => ∃ (p a j h c : Addr) (M : Mo), vs = [.ref p, .ref a] ∧ PoolAt H p ∧ MdAt H a M j h c ∧ p ≠ j ∧ p ≠ h ∧ p ≠ c ∧ OkM M ∧ SrtE M.es ∧
  ∀ (q a2 r d : Addr) (ops : List Op) (ts : List Addr) (H' : Hp), SameX p H H' → PoolAt H' p → H q = none → H a2 = none → H r = none → H d = none → H' q = some (.lst [.ref a2, .ref r, .ref d]) → H' r = some (.lst (ts.map V.ref)) → OpsAt H' ts ops → ops.length ≤ 4 →
    (∀ op ∈ ops, isFive op = true ∧ opB op ∧ OpS op) → okI M (ops.map Itm.op) → okS M ops → SevAt K H H' d M ops → (∀ r', runI M (ops.map Itm.op) = .ok r' → ∃ j' h' c', MdAt H' a2 r'.1 j' h' c' ∧ H j' = none ∧ H h' = none ∧ H c' = none) → Q (.ref q) H'
theorem dueVal {K : PySem.W.Frag} {H : Hp} {v : V} {M : Mo} {op : Op} {r : Mo × V} (e : stepM M op = .ok r) (h : Dp K H v (valD r.2)) : v = r.2 := by
  by_cases c : isAdd op = true
  · cases op <;> first | cases c | skip
    unfold stepM at e
    dsimp only at e
    split at e
    · cases e
    · injection e with e
      rw [← e] at h ⊢
      cases (show Dp K H v (.int _) from h)
      rfl
  · have z := stepNon e (by simpa using c)
    rw [z] at h ⊢
    cases (show Dp K H v .none from h)
    rfl
section
variable {P : Program} {w : World} {K : PySem.W.Frag} {mg : Str → Option Value} {base : Heap}
theorem sc_several : FnScope ["_law_pool_here", "_law_model_here", "_law_later", "_law_rows", "_law_due", "_law_results", "_law_turn", "_law_row_here", "_law_told_here"] ["_law_pool_here", "_law_model_here"] (defScope s__law_several) := ⟨rfl, rfl, rfl, by decide +kernel, rfl, by decide +kernel, by decide +kernel⟩
theorem ok_several {f : Addr} {fd : FuncData} (F : Fun K "_law_several" "_law_several" s__law_several f fd) (M : Nms mg) (GT : At P w K mg base CX0 1 "_law_take" ["_law_pool_here", "_law_sides"] spTake) (GRw : At P w K mg base CX0 3 "_law_row" ["_law_pool_here", "_law_model_here"] spRow)
    (GCy : At P w K mg base CX0 1 "_law_copy" ["_law_model_here"] spCopy) (GDn : At P w K mg base CX0 2 "_law_done" ["_law_model_here", "_law_row_here"] (spDone K isFive)) : FnOk P w K mg base CX0 4 f fd ["_law_pool_here", "_law_model_here"] (spSeveral K) := by
  obtain ⟨fT, fdT, GT, mT, kT, bT⟩ := GT
  obtain ⟨fRw, fdRw, GRw, mRw, kRw, bRw⟩ := GRw
  obtain ⟨fCy, fdCy, GCy, mCy, kCy, bCy⟩ := GCy
  obtain ⟨fDn, fdDn, GDn, mDn, kDn, bDn⟩ := GDn
  refine F.ok sc_several (fun vs H Q E h => ?_) (fun cdv A' outer s H vs Q E hr h => ?_)
  · obtain ⟨p, a, j, h, c, M, rfl, _⟩ := h
    rfl
  · obtain ⟨p, a, j, h, c, mo, rfl, hp, m, pj, ph, pc, okm, sE, k⟩ := h
    have nd := sc_several.nd
    have lx16 : mo.x.length ≤ 16 := by rw [okm.len]; exact okm.n16
    refine ⟨_, (pss_cons (ps_asg (pe_tup (pa_cons (pe_call GCy (hr.mono (by decide)) (by rfl) mCy kCy bCy .nil pass0 (pa_cons (pv 1) pa_nil)) (pa_cons (pe_lst pa_nil) (pa_cons pe_non (pa_cons (pe_lst pa_nil) pa_nil))))) (pg_tup rfl (pgs_cons (pg_name (i := 2) nd rfl (Or.inl rfl)) (pgs_cons (pg_name (i := 3) nd rfl (Or.inl rfl)) (pgs_cons (pg_name (i := 4) nd rfl (Or.inl rfl)) (pgs_cons (pg_name (i := 5) nd rfl (Or.inl rfl)) pgs_nil))))))
      (pss_cons (ps_for PassesOwn.never rfl (pi_range1 rfl M.range (pa_cons (pe_call GT (hr.mono (by decide)) (by rfl) mT kT bT .nil pass0 (pa_cons (pv 0) (pa_cons pe_int pa_nil))) pa_nil)) (pg_name (i := 6) nd rfl (Or.inl rfl)) (pss_cons (ps_set (i := 7) nd rfl (Or.inl rfl) (pe_call GRw (hr.mono (by decide)) (by rfl) mRw kRw bRw .nil pass0 (pa_cons (pv 0) (pa_cons (pv 2) pa_nil))))
      (pss_cons (ps_expr (pe_bm PySem.F.plainAttrs_list PySem.F.slot_list_append PySem.F.type_list_append mt_append (pv 3) (pa_cons (pv 7) pa_nil)))
      (pss_one (ps_if (pt_cmpR op_isN (pv 4) pe_non (nomark _)) (pss_cons (ps_set (i := 8) nd rfl (Or.inl rfl) (pe_call GDn (hr.mono (by decide)) (by rfl) mDn kDn bDn .nil pass0 (pa_cons (pv 2) (pa_cons (pv 7) pa_nil))))
      (pss_cons (ps_expr (pe_bm PySem.F.plainAttrs_list PySem.F.slot_list_append PySem.F.type_list_append mt_append (pv 5) (pa_cons (pe_ix (r := rIxL K) ix_list (pv 8) pe_int (fun _ _ => rfl)) pa_nil)))
      (pss_one (ps_set (i := 4) nd rfl (Or.inl rfl) (pe_ifExp (pt_cmpR op_eq (pe_ix (r := rIxL K) ix_list (pv 8) pe_int (fun _ _ => rfl)) pe_str (nomark _)) pe_non (pv 8)))))) pss_nil)))))
      (pss_one (ps_ret (pe_lst (pa_cons (pv 2) (pa_cons (pv 3) (pa_cons (pe_orT (pv 4) (pe_one (pe_lst (pa_cons pe_str (pa_cons (pv 5) pa_nil))))) pa_nil)))))))), ?_⟩
    refine ⟨_, rfl, a, j, h, c, mo, rfl, m, by omega, okm.few, fun a2 j2 h2 c2 H1 s1 na2 nj2 nh2 nc2 m1 => ?_⟩
    refine ⟨by show 0 ≤ sizeLine; decide, fun r nr => ?_⟩
    obtain ⟨H2, q2, s2, hr2⟩ := newAt (.lst []) nr
    rw [q2]
    refine ⟨by show 0 ≤ sizeLine; decide, fun res nres => ?_⟩
    obtain ⟨H3, q3, s3, hres⟩ := newAt (.lst []) nres
    rw [q3]
    refine ⟨by show 4 ≤ sizeLine; decide, fun T nT => ?_⟩
    obtain ⟨H4, q4, s4, hT⟩ := newAt (.tup [V.ref a2, V.ref r, V.non, V.ref res]) nT
    rw [q4]
    refine ⟨T, _, rfl, SqT.of hT, rfl, _, _, rfl, _, _, rfl, _, _, rfl, _, _, rfl, rfl, ?_⟩
    have s24 := s2.trans (s3.trans s4)
    have s04 := s1.trans s24
    have hp4 := hp.same s04
    have m4 := m1.same s24
    have nr0 := s1.free nr
    have nres0 := s1.free (s2.free nres)
    have rres : r ≠ res := ne_of_none hr2 nres
    have al1 : ∀ z ∈ [a2, j2, h2, c2], ∃ o, H1 z = some o := m1.there
    have rN : ∀ z ∈ [a2, j2, h2, c2], z ≠ r ∧ z ≠ res := fun z hz => by
      obtain ⟨o, e⟩ := al1 z hz
      exact ⟨ne_of_none e nr, ne_of_none (s2 _ _ e) nres⟩
    have pr : p ≠ r := hp.ne nr0
    have pres : p ≠ res := hp.ne nres0
    have fr0 : ∀ z ∈ [a2, j2, h2, c2], H z = none := fun z hz => by
      simp only [List.mem_cons, List.not_mem_nil, or_false] at hz
      rcases hz with q | q | q | q <;> rw [q] <;> assumption
    refine ⟨_, rfl, p, 5, rfl, hp4, by decide, by decide, fun tn H5 u0 u1 hp5 t5 => ?_⟩
    have x5 := sameX_take t5
    obtain ⟨tn', rfl⟩ : ∃ tn' : Nat, tn = (tn' : Int) := ⟨tn.toNat, by omega⟩
    have x05 : SameX p H H5 := (Same.x s04).trans x5
    have m5 := m4.x hp4 (hp.ne nj2) (hp.ne nh2) (hp.ne nc2) x5
    refine ⟨tn', rfl, by omega, by omega, for_range (lo := 0) (fun i σ G => ∃ (o6 o7 o8 : Option V) (L : Mo) (j' h' : Addr) (ops : List Op) (ts : List Addr) (vals : List V) (dv : V), σ = [some (.ref p), some (.ref a), some (.ref a2), some (.ref r), some dv, some (.ref res), o6, o7, o8] ∧ SameX p H G ∧ PoolAt G p ∧ MdAt G a2 L j' h' c2 ∧
      (∀ z ∈ [a2, j', h', c2], H z = none ∧ z ≠ r ∧ z ≠ res) ∧ G r = some (.lst (ts.map V.ref)) ∧ OpsAt G ts ops ∧ G res = some (.lst vals) ∧ ops.length = i ∧ vals.length ≤ i ∧ (∀ op ∈ ops, isFive op = true ∧ opB op ∧ OpS op) ∧ OkM L ∧ SrtE L.es ∧ L.n ≤ (ops.foldl skipM mo).n ∧ okI mo (ops.map Itm.op) ∧ okS mo ops ∧
      ((dv = .non ∧ ops.foldl skipM mo = L ∧ ∃ ivs, runI mo (ops.map Itm.op) = .ok (L, vals, ivs)) ∨ ∃ d k er, dv = .ref d ∧ H d = none ∧ d ≠ r ∧ runI mo (ops.map Itm.op) = .error (k, some er) ∧ DueAt K G d (.error er)))
      ⟨_, _, _, mo, j2, h2, [], [], [], .non, rfl, x05, hp5, m5, fun z hz => ⟨fr0 z hz, (rN z hz).1, (rN z hz).2⟩, x5 _ _ pr.symm (s4 _ _ (s3 _ _ hr2)), ⟨rfl, fun k t e => by simp at e⟩, x5 _ _ pres.symm (s4 _ _ hres), rfl, Nat.le_refl _, fun op ho => (by cases ho), okm, sE, Nat.le_refl _, True.intro, True.intro, .inl ⟨rfl, rfl, [], rfl⟩⟩ (fun i σ G hi hG => ?_) (fun σ G hG => ?_)⟩
    · obtain ⟨o6, o7, o8, L, j', h', ops, ts, vals, dv, rfl, x0, hpG, mG, fz, hrG, hoG, hresG, li, lv, pr5, okL, sL, le, oi, os, dd⟩ := hG
      have pz : ∀ z ∈ [a2, j', h', c2], p ≠ z := fun z hz => hp.ne (fz z hz).1
      have n16 : L.n ≤ 16 := okL.n16
      have Lp : Lis [p] G := fun z hz => by
        obtain ⟨u, w', e, _⟩ := hpG
        rw [List.mem_singleton.mp hz]
        exact .inl ⟨_, e⟩
      refine ⟨_, rfl, _, rfl, p, a2, j', h', c2, L, rfl, hpG, mG, pz j' (by simp), pz h' (by simp), pz c2 (by simp), okL, fun t op G1 nt x1 hp1 ht h5 ok hb => ?_⟩
      have m1 := mG.x hpG (pz j' (by simp)) (pz h' (by simp)) (pz c2 (by simp)) x1
      have hr1 := x1 _ _ pr.symm hrG
      have hres1 := x1 _ _ pres.symm hresG
      have ho1 : OpsAt G1 ts ops := hoG.fr (frX x1) (fun z hz => hz) Lp.dom
      refine ⟨_, rfl, .inl ⟨rfl, _, SqL.of hr1⟩, _, rfl, r, _, _, rfl, rfl, hr1, by rw [List.length_map, hoG.1, sizeLine_eq]; omega, ?_⟩
      obtain ⟨G2, r2⟩ : ∃ G2, upd G1 r (.lst ((ts ++ [t]).map V.ref)) = G2 := ⟨_, rfl⟩
      have r2' : upd G1 r (.lst (ts.map V.ref ++ [V.ref t])) = G2 := by rw [← r2, List.map_append]; rfl
      rw [r2']
      have f12 : FrL [r] G1 G2 := by rw [← r2]; exact frUpd (by simp)
      have hr2' : G2 r = some (.lst ((ts ++ [t]).map V.ref)) := by rw [← r2, upd_same]
      have Lr1 : Lis [r] G1 := fun z hz => by rw [List.mem_singleton.mp hz]; exact .inl ⟨_, hr1⟩
      have nin : ∀ {z : Addr}, z ≠ r → z ∉ [r] := fun {z} n hm => n (List.mem_singleton.mp hm)
      have m2 := m1.fr f12 Lr1 (fun z hz => nin (fz z hz).2.1)
      have hres2 := f12 _ _ (nin rres.symm) hres1
      have ht2 := f12 _ _ (nin (ne_of ht hr1 (by intro q; cases q))) ht
      have ho2 : OpsAt G2 (ts ++ [t]) (ops ++ [op]) := (ho1.fr f12 (fun z hz => hz) Lr1.dom).snoc ht2
      have hp2 : PoolAt G2 p := by
        obtain ⟨u, w', e, e2⟩ := hp1
        exact ⟨u, w', f12 _ _ (nin pr) e, e2⟩
      have x02 : SameX p H G2 := fun z y nz e => f12 z y (fun hm => by rw [List.mem_singleton.mp hm, nr0] at e; cases e) (x1 z y nz (x0 z y nz e))
      have pr5' : ∀ o ∈ ops ++ [op], isFive o = true ∧ opB o ∧ OpS o := fun o ho => by
        rcases List.mem_append.mp ho with ho | ho
        · exact pr5 o ho
        · rw [List.mem_singleton.mp ho]
          exact ⟨h5, hb, opSm h5 ok hb n16⟩
      have okn := (okOp.n ok h5).mono le
      have os' := okS_snoc os okn.ok
      have le' : ∀ L' : Mo, L'.n ≤ (ops.foldl skipM mo).n → L'.n ≤ ((ops ++ [op]).foldl skipM mo).n := fun L' h => by
        rw [List.foldl_append]
        exact Nat.le_trans h (skipN h5)
      have mapE : (ops ++ [op]).map Itm.op = ops.map Itm.op ++ [Itm.op op] := by rw [List.map_append]; rfl
      refine ⟨_, rfl, rfl, _, rfl, ?_⟩
      rcases dd with ⟨rfl, sk, ivs, run⟩ | ⟨d, kf, er, rfl, nd0, dr, run, due⟩
      · rw [decide_eq_true rfl]
        refine iteT ⟨_, rfl, _, rfl, a2, t, j', h', c2, L, op, h5, rfl, m2, ht2, ok, okL, fun d G3 f23 nd2 due resOk resEr => ?_⟩
        have nl4 : ∀ {z : Addr}, H z = none → True := fun _ => True.intro
        have fz' : ∀ z ∈ [a2, j', h', c2], z ≠ r ∧ z ≠ res := fun z hz => (fz z hz).2
        have hr3 := f23 _ _ (fun hm => (fz' r hm).1 rfl) hr2'
        have hres3 := f23 _ _ (fun hm => (fz' res hm).2 rfl) hres2
        have d0 : H d = none := by
          cases z : H d with
          | none => rfl
          | some y =>
            by_cases c : d = p
            · obtain ⟨u, w', e, _⟩ := hp2
              rw [c, e] at nd2
              cases nd2
            · rw [x02 d y c z] at nd2; cases nd2
        have dr : d ≠ r := fun q => by rw [q, hr2'] at nd2; cases nd2
        have dres : d ≠ res := fun q => by rw [q, hres2] at nd2; cases nd2
        obtain ⟨v, hd3, hv⟩ := id due
        refine ⟨_, rfl, .inl ⟨rfl, _, SqL.of hres3⟩, _, rfl, d, _, (1 : Int), v, rfl, rfl, SqL.of hd3, atI_nat (j := 1) rfl, res, _, _, rfl, rfl, hres3, by rw [sizeLine_eq]; omega, ?_⟩
        obtain ⟨G4, r4⟩ : ∃ G4, upd G3 res (.lst (vals ++ [v])) = G4 := ⟨_, rfl⟩
        rw [r4]
        have f34 : FrL [res] G3 G4 := by rw [← r4]; exact frUpd (by simp)
        have hres4 : G4 res = some (.lst (vals ++ [v])) := by rw [← r4, upd_same]
        have Ls3 : Lis [res] G3 := fun z hz => by rw [List.mem_singleton.mp hz]; exact .inl ⟨_, hres3⟩
        have nin' : ∀ {z : Addr}, z ≠ res → z ∉ [res] := fun {z} n hm => n (List.mem_singleton.mp hm)
        have due4 := due.fr f34 Ls3 (nin' dres)
        have hd4 := f34 _ _ (nin' dres) hd3
        have x04' : SameX p H G4 := fun z y nz e => f34 z y (fun hm => by rw [List.mem_singleton.mp hm, nres0] at e; cases e) (f23 z y (fun hm => by rw [(fz z hm).1] at e; cases e) (x02 z y nz e))
        have hp4' : PoolAt G4 p := by
          obtain ⟨u, w', e, e2⟩ := hp2
          exact ⟨u, w', f34 _ _ (nin' pres) (f23 _ _ (fun hm => pz p hm rfl) e), e2⟩
        have hr4 := f34 _ _ (nin' rres) hr3
        have ho4 : OpsAt G4 (ts ++ [t]) (ops ++ [op]) := ⟨ho2.1, fun k u e => by
          obtain ⟨o, e1, e2⟩ := ho2.2 k u e
          have nz : u ∉ [a2, j', h', c2] := fun hm => by
            simp only [List.mem_cons, List.not_mem_nil, or_false] at hm
            rcases hm with q | q | q | q
            · rw [q, m2.dc] at e2; cases e2
            · obtain ⟨tj, t1, _⟩ := m2.jn
              rw [q, t1] at e2; cases e2
            · rw [q, m2.hr] at e2; cases e2
            · rw [q, m2.sc] at e2; cases e2
          have e3 := f23 _ _ nz e2
          exact ⟨o, e1, f34 _ _ (nin' (ne_of e3 hres3 (by intro q; cases q))) e3⟩⟩
        have lv' : (vals ++ [v]).length ≤ i + 1 := by rw [List.length_append]; show vals.length + 1 ≤ i + 1; omega
        refine ⟨_, rfl, d, _, (0 : Int), _, rfl, rfl, SqL.of hd4, atI_nat (j := 0) rfl, rfl, _, rfl, ?_⟩
        cases e : stepM L op with
        | ok rr =>
          rw [show decide (V.str (dueW (Except.ok rr : Except Er (Mo × V))).1 = V.str "told") = true from decide_eq_true rfl]
          refine iteT ?_
          rw [e] at hv
          obtain rfl := dueVal e hv
          obtain ⟨j3, h3, m3, jc, hc⟩ := resOk rr e
          have free2 : ∀ {z : Addr}, G2 z = none → H z = none ∧ z ≠ r ∧ z ≠ res := fun {z} nz => by
            refine ⟨?_, fun q => ?_, fun q => ?_⟩
            · cases y : H z with
              | none => rfl
              | some o =>
                by_cases c : z = p
                · obtain ⟨u, w', e', _⟩ := hp2
                  rw [c, e'] at nz; cases nz
                · rw [x02 z o c y] at nz; cases nz
            · rw [q, hr2'] at nz; cases nz
            · rw [q, hres2] at nz; cases nz
          have fz3 : ∀ z ∈ [a2, j3, h3, c2], H z = none ∧ z ≠ r ∧ z ≠ res := fun z hz => by
            simp only [List.mem_cons, List.not_mem_nil, or_false] at hz
            rcases hz with q | q | q | q
            · exact fz z (by rw [q]; simp)
            · rcases jc with q2 | q2
              · exact fz z (by rw [q, q2]; simp)
              · rw [q]; exact free2 q2
            · rcases hc with q2 | q2
              · exact fz z (by rw [q, q2]; simp)
              · rw [q]; exact free2 q2
            · exact fz z (by rw [q]; simp)
          obtain ⟨okr, sr⟩ := stepOkM e h5 ok okL sL
          have run' : runI mo ((ops ++ [op]).map Itm.op) = .ok (rr.1, vals ++ [rr.2], ivs ++ [invM L op]) := by
            rw [mapE]
            exact runI_snoc run e
          have sk' : (ops ++ [op]).foldl skipM mo = rr.1 := by
            rw [List.foldl_append, sk]
            show skipM L op = rr.1
            unfold skipM
            rw [e]
          refine ⟨_, _, _, rr.1, j3, h3, ops ++ [op], ts ++ [t], vals ++ [rr.2], .non, rfl, x04', hp4', m3.fr f34 Ls3 (fun z hz => nin' (fz3 z hz).2.2), fz3, hr4, ho4, hres4, by rw [List.length_append, li]; rfl, lv', pr5', okr, sr, ?_, by rw [mapE]; exact okI_snoc oi run ok, os', .inl ⟨rfl, sk', _, run'⟩⟩
          rw [sk']
          exact Nat.le_refl _
        | error er =>
          have hw : decide (V.str (dueW (Except.error er : Except Er (Mo × V))).1 = V.str "told") = false := by
            cases er with
            | player p => exact strNe (show (("player" : Str) == "told") = false by decide +kernel)
            | neg u => exact strNe (show (("negative" : Str) == "told") = false by decide +kernel)
            | edge u z => exact strNe (show (("edge" : Str) == "told") = false by decide +kernel)
            | many u => exact strNe (show (("many" : Str) == "told") = false by decide +kernel)
          rw [hw]
          refine iteF ⟨_, rfl, ?_⟩
          have m3 := (resEr er e).fr f34 Ls3 (fun z hz => nin' (fz z hz).2.2)
          have run' : runI mo ((ops ++ [op]).map Itm.op) = .error ((ops.map Itm.op).length, some er) := by
            rw [mapE]
            exact runI_fail run e
          rw [e] at due4
          exact ⟨_, _, _, L, j', h', ops ++ [op], ts ++ [t], vals ++ [v], .ref d, rfl, x04', hp4', m3, fz, hr4, ho4, hres4, by rw [List.length_append, li]; rfl, lv', pr5', okL, sL, le' L le, by rw [mapE]; exact okI_snoc oi run ok, os', .inr ⟨d, _, er, rfl, d0, dr, run', due4⟩⟩
      · rw [decide_eq_false (show ¬ V.ref d = V.non from fun q => by cases q)]
        have due1 := due.fr (frX x1) Lp (fun hm => by
          have q := List.mem_singleton.mp hm
          obtain ⟨u, w', e, _⟩ := hp
          rw [q, e] at nd0; cases nd0)
        have due2 := due1.fr f12 Lr1 (nin dr)
        exact iteF ⟨_, _, _, L, j', h', ops ++ [op], ts ++ [t], vals, .ref d, rfl, x02, hp2, m2, fz, hr2', ho2, hres2, by rw [List.length_append, li]; rfl, by omega, pr5', okL, sL, le' L le, by rw [mapE]; exact okI_more oi run, os', .inr ⟨d, kf, er, rfl, nd0, dr, by rw [mapE]; exact runI_more run, due2⟩⟩
    · obtain ⟨o6, o7, o8, L, j', h', ops, ts, vals, dv, rfl, x0, hpG, mG, fz, hrG, hoG, hresG, li, lv, pr5, okL, sL, le, oi, os, dd⟩ := hG
      have fre : ∀ {G' : Hp} {z : Addr}, Same G G' → G' z = none → H z = none := fun {G' z} s nz => by
        cases y : H z with
        | none => rfl
        | some o =>
          by_cases c : z = p
          · obtain ⟨u, w', e', _⟩ := hpG
            rw [c, s _ _ e'] at nz; cases nz
          · rw [s _ _ (x0 z o c y)] at nz; cases nz
      rcases dd with ⟨rfl, sk, ivs, run⟩ | ⟨d, kf, er, rfl, nd0, dr, run, due⟩
      · refine ⟨_, rfl, _, rfl, _, rfl, false, rfl, ?_⟩
        refine iteF ⟨_, rfl, by show (2 : Nat) ≤ sizeLine; decide, fun l nl => ?_⟩
        obtain ⟨G1, q5, s5, hl⟩ := newAt (.lst [V.str "told", V.ref res]) nl
        rw [q5]
        refine ⟨by show (3 : Nat) ≤ sizeLine; decide, fun q nq => ?_⟩
        obtain ⟨G2, q6, s6, hq⟩ := newAt (.lst [V.ref a2, V.ref r, V.ref l]) nq
        rw [q6]
        have s56 := s5.trans s6
        refine k q a2 r l ops ts G2 (fun z y nz e => s56 _ _ (x0 z y nz e)) (hpG.same s56) (fre s5 nq) (fz a2 (by simp)).1 nr0 (fre (fun _ _ e => e) nl) hq (s56 _ _ hrG) (hoG.same s56) (by omega) pr5 oi os ?_ (fun r' e => ?_)
        · unfold SevAt
          rw [run]
          exact ⟨res, nres0, s6 _ _ hl, s56 _ _ hresG⟩
        · rw [run] at e
          injection e with e
          rw [← e]
          exact ⟨j', h', c2, mG.same s56, (fz j' (by simp)).1, (fz h' (by simp)).1, (fz c2 (by simp)).1⟩
      · obtain ⟨v, hd, hv⟩ := id due
        refine ⟨_, rfl, _, rfl, _, rfl, true, .inl ⟨_, SqL.of hd, rfl⟩, iteT ⟨by show (3 : Nat) ≤ sizeLine; decide, fun q nq => ?_⟩⟩
        obtain ⟨G2, q6, s6, hq⟩ := newAt (.lst [V.ref a2, V.ref r, V.ref d]) nq
        rw [q6]
        refine k q a2 r d ops ts G2 (fun z y nz e => s6 _ _ (x0 z y nz e)) (hpG.same s6) (fre (fun _ _ e => e) nq) (fz a2 (by simp)).1 nr0 nd0 hq (s6 _ _ hrG) (hoG.same s6) (by omega) pr5 oi os ?_ (fun r' e => ?_)
        · unfold SevAt
          rw [run]
          exact due.same s6
        · rw [run] at e
          cases e
end
end K72
set_option Elab.async false
set_option linter.all false
set_option maxRecDepth 100000
set_option maxHeartbeats 8000000
namespace K72
open PySem PySem.Spec PyProof.Rows L2 FNX
def oddD : List PyData := [PyData.none, PyData.tuple [], PyData.list [], PyData.tuple [PyData.str "fire"], PyData.tuple [PyData.str "fire", PyData.int 0], PyData.tuple [PyData.str "fire", PyData.int 0, PyData.int 0, PyData.int 0], PyData.tuple [PyData.str "undo"], PyData.tuple [PyData.str "together", PyData.list []], PyData.str "add_node", PyData.tuple [PyData.int 0, PyData.int 1], PyData.list [PyData.str "add_node", PyData.int 1], PyData.tuple [PyData.str "play_on", PyData.int 0, PyData.int 5], PyData.tuple [PyData.str "Put", PyData.int 0, PyData.int 1], PyData.tuple [PyData.str "add_node"], PyData.tuple [PyData.none, PyData.int 1], PyData.tuple [PyData.str "put", PyData.int 0]]
def spOdd (K : PySem.W.Frag) : Sp := fun vs H Q _ => ∃ p : Addr, vs = [.ref p] ∧ PoolAt H p ∧
  ∀ (v : V) (d : PyData) (H' : Hp), SameX p H H' → PoolAt H' p → (∀ H2 : Hp, (∀ z o, H z = none → H' z = some o → (∀ ps, o ≠ .tbl ps) → H2 z = some o) → Dp K H2 v d) → d ∈ oddD → Q v H'
section
variable {P : Program} {w : World} {K : PySem.W.Frag} {mg : Str → Option Value} {base : Heap}
theorem sc_odd : FnScope ["_law_pool_here", "_law_some"] ["_law_pool_here"] (defScope s__law_odd) := ⟨rfl, rfl, rfl, by decide +kernel, rfl, by decide +kernel, by decide +kernel⟩
theorem ok_odd {f : Addr} {fd : FuncData} (F : Fun K "_law_odd" "_law_odd" s__law_odd f fd) (M : Nms mg) (GT : At P w K mg base CX0 1 "_law_take" ["_law_pool_here", "_law_sides"] spTake) : FnOk P w K mg base CX0 2 f fd ["_law_pool_here"] (spOdd K) := by
  obtain ⟨fT, fdT, GT, mT, kT, bT⟩ := GT
  refine F.ok sc_odd (fun vs H Q E h => ?_) (fun cdv A' outer s H vs Q E hr h => ?_)
  · obtain ⟨p, rfl, _⟩ := h
    rfl
  · obtain ⟨p, rfl, hp, k⟩ := h
    have nd := sc_odd.nd
    refine ⟨_, (pss_cons (ps_set (i := 1) nd rfl (Or.inl rfl) (pe_lst (pa_cons pe_non (pa_cons (pe_tup pa_nil) (pa_cons (pe_lst pa_nil) (pa_cons (pe_tup (pa_cons pe_str pa_nil)) (pa_cons (pe_tup (pa_cons pe_str (pa_cons pe_int pa_nil))) (pa_cons (pe_tup (pa_cons pe_str (pa_cons pe_int (pa_cons pe_int (pa_cons pe_int pa_nil))))) (pa_cons (pe_tup (pa_cons pe_str pa_nil)) (pa_cons (pe_tup (pa_cons pe_str (pa_cons (pe_lst pa_nil) pa_nil))) (pa_cons pe_str (pa_cons (pe_tup (pa_cons pe_int (pa_cons pe_int pa_nil))) pa_nil))))))))))))
      (pss_cons (ps_set (i := 1) nd rfl (Or.inl rfl) (pe_op op_cat (pv 1) (pe_lst (pa_cons (pe_lst (pa_cons pe_str (pa_cons pe_int pa_nil))) (pa_cons (pe_tup (pa_cons pe_str (pa_cons pe_int (pa_cons pe_int pa_nil)))) (pa_cons (pe_tup (pa_cons pe_str (pa_cons pe_int (pa_cons pe_int pa_nil)))) (pa_cons (pe_tup (pa_cons pe_str pa_nil)) (pa_cons (pe_tup (pa_cons pe_non (pa_cons pe_int pa_nil))) (pa_cons (pe_tup (pa_cons pe_str (pa_cons pe_int pa_nil))) pa_nil)))))))))
      (pss_one (ps_ret (pe_ix (r := rIxL K) ix_list (pv 1) (pe_call GT (hr.mono (by decide)) (by rfl) mT kT bT .nil pass0 (pa_cons (pv 0) (pa_cons pe_int pa_nil))) (fun _ _ => rfl)))))), ?_⟩
    refine ⟨by show 0 ≤ sizeLine; decide, fun A1 nA1 => ?_⟩
    obtain ⟨HA1, qA1, sA1, hA1⟩ := newAt (.tup []) nA1
    rw [qA1]
    have zA1 := nA1
    have SA1 := sA1
    refine ⟨by show 0 ≤ sizeLine; decide, fun A2 nA2 => ?_⟩
    obtain ⟨HA2, qA2, sA2, hA2⟩ := newAt (.lst []) nA2
    rw [qA2]
    have zA2 := SA1.free nA2
    have SA2 := SA1.trans sA2
    refine ⟨by show 1 ≤ sizeLine; decide, fun A3 nA3 => ?_⟩
    obtain ⟨HA3, qA3, sA3, hA3⟩ := newAt (.tup [V.str "fire"]) nA3
    rw [qA3]
    have zA3 := SA2.free nA3
    have SA3 := SA2.trans sA3
    refine ⟨by show 2 ≤ sizeLine; decide, fun A4 nA4 => ?_⟩
    obtain ⟨HA4, qA4, sA4, hA4⟩ := newAt (.tup [V.str "fire", V.int 0]) nA4
    rw [qA4]
    have zA4 := SA3.free nA4
    have SA4 := SA3.trans sA4
    refine ⟨by show 4 ≤ sizeLine; decide, fun A5 nA5 => ?_⟩
    obtain ⟨HA5, qA5, sA5, hA5⟩ := newAt (.tup [V.str "fire", V.int 0, V.int 0, V.int 0]) nA5
    rw [qA5]
    have zA5 := SA4.free nA5
    have SA5 := SA4.trans sA5
    refine ⟨by show 1 ≤ sizeLine; decide, fun A6 nA6 => ?_⟩
    obtain ⟨HA6, qA6, sA6, hA6⟩ := newAt (.tup [V.str "undo"]) nA6
    rw [qA6]
    have zA6 := SA5.free nA6
    have SA6 := SA5.trans sA6
    refine ⟨by show 0 ≤ sizeLine; decide, fun A7 nA7 => ?_⟩
    obtain ⟨HA7, qA7, sA7, hA7⟩ := newAt (.lst []) nA7
    rw [qA7]
    have zA7 := SA6.free nA7
    have SA7 := SA6.trans sA7
    refine ⟨by show 2 ≤ sizeLine; decide, fun A8 nA8 => ?_⟩
    obtain ⟨HA8, qA8, sA8, hA8⟩ := newAt (.tup [V.str "together", V.ref A7]) nA8
    rw [qA8]
    have zA8 := SA7.free nA8
    have SA8 := SA7.trans sA8
    refine ⟨by show 2 ≤ sizeLine; decide, fun A9 nA9 => ?_⟩
    obtain ⟨HA9, qA9, sA9, hA9⟩ := newAt (.tup [V.int 0, V.int 1]) nA9
    rw [qA9]
    have zA9 := SA8.free nA9
    have SA9 := SA8.trans sA9
    refine ⟨by show 10 ≤ sizeLine; decide, fun L1 nL1 => ?_⟩
    obtain ⟨HL1, qL1, sL1, hL1⟩ := newAt (.lst [V.non, V.ref A1, V.ref A2, V.ref A3, V.ref A4, V.ref A5, V.ref A6, V.ref A8, V.str "add_node", V.ref A9]) nL1
    rw [qL1]
    have zL1 := SA9.free nL1
    have SL1 := SA9.trans sL1
    refine ⟨_, rfl, by show 2 ≤ sizeLine; decide, fun B1 nB1 => ?_⟩
    obtain ⟨HB1, qB1, sB1, hB1⟩ := newAt (.lst [V.str "add_node", V.int 1]) nB1
    rw [qB1]
    have zB1 := SL1.free nB1
    have SB1 := SL1.trans sB1
    refine ⟨by show 3 ≤ sizeLine; decide, fun B2 nB2 => ?_⟩
    obtain ⟨HB2, qB2, sB2, hB2⟩ := newAt (.tup [V.str "play_on", V.int 0, V.int 5]) nB2
    rw [qB2]
    have zB2 := SB1.free nB2
    have SB2 := SB1.trans sB2
    refine ⟨by show 3 ≤ sizeLine; decide, fun B3 nB3 => ?_⟩
    obtain ⟨HB3, qB3, sB3, hB3⟩ := newAt (.tup [V.str "Put", V.int 0, V.int 1]) nB3
    rw [qB3]
    have zB3 := SB2.free nB3
    have SB3 := SB2.trans sB3
    refine ⟨by show 1 ≤ sizeLine; decide, fun B4 nB4 => ?_⟩
    obtain ⟨HB4, qB4, sB4, hB4⟩ := newAt (.tup [V.str "add_node"]) nB4
    rw [qB4]
    have zB4 := SB3.free nB4
    have SB4 := SB3.trans sB4
    refine ⟨by show 2 ≤ sizeLine; decide, fun B5 nB5 => ?_⟩
    obtain ⟨HB5, qB5, sB5, hB5⟩ := newAt (.tup [V.non, V.int 1]) nB5
    rw [qB5]
    have zB5 := SB4.free nB5
    have SB5 := SB4.trans sB5
    refine ⟨by show 2 ≤ sizeLine; decide, fun B6 nB6 => ?_⟩
    obtain ⟨HB6, qB6, sB6, hB6⟩ := newAt (.tup [V.str "put", V.int 0]) nB6
    rw [qB6]
    have zB6 := SB5.free nB6
    have SB6 := SB5.trans sB6
    refine ⟨by show 6 ≤ sizeLine; decide, fun L2 nL2 => ?_⟩
    obtain ⟨HL2, qL2, sL2, hL2⟩ := newAt (.lst [V.ref B1, V.ref B2, V.ref B3, V.ref B4, V.ref B5, V.ref B6]) nL2
    rw [qL2]
    have zL2 := SB6.free nL2
    have SL2 := SB6.trans sL2
    refine ⟨L1, L2, _, _, rfl, rfl, (sL2 _ _ (sB6 _ _ (sB5 _ _ (sB4 _ _ (sB3 _ _ (sB2 _ _ (sB1 _ _ hL1))))))), hL2, by show 16 ≤ sizeLine; decide, fun L3 nL3 => ?_⟩
    obtain ⟨HL3, qL3, sL3, hL3⟩ := newAt (.lst ([V.non, V.ref A1, V.ref A2, V.ref A3, V.ref A4, V.ref A5, V.ref A6, V.ref A8, V.str "add_node", V.ref A9] ++ [V.ref B1, V.ref B2, V.ref B3, V.ref B4, V.ref B5, V.ref B6])) nL3
    rw [qL3]
    have zL3 := SL2.free nL3
    have SL3 := SL2.trans sL3
    refine ⟨_, rfl, _, rfl, p, 16, rfl, hp.same SL3, by decide, by decide, fun r H' u0 u1 hp' t5 => ?_⟩
    have x5 := sameX_take t5
    have sx : SameX p H H' := (Same.x SL3).trans x5
    have gA1 := x5 _ _ (hp.ne zA1).symm (sL3 _ _ (sL2 _ _ (sB6 _ _ (sB5 _ _ (sB4 _ _ (sB3 _ _ (sB2 _ _ (sB1 _ _ (sL1 _ _ (sA9 _ _ (sA8 _ _ (sA7 _ _ (sA6 _ _ (sA5 _ _ (sA4 _ _ (sA3 _ _ (sA2 _ _ hA1)))))))))))))))))
    have gA2 := x5 _ _ (hp.ne zA2).symm (sL3 _ _ (sL2 _ _ (sB6 _ _ (sB5 _ _ (sB4 _ _ (sB3 _ _ (sB2 _ _ (sB1 _ _ (sL1 _ _ (sA9 _ _ (sA8 _ _ (sA7 _ _ (sA6 _ _ (sA5 _ _ (sA4 _ _ (sA3 _ _ hA2))))))))))))))))
    have gA3 := x5 _ _ (hp.ne zA3).symm (sL3 _ _ (sL2 _ _ (sB6 _ _ (sB5 _ _ (sB4 _ _ (sB3 _ _ (sB2 _ _ (sB1 _ _ (sL1 _ _ (sA9 _ _ (sA8 _ _ (sA7 _ _ (sA6 _ _ (sA5 _ _ (sA4 _ _ hA3)))))))))))))))
    have gA4 := x5 _ _ (hp.ne zA4).symm (sL3 _ _ (sL2 _ _ (sB6 _ _ (sB5 _ _ (sB4 _ _ (sB3 _ _ (sB2 _ _ (sB1 _ _ (sL1 _ _ (sA9 _ _ (sA8 _ _ (sA7 _ _ (sA6 _ _ (sA5 _ _ hA4))))))))))))))
    have gA5 := x5 _ _ (hp.ne zA5).symm (sL3 _ _ (sL2 _ _ (sB6 _ _ (sB5 _ _ (sB4 _ _ (sB3 _ _ (sB2 _ _ (sB1 _ _ (sL1 _ _ (sA9 _ _ (sA8 _ _ (sA7 _ _ (sA6 _ _ hA5)))))))))))))
    have gA6 := x5 _ _ (hp.ne zA6).symm (sL3 _ _ (sL2 _ _ (sB6 _ _ (sB5 _ _ (sB4 _ _ (sB3 _ _ (sB2 _ _ (sB1 _ _ (sL1 _ _ (sA9 _ _ (sA8 _ _ (sA7 _ _ hA6))))))))))))
    have gA7 := x5 _ _ (hp.ne zA7).symm (sL3 _ _ (sL2 _ _ (sB6 _ _ (sB5 _ _ (sB4 _ _ (sB3 _ _ (sB2 _ _ (sB1 _ _ (sL1 _ _ (sA9 _ _ (sA8 _ _ hA7)))))))))))
    have gA8 := x5 _ _ (hp.ne zA8).symm (sL3 _ _ (sL2 _ _ (sB6 _ _ (sB5 _ _ (sB4 _ _ (sB3 _ _ (sB2 _ _ (sB1 _ _ (sL1 _ _ (sA9 _ _ hA8))))))))))
    have gA9 := x5 _ _ (hp.ne zA9).symm (sL3 _ _ (sL2 _ _ (sB6 _ _ (sB5 _ _ (sB4 _ _ (sB3 _ _ (sB2 _ _ (sB1 _ _ (sL1 _ _ hA9)))))))))
    have gL1 := x5 _ _ (hp.ne zL1).symm (sL3 _ _ (sL2 _ _ (sB6 _ _ (sB5 _ _ (sB4 _ _ (sB3 _ _ (sB2 _ _ (sB1 _ _ hL1))))))))
    have gB1 := x5 _ _ (hp.ne zB1).symm (sL3 _ _ (sL2 _ _ (sB6 _ _ (sB5 _ _ (sB4 _ _ (sB3 _ _ (sB2 _ _ hB1)))))))
    have gB2 := x5 _ _ (hp.ne zB2).symm (sL3 _ _ (sL2 _ _ (sB6 _ _ (sB5 _ _ (sB4 _ _ (sB3 _ _ hB2))))))
    have gB3 := x5 _ _ (hp.ne zB3).symm (sL3 _ _ (sL2 _ _ (sB6 _ _ (sB5 _ _ (sB4 _ _ hB3)))))
    have gB4 := x5 _ _ (hp.ne zB4).symm (sL3 _ _ (sL2 _ _ (sB6 _ _ (sB5 _ _ hB4))))
    have gB5 := x5 _ _ (hp.ne zB5).symm (sL3 _ _ (sL2 _ _ (sB6 _ _ hB5)))
    have gB6 := x5 _ _ (hp.ne zB6).symm (sL3 _ _ (sL2 _ _ hB6))
    have gL2 := x5 _ _ (hp.ne zL2).symm (sL3 _ _ hL2)
    have gL3 := x5 _ _ (hp.ne zL3).symm hL3
    obtain ⟨n, rfl⟩ : ∃ n : Nat, r = (n : Int) := ⟨r.toNat, by omega⟩
    have hn : n = 0 ∨ n = 1 ∨ n = 2 ∨ n = 3 ∨ n = 4 ∨ n = 5 ∨ n = 6 ∨ n = 7 ∨ n = 8 ∨ n = 9 ∨ n = 10 ∨ n = 11 ∨ n = 12 ∨ n = 13 ∨ n = 14 ∨ n = 15 := by omega
    rcases hn with rfl | rfl | rfl | rfl | rfl | rfl | rfl | rfl | rfl | rfl | rfl | rfl | rfl | rfl | rfl | rfl
    · exact ⟨L3, _, _, V.non, rfl, rfl, SqL.of gL3, atI_nat (j := 0) rfl, k _ (PyData.none) H' sx hp' (fun H2 u => .non) (by unfold oddD; simp)⟩
    · exact ⟨L3, _, _, V.ref A1, rfl, rfl, SqL.of gL3, atI_nat (j := 1) rfl, k _ (PyData.tuple []) H' sx hp' (fun H2 u => .tup (SqT.of (u _ _ zA1 gA1 (fun _ q => by cases q))) .nil) (by unfold oddD; simp)⟩
    · exact ⟨L3, _, _, V.ref A2, rfl, rfl, SqL.of gL3, atI_nat (j := 2) rfl, k _ (PyData.list []) H' sx hp' (fun H2 u => .lst (SqL.of (u _ _ zA2 gA2 (fun _ q => by cases q))) .nil) (by unfold oddD; simp)⟩
    · exact ⟨L3, _, _, V.ref A3, rfl, rfl, SqL.of gL3, atI_nat (j := 3) rfl, k _ (PyData.tuple [PyData.str "fire"]) H' sx hp' (fun H2 u => .tup (SqT.of (u _ _ zA3 gA3 (fun _ q => by cases q))) (.cons (.str _) .nil)) (by unfold oddD; simp)⟩
    · exact ⟨L3, _, _, V.ref A4, rfl, rfl, SqL.of gL3, atI_nat (j := 4) rfl, k _ (PyData.tuple [PyData.str "fire", PyData.int 0]) H' sx hp' (fun H2 u => .tup (SqT.of (u _ _ zA4 gA4 (fun _ q => by cases q))) (.cons (.str _) (.cons (.int _) .nil))) (by unfold oddD; simp)⟩
    · exact ⟨L3, _, _, V.ref A5, rfl, rfl, SqL.of gL3, atI_nat (j := 5) rfl, k _ (PyData.tuple [PyData.str "fire", PyData.int 0, PyData.int 0, PyData.int 0]) H' sx hp' (fun H2 u => .tup (SqT.of (u _ _ zA5 gA5 (fun _ q => by cases q))) (.cons (.str _) (.cons (.int _) (.cons (.int _) (.cons (.int _) .nil))))) (by unfold oddD; simp)⟩
    · exact ⟨L3, _, _, V.ref A6, rfl, rfl, SqL.of gL3, atI_nat (j := 6) rfl, k _ (PyData.tuple [PyData.str "undo"]) H' sx hp' (fun H2 u => .tup (SqT.of (u _ _ zA6 gA6 (fun _ q => by cases q))) (.cons (.str _) .nil)) (by unfold oddD; simp)⟩
    · exact ⟨L3, _, _, V.ref A8, rfl, rfl, SqL.of gL3, atI_nat (j := 7) rfl, k _ (PyData.tuple [PyData.str "together", PyData.list []]) H' sx hp' (fun H2 u => .tup (SqT.of (u _ _ zA8 gA8 (fun _ q => by cases q))) (.cons (.str _) (.cons (.lst (SqL.of (u _ _ zA7 gA7 (fun _ q => by cases q))) .nil) .nil))) (by unfold oddD; simp)⟩
    · exact ⟨L3, _, _, V.str "add_node", rfl, rfl, SqL.of gL3, atI_nat (j := 8) rfl, k _ (PyData.str "add_node") H' sx hp' (fun H2 u => .str _) (by unfold oddD; simp)⟩
    · exact ⟨L3, _, _, V.ref A9, rfl, rfl, SqL.of gL3, atI_nat (j := 9) rfl, k _ (PyData.tuple [PyData.int 0, PyData.int 1]) H' sx hp' (fun H2 u => .tup (SqT.of (u _ _ zA9 gA9 (fun _ q => by cases q))) (.cons (.int _) (.cons (.int _) .nil))) (by unfold oddD; simp)⟩
    · exact ⟨L3, _, _, V.ref B1, rfl, rfl, SqL.of gL3, atI_nat (j := 10) rfl, k _ (PyData.list [PyData.str "add_node", PyData.int 1]) H' sx hp' (fun H2 u => .lst (SqL.of (u _ _ zB1 gB1 (fun _ q => by cases q))) (.cons (.str _) (.cons (.int _) .nil))) (by unfold oddD; simp)⟩
    · exact ⟨L3, _, _, V.ref B2, rfl, rfl, SqL.of gL3, atI_nat (j := 11) rfl, k _ (PyData.tuple [PyData.str "play_on", PyData.int 0, PyData.int 5]) H' sx hp' (fun H2 u => .tup (SqT.of (u _ _ zB2 gB2 (fun _ q => by cases q))) (.cons (.str _) (.cons (.int _) (.cons (.int _) .nil)))) (by unfold oddD; simp)⟩
    · exact ⟨L3, _, _, V.ref B3, rfl, rfl, SqL.of gL3, atI_nat (j := 12) rfl, k _ (PyData.tuple [PyData.str "Put", PyData.int 0, PyData.int 1]) H' sx hp' (fun H2 u => .tup (SqT.of (u _ _ zB3 gB3 (fun _ q => by cases q))) (.cons (.str _) (.cons (.int _) (.cons (.int _) .nil)))) (by unfold oddD; simp)⟩
    · exact ⟨L3, _, _, V.ref B4, rfl, rfl, SqL.of gL3, atI_nat (j := 13) rfl, k _ (PyData.tuple [PyData.str "add_node"]) H' sx hp' (fun H2 u => .tup (SqT.of (u _ _ zB4 gB4 (fun _ q => by cases q))) (.cons (.str _) .nil)) (by unfold oddD; simp)⟩
    · exact ⟨L3, _, _, V.ref B5, rfl, rfl, SqL.of gL3, atI_nat (j := 14) rfl, k _ (PyData.tuple [PyData.none, PyData.int 1]) H' sx hp' (fun H2 u => .tup (SqT.of (u _ _ zB5 gB5 (fun _ q => by cases q))) (.cons (.non) (.cons (.int _) .nil))) (by unfold oddD; simp)⟩
    · exact ⟨L3, _, _, V.ref B6, rfl, rfl, SqL.of gL3, atI_nat (j := 15) rfl, k _ (PyData.tuple [PyData.str "put", PyData.int 0]) H' sx hp' (fun H2 u => .tup (SqT.of (u _ _ zB6 gB6 (fun _ q => by cases q))) (.cons (.str _) (.cons (.int _) .nil))) (by unfold oddD; simp)⟩
end
end K72
set_option Elab.async false
set_option linter.all false
set_option maxRecDepth 100000
set_option maxHeartbeats 4000000
namespace LamX2
open PySem PySem.Spec PyProof.Rows L2 LamX
/-- what a frame leaves alone stays left alone by the frame that it enters: the new frame's address was not there before -/
theorem under {fs : List Addr} {a : Addr} {H HT HZ : Hp} {h hT h1 : Heap} (u1 : Un fs [] H HT h hT) (u2 : Un (a :: fs) [] HT HZ hT h1) (fresh : h.get? a = none) : Un fs [] H HZ h h1 := by
  have w := (u1.mono (fs' := a :: fs) (fun b m => List.mem_cons_of_mem _ m) (fun b m => m)).trans u2
  refine ⟨fun b o q n hb hx => w.keep b o q n (fun hm => ?_) hx, fun b o q n hb hx => w.slot b o q n (List.mem_cons_of_mem _ hb) hx, w.free, w.there, w.tups, w.frzs, w.tbls⟩
  rcases List.mem_cons.mp hm with e | hm
  · rw [e, fresh] at q
    cases q
  · exact hb hm
end LamX2
set_option Elab.async false
set_option linter.all false
set_option maxRecDepth 100000
set_option maxHeartbeats 4000000
namespace LamX2
open PySem PySem.Spec PyProof.Rows L2 LamX
section
variable {X : Cx} {pins : List (Addr × Obj)} {σ : L2.St} {H HZ : Hp} {s s1 : Shared}
/-- a lambda's run, wherever it is called from: what its maker left alone since it was made is all that is asked of the caller -/
theorem lam_run {A : Around} {outer : List Env} {f c' : Addr} {pm ctv : Value} {ps : Arguments} {body : Expr} {sc : Scope} {k : Nat} {E : XK} {tb : TE} {Q : VK}
    (I : Inv X pins σ H s) (L : LamS X.env.scope sc) (un : Un (frs X.stack) [] H HZ s.heap s1.heap) (e0 : Env0 X.prog X.w X.K X.mg X.base A outer s1 HZ) (lim : s1.heap.NoLimit) (hr : Room (k + 1) A)
    (of : s1.heap.get? f = some (PySem.W.kla_obj "<lambda>" (X.env.qual ++ "<lambda>") ps body sc (cloFrom X.env.cells sc.names []) pm c' ctv)) (hc : HZ c' = some (CodeO c' (X.env.qual ++ "<lambda>")))
    (nb : bindArgs (PySem.W.kla_fn "<lambda>" (X.env.qual ++ "<lambda>") ps body sc (cloFrom X.env.cells sc.names []) pm (.ref c') ctv) ⟨[], []⟩ = pure [])
    (run : ∀ B o t G, Room k (B.deeper (lamEnv X sc t.heap.objs.size f c')) → PE (lamCx X B o t G E sc f c') body tb) (q : tb σ HZ Q) :
    codeAny (model X.prog X.w) A (.call (.ref f) ⟨[], []⟩) (CR (L2.CX X.prog X.w) outer X.prog X.w HZ s1 Q E) s1 := by
  have ⟨⟨oc, sl, tx, h1, h2, h3⟩, _⟩ := e0.hok c' _ hc
  refine PySem.W.kla_callFunE hr.depth of rfl L.co L.gen rfl ⟨c', oc, sl, tx, rfl, h1, h2, h3⟩ (nb ▸ ?_)
  refine wpAny_pure (wpAny_newFunctionEnv (fun y m => (L.own y m).2) (fun y m => by cases m) (fun hp ns big => ⟨lim.fresh _ big, ?_⟩) L.kind)
  have J := lam_start2 (E := E) (f := f) (c' := c') (tk := s1.toks + 0) I L e0 hr.hd un ns fun b o e => big.extBut b o (Nat.ne_of_lt (Heap.lt_size e)) (Heap.get?_push_of_some _ e)
  exact PySem.W.kla_codeExpr (wpAny_mono ((run A outer s1 HZ (hr.deeper _)).run [] _ _ HZ Q J q) (fun _ _ ⟨x, G, J', r, d⟩ => ⟨x, G, J'.os, J'.bare, J'.base, J'.hok, r, d⟩) fun _ _ z => z)
/-- a call of a local name that holds a lambda -/
theorem pe_local {Z : Cx} {W : WX} {E : XK} {i : Nat} {a : Str} {f : Addr} {R : Hp → VK → Prop} {p1 p2 : Pos} (hN : Z.N[i]? = some a) (hv : Vis Z.env.scope a) (tk : Takes Z W) (hW : ∀ cls d σ' H', E cls d H' → W cls d σ' H')
    (hd : (a == ("__debug__" : Str)) = false) (hcd : (a == ("__classdict__" : Str)) = false)
    (fn : ∀ {pn σZ HZ s1}, Inv Z pn σZ HZ s1 → PySem.W.FnAt f s1.heap)
    (go : ∀ {pn σZ HZ s1} {Q : VK}, Inv Z pn σZ HZ s1 → R HZ Q → codeAny (model Z.prog Z.w) Z.A (.call (.ref f) ⟨[], []⟩) (CR (L2.CX Z.prog Z.w) Z.stack Z.prog Z.w HZ s1 Q E) s1) :
    PE Z (.Call (.Name a p1) [] [] p2) (fun σZ HZ Q => σZ[i]? = some (some (.ref f)) ∧ R HZ Q) := by
  refine ⟨fun pn sZ σZ HZ Q IZ ⟨hs, q⟩ => wpAny_Call_Name_kw (thn ((pe_var (pos := p1) hN hv hd hcd).run pn sZ σZ HZ (fun v G => v = .ref f ∧ G = HZ) IZ ⟨_, hs, rfl, rfl⟩) ?_)⟩
  rintro u t ⟨v, G, J, r, rfl, rfl⟩
  cases (show u = Value.ref f from r)
  refine PySem.W.callWith_F0 (fn J) (wpAny_call (codeAny_mono (go J q) fun r t' z => ?_))
  match r, z with
  | .error e, z => exact passes_call tk hW _ _ _ _ _ _ J z
  | .ok (.ret _), z => exact J.after z
end
end LamX2
set_option Elab.async false
set_option linter.all false
set_option maxRecDepth 100000
set_option maxHeartbeats 4000000
namespace LamX2
open PySem PySem.Spec PyProof.Rows L2 LamX
/-- the inner def that calls what it got, in whatever frame; it may let something out: Et -/
def GivesIn (P : Program) (w : World) (K : PySem.W.Frag) (mg : Str → Option Value) (base : Heap) (k : Nat) (N : List Str) (x : Str) (sg : Scope) (g : Addr) (cdg : Value) (bg : List Stmt) (a q : Str) (Et : XK) (TT : (XK → Hp → VK → Prop) → Hp → VK → Prop) : Prop :=
  ∀ (A : Around) (outer : List Env) (s : Shared) (H : Hp) (f c' : Addr) (Q : VK) (tl : XK → Hp → VK → Prop), Room k (A.deeper (envOfC x sg s.heap.objs.size g cdg)) →
    (∀ (W : WX) (pn : List (Addr × Obj)) (xe : Value → Shared → Prop) (E : XK) (p1 p2 : Pos), Takes ((cxOf (L2.CX P w) P w K mg base N x sg g cdg A outer s H Et).tr pn xe) W → (∀ cls d σ' H', E cls d H' → W cls d σ' H') →
      PE ((cxOf (L2.CX P w) P w K mg base N x sg g cdg A outer s H Et).tr pn xe) (.Call (.Name a p1) [] [] p2) (fun σZ HZ Q => σZ[0]? = some (some (.ref f)) ∧ HZ c' = some (CodeO c' q) ∧ tl E HZ Q)) →
    H c' = some (CodeO c' q) → TT tl H Q →
    ∃ t, PSs (cxOf (L2.CX P w) P w K mg base N x sg g cdg A outer s H Et) bg t ∧ t { nx := fun _ H' => Q .non H', rt := Q } (L2.start N [.ref f]) H
section
variable {X : Cx} {pins : List (Addr × Obj)} {σ : L2.St} {H : Hp} {s : Shared}
theorem pe_pass {N1 N2 : List Str} {x1 x2 a1 a2 : Str} {sg1 sg2 : Scope} {g1 g2 f c' : Addr} {cd1 cd2 pm ctv : Value} {ps : Arguments} {body : Expr} {sc : Scope} {k : Nat} {pn : List (Addr × Obj)} {xe : Value → Shared → Prop} {W : WX} {Et : XK}
    {pg : Arguments} {bg : List Stmt} {dV kV doc pm2 ct oc : Value} {an od : Option Addr} {osl : Array (Option Value)} {t : XK → TE} {TT : (XK → Hp → VK → Prop) → Hp → VK → Prop} {p p1 p2 : Pos}
    (I : Inv X pins σ H s) (L : LamS X.env.scope sc) (hf : s.heap.get? f = some (PySem.W.kla_obj "<lambda>" (X.env.qual ++ "<lambda>") ps body sc (cloFrom X.env.cells sc.names []) pm c' ctv)) (hfn : H f = none) (hfr : f ∉ frs X.stack)
    (nb : bindArgs (PySem.W.kla_fn "<lambda>" (X.env.qual ++ "<lambda>") ps body sc (cloFrom X.env.cells sc.names []) pm (.ref c') ctv) ⟨[], []⟩ = pure [])
    (run : ∀ E B o t' G, Room k (B.deeper (lamEnv X sc t'.heap.objs.size f c')) → PE (lamCx X B o t' G E sc f c') body (t E))
    (hg : Gl ((cxOf C8.CX0 X.prog X.w X.K X.mg X.base N1 x1 sg1 g1 cd1 X.A X.stack s H C8.E0).tr pn xe) x2) (hm : X.mg x2 = some (.ref g2)) (hk : PySem.W.keepIn X.K (.ref g2) = true)
    (lk : X.K.lookup g2 = some ⟨oc, od, .func (PySem.W.fnOf x2 x2 pg bg sg2 dV kV doc pm2 an cd2 ct), osl⟩) (hcg : PySem.W.codeIn X.K cd2 x2 = true) (hb : L2.Binds X.K (PySem.W.fnOf x2 x2 pg bg sg2 dV kV doc pm2 an cd2 ct) [a2] []) (S2 : FnScope N2 [a2] sg2)
    (hN1 : N1[0]? = some a1) (hv1 : Vis sg1 a1) (hN2 : N2[0]? = some a2) (hv2 : Vis sg2 a2) (hd1 : (a1 == ("__debug__" : Str)) = false) (hc1 : (a1 == ("__classdict__" : Str)) = false) (hd2 : (a2 == ("__debug__" : Str)) = false) (hc2 : (a2 == ("__classdict__" : Str)) = false) (hdx : (x2 == ("__debug__" : Str)) = false)
    (hG : GivesIn X.prog X.w X.K X.mg X.base (k + 1) N2 x2 sg2 g2 cd2 bg a2 (X.env.qual ++ "<lambda>") Et TT) (hr : Room (k + 2) (X.A.deeper (envOfC x1 sg1 s.heap.objs.size g1 cd1)))
    (tk : Takes ((cxOf C8.CX0 X.prog X.w X.K X.mg X.base N1 x1 sg1 g1 cd1 X.A X.stack s H C8.E0).tr pn xe) W) (hW : ∀ cls d σ' H', Et cls d H' → W cls d σ' H') :
    PE ((cxOf C8.CX0 X.prog X.w X.K X.mg X.base N1 x1 sg1 g1 cd1 X.A X.stack s H C8.E0).tr pn xe) (.Call (.Name x2 p) [.Name a1 p1] [] p2)
      (fun σZ HZ Q => σZ[0]? = some (some (.ref f)) ∧ HZ c' = some (CodeO c' (X.env.qual ++ "<lambda>")) ∧ TT (fun E G Q' => t E σ G Q') HZ Q) := by
  refine ⟨fun pn' sZ σZ HZ Q IZ ⟨hs, hc, ht⟩ => wpAny_Call_Name_kw (ld_glob IZ hg hm (PySem.W.callWith_K (h₀ := X.base) IZ.ok.mod.kin hk ?_ (by rfl) (by rfl)) hdx)⟩
  refine Calls.spliced_cons (thn ((pe_var (pos := p1) hN1 hv1 hd1 hc1).run pn' sZ σZ HZ (fun v G => v = .ref f ∧ G = HZ) IZ ⟨_, hs, rfl, rfl⟩) ?_)
  rintro u y ⟨v, G, J, r, rfl, rfl⟩
  cases (show u = Value.ref f from r)
  refine Calls.spliced_nil ⟨J.kIn, ?_⟩
  have uT : Un (frs X.stack) [] H G s.heap y.heap := J.base
  have fr : s.heap.get? s.heap.objs.size = none := Heap.get?_none_of_le (Nat.le_refl _)
  have of2 := uT.keep f _ hf hfn hfr (fun z => by cases z)
  have nf2 := uT.free f _ hf hfn (fun z => by cases z)
  have out2 : f ∉ frs (envOfC x1 sg1 s.heap.objs.size g1 cd1 :: X.stack) := fun z => by
    rcases List.mem_cons.mp (show f ∈ s.heap.objs.size :: frs X.stack from z) with e | z
    · rw [e, fr] at hf
      cases hf
    · exact hfr z
  refine wpAny_call (codeAny_mono (run_ofS (CX := L2.CX X.prog X.w) (E := Et) (Q := Q) (N := N2) (ps := [a2]) (us := [.ref f]) (vs := [.ref f]) lk hcg S2 hr J.env0 (hb y [.ref f] J.kIn rfl) (.cons rfl .nil) rfl fun hr2 => ?_) fun r y' z => ?_)
  · refine hG _ _ y G f c' Q (fun E G Q' => t E σ G Q') hr2 (fun W2 pn2 xe2 E2 q1 q2 tk2 hW2 => ?_) hc ht
    refine pe_local hN2 hv2 tk2 hW2 hd2 hc2 (fun {a b c d} J2 => ⟨_, _, _, _, J2.base.keep f _ of2 nf2 out2 (fun z => by cases z)⟩) fun {a b c d Q2} J2 z => ?_
    have uu : Un (frs X.stack) [] H c s.heap d.heap := under uT J2.base fr
    exact lam_run (X := X) (pins := pins) (σ := σ) (H := H) (HZ := c) (s := s) (s1 := d) I L uu J2.env0 J2.nolimit hr2 (J2.base.keep f _ of2 nf2 out2 (fun z => by cases z)) z.1 nb (run E2) z.2
  · match r, z with
    | .error e, z => exact passes_call tk hW _ _ _ _ _ _ J z
    | .ok (.ret _), z => exact J.after z
end
end LamX2
set_option Elab.async false
set_option linter.all false
set_option maxRecDepth 100000
set_option maxHeartbeats 4000000
namespace LamX2
open PySem PySem.Spec PyProof.Rows L2 LamX
section
variable {X : Cx}
/-- x(lambda: body): the def is told what the lambda is -/
theorem pe_lamcall2 {T : List (Addr × Str)} {TT : (XK → Hp → VK → Prop) → Hp → VK → Prop} {x a : Str} {g c P : Addr} {k : Nat} {pg : Arguments} {bg : List Stmt} {sg : Scope} {dV kV doc pm cdv ct oc : Value} {an od : Option Addr} {osl : Array (Option Value)} {Ng : List Str}
    {params : Arguments} {body : Expr} {scope : Scope} {t : XK → TE} {p lpos pos : Pos} (hg : Gl X x) (hm : X.mg x = some (.ref g)) (hk : PySem.W.keepIn X.K (.ref g) = true)
    (lk : X.K.lookup g = some ⟨oc, od, .func (PySem.W.fnOf x x pg bg sg dV kV doc pm an cdv ct), osl⟩) (hcg : PySem.W.codeIn X.K cdv x = true) (hb : L2.Binds X.K (PySem.W.fnOf x x pg bg sg dV kV doc pm an cdv ct) [a] []) (Sg : FnScope Ng [a] sg)
    (hG : ∀ {pins : List (Addr × Obj)} {σ : L2.St} {H : Hp} {s : Shared} {f c' : Addr} {pm ctv : Value} {Q : VK}, Inv X pins σ H s → s.heap.get? f = some (PySem.W.kla_obj "<lambda>" (X.env.qual ++ "<lambda>") params body scope (cloFrom X.env.cells scope.names []) pm c' ctv) → H f = none → f ∉ frs X.stack → H c' = some (CodeO c' (X.env.qual ++ "<lambda>")) →
      Room k (X.A.deeper (envOfC x sg s.heap.objs.size g cdv)) → TT (fun E H' Q' => t E σ H' Q') H Q →
      ∃ t', PSs (cxOf C8.CX0 X.prog X.w X.K X.mg X.base Ng x sg g cdv X.A X.stack s H C8.E0).nox bg t' ∧ t' { nx := fun _ H' => Q .non H', rt := Q } (L2.start Ng [.ref f]) H)
    (TB : TabB X.base X.mg c P) (hcode : X.env.code = .ref c) (hmT : (P, X.env.qual ++ "<lambda>") ∈ T) (hu : ∀ p ∈ T, p.1 = P → p.2 = X.env.qual ++ "<lambda>") (hr : Room (k + 1) X.A) (L : LamS X.env.scope scope) (hdef : defaultsOf params X.env = ([], []))
    (hdb : (x == ("__debug__" : Str)) = false := by decide) :
    PE X (.Call (.Name x p) [.Lambda params body scope lpos] [] pos) (tLam T TT t) := by
  refine ⟨fun pins s σ H Q I h => ?_⟩
  obtain ⟨hT, h⟩ := h
  refine wpAny_Call_Name_kw (ld_glob I hg hm ?_ hdb)
  refine PySem.W.callWith_K (h₀ := X.base) I.ok.mod.kin hk ?_ (by rfl) (by rfl)
  show wpAny _ _ (spliced ((false, eval (.Lambda params body scope lpos) X.env) :: backTo pos (starEach [] X.env))) _ _ s
  refine Calls.spliced_cons (lam_make2 I TB hcode hmT hu hT hdef (L.has I.ok) fun f c' pm' ctv H1 s' I1 eN T1 hf hfn hfr hco => ?_)
  refine Calls.spliced_nil ⟨I1.kIn, ?_⟩
  have rc : codeAny (model X.prog X.w) X.A (.call (.ref g) ⟨[.ref f], []⟩) (CR C8.CX0 X.stack X.prog X.w H1 s' Q C8.E0) s' := by
    refine run_ofS (N := Ng) (ps := [a]) (us := [.ref f]) (vs := [.ref f]) lk hcg Sg hr I1.env0 (hb s' [.ref f] I1.kIn rfl) (.cons rfl .nil) rfl fun hr' => ?_
    obtain ⟨t', ht', hq'⟩ := hG I1 hf hfn hfr hco hr' (h H1 eN T1)
    exact ⟨t', ht'.nox, hq'⟩
  refine wpAny_call (codeAny_mono rc fun r s2 hq => ?_)
  cases r with
  | error e => exact (show False from hq).elim
  | ok fl =>
    cases fl with
    | ret u => exact I1.after hq
    | next => exact False.elim hq
    | brk => exact False.elim hq
    | cont => exact False.elim hq
end
end LamX2
namespace FNX
open PySem PySem.Spec PyProof.Rows L2
/-- clauses, and what is let out behind them -/
def wErrGX (K : PySem.W.Frag) (Q : VK) (Et : XK) : List (Addr × MkC) → XK
  | [] => Et
  | q :: r => fun cls d H => ∃ b, PySem.W.exmOne K cls (.ref q.1) = some b ∧
      (b = true → cls = .ref q.1 ∧ ∃ (dd : Addr) (v : V) (dt : PyData), d = some dd ∧ H dd = some (.xd [(("value" : Str), v)]) ∧ Rd K H v dt ∧ q.2 v dt H Q) ∧
      (b = false → wErrGX K Q Et r cls d H)
/-- ['told', what the door returns], with what is let out -/
def TToldX (K : PySem.W.Frag) (Et : XK) (word : Str) (cl : List (Addr × MkC)) : (XK → Hp → VK → Prop) → Hp → VK → Prop :=
  fun tl H Q => tl (wErrGX K Q Et cl) H (fun v H' => 2 ≤ sizeLine ∧ ∀ p, H' p = none → ∃ u : V, some (some (V.ref p)) = some (some u) ∧ Q u (upd H' p (.lst [.str word, v])))
end FNX
set_option Elab.async false
set_option linter.all false
set_option maxRecDepth 100000
set_option maxHeartbeats 8000000
namespace K72
open PySem PySem.Spec PyProof.Rows L2 FNX
theorem sc_error : FnScope ["_law_door", "_law_kept", "e"] ["_law_door"] (defScope s__law_told) := ⟨rfl, rfl, rfl, by decide +kernel, rfl, by decide +kernel, by decide +kernel⟩
theorem sc_tried : FnScope ["_law_door", "_law_kept", "e"] ["_law_door"] (defScope s__law_tried) := ⟨rfl, rfl, rfl, by decide +kernel, rfl, by decide +kernel, by decide +kernel⟩
theorem told_in {P : Program} {w : World} {K : PySem.W.Frag} {mg : Str → Option Value} {base : Heap} {k : Nat} {g C0 C1 C2 C3 : Addr} {cdg : Value} {q : Str} {Et : XK}
    (E0 : Ex P w K mg base "NoPlayer" C0) (E1 : Ex P w K mg base "NotNegative" C1) (E2 : Ex P w K mg base "InvalidEdge" C2) (E3 : Ex P w K mg base "TooMany" C3) :
    LamX2.GivesIn P w K mg base k ["_law_door", "_law_kept", "e"] "_law_told" (defScope s__law_told) g cdg (defBody s__law_told) "_law_door" q Et (TToldX K Et "told" [(C0, mkV "player"), (C1, mkV "negative"), (C2, mkV "edge"), (C3, mkV "many")]) := by
  intro A outer s H f c' Q tl hr act hc h
  have nd := sc_error.nd
  refine ⟨_, pss_cons (ps_set (i := 1) nd rfl (Or.inl rfl) pe_non) (pss_cons (ps_try_mas (i := 2) (Wout := fun cls d _ H => Et cls d H) (tb := tDoorV f c' q "told" tl) rfl rfl nd rfl rfl (takes_of rfl rfl rfl rfl)
      (fun W pn xe tk _ => ⟨fun pins s' σ H' D I h' => by
        obtain ⟨Ech, hW, h1⟩ := h'
        exact (pss_one (ps_set (i := 1) nd rfl (Or.inl rfl) (pe_lst (pa_cons pe_str (pa_cons (act _ pn xe Ech _ _ (takes_len tk) (fun cls d σ' H' e l => hW cls d H' σ' e l)) pa_nil))))).run pins s' σ H' D I h1⟩)
      (.cons ⟨rfl, by decide, .inl E0.mgC⟩ (fun z oz cls d pn hz hf => pss_one (ps_set (i := 1) nd rfl (Or.inl rfl) (pe_lst (pa_cons pe_str (pa_cons (pe_byX E0.xc hz hf (pv 2)) pa_nil)))))
      (.cons ⟨rfl, by decide, .inl E1.mgC⟩ (fun z oz cls d pn hz hf => pss_one (ps_set (i := 1) nd rfl (Or.inl rfl) (pe_lst (pa_cons pe_str (pa_cons (pe_byX E1.xc hz hf (pv 2)) pa_nil)))))
      (.cons ⟨rfl, by decide, .inl E2.mgC⟩ (fun z oz cls d pn hz hf => pss_one (ps_set (i := 1) nd rfl (Or.inl rfl) (pe_lst (pa_cons pe_str (pa_cons (pe_byX E2.xc hz hf (pv 2)) pa_nil)))))
      (.cons ⟨rfl, by decide, .inl E3.mgC⟩ (fun z oz cls d pn hz hf => pss_one (ps_set (i := 1) nd rfl (Or.inl rfl) (pe_lst (pa_cons pe_str (pa_cons (pe_byX E3.xc hz hf (pv 2)) pa_nil)))))
      .nil))))) (pss_one (ps_ret (pv 1)))), ?_⟩
  refine ⟨wErrGX K Q Et [(C0, mkV "player"), (C1, mkV "negative"), (C2, mkV "edge"), (C3, mkV "many")], fun cls d H' σ' w l => ?_, rfl, hc, h⟩
  obtain ⟨a, b, c, rfl⟩ := len3 l
  obtain ⟨b0, e0, yes0, no0⟩ := w
  refine ⟨b0, e0, fun t0 z nz => ?_, fun n0 => ?_⟩
  · obtain ⟨rfl, dd, v, dt, rfl, hd, hv, m⟩ := yes0 t0
    exact ⟨_, rfl, rfl, rfl, dd, _, rfl, hd, by show 2 ≤ sizeLine; decide, fun p np => ⟨_, rfl, m p np⟩⟩
  obtain ⟨b1, e1, yes1, no1⟩ := no0 n0
  refine ⟨b1, e1, fun t1 z nz => ?_, fun n1 => ?_⟩
  · obtain ⟨rfl, dd, v, dt, rfl, hd, hv, m⟩ := yes1 t1
    exact ⟨_, rfl, rfl, rfl, dd, _, rfl, hd, by show 2 ≤ sizeLine; decide, fun p np => ⟨_, rfl, m p np⟩⟩
  obtain ⟨b2, e2, yes2, no2⟩ := no1 n1
  refine ⟨b2, e2, fun t2 z nz => ?_, fun n2 => ?_⟩
  · obtain ⟨rfl, dd, v, dt, rfl, hd, hv, m⟩ := yes2 t2
    exact ⟨_, rfl, rfl, rfl, dd, _, rfl, hd, by show 2 ≤ sizeLine; decide, fun p np => ⟨_, rfl, m p np⟩⟩
  obtain ⟨b3, e3, yes3, no3⟩ := no2 n2
  refine ⟨b3, e3, fun t3 z nz => ?_, fun n3 => ?_⟩
  · obtain ⟨rfl, dd, v, dt, rfl, hd, hv, m⟩ := yes3 t3
    exact ⟨_, rfl, rfl, rfl, dd, _, rfl, hd, by show 2 ≤ sizeLine; decide, fun p np => ⟨_, rfl, m p np⟩⟩
  exact no3 n3
/-- ['told', ..], a clause's pair, or ['operation', text] -/
def TTried (K : PySem.W.Frag) (CO : Addr) (cl : List (Addr × MkC)) : (XK → Hp → VK → Prop) → Hp → VK → Prop :=
  fun tl H Q => TToldX K (wErrG K Q [(CO, mkR "operation")]) "told" cl tl H (fun v H' => ∃ u : V, some (some v) = some (some u) ∧ Q u H')
def tTriedV (K : PySem.W.Frag) (f c' : Addr) (q : Str) (cl : List (Addr × MkC)) (tl : XK → Hp → VK → Prop) : WX → TS := fun W D σ H =>
  ∃ Et : XK, (∀ cls d H' σ', Et cls d H' → σ'.length = 3 → W cls d σ' H') ∧ tAsg (fun σZ HZ Q => σZ[0]? = some (some (.ref f)) ∧ HZ c' = some (LamX.CodeO c' q) ∧ TToldX K Et "told" cl tl HZ Q) (gName 1) D σ H
open LamX in
theorem tried_in {X : Cx} {k : Nat} {g fT CO C0 C1 C2 C3 : Addr} {cdv : Value} {fdT : FuncData} {params : Arguments} {body : Expr} {scope : Scope} {t : XK → TE} (hgd : X.A.guards = some []) (hr0 : Room (k + 3) X.A) (mR : X.mg "repr" = none)
    (EO : Ex X.prog X.w X.K X.mg X.base "InvalidOperation" CO) (E0 : Ex X.prog X.w X.K X.mg X.base "NoPlayer" C0) (E1 : Ex X.prog X.w X.K X.mg X.base "NotNegative" C1) (E2 : Ex X.prog X.w X.K X.mg X.base "InvalidEdge" C2) (E3 : Ex X.prog X.w X.K X.mg X.base "TooMany" C3)
    (FT : Fun X.K "_law_told" "_law_told" s__law_told fT fdT) (mT : X.mg "_law_told" = some (.ref fT)) (bT : L2.Binds X.K fdT ["_law_door"] []) (L : LamX.LamS X.env.scope scope)
    (hbind : ∀ (q : Str) (cl : List (Str × Addr)) (pm cv ctv : Value), bindArgs (PySem.W.kla_fn "<lambda>" q params body scope cl pm cv ctv) ⟨[], []⟩ = pure [])
    (hbody : ∀ (A : Around) (outer : List Env) (s : Shared) (H : Hp) (E : XK) (f c' : Addr), Room k (A.deeper (LamX.lamEnv X scope s.heap.objs.size f c')) → PE (LamX.lamCx X A outer s H E scope f c') body (t E))
    {pins : List (Addr × Obj)} {σ : L2.St} {H : Hp} {s : Shared} {f c' : Addr} {pm ctv : Value} {Q : VK} (I : Inv X pins σ H s) (hf : s.heap.get? f = some (PySem.W.kla_obj "<lambda>" (X.env.qual ++ "<lambda>") params body scope (cloFrom X.env.cells scope.names []) pm c' ctv)) (hfn : H f = none) (hfr : f ∉ frs X.stack) (hc : H c' = some (CodeO c' (X.env.qual ++ "<lambda>")))
    (hr : Room (k + 2) (X.A.deeper (envOfC "_law_tried" (defScope s__law_tried) s.heap.objs.size g cdv))) (h : TTried X.K CO [(C0, mkV "player"), (C1, mkV "negative"), (C2, mkV "edge"), (C3, mkV "many")] (fun E H' Q' => t E σ H' Q') H Q) :
    ∃ t', PSs (cxOf C8.CX0 X.prog X.w X.K X.mg X.base ["_law_door", "_law_kept", "e"] "_law_tried" (defScope s__law_tried) g cdv X.A X.stack s H C8.E0).nox (defBody s__law_tried) t' ∧ t' { nx := fun _ H' => Q .non H', rt := Q } (L2.start ["_law_door", "_law_kept", "e"] [.ref f]) H := by
  have nd := sc_tried.nd
  have hu : X.A.units + 3 + 64 < cLine := (hr0.deeper X.env).units
  obtain ⟨oc, od, kV, doc, pm2, an, cd2, ct, osl, rfl, lk, hcd⟩ := FT.ex
  refine ⟨_, pss_cons (ps_set (i := 1) nd rfl (Or.inl rfl) pe_non) (pss_cons (ps_try_mas (i := 2) (tb := tTriedV X.K f c' (X.env.qual ++ "<lambda>") [(C0, mkV "player"), (C1, mkV "negative"), (C2, mkV "edge"), (C3, mkV "many")] (fun E H' Q' => t E σ H' Q')) rfl rfl nd rfl rfl L2.takes0
      (fun W pn xe tk _ => ⟨fun pins' s' σ' H' D I' h' => by
        obtain ⟨Et, hW, h1⟩ := h'
        exact (pss_one (ps_set (i := 1) nd rfl (Or.inl rfl) (LamX2.pe_pass (X := X) (x1 := "_law_tried") (sg1 := defScope s__law_tried) (g1 := g) (cd1 := cdv) (pn := pn) (xe := xe) (x2 := "_law_told") (a1 := "_law_door") (a2 := "_law_door") (sg2 := defScope s__law_told) (N1 := ["_law_door", "_law_kept", "e"]) (N2 := ["_law_door", "_law_kept", "e"]) (Et := Et) (TT := TToldX X.K Et "told" [(C0, mkV "player"), (C1, mkV "negative"), (C2, mkV "edge"), (C3, mkV "many")]) (t := t) I L hf hfn hfr (hbind _ _ _ _ _)
          (fun E B o t' G => hbody B o t' G E f c') rfl mT FT.kp lk hcd bT sc_error rfl (Or.inl rfl) rfl (Or.inl rfl) (by decide) (by decide) (by decide) (by decide) (by decide) (told_in E0 E1 E2 E3) hr (takes_len tk) (fun cls d σ' H' e l => hW cls d H' σ' e l)))).run pins' s' σ' H' D I' h1⟩)
      (.cons ⟨rfl, by decide, .inl EO.mgC⟩ (fun z oz cls d pn hz hf => pss_one (ps_set (i := 1) nd rfl (Or.inl rfl) (pe_lst (pa_cons pe_str (pa_cons (pe_callB (show CallR _ (.builtin "repr") (rRepr X.K) from call_repr hgd hu) (by rfl) mR boot_repr1 (pa_cons (pe_byX EO.xc hz hf (pv 2)) pa_nil)) pa_nil)))))
      .nil)) (pss_one (ps_ret (pv 1)))), ?_⟩
  refine ⟨wErrG X.K Q [(CO, mkR "operation")], fun cls d H' σ' w l => ?_, rfl, hc, h⟩
  obtain ⟨a, b, c, rfl⟩ := len3 l
  obtain ⟨b0, e0, yes0, no0⟩ := w
  refine ⟨b0, e0, fun t0 z nz => ?_, fun n0 => ?_⟩
  · obtain ⟨rfl, dd, v, dt, rfl, hd, hv, sh1, sh2, sh3, m⟩ := yes0 t0
    exact ⟨_, rfl, rfl, rfl, dd, _, rfl, hd, v, dt, rfl, hv, sh1, sh2, sh3, by show 2 ≤ sizeLine; decide, fun p np => ⟨_, rfl, m p np⟩⟩
  exact (no0 n0).elim
/-- _law_tried(lambda: ..) -/
theorem pe_tried {X : Cx} {T : List (Addr × Str)} {k : Nat} {g c Pt fT CO C0 C1 C2 C3 : Addr} {fd fdT : FuncData} {params : Arguments} {body : Expr} {scope : Scope} {t : XK → TE} {p lpos pos : Pos} (hm : X.mg "_law_tried" = some (.ref g)) (F : Fun X.K "_law_tried" "_law_tried" s__law_tried g fd) (hb : L2.Binds X.K fd ["_law_door"] []) (hg : Gl X "_law_tried")
    (hgd : X.A.guards = some []) (mR : X.mg "repr" = none)
    (EO : Ex X.prog X.w X.K X.mg X.base "InvalidOperation" CO) (E0 : Ex X.prog X.w X.K X.mg X.base "NoPlayer" C0) (E1 : Ex X.prog X.w X.K X.mg X.base "NotNegative" C1) (E2 : Ex X.prog X.w X.K X.mg X.base "InvalidEdge" C2) (E3 : Ex X.prog X.w X.K X.mg X.base "TooMany" C3)
    (FT : Fun X.K "_law_told" "_law_told" s__law_told fT fdT) (mT : X.mg "_law_told" = some (.ref fT)) (bT : L2.Binds X.K fdT ["_law_door"] [])
    (TB : LamX.TabB X.base X.mg c Pt) (hcode : X.env.code = .ref c) (hmT : (Pt, X.env.qual ++ "<lambda>") ∈ T) (hu : ∀ p ∈ T, p.1 = Pt → p.2 = X.env.qual ++ "<lambda>") (hr : Room (k + 3) X.A) (L : LamX.LamS X.env.scope scope) (hdef : defaultsOf params X.env = ([], []))
    (hbind : ∀ (q : Str) (cl : List (Str × Addr)) (pm cv ctv : Value), bindArgs (PySem.W.kla_fn "<lambda>" q params body scope cl pm cv ctv) ⟨[], []⟩ = pure [])
    (hbody : ∀ (A : Around) (outer : List Env) (s : Shared) (H : Hp) (E : XK) (f c' : Addr), Room k (A.deeper (LamX.lamEnv X scope s.heap.objs.size f c')) → PE (LamX.lamCx X A outer s H E scope f c') body (t E)) :
    PE X (.Call (.Name "_law_tried" p) [.Lambda params body scope lpos] [] pos) (LamX.tLam T (TTried X.K CO [(C0, mkV "player"), (C1, mkV "negative"), (C2, mkV "edge"), (C3, mkV "many")]) t) := by
  obtain ⟨oc, od, kV, doc, pm, an, cdv, ct, osl, rfl, lk, hcd⟩ := F.ex
  exact LamX2.pe_lamcall2 hg hm F.kp lk hcd hb sc_tried (fun I hf hfn hfr hc hr' h => tried_in hgd hr mR EO E0 E1 E2 E3 FT mT bT L hbind hbody I hf hfn hfr hc hr' h) TB hcode hmT hu hr L hdef
end K72
set_option Elab.async false
set_option linter.all false
set_option maxRecDepth 100000
set_option maxHeartbeats 8000000
namespace K72
open PySem PySem.Spec PyProof.Rows L2 FNX
abbrev sU (Q : VK) : VK := fun v H' => ∃ u : V, some (some v) = some (some u) ∧ Q u H'
abbrev wX (K : PySem.W.Frag) (CO : Addr) (cl : List (Addr × MkC)) (Q : VK) : XK := wErrGX K (sU Q) (wErrG K Q [(CO, mkR "operation")]) cl
abbrev keptR (Q : VK) : VK := fun v H' => 2 ≤ sizeLine ∧ ∀ p, H' p = none → ∃ u : V, some (some (V.ref p)) = some (some u) ∧ sU Q u (upd H' p (.lst [.str "told", v]))
theorem toldHeadX {K : PySem.W.Frag} {C : Addr} {m : MkC} {r : List (Addr × MkC)} {v : V} {d : PyData} {H : Hp} {Q : VK} {Et : XK} (x : PySem.W.exmOne K (.ref C) (.ref C) = some true) (hd : ∀ H', Same H H' → Rd K H' v d)
    (k : ∀ H', Same H H' → m v d H' Q) : told C v H (wErrGX K Q Et ((C, m) :: r)) :=
  fun H' dd s _ hx => ⟨true, x, fun _ => ⟨rfl, dd, v, d, rfl, hx, hd H' s, k H' s⟩, (fun z => nomatch z)⟩
theorem toldTailX {K : PySem.W.Frag} {C C0 : Addr} {m : MkC} {r : List (Addr × MkC)} {v : V} {H : Hp} {Q : VK} {Et : XK} (x : PySem.W.exmOne K (.ref C) (.ref C0) = some false) (t : told C v H (wErrGX K Q Et r)) : told C v H (wErrGX K Q Et ((C0, m) :: r)) :=
  fun H' dd s nd hx => ⟨false, x, (fun z => nomatch z), fun _ => t H' dd s nd hx⟩
structure Exm5 (K : PySem.W.Frag) (CO CPl CNg CE CM : Addr) : Prop where
  o0 : PySem.W.exmOne K (.ref CO) (.ref CPl) = some false
  o1 : PySem.W.exmOne K (.ref CO) (.ref CNg) = some false
  o2 : PySem.W.exmOne K (.ref CO) (.ref CE) = some false
  o3 : PySem.W.exmOne K (.ref CO) (.ref CM) = some false
  o4 : PySem.W.exmOne K (.ref CO) (.ref CO) = some true
theorem tried_er {K : PySem.W.Frag} {CO CPl CNg CE CM : Addr} {D : Hp} {Q : VK} (x : Exm4 K CPl CNg CE CM) {er : Er} (k : ∀ q H', Same D H' → D q = none → DueAt K H' q (.error er) → Q (.ref q) H') : toldEr CPl CNg CE CM er D (wX K CO (cl4 CPl CNg CE CM) Q) := by
  cases er with
  | player p => exact toldHeadX (d := .int (p : Int)) x.x00 (fun _ _ => .dat (.int _)) fun H' s q nq => ⟨_, rfl, k q _ (s.trans (same_upd nq)) (s.free nq) ⟨.int (p : Int), upd_same, .int _⟩⟩
  | neg v => exact toldTailX x.x10 (toldHeadX (d := .int (v : Int)) x.x11 (fun _ _ => .dat (.int _)) fun H' s q nq => ⟨_, rfl, k q _ (s.trans (same_upd nq)) (s.free nq) ⟨.int (v : Int), upd_same, .int _⟩⟩)
  | edge a c =>
    intro T H0 s0 hT
    have dT : ∀ H', Same H0 H' → Dp K H' (.ref T) (.tuple [.int (a : Int), .int (c : Int)]) := fun H' s => .tup (SqT.of (s _ _ hT)) (.cons (.int _) (.cons (.int _) .nil))
    exact toldTailX x.x20 (toldTailX x.x21 (toldHeadX (d := .tuple [.int (a : Int), .int (c : Int)]) x.x22 (fun H' s => .dat (dT H' s)) fun H' s q nq => ⟨_, rfl, k q _ ((s0.trans s).trans (same_upd nq)) ((s0.trans s).free nq) ⟨.ref T, upd_same, dT _ (s.trans (same_upd nq))⟩⟩))
  | many n => exact toldTailX x.x30 (toldTailX x.x31 (toldTailX x.x32 (toldHeadX (d := .int (n : Int)) x.x33 (fun _ _ => .dat (.int _)) fun H' s q nq => ⟨_, rfl, k q _ (s.trans (same_upd nq)) (s.free nq) ⟨.int (n : Int), upd_same, .int _⟩⟩)))
theorem tried_bad {K : PySem.W.Frag} {CO CPl CNg CE CM : Addr} {D : Hp} {Q : VK} (y : Exm5 K CO CPl CNg CE CM) {v : V} {d : PyData} (hd : ∀ H', Same D H' → Rd K H' v d) (sh : d.showable = true ∧ d.depth ≤ 60 ∧ d.shown.length ≤ sizeLine)
    (k : ∀ q H', Same D H' → D q = none → H' q = some (.lst [.str "operation", .str d.shown]) → Q (.ref q) H') : told CO v D (wX K CO (cl4 CPl CNg CE CM) Q) :=
  toldTailX y.o0 (toldTailX y.o1 (toldTailX y.o2 (toldTailX y.o3 (show told CO v D (wErrG K Q [(CO, mkR "operation")]) from
    toldHeadG y.o4 hd fun H' s => ⟨sh.1, sh.2.1, sh.2.2, fun q nq => k q _ (s.trans (same_upd nq)) (s.free nq) upd_same⟩))))
/-- what is due, at q -/
def ResAt (K : PySem.W.Frag) (A : List Addr) (H : Hp) (q : Addr) (M : Mo) (its : List Itm) (ds : List PyData) : Prop := q ∉ A ∧ (match runI M its with
  | .error (k, none) => ∃ d, ds[k]? = some d ∧ H q = some (.lst [.str "operation", .str d.shown])
  | .error (_, some er) => DueAt K H q (.error er)
  | .ok r => ∃ l, l ∉ A ∧ H q = some (.lst [.str "told", .ref l]) ∧ H l = some (.lst r.2.1))
def resD (M : Mo) (its : List Itm) (ds : List PyData) : PyData := match runI M its with
  | .error (k, none) => .list [.str "operation", .str (ds.getD k .none).shown]
  | .error (_, some er) => dueL (.error er)
  | .ok r => .list [.str "told", .list (r.2.1.map valD)]
theorem ResAt.fr {K : PySem.W.Frag} {A L : List Addr} {H H' : Hp} {q : Addr} {M : Mo} {its : List Itm} {ds : List PyData} (h : ResAt K A H q M its ds) (f : FrL L H H') (l : Lis L H) (sub : ∀ z ∈ L, z ∈ A) : ResAt K A H' q M its ds := by
  obtain ⟨n, h⟩ := h
  refine ⟨n, ?_⟩
  have nin : ∀ {z : Addr}, z ∉ A → z ∉ L := fun nz hm => nz (sub _ hm)
  cases e : runI M its with
  | ok r =>
    rw [e] at h
    obtain ⟨u, h1, h2, h3⟩ := h
    exact ⟨u, h1, f _ _ (nin n) h2, f _ _ (nin h1) h3⟩
  | error ke =>
    obtain ⟨k, _ | er⟩ := ke
    · rw [e] at h
      obtain ⟨d, h1, h2⟩ := h
      exact ⟨d, h1, f _ _ (nin n) h2⟩
    · rw [e] at h
      exact DueAt.fr (show DueAt K H q (.error er) from h) f l (nin n)
theorem ResAt.ext {K : PySem.W.Frag} {A : List Addr} {H H' : Hp} {q : Addr} {M : Mo} {its : List Itm} {ds : List PyData} (h : ResAt K A H q M its ds) (s : LamX.ExtN H H') : ResAt K A H' q M its ds := by
  obtain ⟨n, h⟩ := h
  refine ⟨n, ?_⟩
  cases e : runI M its with
  | ok r =>
    rw [e] at h
    obtain ⟨u, h1, h2, h3⟩ := h
    exact ⟨u, h1, s _ _ h2 (fun _ z => by cases z), s _ _ h3 (fun _ z => by cases z)⟩
  | error ke =>
    obtain ⟨k, _ | er⟩ := ke
    · rw [e] at h
      obtain ⟨d, h1, h2⟩ := h
      exact ⟨d, h1, s _ _ h2 (fun _ z => by cases z)⟩
    · rw [e] at h
      exact DueAt.ext (show DueAt K H q (.error er) from h) s
theorem ResAt.same {K : PySem.W.Frag} {A : List Addr} {H H' : Hp} {q : Addr} {M : Mo} {its : List Itm} {ds : List PyData} (h : ResAt K A H q M its ds) (s : Same H H') : ResAt K A H' q M its ds := h.ext (Same.ext s)
/-- what an operation returns: nothing, or a number -/
theorem stepV {M : Mo} {op : Op} {r : Mo × V} (e : stepM M op = .ok r) : r.2 = .non ∨ ∃ n : Nat, r.2 = .int (n : Int) := by
  by_cases c : isAdd op = true
  · cases op <;> first | cases c | skip
    unfold stepM at e
    dsimp only at e
    split at e
    · cases e
    · injection e with e
      rw [← e]
      exact .inr ⟨M.n, rfl⟩
  · exact .inl (stepNon e (by simpa using c))
theorem runV {its : List Itm} : ∀ {M : Mo} {r : Mo × List V × List Op}, runI M its = .ok r → ∀ v ∈ r.2.1, v = .non ∨ ∃ n : Nat, v = .int (n : Int) := by
  induction its with
  | nil =>
    intro M r h v hv
    injection h with h
    rw [← h] at hv
    cases hv
  | cons it its ih =>
    intro M r h v hv
    cases it with
    | bad => cases h
    | op p =>
      have h : (match stepM M p with | .error e => Except.error (0, some e) | .ok (M', v) => match runI M' its with | .error (k, e) => Except.error (k + 1, e) | .ok (M'', vs, ivs) => Except.ok (M'', v :: vs, invM M p :: ivs)) = .ok r := h
      cases e1 : stepM M p with
      | error er => rw [e1] at h; cases h
      | ok q =>
        obtain ⟨M', v'⟩ := q
        rw [e1] at h
        dsimp only at h
        cases e2 : runI M' its with
        | error ke => rw [e2] at h; cases h
        | ok r2 =>
          obtain ⟨Ma, va, ia⟩ := r2
          rw [e2] at h
          injection h with h
          rw [← h] at hv
          rcases List.mem_cons.mp hv with rfl | hv
          · exact stepV e1
          · exact ih e2 v hv
theorem dpVals {K : PySem.W.Frag} {H : Hp} : ∀ {vs : List V}, (∀ v ∈ vs, v = .non ∨ ∃ n : Nat, v = .int (n : Int)) → DpAll K H vs (vs.map valD)
  | [], _ => .nil
  | v :: vs, h => by
    refine .cons ?_ (dpVals fun u hu => h u (List.mem_cons_of_mem _ hu))
    rcases h v List.mem_cons_self with rfl | ⟨n, rfl⟩
    · exact .non
    · exact .int _
theorem ResAt.dp {K : PySem.W.Frag} {A : List Addr} {H : Hp} {q : Addr} {M : Mo} {its : List Itm} {ds : List PyData} (h : ResAt K A H q M its ds) : Dp K H (.ref q) (resD M its ds) := by
  obtain ⟨_, h⟩ := h
  unfold resD
  cases e : runI M its with
  | ok r =>
    rw [e] at h
    obtain ⟨l, _, h2, h3⟩ := h
    exact .lst (SqL.of h2) (.cons (.str _) (.cons (.lst (SqL.of h3) (dpVals (runV e))) .nil))
  | error ke =>
    obtain ⟨k, _ | er⟩ := ke
    · rw [e] at h
      obtain ⟨d, h1, h2⟩ := h
      have hd : ds.getD k .none = d := by rw [List.getD_eq_getElem?_getD, h1]; rfl
      show Dp K H (.ref q) (.list [.str "operation", .str (ds.getD k .none).shown])
      rw [hd]
      exact .lst (SqL.of h2) (.cons (.str _) (.cons (.str _) .nil))
    · rw [e] at h
      exact DueAt.dp (show DueAt K H q (.error er) from h)
theorem runI_len {its : List Itm} : ∀ {M : Mo} {r : Mo × List V × List Op}, runI M its = .ok r → r.2.1.length = its.length := by
  induction its with
  | nil =>
    intro M r h
    injection h with h
    rw [← h]
    rfl
  | cons it its ih =>
    intro M r h
    cases it with
    | bad => cases h
    | op p =>
      have h : (match stepM M p with | .error e => Except.error (0, some e) | .ok (M', v) => match runI M' its with | .error (k, e) => Except.error (k + 1, e) | .ok (M'', vs, ivs) => Except.ok (M'', v :: vs, invM M p :: ivs)) = .ok r := h
      cases e1 : stepM M p with
      | error er => rw [e1] at h; cases h
      | ok q =>
        obtain ⟨M', v'⟩ := q
        rw [e1] at h
        dsimp only at h
        cases e2 : runI M' its with
        | error ke => rw [e2] at h; cases h
        | ok r2 =>
          obtain ⟨Ma, va, ia⟩ := r2
          rw [e2] at h
          injection h with h
          rw [← h]
          exact congrArg (· + 1) (ih e2)
/-- what the words say -/
def resW (M : Mo) (its : List Itm) : Str := match runI M its with
  | .error (_, none) => "operation"
  | .error (_, some er) => (dueW (.error er)).1
  | .ok _ => "told"
theorem ResAt.head {K : PySem.W.Frag} {A : List Addr} {H : Hp} {q : Addr} {M : Mo} {its : List Itm} {ds : List PyData} (h : ResAt K A H q M its ds) : ∃ v, H q = some (.lst [.str (resW M its), v]) := by
  obtain ⟨_, h⟩ := h
  unfold resW
  cases e : runI M its with
  | ok r =>
    rw [e] at h
    obtain ⟨l, _, h2, h3⟩ := h
    exact ⟨_, h2⟩
  | error ke =>
    obtain ⟨k, _ | er⟩ := ke
    · rw [e] at h
      obtain ⟨d, h1, h2⟩ := h
      exact ⟨_, h2⟩
    · rw [e] at h
      obtain ⟨v, h2, _⟩ := (show DueAt K H q (.error er) from h)
      exact ⟨_, h2⟩
theorem resT {M : Mo} {its : List Itm} {r : Mo × List V × List Op} (e : runI M its = .ok r) : decide (V.str (resW M its) = V.str "told") = true := by
  unfold resW
  rw [e]
  exact decide_eq_true rfl
theorem resF {M : Mo} {its : List Itm} {ke : Nat × Option Er} (e : runI M its = .error ke) : decide (V.str (resW M its) = V.str "told") = false := by
  unfold resW
  rw [e]
  obtain ⟨k, _ | er⟩ := ke
  · exact strNe (show (("operation" : Str) == "told") = false by decide +kernel)
  · cases er with
    | player p => exact strNe (show (("player" : Str) == "told") = false by decide +kernel)
    | neg u => exact strNe (show (("negative" : Str) == "told") = false by decide +kernel)
    | edge u z => exact strNe (show (("edge" : Str) == "told") = false by decide +kernel)
    | many u => exact strNe (show (("many" : Str) == "told") = false by decide +kernel)
theorem runOk {its : List Itm} : ∀ {M : Mo} {r : Mo × List V × List Op} {C C' : Nat}, runI M its = .ok r → okI M its → OkM M → SrtE M.es → (∀ o, Itm.op o ∈ its → isFive o = true ∧ opB o) → BIG ≤ C → Bd C M.x → Bd C' M.sc →
    OkM r.1 ∧ SrtE r.1.es ∧ Bd (81 ^ its.length * C) r.1.x ∧ Bd (C' + its.length) r.1.sc ∧ r.1.sc.length = M.sc.length := by
  induction its with
  | nil =>
    intro M r C C' h ok m s all big bx bs
    injection h with h
    rw [← h]
    refine ⟨m, s, ?_, bs, rfl⟩
    rw [List.length_nil, Nat.pow_zero, Nat.one_mul]
    exact bx
  | cons it its ih =>
    intro M r C C' h ok m s all big bx bs
    cases it with
    | bad => cases h
    | op p =>
      have h : (match stepM M p with | .error e => Except.error (0, some e) | .ok (M', v) => match runI M' its with | .error (k, e) => Except.error (k + 1, e) | .ok (M'', vs, ivs) => Except.ok (M'', v :: vs, invM M p :: ivs)) = .ok r := h
      obtain ⟨ok1, ok2⟩ := ok
      obtain ⟨h5, hb⟩ := all p List.mem_cons_self
      cases e1 : stepM M p with
      | error er => rw [e1] at h; cases h
      | ok q =>
        obtain ⟨M', v'⟩ := q
        rw [e1] at h
        dsimp only at h
        cases e2 : runI M' its with
        | error ke => rw [e2] at h; cases h
        | ok r2 =>
          obtain ⟨Ma, va, ia⟩ := r2
          rw [e2] at h
          injection h with h
          obtain ⟨m1, s1⟩ := stepOkM e1 h5 ok1 m s
          have b1 := stepBd e1 h5 ok1 hb m.good.few (C := C) big bx
          obtain ⟨b2, l2⟩ := stepSc e1 h5 bs
          obtain ⟨r1, r2, r3, r4, r5⟩ := ih e2 (ok2 M' v' e1) m1 s1 (fun o ho => all o (List.mem_cons_of_mem _ ho)) (C := 81 * C) (C' := C' + 1) (by omega) b1 b2
          rw [← h]
          refine ⟨r1, r2, ?_, ?_, ?_⟩
          · rw [List.length_cons, Nat.pow_succ, Nat.mul_assoc]
            exact r3
          · rw [List.length_cons]
            exact r4.mono (by omega)
          · exact r5.trans l2
theorem runSm {its : List Itm} : ∀ {M : Mo} {k : Nat} {er : Er}, runI M its = .error (k, some er) → okI M its → OkM M → SrtE M.es → (∀ o, Itm.op o ∈ its → isFive o = true ∧ opB o) → DueSm (.error er) := by
  induction its with
  | nil => intro M k er h; cases h
  | cons it its ih =>
    intro M k er h ok m s all
    cases it with
    | bad => cases h
    | op p =>
      have h : (match stepM M p with | .error e => Except.error (0, some e) | .ok (M', v) => match runI M' its with | .error (k, e) => Except.error (k + 1, e) | .ok (M'', vs, ivs) => Except.ok (M'', v :: vs, invM M p :: ivs)) = .error (k, some er) := h
      obtain ⟨ok1, ok2⟩ := ok
      obtain ⟨h5, hb⟩ := all p List.mem_cons_self
      cases e1 : stepM M p with
      | error er1 =>
        rw [e1] at h
        injection h with h
        injection h with _ h
        injection h with h
        have := dueSm h5 ok1 hb m.n16
        rw [e1, h] at this
        exact this
      | ok q =>
        obtain ⟨M', v'⟩ := q
        rw [e1] at h
        dsimp only at h
        obtain ⟨m1, s1⟩ := stepOkM e1 h5 ok1 m s
        cases e2 : runI M' its with
        | ok r2 => obtain ⟨Ma, va, ia⟩ := r2; rw [e2] at h; cases h
        | error ke =>
          obtain ⟨k2, e3⟩ := ke
          rw [e2] at h
          injection h with h
          injection h with _ h
          subst h
          exact ih e2 (ok2 M' v' e1) m1 s1 (fun o ho => all o (List.mem_cons_of_mem _ ho))
theorem runV16 {its : List Itm} : ∀ {M : Mo} {r : Mo × List V × List Op}, runI M its = .ok r → okI M its → OkM M → SrtE M.es → (∀ o, Itm.op o ∈ its → isFive o = true ∧ opB o) → ∀ v ∈ r.2.1, v = .non ∨ ∃ n : Nat, n ≤ 16 ∧ v = .int (n : Int) := by
  induction its with
  | nil =>
    intro M r h _ _ _ _ v hv
    injection h with h
    rw [← h] at hv
    cases hv
  | cons it its ih =>
    intro M r h ok m s all v hv
    cases it with
    | bad => cases h
    | op p =>
      have h : (match stepM M p with | .error e => Except.error (0, some e) | .ok (M', v) => match runI M' its with | .error (k, e) => Except.error (k + 1, e) | .ok (M'', vs, ivs) => Except.ok (M'', v :: vs, invM M p :: ivs)) = .ok r := h
      obtain ⟨ok1, ok2⟩ := ok
      obtain ⟨h5, hb⟩ := all p List.mem_cons_self
      cases e1 : stepM M p with
      | error er => rw [e1] at h; cases h
      | ok q =>
        obtain ⟨M', v'⟩ := q
        rw [e1] at h
        dsimp only at h
        obtain ⟨m1, s1⟩ := stepOkM e1 h5 ok1 m s
        cases e2 : runI M' its with
        | error ke => rw [e2] at h; cases h
        | ok r2 =>
          obtain ⟨Ma, va, ia⟩ := r2
          rw [e2] at h
          injection h with h
          rw [← h] at hv
          rcases List.mem_cons.mp hv with rfl | hv
          · have := dueSm h5 ok1 hb m.n16
            rw [e1] at this
            exact this
          · exact ih e2 (ok2 M' v' e1) m1 s1 (fun o ho => all o (List.mem_cons_of_mem _ ho)) v hv
theorem shwRes {M : Mo} {its : List Itm} {ds : List PyData} (ok : okI M its) (m : OkM M) (s : SrtE M.es) (all : ∀ o, Itm.op o ∈ its → isFive o = true ∧ opB o) (li : its.length ≤ 5) (hb : ∀ k, runI M its = .error (k, none) → Shw 2 500 (.list [.str "operation", .str (ds.getD k .none).shown])) : Shw 3 1100 (resD M its ds) := by
  have sI : ∀ n : Nat, n ≤ 41 → Shw 1 100 (.int (n : Int)) := fun n hn => (shwInt (Nat.lt_of_le_of_lt (show ((n : Nat) : Int).natAbs ≤ 41 by omega) (by decide +kernel))).mono (by decide) (by decide)
  unfold resD
  cases e : runI M its with
  | ok r =>
    have lr : r.2.1.length = its.length := runI_len e
    refine (shwList (k := 2) (L := 520) (m := 2) (fun d hd => ?_) (by show 2 ≤ 2; decide)).mono (by decide) (by decide)
    rcases List.mem_cons.mp hd with rfl | hd
    · exact ⟨by decide +kernel, by decide +kernel, by decide +kernel⟩
    · rw [List.mem_singleton.mp hd]
      refine (shwList (k := 1) (L := 100) (m := 5) (fun d hd => ?_) (by rw [List.length_map, lr]; exact li)).mono (by decide) (by decide)
      obtain ⟨v, hv, rfl⟩ := List.mem_map.mp hd
      rcases runV16 e ok m s all v hv with rfl | ⟨n, hn, rfl⟩
      · exact ⟨by decide +kernel, by decide +kernel, by decide +kernel⟩
      · exact sI n (by omega)
  | error ke =>
    obtain ⟨k, _ | er⟩ := ke
    · exact (hb k e).mono (by decide) (by decide)
    · exact (shwDue (runSm e ok m s all)).mono (by decide) (by decide)
def skipR : Mo → List Op → List (Except Er (Mo × V))
  | _, [] => []
  | M, op :: r => stepM M op :: skipR (skipM M op) r
def isEr : Except Er (Mo × V) → Bool
  | .error _ => true
  | .ok _ => false
theorem skipR_snoc {ops : List Op} {op : Op} : ∀ {M : Mo}, skipR M (ops ++ [op]) = skipR M ops ++ [stepM (ops.foldl skipM M) op] := by
  induction ops with
  | nil => intro M; rfl
  | cons p ops ih =>
    intro M
    show stepM M p :: skipR (skipM M p) (ops ++ [op]) = stepM M p :: (skipR (skipM M p) ops ++ _)
    rw [ih]
    rfl
theorem skipR_er {ops : List Op} : ∀ {M : Mo} {er : Er} {r : List (Except Er (Mo × V))}, (skipR M ops).filter isEr = .error er :: r → ∃ k, runI M (ops.map Itm.op) = .error (k, some er) := by
  induction ops with
  | nil => intro M er r h; cases h
  | cons p ops ih =>
    intro M er r h
    show ∃ k, (match stepM M p with | .error e => Except.error (0, some e) | .ok (M', v) => match runI M' (ops.map Itm.op) with | .error (k, e) => Except.error (k + 1, e) | .ok (M'', vs, ivs) => Except.ok (M'', v :: vs, invM M p :: ivs)) = .error (k, some er)
    cases e1 : stepM M p with
    | error er1 =>
      have h : (stepM M p :: skipR (skipM M p) ops).filter isEr = .error er :: r := h
      rw [e1, List.filter_cons_of_pos (by rfl)] at h
      injection h with h _
      injection h with h
      rw [h]
      exact ⟨0, rfl⟩
    | ok q =>
      have h : (stepM M p :: skipR (skipM M p) ops).filter isEr = .error er :: r := h
      have sk : skipM M p = q.1 := by unfold skipM; rw [e1]
      rw [e1, List.filter_cons_of_neg (by simp [isEr]), sk] at h
      obtain ⟨k, hk⟩ := ih h
      dsimp only
      rw [hk]
      exact ⟨k + 1, rfl⟩
theorem skipR_ok {ops : List Op} : ∀ {M : Mo}, (skipR M ops).filter isEr = [] → ∃ r, runI M (ops.map Itm.op) = .ok r := by
  induction ops with
  | nil => intro M h; exact ⟨_, rfl⟩
  | cons p ops ih =>
    intro M h
    show ∃ r, (match stepM M p with | .error e => Except.error (0, some e) | .ok (M', v) => match runI M' (ops.map Itm.op) with | .error (k, e) => Except.error (k + 1, e) | .ok (M'', vs, ivs) => Except.ok (M'', v :: vs, invM M p :: ivs)) = .ok r
    have h : (stepM M p :: skipR (skipM M p) ops).filter isEr = [] := h
    cases e1 : stepM M p with
    | error er1 =>
      rw [e1, List.filter_cons_of_pos (by rfl)] at h
      cases h
    | ok q =>
      have sk : skipM M p = q.1 := by unfold skipM; rw [e1]
      rw [e1, List.filter_cons_of_neg (by simp [isEr]), sk] at h
      obtain ⟨r, hr⟩ := ih h
      dsimp only
      rw [hr]
      exact ⟨_, rfl⟩
theorem okI_take {a b : List Itm} : ∀ {M : Mo}, okI M (a ++ b) → okI M a := by
  induction a with
  | nil => intro M _; exact True.intro
  | cons it a ih =>
    intro M h
    cases it with
    | bad => exact True.intro
    | op p => exact ⟨h.1, fun M' v e => ih (h.2 M' v e)⟩
theorem okI_bad {a b : List Itm} : ∀ {M : Mo}, okI M a → okI M (a ++ Itm.bad :: b) := by
  induction a with
  | nil => intro M _; exact True.intro
  | cons it a ih =>
    intro M h
    cases it with
    | bad => exact True.intro
    | op p => exact ⟨h.1, fun M' v e => ih (h.2 M' v e)⟩
theorem okS_take {a b : List Op} : ∀ {M : Mo}, okS M (a ++ b) → okS M a ∧ okS (a.foldl skipM M) b := by
  induction a with
  | nil => intro M h; exact ⟨True.intro, h⟩
  | cons p a ih => intro M h; exact ⟨⟨h.1, (ih h.2).1⟩, (ih h.2).2⟩
def LgAt (A : List Addr) (H : Hp) (t : Addr) : En → Prop
  | .one _ _ => False
  | .many ops _ => ops.length ≤ 4 ∧ (∀ op ∈ ops, OpS op) ∧ ∃ l ts, l ∉ A ∧ H t = some (.tup [.str "together", .ref l]) ∧ H l = some (.lst (ts.map V.ref)) ∧ OpsAt H ts ops
def LgsAt (A : List Addr) (H : Hp) (ts : List Addr) (log : List En) : Prop := ts.length = log.length ∧ ∀ (k : Nat) (t : Addr), ts[k]? = some t → ∃ en, log[k]? = some en ∧ LgAt A H t en
theorem LgAt.step {A A' L : List Addr} {H H' : Hp} {t : Addr} {en : En} (h : LgAt A H t en) (f : FrL L H H') (sub : ∀ z ∈ L, z ∈ A) (d : Dom A H) (n : ∀ z ∈ A', z ∈ A ∨ H z = none) : LgAt A' H' t en := by
  cases en with
  | one op inv => exact h
  | many ops invs =>
    obtain ⟨h0, h0', l, ts, h1, h2, h3, h4⟩ := h
    refine ⟨h0, h0', l, ts, fun hm => ?_, f _ _ (fun hm => ?_) h2, f _ _ (fun hm => h1 (sub _ hm)) h3, h4.fr f sub d⟩
    · rcases n l hm with q | q
      · exact h1 q
      · rw [h3] at q; cases q
    · obtain ⟨o, e1, n1⟩ := d t (sub _ hm)
      rw [h2] at e1
      exact n1 _ (Option.some.inj e1).symm
theorem LgsAt.step {A A' L : List Addr} {H H' : Hp} {ts : List Addr} {log : List En} (h : LgsAt A H ts log) (f : FrL L H H') (sub : ∀ z ∈ L, z ∈ A) (d : Dom A H) (n : ∀ z ∈ A', z ∈ A ∨ H z = none) : LgsAt A' H' ts log := ⟨h.1, fun k t e => by
  obtain ⟨en, h1, h2⟩ := h.2 k t e
  exact ⟨en, h1, h2.step f sub d n⟩⟩
theorem LgsAt.fr {A L : List Addr} {H H' : Hp} {ts : List Addr} {log : List En} (h : LgsAt A H ts log) (f : FrL L H H') (sub : ∀ z ∈ L, z ∈ A) (d : Dom A H) : LgsAt A H' ts log := h.step f sub d fun _ hz => .inl hz
theorem LgsAt.ext {A : List Addr} {H H' : Hp} {ts : List Addr} {log : List En} (h : LgsAt A H ts log) (s : LamX.ExtN H H') : LgsAt A H' ts log := ⟨h.1, fun k t e => by
  obtain ⟨en, h1, h2⟩ := h.2 k t e
  refine ⟨en, h1, ?_⟩
  cases en with
  | one op inv => exact h2
  | many ops invs =>
    obtain ⟨g0, g0', l, ts, g1, g2, g3, g4⟩ := h2
    exact ⟨g0, g0', l, ts, g1, s _ _ g2 (fun _ z => by cases z), s _ _ g3 (fun _ z => by cases z), g4.ext s⟩⟩
theorem LgsAt.same {A : List Addr} {H H' : Hp} {ts : List Addr} {log : List En} (h : LgsAt A H ts log) (s : Same H H') : LgsAt A H' ts log := h.ext (Same.ext s)
theorem LgsAt.snoc {A : List Addr} {H : Hp} {ts : List Addr} {log : List En} {t : Addr} {en : En} (h : LgsAt A H ts log) (ht : LgAt A H t en) : LgsAt A H (ts ++ [t]) (log ++ [en]) := by
  refine ⟨by rw [List.length_append, List.length_append, h.1]; rfl, fun k u e => ?_⟩
  by_cases hl : k < ts.length
  · rw [List.getElem?_append_left hl] at e
    obtain ⟨o, h1, h2⟩ := h.2 k u e
    exact ⟨o, by rw [List.getElem?_append_left (by rw [← h.1]; exact hl)]; exact h1, h2⟩
  · rw [List.getElem?_append_right (by omega)] at e
    have hk : k = ts.length := by
      have := (List.getElem?_eq_some_iff.mp e).1
      simp at this
      omega
    subst hk
    rw [Nat.sub_self] at e
    obtain rfl := Option.some.inj e
    exact ⟨en, by rw [h.1, List.getElem?_append_right (Nat.le_refl _), Nat.sub_self]; rfl, ht⟩
theorem LgAt.dp {K : PySem.W.Frag} {A : List Addr} {H : Hp} {t : Addr} {en : En} (h : LgAt A H t en) : Dp K H (.ref t) (entD en) := by
  cases en with
  | one op inv => exact h.elim
  | many ops invs =>
    obtain ⟨_, _, l, ts, _, h1, h3, h4⟩ := h
    exact .tup (SqT.of h1) (.cons (.str _) (.cons (.lst (SqL.of h3) (dpOps h4)) .nil))
theorem dpLgs {K : PySem.W.Frag} {A : List Addr} {H : Hp} : ∀ {ts : List Addr} {log : List En}, LgsAt A H ts log → DpAll K H (ts.map V.ref) (log.map entD)
  | [], [], _ => .nil
  | [], _ :: _, h => by cases h.1
  | _ :: _, [], h => by cases h.1
  | t :: ts, en :: log, h => by
    obtain ⟨o, h1, h2⟩ := h.2 0 t rfl
    obtain rfl := Option.some.inj h1
    exact .cons h2.dp (dpLgs ⟨by have := h.1; simpa using this, fun k u e => h.2 (k + 1) u e⟩)
theorem shwEnt {A : List Addr} {H : Hp} {t : Addr} {en : En} (h : LgAt A H t en) : Shw 3 1700 (entD en) := by
  cases en with
  | one op inv => exact h.elim
  | many ops invs =>
    obtain ⟨h0, h0', _⟩ := h
    refine (shwTup (k := 2) (L := 820) (m := 2) (fun d hd => ?_) (by show 2 ≤ 2; decide)).mono (by decide) (by decide)
    · rcases List.mem_cons.mp hd with rfl | hd
      · exact ⟨by decide +kernel, by decide +kernel, by decide +kernel⟩
      · rw [List.mem_singleton.mp hd]
        exact (shwList (k := 1) (L := 200) (m := 4) (fun e he => by
          obtain ⟨op, ho, rfl⟩ := List.mem_map.mp he
          exact shwOp (h0' op ho)) (by rw [List.length_map]; exact h0)).mono (by decide) (by decide)
end K72
set_option Elab.async false
set_option linter.all false
set_option maxRecDepth 100000
set_option maxHeartbeats 8000000
namespace K72
open PySem PySem.Spec PyProof.Rows L2 FNX
theorem runI_at {its : List Itm} : ∀ {M : Mo} {k : Nat}, runI M its = .error (k, none) → its[k]? = some .bad := by
  induction its with
  | nil => intro M k h; cases h
  | cons it its ih =>
    intro M k h
    cases it with
    | bad =>
      injection h with h
      injection h with h _
      rw [← h]
      rfl
    | op p =>
      have h : (match stepM M p with | .error e => Except.error (0, some e) | .ok (M', v) => match runI M' its with | .error (k, e) => Except.error (k + 1, e) | .ok (M'', vs, ivs) => Except.ok (M'', v :: vs, invM M p :: ivs)) = .error (k, none) := h
      cases e1 : stepM M p with
      | error er =>
        rw [e1] at h
        injection h with h
        injection h with _ h
        cases h
      | ok q =>
        obtain ⟨M', v'⟩ := q
        rw [e1] at h
        dsimp only at h
        cases e2 : runI M' its with
        | ok r2 => obtain ⟨Ma, va, ia⟩ := r2; rw [e2] at h; cases h
        | error ke =>
          obtain ⟨k2, e3⟩ := ke
          rw [e2] at h
          injection h with h
          injection h with h1 h2
          subst h2
          rw [← h1]
          exact ih e2
theorem oddSh : ∀ d ∈ oddD, (d.showable = true ∧ d.depth ≤ 60 ∧ d.shown.length ≤ sizeLine) ∧ Shw 2 500 (.list [.str "operation", .str d.shown]) := by
  intro d hd
  have h : Shw 5 100 d ∧ Shw 2 500 (.list [.str "operation", .str d.shown]) := by
    unfold oddD at hd
    simp only [List.mem_cons, List.not_mem_nil, or_false] at hd
    rcases hd with rfl | rfl | rfl | rfl | rfl | rfl | rfl | rfl | rfl | rfl | rfl | rfl | rfl | rfl | rfl | rfl <;> exact ⟨⟨by decide +kernel, by decide +kernel, by decide +kernel⟩, ⟨by decide +kernel, by decide +kernel, by decide +kernel⟩⟩
  exact ⟨shwLine h.1 (by decide) (by decide), h.2⟩
theorem tried_tog {K : PySem.W.Frag} {w : World} {aB CG CT CB CPl CNg CE CM CO : Addr} {D : Hp} {Q : VK} {A : List Addr} {b so pk : Addr} {M : Mo} {g nl pl : Addr} {log : List En} {L : Addr} {xs : List V} {ds : List PyData} {its : List Itm}
    (x : Exm4 K CPl CNg CE CM) (y : Exm5 K CO CPl CNg CE CM) (bd : BdAt CG CT CB A D b so pk M g nl pl log) (lis : Lis A D) (hl : log.length < 1000) (hL : D L = some (.lst xs) ∨ D L = some (.tup xs)) (lx : xs.length ≤ 100) (lit : xs.length = its.length) (lds : xs.length = ds.length)
    (hit : ∀ (k : Nat) (v : V), xs[k]? = some v → ∃ d it, ds[k]? = some d ∧ its[k]? = some it ∧ ItmAt K w aB D v d it) (hsh : ∀ (k : Nat) (d : PyData), its[k]? = some .bad → ds[k]? = some d → d.showable = true ∧ d.depth ≤ 60 ∧ d.shown.length ≤ sizeLine) (hrd : ∀ (k : Nat) (v : V) (d : PyData), its[k]? = some .bad → xs[k]? = some v → ds[k]? = some d → ∀ H', Same D H' → Rd K H' v d) (ok : okI M its)
    (k : ∀ (A' : List Addr) (so2 nl2 pl2 g' q : Addr) (M' : Mo) (log' : List En) (H' : Hp), FrL [b, pk] D H' → (∀ z ∈ A, z ∈ A') → (∀ z ∈ A', z ∈ A ∨ D z = none) → Lis A' H' → BdAt CG CT CB A' H' b so2 pk M' g' nl2 pl2 log' → ((so2 = so ∧ nl2 = nl ∧ pl2 = pl) ∨ ∀ z ∈ [so2, nl2, pl2], D z = none) → ResAt K [] H' q M its ds →
      ((∃ ke, runI M its = .error ke ∧ M' = M ∧ log' = log) ∨ (∃ r ops, runI M its = .ok r ∧ its.map itmOp = ops.map some ∧ M' = r.1 ∧ log' = log ++ [.many ops r.2.2.reverse])) → Q (.ref q) H') :
    spTog K w aB CG CT CB CPl CNg CE CM CO [.ref b, .ref L] D (keptR Q) (wX K CO (cl4 CPl CNg CE CM) Q) := by
  refine ⟨A, b, so, pk, M, g, nl, pl, log, L, xs, ds, its, rfl, bd, hl, hL, lx, lit, lds, hit, ok, ?_⟩
  cases e : runI M its with
  | error ke =>
    have stay : ∀ {q : Addr} {H' : Hp}, Same D H' → ResAt K [] H' q M its ds → Q (.ref q) H' := fun {q H'} s r => k A so nl pl g q M log H' (sameFr s) (fun _ h => h) (fun _ h => .inl h) (lis.same s) (bd.same s) (.inl ⟨rfl, rfl, rfl⟩) r (.inl ⟨ke, e, rfl, rfl⟩)
    obtain ⟨kk, _ | er⟩ := ke
    · intro v hv
      obtain ⟨d, it, h1, h2, h3⟩ := hit kk v hv
      have hbad : its[kk]? = some .bad := runI_at e
      obtain ⟨h4, h5, h6⟩ := hsh kk d hbad h1
      refine tried_bad y (hrd kk v d hbad hv h1) ⟨h4, h5, h6⟩ fun q H' s nq hq => stay s ⟨by simp, ?_⟩
      rw [e]
      exact ⟨d, h1, hq⟩
    · refine tried_er x fun q H' s nq due => stay s ⟨by simp, ?_⟩
      rw [e]
      exact due
  | ok r =>
    intro A' so2 nl2 pl2 g' q0 ops H' f sub new lis' hops bd' fr nq hq
    refine ⟨by decide, fun p np => ⟨_, rfl, _, rfl, ?_⟩⟩
    have s := same_upd (o := HO.lst [.str "told", .ref q0]) np
    refine k A' so2 nl2 pl2 g' p r.1 _ _ (f.trans (sameFr s)) sub new ((lis' lis).same s) (bd'.same s) (.inr fr) ⟨by simp, ?_⟩ (.inr ⟨r, ops, e, hops, rfl, rfl⟩)
    rw [e]
    exact ⟨q0, by simp, upd_same, s _ _ hq⟩
/-- not there, or a table -/
def NoH (H0 : Hp) (z : Addr) : Prop := ∀ o, H0 z = some o → ∃ ps, o = HO.tbl ps
theorem NoH.of {H0 : Hp} {z : Addr} (h : H0 z = none) : NoH H0 z := fun o e => by rw [h] at e; cases e
theorem NoH.ext {H0 G : Hp} {z : Addr} (x : LamX.ExtN H0 G) (n : G z = none) : NoH H0 z := fun o e => by
  by_cases c : ∃ ps, o = HO.tbl ps
  · exact c
  · have := x z o e (fun ps q => c ⟨ps, q⟩)
    rw [n] at this
    cases this
theorem extFrN {L : List Addr} {H0 G G' : Hp} (x : LamX.ExtN H0 G) (f : FrL L G G') (n : ∀ z ∈ L, NoH H0 z) : LamX.ExtN H0 G' := fun b o e h => f b o (fun hm => by
  obtain ⟨ps, q⟩ := n b hm o e
  exact h ps q) (x b o e h)
def LI72 (CG CT CB Pt : Addr) (H0 : Hp) (p b lg : Addr) (i : Nat) (G : Hp) (a : Addr) : Prop := ∃ (A : List Addr) (so pk : Addr) (M : Mo) (g nl pl : Addr) (log : List En) (ts : List Addr) (j h c : Addr),
  LamX.ExtN H0 G ∧ (∀ z ∈ A, NoH H0 z) ∧ PoolAt G p ∧ LamX.Tabs (lamT Pt) G ∧ BdAt CG CT CB A G b so pk M g nl pl log ∧ Lis A G ∧ (p ∈ A ∧ lg ∈ A ∧ p ≠ lg ∧ ∀ z ∈ [b, so, nl, pl, pk], z ≠ p ∧ z ≠ lg) ∧ MdAt G a M j h c ∧ (∀ z ∈ [a, j, h, c], z ∉ A) ∧ G lg = some (.lst (ts.map V.ref)) ∧ LgsAt A G ts log ∧
  log.length ≤ i ∧ OkM M ∧ SrtE M.es ∧ Bd (81 ^ (4 * i) * BIG) M.x ∧ Bd (4 * i) M.sc ∧ M.sc.length ≤ 3
theorem LI72.same {CG CT CB Pt : Addr} {H0 : Hp} {p b lg : Addr} {i : Nat} {G G' : Hp} {a : Addr} (h : LI72 CG CT CB Pt H0 p b lg i G a) (s : Same G G') : LI72 CG CT CB Pt H0 p b lg i G' a := by
  obtain ⟨A, so, pk, M, g, nl, pl, log, ts, j, h, c, xt, fA, hp, tb, bd, lis, ds, m, nA, hl, lgs, ll, okm, sE, bx, bs, ls⟩ := h
  exact ⟨A, so, pk, M, g, nl, pl, log, ts, j, h, c, xt.trans (Same.ext s), fA, hp.same s, Same.tabs s tb, bd.same s, lis.same s, ds, m.same s, nA, s _ _ hl, lgs.same s, ll, okm, sE, bx, bs, ls⟩
/-- what is handed to the board, and what is due -/
structure Prep (K : PySem.W.Frag) (w : World) (aB : Addr) (A : List Addr) (a2 : Addr) (M : Mo) (G : Hp) (rows due : Addr) (xs : List V) (ds : List PyData) (its : List Itm) : Prop where
  rw_ : G rows = some (.lst xs)
  rA : rows ∉ A
  li : xs.length = its.length
  ld : xs.length = ds.length
  l5 : its.length ≤ 5
  it : ∀ (k : Nat) (v : V), xs[k]? = some v → ∃ d it, ds[k]? = some d ∧ its[k]? = some it ∧ ItmAt K w aB G v d it
  od : ∀ (k : Nat) (d : PyData), its[k]? = some .bad → ds[k]? = some d → d ∈ oddD
  bad : ∀ (k : Nat) (v : V) (d : PyData), its[k]? = some .bad → xs[k]? = some v → ds[k]? = some d → ∀ H2 : Hp, (∀ z o, z ∉ A → G z = some o → (∀ ps, o ≠ .tbl ps) → H2 z = some o) → Dp K H2 v d
  ok : okI M its
  all : ∀ o, Itm.op o ∈ its → isFive o = true ∧ opB o
  res : ResAt K A G due M its ds
  good : ∀ r, runI M its = .ok r → ∃ (ops : List Op) (ts : List Addr) (j h c : Addr), its = ops.map Itm.op ∧ xs = ts.map V.ref ∧ ops.length ≤ 4 ∧ (∀ o ∈ ops, OpS o) ∧ OpsAt G ts ops ∧ MdAt G a2 r.1 j h c ∧ ∀ z ∈ [a2, j, h, c], z ∉ A
theorem ItmAt.step {K : PySem.W.Frag} {w : World} {aB : Addr} {A : List Addr} {H H' : Hp} {v : V} {d : PyData} {it : Itm} (h : ItmAt K w aB H v d it) (op : ∀ t ys, H t = some (.tup ys) → H' t = some (.tup ys)) (hb : it = .bad → Dp K H' v d) : ItmAt K w aB H' v d it := by
  cases it with
  | op o =>
    obtain ⟨⟨t, rfl, h1⟩, h2⟩ := h
    exact ⟨⟨t, rfl, op _ _ h1⟩, h2⟩
  | bad => exact ⟨.dat (hb rfl), h.2⟩
theorem Prep.fr {K : PySem.W.Frag} {w : World} {aB : Addr} {A L : List Addr} {a2 : Addr} {M : Mo} {G G' : Hp} {rows due : Addr} {xs : List V} {ds : List PyData} {its : List Itm} (h : Prep K w aB A a2 M G rows due xs ds its) (f : FrL L G G') (lis : Lis A G) (sub : ∀ z ∈ L, z ∈ A) : Prep K w aB A a2 M G' rows due xs ds its := by
  have lL : Lis L G := lis.mono sub
  have nin : ∀ {z : Addr}, z ∉ A → z ∉ L := fun nz hm => nz (sub _ hm)
  have tk : ∀ t ys, G t = some (.tup ys) → G' t = some (.tup ys) := fun t ys e => f _ _ (fun hm => by
    rcases lL t hm with ⟨xs, e'⟩ | ⟨C, dx, fs, e'⟩
    · rw [e] at e'; cases e'
    · rw [e] at e'; cases e') e
  refine ⟨f _ _ (nin h.rA) h.rw_, h.rA, h.li, h.ld, h.l5, fun k v e => ?_, h.od, fun k v d e1 e2 e3 H2 u => h.bad k v d e1 e2 e3 H2 fun z o nz e n => u z o nz (f _ _ (nin nz) e) n, h.ok, h.all, h.res.fr f lL sub, fun r e => ?_⟩
  · obtain ⟨d, it, h1, h2, h3⟩ := h.it k v e
    exact ⟨d, it, h1, h2, h3.step (A := A) tk fun q => h.bad k v d (q ▸ h2) e h1 G' fun z o nz e _ => f _ _ (nin nz) e⟩
  · obtain ⟨ops, ts, j, hh, c, h1, h2, h3, h4, h5, h6, h7⟩ := h.good r e
    exact ⟨ops, ts, j, hh, c, h1, h2, h3, h4, h5.fr f sub lis.dom, h6.fr f lL fun z hz => nin (h7 z hz), h7⟩
theorem Prep.ext {K : PySem.W.Frag} {w : World} {aB : Addr} {A : List Addr} {a2 : Addr} {M : Mo} {G G' : Hp} {rows due : Addr} {xs : List V} {ds : List PyData} {its : List Itm} (h : Prep K w aB A a2 M G rows due xs ds its) (s : LamX.ExtN G G') : Prep K w aB A a2 M G' rows due xs ds its := by
  refine ⟨s _ _ h.rw_ (fun _ z => by cases z), h.rA, h.li, h.ld, h.l5, fun k v e => ?_, h.od, fun k v d e1 e2 e3 H2 u => h.bad k v d e1 e2 e3 H2 fun z o nz e n => u z o nz (s _ _ e n) n, h.ok, h.all, h.res.ext s, fun r e => ?_⟩
  · obtain ⟨d, it, h1, h2, h3⟩ := h.it k v e
    exact ⟨d, it, h1, h2, h3.step (A := A) (fun t ys e => s _ _ e (fun _ z => by cases z)) fun q => h.bad k v d (q ▸ h2) e h1 G' fun z o _ e n => s _ _ e n⟩
  · obtain ⟨ops, ts, j, hh, c, h1, h2, h3, h4, h5, h6, h7⟩ := h.good r e
    exact ⟨ops, ts, j, hh, c, h1, h2, h3, h4, h5.ext s, h6.ext s, h7⟩
theorem Prep.same {K : PySem.W.Frag} {w : World} {aB : Addr} {A : List Addr} {a2 : Addr} {M : Mo} {G G' : Hp} {rows due : Addr} {xs : List V} {ds : List PyData} {its : List Itm} (h : Prep K w aB A a2 M G rows due xs ds its) (s : Same G G') : Prep K w aB A a2 M G' rows due xs ds its := h.ext (Same.ext s)
theorem ResAt.more {K : PySem.W.Frag} {A A' : List Addr} {H : Hp} {q : Addr} {M : Mo} {its : List Itm} {ds : List PyData} (h : ResAt K A H q M its ds) (n : ∀ z ∈ A', z ∈ A ∨ H z = none) : ResAt K A' H q M its ds := by
  have out : ∀ {z : Addr} {o : HO}, z ∉ A → H z = some o → z ∉ A' := fun {z o} nz e hm => by
    rcases n z hm with q | q
    · exact nz q
    · rw [e] at q; cases q
  obtain ⟨v, hv⟩ := h.head
  obtain ⟨n0, h⟩ := h
  refine ⟨out n0 hv, ?_⟩
  cases e : runI M its with
  | ok r =>
    rw [e] at h
    obtain ⟨u, h1, h2, h3⟩ := h
    exact ⟨u, out h1 h3, h2, h3⟩
  | error ke =>
    obtain ⟨k, _ | er⟩ := ke
    · rw [e] at h
      exact h
    · rw [e] at h
      exact h
theorem Prep.more {K : PySem.W.Frag} {w : World} {aB : Addr} {A A' : List Addr} {a2 : Addr} {M : Mo} {G : Hp} {rows due : Addr} {xs : List V} {ds : List PyData} {its : List Itm} (h : Prep K w aB A a2 M G rows due xs ds its) (n : ∀ z ∈ A', z ∈ A ∨ G z = none) : Prep K w aB A' a2 M G rows due xs ds its := by
  have out : ∀ {z : Addr} {o : HO}, z ∉ A → G z = some o → z ∉ A' := fun {z o} nz e hm => by
    rcases n z hm with q | q
    · exact nz q
    · rw [e] at q; cases q
  refine ⟨h.rw_, out h.rA h.rw_, h.li, h.ld, h.l5, h.it, h.od, fun k v d e1 e2 e3 H2 u => h.bad k v d e1 e2 e3 H2 fun z o nz e nt => u z o (out nz e) e nt, h.ok, h.all, h.res.more n, fun r e => ?_⟩
  obtain ⟨ops, ts, j, hh, c, h1, h2, h3, h4, h5, h6, h7⟩ := h.good r e
  exact ⟨ops, ts, j, hh, c, h1, h2, h3, h4, h5, h6, fun z hz => by
    obtain ⟨o, e⟩ := h6.there z hz
    exact out (h7 z hz) e⟩
theorem someInj {a b : List Op} (h : (a.map Itm.op).map itmOp = b.map some) : a = b := by
  induction a generalizing b with
  | nil => cases b with
    | nil => rfl
    | cons c b => cases h
  | cons x a ih => cases b with
    | nil => cases h
    | cons c b =>
      injection h with h1 h2
      injection h1 with h1
      rw [h1, ih h2]
theorem Prep.shw {K : PySem.W.Frag} {w : World} {aB : Addr} {A : List Addr} {a2 : Addr} {M : Mo} {G : Hp} {rows due : Addr} {xs : List V} {ds : List PyData} {its : List Itm} (h : Prep K w aB A a2 M G rows due xs ds its) (m : OkM M) (s : SrtE M.es) : Shw 3 1100 (resD M its ds) := by
  refine shwRes h.ok m s h.all h.l5 fun k e => ?_
  have hb := runI_at e
  have hk := (List.getElem?_eq_some_iff.mp hb).1
  have hx : k < xs.length := by rw [h.li]; exact hk
  obtain ⟨d, it, h1, h2, h3⟩ := h.it k _ (List.getElem?_eq_getElem hx)
  have hd : ds.getD k .none = d := by rw [List.getD_eq_getElem?_getD, h1]; rfl
  rw [hd]
  exact (oddSh d (h.od k d hb h1)).2
theorem LgsAt.shw {A : List Addr} {H : Hp} {ts : List Addr} {log : List En} (h : LgsAt A H ts log) (l : log.length ≤ 5) : Shw 4 9000 (.list (log.map entD)) :=
  (shwList (k := 3) (L := 1700) (m := 5) (fun e he => by
    obtain ⟨en, hm, rfl⟩ := List.mem_map.mp he
    obtain ⟨k, hk⟩ := List.getElem?_of_mem hm
    have hl : k < ts.length := by rw [h.1]; exact (List.getElem?_eq_some_iff.mp hk).1
    obtain ⟨en', h1, h2⟩ := h.2 k _ (List.getElem?_eq_getElem hl)
    rw [hk] at h1
    obtain rfl := Option.some.inj h1
    exact shwEnt h2) (by rw [List.length_map]; exact l)).mono (by decide) (by decide)
theorem shapedTog : SeqAt.shaped (.tuple [.str "together", .list []]) = true := by decide +kernel
theorem shapedNil : SeqAt.shaped (.list []) = true := by decide +kernel
/-- the last entry of a log, which is one of no operations -/
theorem lastLog {H0 H : Hp} {ts : List Addr} {log : List En} {iv : List Op} (h : LogsAt H0 H ts (log ++ [.many [] iv])) : ∃ ts' t l, ts = ts' ++ [t] ∧ H t = some (.tup [.str "together", .ref l]) ∧ H0 l = none ∧ H l = some (.lst []) := by
  have hl := h.1
  rw [List.length_append] at hl
  have hk : log.length < ts.length := by rw [hl]; exact Nat.lt_succ_self _
  have hd : ts.drop log.length = [ts[log.length]] := by
    rw [List.drop_eq_getElem_cons hk, List.drop_eq_nil_of_le (by rw [hl]; exact Nat.le_refl _)]
  obtain ⟨en, h1, h2⟩ := h.2 log.length _ (List.getElem?_eq_getElem hk)
  rw [List.getElem?_append_right (Nat.le_refl _), Nat.sub_self] at h1
  obtain rfl := Option.some.inj h1
  obtain ⟨l, us, g1, g2, g3, g4⟩ := h2
  have hu : us = [] := List.length_eq_zero_iff.mp g4.1
  subst hu
  exact ⟨ts.take log.length, ts[log.length], l, by rw [← hd, List.take_append_drop], g1, g2, g3⟩
end K72
set_option Elab.async false
set_option linter.all false
set_option maxRecDepth 100000
set_option maxHeartbeats 8000000
namespace K72
open PySem PySem.Spec PyProof.Rows L2 FNX
theorem runI_noBad {its : List Itm} : ∀ {M : Mo} {r : Mo × List V × List Op}, runI M its = .ok r → Itm.bad ∉ its := by
  induction its with
  | nil => intro M r _ h; cases h
  | cons it its ih =>
    intro M r h hm
    cases it with
    | bad => cases h
    | op p =>
      have h : (match stepM M p with | .error e => Except.error (0, some e) | .ok (M', v) => match runI M' its with | .error (k, e) => Except.error (k + 1, e) | .ok (M'', vs, ivs) => Except.ok (M'', v :: vs, invM M p :: ivs)) = .ok r := h
      cases e1 : stepM M p with
      | error er => rw [e1] at h; cases h
      | ok q =>
        obtain ⟨M', v'⟩ := q
        rw [e1] at h
        dsimp only at h
        cases e2 : runI M' its with
        | error ke => rw [e2] at h; cases h
        | ok r2 =>
          rcases List.mem_cons.mp hm with q | hm
          · cases q
          · exact ih e2 hm
theorem notMem_of_none {A : List Addr} {G : Hp} {z : Addr} (lis : Lis A G) (n : G z = none) : z ∉ A := fun hm => by
  rcases lis z hm with ⟨xs, e⟩ | ⟨C, dx, fs, e⟩
  · rw [n] at e; cases e
  · rw [n] at e; cases e
theorem sevRes {K : PySem.W.Frag} {A : List Addr} {G G1 : Hp} {d : Addr} {M : Mo} {ops : List Op} {ds : List PyData} (lis : Lis A G) (nd : G d = none) (sev : SevAt K G G1 d M ops) : ResAt K A G1 d M (ops.map Itm.op) ds := by
  refine ⟨notMem_of_none lis nd, ?_⟩
  unfold SevAt at sev
  cases e : runI M (ops.map Itm.op) with
  | ok r =>
    rw [e] at sev
    obtain ⟨l, h1, h2, h3⟩ := sev
    exact ⟨l, notMem_of_none lis h1, h2, h3⟩
  | error ke =>
    obtain ⟨k, _ | er⟩ := ke
    · rw [e] at sev
      exact sev.elim
    · rw [e] at sev
      exact sev
theorem prep_plain {K : PySem.W.Frag} {w : World} {aB : Addr} {A : List Addr} {a2 r d : Addr} {M : Mo} {G G1 : Hp} {ops : List Op} {ts : List Addr} (AK : ∀ o, isFive o = true → opOkD K aB (opD o) = true ∧ AskOk K w aB (opD o)) (lis : Lis A G) (na2 : G a2 = none) (nr : G r = none) (nd : G d = none)
    (hr : G1 r = some (.lst (ts.map V.ref))) (ho : OpsAt G1 ts ops) (l4 : ops.length ≤ 4) (pr : ∀ op ∈ ops, isFive op = true ∧ opB op ∧ OpS op) (ok : okI M (ops.map Itm.op)) (sev : SevAt K G G1 d M ops)
    (up : ∀ r', runI M (ops.map Itm.op) = .ok r' → ∃ j' h' c', MdAt G1 a2 r'.1 j' h' c' ∧ G j' = none ∧ G h' = none ∧ G c' = none) :
    Prep K w aB A a2 M G1 r d (ts.map V.ref) (ops.map opD) (ops.map Itm.op) := by
  have noB : ∀ (k : Nat), (ops.map Itm.op)[k]? = some .bad → False := fun k e => by
    rw [List.getElem?_map] at e
    cases z : ops[k]? with
    | none => rw [z] at e; cases e
    | some o => rw [z] at e; cases e
  refine ⟨hr, notMem_of_none lis nr, by rw [List.length_map, List.length_map]; exact ho.1, by rw [List.length_map, List.length_map]; exact ho.1, by rw [List.length_map]; omega, fun k v e => ?_, fun k d e => (noB k e).elim, fun k v d e => (noB k e).elim, ok, fun o ho' => ?_, sevRes lis nd sev, fun r' e => ?_⟩
  · obtain ⟨t, ht, rfl⟩ := refAt e
    obtain ⟨o, h1, h2⟩ := ho.2 k t ht
    have hm : o ∈ ops := List.mem_of_getElem? h1
    obtain ⟨h5, _, _⟩ := pr o hm
    exact ⟨opD o, .op o, by rw [List.getElem?_map, h1]; rfl, by rw [List.getElem?_map, h1]; rfl, ⟨t, rfl, h2⟩, rfl, h5, (AK o h5).1, (AK o h5).2⟩
  · obtain ⟨o', h1, h2⟩ := List.mem_map.mp ho'
    injection h2 with h2
    subst h2
    exact ⟨(pr o' h1).1, (pr o' h1).2.1⟩
  · obtain ⟨j, h, c, h1, h2, h3, h4⟩ := up r' e
    refine ⟨ops, ts, j, h, c, rfl, rfl, l4, fun o ho' => (pr o ho').2.2, ho, h1, fun z hz => ?_⟩
    simp only [List.mem_cons, List.not_mem_nil, or_false] at hz
    rcases hz with q | q | q | q <;> rw [q]
    · exact notMem_of_none lis na2
    · exact notMem_of_none lis h2
    · exact notMem_of_none lis h3
    · exact notMem_of_none lis h4
/-- an entry put in between -/
theorem atMid {α : Type} {xs ys : List α} {z y : α} {k : Nat} (h : (xs ++ z :: ys)[k]? = some y) : (k < xs.length ∧ xs[k]? = some y) ∨ (k = xs.length ∧ y = z) ∨ (xs.length < k ∧ ys[k - xs.length - 1]? = some y) := by
  by_cases c : k < xs.length
  · rw [List.getElem?_append_left c] at h
    exact .inl ⟨c, h⟩
  · rw [List.getElem?_append_right (by omega)] at h
    by_cases c2 : k = xs.length
    · subst c2
      rw [Nat.sub_self] at h
      exact .inr (.inl ⟨rfl, (Option.some.inj h).symm⟩)
    · refine .inr (.inr ⟨by omega, ?_⟩)
      rw [show k - xs.length = (k - xs.length - 1) + 1 from by omega] at h
      exact h
theorem midL {α : Type} {xs ys : List α} {z y : α} {k : Nat} (c : k < xs.length) (h : xs[k]? = some y) : (xs ++ z :: ys)[k]? = some y := by rw [List.getElem?_append_left c]; exact h
theorem midC {α : Type} {xs ys : List α} {z : α} {k : Nat} (c : k = xs.length) : (xs ++ z :: ys)[k]? = some z := by rw [List.getElem?_append_right (by omega), c, Nat.sub_self]; rfl
theorem midR {α : Type} {xs ys : List α} {z y : α} {k : Nat} (c : xs.length < k) (h : ys[k - xs.length - 1]? = some y) : (xs ++ z :: ys)[k]? = some y := by
  rw [List.getElem?_append_right (by omega), show k - xs.length = (k - xs.length - 1) + 1 from by omega]
  exact h
theorem prep_bad {K : PySem.W.Frag} {w : World} {aB : Addr} {A : List Addr} {a2 rows due : Addr} {M : Mo} {G1 : Hp} {o1 o2 : List Op} {t1 t2 : List Addr} {v : V} {dv : PyData} (AK : ∀ o, isFive o = true → opOkD K aB (opD o) = true ∧ AskOk K w aB (opD o)) (AB : ∀ d ∈ oddD, opOkD K aB d = false ∧ AskOk K w aB d)
    (hr : G1 rows = some (.lst (t1.map V.ref ++ v :: t2.map V.ref))) (rA : rows ∉ A) (h1 : OpsAt G1 t1 o1) (h2 : OpsAt G1 t2 o2) (l4 : o1.length + o2.length ≤ 4) (p1 : ∀ op ∈ o1, isFive op = true ∧ opB op ∧ OpS op) (p2 : ∀ op ∈ o2, isFive op = true ∧ opB op ∧ OpS op) (ok : okI M (o1.map Itm.op))
    (hv : ∀ H2 : Hp, (∀ z o, z ∉ A → G1 z = some o → (∀ ps, o ≠ .tbl ps) → H2 z = some o) → Dp K H2 v dv) (hm : dv ∈ oddD) (res : ResAt K A G1 due M (o1.map Itm.op ++ .bad :: o2.map Itm.op) (o1.map opD ++ dv :: o2.map opD)) :
    Prep K w aB A a2 M G1 rows due (t1.map V.ref ++ v :: t2.map V.ref) (o1.map opD ++ dv :: o2.map opD) (o1.map Itm.op ++ .bad :: o2.map Itm.op) := by
  have lt1 : (t1.map V.ref).length = (o1.map Itm.op).length := by rw [List.length_map, List.length_map]; exact h1.1
  have ld1 : (o1.map opD).length = (o1.map Itm.op).length := by rw [List.length_map, List.length_map]
  have le1 := h1.1
  have le2 := h2.1
  have noB : ∀ (k : Nat) (o : List Op), (o.map Itm.op)[k]? = some .bad → False := fun k o e => by
    rw [List.getElem?_map] at e
    cases z : o[k]? with
    | none => rw [z] at e; cases e
    | some o => rw [z] at e; cases e
  have opI : ∀ {ts : List Addr} {os : List Op}, OpsAt G1 ts os → (∀ op ∈ os, isFive op = true ∧ opB op ∧ OpS op) → ∀ (k : Nat) (u : V), (ts.map V.ref)[k]? = some u → ∃ d it, (os.map opD)[k]? = some d ∧ (os.map Itm.op)[k]? = some it ∧ ItmAt K w aB G1 u d it := fun {ts os} ho pr k u e => by
    obtain ⟨t, ht, rfl⟩ := refAt e
    obtain ⟨o, h1, h2⟩ := ho.2 k t ht
    obtain ⟨h5, _, _⟩ := pr o (List.mem_of_getElem? h1)
    exact ⟨opD o, .op o, by rw [List.getElem?_map, h1]; rfl, by rw [List.getElem?_map, h1]; rfl, ⟨t, rfl, h2⟩, rfl, h5, (AK o h5).1, (AK o h5).2⟩
  have mid : ∀ (k : Nat), (o1.map Itm.op ++ Itm.bad :: o2.map Itm.op)[k]? = some .bad → k = (o1.map Itm.op).length := fun k e => by
    rcases atMid e with ⟨_, z⟩ | ⟨z, _⟩ | ⟨_, z⟩
    · exact (noB _ _ z).elim
    · exact z
    · exact (noB _ _ z).elim
  refine ⟨hr, rA, by simp only [List.length_append, List.length_cons, List.length_map]; omega, by simp only [List.length_append, List.length_cons, List.length_map]; omega, by simp only [List.length_append, List.length_cons, List.length_map]; omega, fun k u e => ?_, fun k d e1 e2 => ?_, fun k u d e1 e2 e3 => ?_, okI_bad ok, fun o ho => ?_, res, fun r e => ?_⟩
  · rcases atMid e with ⟨c, z⟩ | ⟨c, z⟩ | ⟨c, z⟩
    · obtain ⟨d, it, g1, g2, g3⟩ := opI h1 p1 k u z
      exact ⟨d, it, midL (by rw [ld1, ← lt1]; exact c) g1, midL (by rw [← lt1]; exact c) g2, g3⟩
    · rw [z]
      exact ⟨dv, .bad, midC (by rw [ld1, ← lt1]; exact c), midC (by rw [← lt1]; exact c), .dat (hv G1 fun _ _ _ e _ => e), AB dv hm⟩
    · obtain ⟨d, it, g1, g2, g3⟩ := opI h2 p2 _ u z
      rw [lt1] at c g1 g2
      exact ⟨d, it, midR (by rw [ld1]; exact c) (by rw [ld1]; exact g1), midR c g2, g3⟩
  · have c := mid k e1
    rw [midC (by rw [ld1]; exact c)] at e2
    rw [← Option.some.inj e2]
    exact hm
  · have c := mid k e1
    rw [midC (by rw [ld1]; exact c)] at e3
    rw [midC (by rw [lt1]; exact c)] at e2
    rw [← Option.some.inj e2, ← Option.some.inj e3]
    exact hv
  · rcases List.mem_append.mp ho with ho | ho
    · obtain ⟨o', g1, g2⟩ := List.mem_map.mp ho
      injection g2 with g2
      subst g2
      exact ⟨(p1 o' g1).1, (p1 o' g1).2.1⟩
    · rcases List.mem_cons.mp ho with q | ho
      · cases q
      · obtain ⟨o', g1, g2⟩ := List.mem_map.mp ho
        injection g2 with g2
        subst g2
        exact ⟨(p2 o' g1).1, (p2 o' g1).2.1⟩
  · exact (runI_noBad e (List.mem_append_right _ List.mem_cons_self)).elim
theorem cutRefT (ts : List Addr) (k : Nat) (h : k ≤ ts.length) : cutV (ts.map V.ref) none (some (k : Int)) = (ts.take k).map V.ref := by
  unfold cutV
  rw [HT.sIx_none, List.drop_zero, Nat.sub_zero, HT.sIx_nat, List.length_map, Nat.min_eq_left h, List.map_take]
theorem cutRefD (ts : List Addr) (k : Nat) (h : k ≤ ts.length) : cutV (ts.map V.ref) (some (k : Int)) none = (ts.drop k).map V.ref := by
  unfold cutV
  rw [HT.sIx_nat, HT.sIx_none, List.length_map, Nat.min_eq_left h, List.map_drop]
  exact List.take_of_length_le (by rw [List.length_drop, List.length_map]; exact Nat.le_refl _)
theorem OpsAt.take {H : Hp} {ts : List Addr} {ops : List Op} (h : OpsAt H ts ops) (k : Nat) : OpsAt H (ts.take k) (ops.take k) := ⟨by rw [List.length_take, List.length_take, h.1], fun i t e => by
  have hi : i < k := by
    have := (List.getElem?_eq_some_iff.mp e).1
    rw [List.length_take] at this
    omega
  rw [List.getElem?_take, if_pos hi] at e
  obtain ⟨z, z1, z2⟩ := h.2 i t e
  exact ⟨z, by rw [List.getElem?_take, if_pos hi]; exact z1, z2⟩⟩
theorem OpsAt.drop {H : Hp} {ts : List Addr} {ops : List Op} (h : OpsAt H ts ops) (k : Nat) : OpsAt H (ts.drop k) (ops.drop k) := ⟨by rw [List.length_drop, List.length_drop, h.1], fun i t e => by
  rw [List.getElem?_drop] at e
  obtain ⟨z, z1, z2⟩ := h.2 _ t e
  exact ⟨z, by rw [List.getElem?_drop]; exact z1, z2⟩⟩
/-- what is due stays where no tuple changes -/
def NoT (L : List Addr) (H : Hp) : Prop := ∀ z ∈ L, ∃ o, H z = some o ∧ (∀ xs, o ≠ .tup xs) ∧ ∀ u xs, o ≠ .frz u (.tup xs)
theorem DueAt.frT {K : PySem.W.Frag} {L : List Addr} {H H' : Hp} {q : Addr} {res : Except Er (Mo × V)} (h : DueAt K H q res) (f : FrL L H H') (l : NoT L H) (n : q ∉ L) : DueAt K H' q res := by
  obtain ⟨v, h1, h2⟩ := h
  refine ⟨v, f _ _ n h1, dueMove h2 fun t xs z => ?_⟩
  rcases z with (z | ⟨o, z⟩) | z
  · refine .inl (.inl (f _ _ (fun hm => ?_) z))
    obtain ⟨o', e, n1, _⟩ := l t hm
    rw [z] at e
    exact n1 _ (Option.some.inj e).symm
  · refine .inl (.inr ⟨o, f _ _ (fun hm => ?_) z⟩)
    obtain ⟨o', e, _, n2⟩ := l t hm
    rw [z] at e
    exact n2 _ _ (Option.some.inj e).symm
  · exact .inr z
theorem MdAt.noT {H : Hp} {a : Addr} {M : Mo} {j h c : Addr} (m : MdAt H a M j h c) : NoT [a, j, h, c] H := fun z hz => by
  simp only [List.mem_cons, List.not_mem_nil, or_false] at hz
  rcases hz with q | q | q | q <;> rw [q]
  · exact ⟨_, m.dc, (fun _ z => by cases z), (fun _ _ z => by cases z)⟩
  · obtain ⟨t, t1, _⟩ := m.jn
    exact ⟨_, t1, (fun _ z => by cases z), (fun _ _ z => by cases z)⟩
  · exact ⟨_, m.hr, (fun _ z => by cases z), (fun _ _ z => by cases z)⟩
  · exact ⟨_, m.sc, (fun _ z => by cases z), (fun _ _ z => by cases z)⟩
/-- words of an operation each -/
def WsAt (K : PySem.W.Frag) (G0 H : Hp) (qs : List Addr) (rs : List (Except Er (Mo × V))) : Prop := qs.length = rs.length ∧ ∀ (k : Nat) (q : Addr), qs[k]? = some q → G0 q = none ∧ ∃ r, rs[k]? = some r ∧ DueAt K H q r
theorem WsAt.snoc {K : PySem.W.Frag} {G0 H : Hp} {qs : List Addr} {rs : List (Except Er (Mo × V))} {q : Addr} {r : Except Er (Mo × V)} (h : WsAt K G0 H qs rs) (n : G0 q = none) (d : DueAt K H q r) : WsAt K G0 H (qs ++ [q]) (rs ++ [r]) := by
  refine ⟨by rw [List.length_append, List.length_append, h.1]; rfl, fun k u e => ?_⟩
  rcases atMid e with ⟨c, z⟩ | ⟨c, z⟩ | ⟨c, z⟩
  · obtain ⟨h1, r', h2, h3⟩ := h.2 k u z
    exact ⟨h1, r', midL (by rw [← h.1]; exact c) h2, h3⟩
  · rw [z]
    exact ⟨n, r, midC (by rw [← h.1]; exact c), d⟩
  · cases z
theorem skipR_len {ops : List Op} : ∀ {M : Mo}, (skipR M ops).length = ops.length := by
  induction ops with
  | nil => intro M; rfl
  | cons p ops ih => intro M; exact congrArg (· + 1) ih
theorem notStr {w : Str} {v : V} {xs : List Int} {P : Prop} (h : (some (HO.lst (xs.map V.int)) : Option HO) = some (.lst [.str w, v])) : P := by
  cases xs with
  | nil => cases h
  | cons a as => cases h
theorem erW (er : Er) : decide (V.str (dueW (Except.error er : Except Er (Mo × V))).1 = V.str "told") = false := by
  cases er with
  | player p => exact strNe (show (("player" : Str) == "told") = false by decide +kernel)
  | neg u => exact strNe (show (("negative" : Str) == "told") = false by decide +kernel)
  | edge u z => exact strNe (show (("edge" : Str) == "told") = false by decide +kernel)
  | many u => exact strNe (show (("many" : Str) == "told") = false by decide +kernel)
end K72
set_option Elab.async false
set_option linter.all false
set_option maxRecDepth 100000
set_option maxHeartbeats 8000000
namespace K72
open PySem PySem.Spec PyProof.Rows L2 FNX
section
variable {P : Program} {w : World} {K : PySem.W.Frag} {mg : Str → Option Value} {base : Heap} {CG CT CB CPl CNg CE CM CS CO aB : Addr}
theorem sc_law : FnScope ["_law_script", "_law_k", "_law_pool_here", "_law_model_here", "_law_board_here", "_law_logged", "_law_turn", "_law_later", "_law_rows", "_law_due", "_law_at", "_law_bad", "_law_trial", "_law_words", "_law_failed", "_law_given", "_law_row_here", "_law_one"] ["_law_script"] (defScope s_law) := ⟨rfl, rfl, rfl, by decide +kernel, rfl, by decide +kernel, by decide +kernel⟩
theorem ok_law {f fE fTr cl Pt : Addr} {fd fdE fdTr : FuncData} (F : FunC K "law" "law" s_law f fd cl) (M : Nms mg) (B : BTxt K mg CB) (TB : LamX.TabB base mg cl Pt)
    (FTr : Fun K "_law_tried" "_law_tried" s__law_tried fTr fdTr) (mTr : mg "_law_tried" = some (.ref fTr)) (bTr : L2.Binds K fdTr ["_law_door"] [])
    (FE : Fun K "_law_told" "_law_told" s__law_told fE fdE) (mE : mg "_law_told" = some (.ref fE)) (bE : L2.Binds K fdE ["_law_door"] [])
    (EO : Ex P w K mg base "InvalidOperation" CO) (E0 : Ex P w K mg base "NoPlayer" CPl) (E1 : Ex P w K mg base "NotNegative" CNg) (E2 : Ex P w K mg base "InvalidEdge" CE) (E3 : Ex P w K mg base "TooMany" CM) (XM : Exm4 K CPl CNg CE CM) (XO : Exm5 K CO CPl CNg CE CM)
    (AK : ∀ o, isFive o = true → opOkD K aB (opD o) = true ∧ AskOk K w aB (opD o)) (AB : ∀ d ∈ oddD, opOkD K aB d = false ∧ AskOk K w aB d)
    (GBl : MAt P w K mg base CB CX0 2 "log" ["self"] (spLogA CG CT CB)) (GLn : MAt P w K mg base CB CX0 1 "__len__" ["self"] (spBoardLen CG CT CB)) (GTg : MAt P w K mg base CB (L2.CX P w) 10 "together" ["self", "operations"] (spTog K w aB CG CT CB CPl CNg CE CM CO))
    (GP : At P w K mg base CX0 1 "_law_pool" ["_law_script", "_law_k"] (spPool K)) (GT : At P w K mg base CX0 1 "_law_take" ["_law_pool_here", "_law_sides"] spTake) (GSt : At P w K mg base CX0 4 "_law_start" ["_law_pool_here"] spStart)
    (GCy : At P w K mg base CX0 1 "_law_copy" ["_law_model_here"] spCopy) (GDn : At P w K mg base CX0 2 "_law_done" ["_law_model_here", "_law_row_here"] (spDone K isFive))
    (GSv : At P w K mg base CX0 4 "_law_several" ["_law_pool_here", "_law_model_here"] (spSeveral K)) (GOd : At P w K mg base CX0 2 "_law_odd" ["_law_pool_here"] (spOdd K)) (GLb : At P w K mg base CX0 8 "_law_board" ["_law_model_here"] (spLBoard CG CT CB))
    (GLk : AtG P w K mg base 2 "_law_looks" ["_law_board_here", "_law_model_here"] (spLooks CG CT CB)) :
    GOk P w K mg base 14 f fd ["_law_script"] (spLawT K [(cl, Pt)]) := by
  obtain ⟨fBl, fdBl, GBl, mBl, bBl⟩ := GBl
  obtain ⟨fLn, fdLn, GLn, mLn, bLn⟩ := GLn
  obtain ⟨fTg, fdTg, GTg, mTg, bTg⟩ := GTg
  obtain ⟨fP, fdP, GP, mP, kP, bP⟩ := GP
  obtain ⟨fT, fdT, GT, mT, kT, bT⟩ := GT
  obtain ⟨fSt, fdSt, GSt, mSt, kSt, bSt⟩ := GSt
  obtain ⟨fCy, fdCy, GCy, mCy, kCy, bCy⟩ := GCy
  obtain ⟨fDn, fdDn, GDn, mDn, kDn, bDn⟩ := GDn
  obtain ⟨fSv, fdSv, GSv, mSv, kSv, bSv⟩ := GSv
  obtain ⟨fOd, fdOd, GOd, mOd, kOd, bOd⟩ := GOd
  obtain ⟨fLb, fdLb, GLb, mLb, kLb, bLb⟩ := GLb
  obtain ⟨fLk, fdLk, GLk, mLk, kLk, bLk⟩ := GLk
  refine okGC F sc_law (fun vs H Q E h => ?_) (fun A0 outer s H vs Q E hgd hr14 h => ?_)
  · obtain ⟨a, ns, rfl, _⟩ := h
    rfl
  · obtain ⟨a0, ns, rfl, hS, hlen, hT0, kont⟩ := h
    have nd := sc_law.nd
    have hr := hr14
    have hr2 : Room 2 _ := hr.mono (by decide)
    have hu64 : A0.units + 3 + 64 < cLine := hr.units
    refine ⟨_, (pss_cons (ps_for PassesOwn.never rfl (pi_range1 rfl M.range (pa_cons (pe_callB (call_max2 rfl) (by rfl) M.max boot_max1 (pa_cons pe_int (pa_cons (pe_callB (call_min2 rfl) (by rfl) M.min boot_min1 (pa_cons (pe_callB call_len_seq (by rfl) M.len boot_len1 (pa_cons (pv 0) pa_nil)) (pa_cons pe_int pa_nil))) pa_nil))) pa_nil)) (pg_name (i := 1) nd rfl (Or.inl rfl)) (pss_cons (ps_set (i := 2) nd rfl (Or.inl rfl) (pe_call GP (hr.mono (by decide)) (by rfl) mP kP bP .nil pass0 (pa_cons (pv 0) (pa_cons (pv 1) pa_nil))))
      (pss_cons (ps_set (i := 3) nd rfl (Or.inl rfl) (pe_call GSt (hr.mono (by decide)) (by rfl) mSt kSt bSt .nil pass0 (pa_cons (pv 2) pa_nil)))
      (pss_cons (ps_asg (pe_tup (pa_cons (pe_call GLb (hr.mono (by decide)) (by rfl) mLb kLb bLb .nil pass0 (pa_cons (pv 3) pa_nil)) (pa_cons (pe_lst pa_nil) pa_nil))) (pg_tup rfl (pgs_cons (pg_name (i := 4) nd rfl (Or.inr rfl)) (pgs_cons (pg_name (i := 5) nd rfl (Or.inl rfl)) pgs_nil))))
      (pss_cons (ps_for PassesOwn.never rfl (pi_range1 rfl M.range (pa_cons (pe_op op_add pe_int (pe_call GT (hr.mono (by decide)) (by rfl) mT kT bT .nil pass0 (pa_cons (pv 2) (pa_cons pe_int pa_nil)))) pa_nil)) (pg_name (i := 6) nd rfl (Or.inl rfl)) (pss_cons (ps_asg (pe_call GSv (hr.mono (by decide)) (by rfl) mSv kSv bSv .nil pass0 (pa_cons (pv 2) (pa_cons (pv 3) pa_nil))) (pg_lst rfl (pgs_cons (pg_name (i := 7) nd rfl (Or.inl rfl)) (pgs_cons (pg_name (i := 8) nd rfl (Or.inl rfl)) (pgs_cons (pg_name (i := 9) nd rfl (Or.inl rfl)) pgs_nil)))))
      (C8.pss_cut (ps_if (pt_cmpR op_eq (pe_call GT (hr.mono (by decide)) (by rfl) mT kT bT .nil pass0 (pa_cons (pv 2) (pa_cons pe_int pa_nil))) pe_int (nomark _)) (pss_cons (ps_par (i := 10) (j := 11) (by rfl) nd rfl rfl (by decide) rfl rfl (pa_cons (pe_call GT (hr.mono (by decide)) (by rfl) mT kT bT .nil pass0 (pa_cons (pv 2) (pa_cons (pe_op op_add (pe_callB call_len_seq (by rfl) M.len boot_len1 (pa_cons (pv 8) pa_nil)) pe_int) pa_nil))) (pa_cons (pe_call GOd (hr.mono (by decide)) (by rfl) mOd kOd bOd .nil pass0 (pa_cons (pv 2) pa_nil)) pa_nil)) (by rfl))
      (pss_cons (ps_set (i := 12) nd rfl (Or.inr rfl) (pe_call GCy (hr.mono (by decide)) (by rfl) mCy kCy bCy .nil pass0 (pa_cons (pv 3) pa_nil)))
      (pss_cons (ps_setLc (i := 13) (own := [("_law_row_here", 16)]) (g := gName 16) (tt := tYes) (by rfl) nd rfl rfl (sw_true rfl rfl rfl (by decide +kernel)) (pi_list (pe_slice sl_list (pv 8) po_none (po_some (pv 10)))) (blkOk_by (own := [("_law_row_here", 16)]) (N := ["_law_script", "_law_k", "_law_pool_here", "_law_model_here", "_law_board_here", "_law_logged", "_law_turn", "_law_later", "_law_rows", "_law_due", "_law_at", "_law_bad", "_law_trial", "_law_words", "_law_failed", "_law_given", "_law_row_here", "_law_one"]) (sc := defScope s_law) (by decide +kernel)) (fun _ _ _ _ _ => pg_name (i := 16) nd rfl (Or.inl rfl)) (fun _ _ _ _ _ => pts_nil) (fun _ _ _ _ _ => (pe_call GDn (hr.mono (by decide)) (by rfl) mDn kDn bDn .nil pass0 (pa_cons (pv 12) (pa_cons (pv 16) pa_nil)))))
      (pss_cons (ps_setLc (i := 14) (own := [("_law_one", 17)]) (g := gName 17) (by rfl) nd rfl rfl (sw_true rfl rfl rfl (by decide +kernel)) (pi_list (pv 13)) (blkOk_by (own := [("_law_one", 17)]) (N := ["_law_script", "_law_k", "_law_pool_here", "_law_model_here", "_law_board_here", "_law_logged", "_law_turn", "_law_later", "_law_rows", "_law_due", "_law_at", "_law_bad", "_law_trial", "_law_words", "_law_failed", "_law_given", "_law_row_here", "_law_one"]) (sc := defScope s_law) (by decide +kernel)) (fun _ _ _ _ _ => pg_name (i := 17) nd rfl (Or.inl rfl)) (fun _ _ _ _ _ => pts_one (pt_cmpR op_ne (pe_ix (r := rIxL K) ix_list (pv 17) pe_int (fun _ _ => rfl)) pe_str (nomark _))) (fun _ _ _ _ _ => (pv 17)))
      (pss_cons (ps_set (i := 8) nd rfl (Or.inl rfl) (pe_op op_cat (pe_op op_cat (pe_slice sl_list (pv 8) po_none (po_some (pv 10))) (pe_lst (pa_cons (pv 11) pa_nil))) (pe_slice sl_list (pv 8) (po_some (pv 10)) po_none)))
      (pss_one (ps_set (i := 9) nd rfl (Or.inl rfl) (pe_ix (r := rIxL K) ix_list (pe_op op_cat (pv 14) (pe_lst (pa_cons (pe_lst (pa_cons pe_str (pa_cons (pe_callB (show CallR _ (.builtin "repr") (rRepr K) from call_repr hgd hr.units) (by rfl) M.repr boot_repr1 (pa_cons (pv 11) pa_nil)) pa_nil))) pa_nil))) pe_int (fun _ _ => rfl))))))))) pss_nil)
      (pss_cons (ps_set (i := 15) nd rfl (Or.inr rfl) (pe_ix (r := rIxL K) ix_list (pe_lst (pa_cons (pe_callTy call_list_of (by rfl) M.list (by decide +kernel) (pa_cons (pv 8) pa_nil)) (pa_cons (pe_callTy call_tuple_of (by rfl) M.tuple (by decide +kernel) (pa_cons (pv 8) pa_nil)) pa_nil))) (pe_call GT (hr.mono (by decide)) (by rfl) mT kT bT .nil pass0 (pa_cons (pv 2) (pa_cons pe_int pa_nil))) (fun _ _ => rfl)))
      (pss_cons (ps_if (pt_cmpR op_ne (pe_callB (show CallR _ (.builtin "repr") (rRepr K) from call_repr hgd hr.units) (by rfl) M.repr boot_repr1 (pa_cons (pe_tried (T := lamT Pt) mTr FTr bTr (by rfl) hgd M.repr EO E0 E1 E2 E3 FE mE bE TB rfl (List.mem_singleton.mpr rfl)
              (fun p hp _ => by rw [List.mem_singleton.mp hp]; rfl) hr (show LamX.LamS (defScope s_law) _ from LamX.lamS_by (by decide +kernel)) rfl (fun _ _ _ _ _ => rfl)
              (fun A outer s H E f c' hr => pe_meth (pv 4) B.cl mTg GTg hr bTg .nil (passes_call (E := E) (takes_of rfl rfl rfl rfl) (fun _ _ _ _ h => h)) (pa_cons (pv 15) pa_nil))) pa_nil)) (pe_callB (show CallR _ (.builtin "repr") (rRepr K) from call_repr hgd hr.units) (by rfl) M.repr boot_repr1 (pa_cons (pv 9) pa_nil)) (nomark _)) (pss_one (ps_ret pe_bl)) pss_nil)
      (C8.pss_cut (ps_if (pt_val (pe_callB call_isi (by rfl) M.isi boot_isi (pa_cons (pv 15) (pa_cons (pe_bltn (v := V.ty "list") rfl M.list (by decide +kernel) rfl) pa_nil)))) (pss_one (ps_expr (pe_bm PySem.F.plainAttrs_list PySem.F.slot_list_append PySem.F.type_list_append mt_append (pv 15) (pa_cons pe_non pa_nil)))) pss_nil)
      (C8.pss_cut (ps_if (pt_cmpR op_eq (pe_ix (r := rIxL K) ix_list (pv 9) pe_int (fun _ _ => rfl)) pe_str (nomark _)) (pss_cons (ps_set (i := 3) nd rfl (Or.inl rfl) (pv 7))
      (pss_one (ps_expr (pe_bm PySem.F.plainAttrs_list PySem.F.slot_list_append PySem.F.type_list_append mt_append (pv 5) (pa_cons (pe_tup (pa_cons pe_str (pa_cons (pv 8) pa_nil))) pa_nil))))) pss_nil)
      (pss_one (ps_if (PW.pt (pw_or (pt_not (pt_val (pe_callG hgd GLk (hr.mono (by decide)) (by rfl) mLk kLk bLk pass0 (pa_cons (pv 4) (pa_cons (pv 3) pa_nil))))) (pw_or (pt_cmpR op_ne (pe_callB (show CallR _ (.builtin "repr") (rRepr K) from call_repr hgd hr.units) (by rfl) M.repr boot_repr1 (pa_cons (pe_meth0 (pv 4) B.cl mBl GBl (hr.mono (by decide)) bBl .nil pass0) pa_nil)) (pe_callB (show CallR _ (.builtin "repr") (rRepr K) from call_repr hgd hr.units) (by rfl) M.repr boot_repr1 (pa_cons (pv 5) pa_nil)) (nomark _)) (pw_or1 (pt_cmpR op_ne (pe_callB (show CallR _ (.builtin "len") (rLenI CB (spBoardLen CG CT CB) L2.E0) from call_lenI GLn mLn.1 mLn.fn bLn pass0 hr2) (by rfl) M.len boot_len1 (pa_cons (pv 4) pa_nil)) (pe_callB call_len_seq (by rfl) M.len boot_len1 (pa_cons (pv 5) pa_nil)) (nomark _)))))) (pss_one (ps_ret pe_bl)) pss_nil)))))))))
      (pss_cons (ps_if (PW.pt (pw_or (pt_cmpR (show OpR _ (compareOp .NotEq) (rNeD K) from op_neD hu64) (pe_meth (pv 4) B.cl mTg GTg (hr.mono (by decide)) bTg .nil passL (pa_cons (pe_tup pa_nil) pa_nil)) (pe_lst pa_nil) (nomark _)) (pw_or1 (pt_cmpR (show OpR _ (compareOp .NotEq) (rNeD K) from op_neD hu64) (pe_ix (r := rIxL K) ix_list (pe_meth0 (pv 4) B.cl mBl GBl (hr.mono (by decide)) bBl .nil pass0) (pe_un un_neg pe_int) (fun _ _ => rfl)) (pe_tup (pa_cons pe_str (pa_cons (pe_lst pa_nil) pa_nil))) (nomark _))))) (pss_one (ps_ret pe_bl)) pss_nil)
      (pss_cons (ps_expr (pe_bm PySem.F.plainAttrs_list PySem.F.slot_list_append PySem.F.type_list_append mt_append (pe_ix (r := rIxT K) ix_tup (pe_ix (r := rIxL K) ix_list (pe_meth0 (pv 4) B.cl mBl GBl (hr.mono (by decide)) bBl .nil pass0) (pe_un un_neg pe_int) (fun _ _ => rfl)) pe_int (fun _ _ => rfl)) (pa_cons pe_int pa_nil)))
      (pss_one (ps_if (PW.pt (pw_or (pt_cmpR (show OpR _ (compareOp .NotEq) (rNeD K) from op_neD hu64) (pe_ix (r := rIxL K) ix_list (pe_meth0 (pv 4) B.cl mBl GBl (hr.mono (by decide)) bBl .nil pass0) (pe_un un_neg pe_int) (fun _ _ => rfl)) (pe_tup (pa_cons pe_str (pa_cons (pe_lst pa_nil) pa_nil))) (nomark _)) (pw_or1 (pt_not (pt_val (pe_callG hgd GLk (hr.mono (by decide)) (by rfl) mLk kLk bLk pass0 (pa_cons (pv 4) (pa_cons (pv 3) pa_nil)))))))) (pss_one (ps_ret pe_bl)) pss_nil)))))))))
      (pss_one (ps_ret pe_bl))), ?_⟩
    have bnd : ∀ l : Nat, 1 ≤ (if (if (6 : Int) < (l : Int) then (6 : Int) else (l : Int)) > 1 then (if (6 : Int) < (l : Int) then (6 : Int) else (l : Int)) else 1) ∧
        (if (if (6 : Int) < (l : Int) then (6 : Int) else (l : Int)) > 1 then (if (6 : Int) < (l : Int) then (6 : Int) else (l : Int)) else 1) ≤ 6 := fun l => by
      split <;> split <;> omega
    have bl := bnd (ns.map V.int).length
    refine ⟨_, rfl, a0, _, rfl, .inl hS, _, _, rfl, _, _, rfl, _, rfl, by omega, by omega, for_range (lo := 0) (fun i σ H' => ∃ v1 v2 v3 v4 v5 v6 v7 v8 v9 v10 v11 v12 v13 v14 v15 v16 v17 : Option V,
      σ = [some (.ref a0), v1, v2, v3, v4, v5, v6, v7, v8, v9, v10, v11, v12, v13, v14, v15, v16, v17] ∧ SqL K H' a0 (ns.map V.int) ∧ LamX.Tabs (lamT Pt) H') ⟨none, none, none, none, none, none, none, none, none, none, none, none, none, none, none, none, none, rfl, hS, tabs0 hT0⟩ ?_ ?_⟩
    case refine_2 =>
      rintro σ H' ⟨v1, v2, v3, v4, v5, v6, v7, v8, v9, v10, v11, v12, v13, v14, v15, v16, v17, rfl, _⟩
      exact kont H'
    clear hS hT0 kont bl bnd
    rintro i σ H0 hi ⟨v1, v2, v3, v4, v5, v6, v7, v8, v9, v10, v11, v12, v13, v14, v15, v16, v17, rfl, hS0, hTab⟩
    refine ⟨_, rfl, _, rfl, a0, ns, (0 : Int) + i, rfl, hS0, by omega, by omega, fun p H1 np s1 hp1 => ?_⟩
    refine ⟨_, rfl, p, rfl, hp1, fun a j h c mo kp H2 x2 hp2 na nj nh nc m2 okm sE sc0 k1 k3 bx => ?_⟩
    have n1 : 1 ≤ mo.n := okm.n1
    have n16 : mo.n ≤ 16 := okm.n16
    have Lp2 : Lis [p] H2 := fun z hz => by
      obtain ⟨u, w', e, _⟩ := hp2
      rw [List.mem_singleton.mp hz]
      exact .inl ⟨_, e⟩
    refine ⟨_, rfl, [p], a, j, h, c, mo, kp, rfl, m2, okm, sE, sc0, k1, by omega, Lp2, fun b so nl pl pk g H3 s3 fr3 bd3 lis3 => ?_⟩
    refine ⟨by show 0 ≤ sizeLine; decide, fun lg nlg => ?_⟩
    obtain ⟨H4, q4, s4, hlg⟩ := newAt (.lst []) nlg
    rw [q4]
    refine ⟨by show 2 ≤ sizeLine; decide, fun T nT => ?_⟩
    obtain ⟨H5, q5, s5, hT⟩ := newAt (.tup [V.ref b, V.ref lg]) nT
    rw [q5]
    refine ⟨T, _, rfl, SqT.of hT, rfl, _, _, rfl, _, _, rfl, rfl, ?_⟩
    have s45 := s4.trans s5
    have s35 := s3.trans s45
    refine ⟨_, rfl, p, 4, rfl, hp2.same s35, by decide, by decide, fun tn H6 u0 u1 hp6 tk6 => ?_⟩
    obtain ⟨tn', rfl⟩ : ∃ tn' : Nat, tn = (tn' : Int) := ⟨tn.toNat, by omega⟩
    have x56 : SameX p H5 H6 := sameX_take tk6
    have s02 : ∀ z o, H0 z = some o → H2 z = some o := fun z o e => x2 z o (fun q => by rw [q, np] at e; cases e) (s1 z o e)
    have s05 : ∀ z o, H0 z = some o → H5 z = some o := fun z o e => s35 _ _ (s02 z o e)
    have fre : ∀ {G : Hp} {z : Addr}, (∀ z o, H0 z = some o → G z = some o) → G z = none → H0 z = none := fun {G z} hG n => by
      cases e : H0 z with
      | none => rfl
      | some o => rw [hG _ _ e] at n; cases n
    have s03 : ∀ z o, H0 z = some o → H3 z = some o := fun z o e => s3 _ _ (s02 z o e)
    have nlg0 : H0 lg = none := fre s03 nlg
    have hlg5 := s5 _ _ hlg
    have Llg5 : Lis [lg] H5 := fun z hz => by rw [List.mem_singleton.mp hz]; exact .inl ⟨_, hlg5⟩
    have f56 := frX x56
    have Lp5 : Lis [p] H5 := Lp2.same s35
    have Lp6 : Lis [p] H6 := fun z hz => by
      obtain ⟨u, w', e, _⟩ := hp6
      rw [List.mem_singleton.mp hz]
      exact .inl ⟨_, e⟩
    have bd5 := bd3.more (L := [lg]) s45 (fun z hz => by rw [List.mem_singleton.mp hz]; exact nlg) Llg5.dom
    have lis5 : Lis ([lg] ++ ([so, nl, pl, pk, b] ++ [p])) H5 := fun z hz => by
      rcases List.mem_append.mp hz with hz | hz
      · exact Llg5 z hz
      · exact (lis3.same s45) z hz
    have bfr : ∀ z ∈ [b, so, nl, pl, pk], H2 z = none := fun z hz => fr3 z (by simp only [List.mem_cons, List.not_mem_nil, or_false] at hz ⊢; rcases hz with q | q | q | q | q <;> simp [q])
    have ne3 : ∀ z ∈ [b, so, nl, pl, pk], ∃ o, H3 z = some o := fun z hz => by
      have hm : z ∈ [so, nl, pl, pk, b] ++ [p] := by simp only [List.mem_cons, List.not_mem_nil, or_false] at hz; rcases hz with q | q | q | q | q <;> simp [q]
      rcases lis3 z hm with ⟨xs, e⟩ | ⟨C, dx, fs, e⟩
      · exact ⟨_, e⟩
      · exact ⟨_, e⟩
    have p2 : ∃ o, H2 p = some o := by
      obtain ⟨u, w', e, _⟩ := hp2
      exact ⟨_, e⟩
    have ds0 : ∀ z ∈ [b, so, nl, pl, pk], z ≠ p ∧ z ≠ lg := fun z hz => by
      refine ⟨fun q => ?_, fun q => ?_⟩
      · obtain ⟨o, e⟩ := p2
        have := bfr z hz
        rw [q, e] at this
        cases this
      · obtain ⟨o, e⟩ := ne3 z hz
        rw [q, nlg] at e
        cases e
    have plg : p ≠ lg := fun q => by
      obtain ⟨o, e⟩ := p2
      have := s3 _ _ e
      rw [q, nlg] at this
      cases this
    have m5 := m2.same s35
    have mz : ∀ z ∈ [a, j, h, c], ∃ o, H2 z = some o := m2.there
    have mA : ∀ z ∈ [a, j, h, c], z ∉ [lg] ++ ([so, nl, pl, pk, b] ++ [p]) := fun z hz hm => by
      obtain ⟨o, e⟩ := mz z hz
      simp only [List.cons_append, List.nil_append, List.mem_cons, List.not_mem_nil, or_false] at hm
      have n3 : ∀ {u : Addr}, u ∈ [so, nl, pl, pk, b] → z ≠ u := fun {u} hu q => by
        have := fr3 u hu
        rw [← q, e] at this
        cases this
      rcases hm with q | q | q | q | q | q | q
      · have := s3 _ _ e
        rw [q, nlg] at this
        cases this
      · exact n3 (by simp) q
      · exact n3 (by simp) q
      · exact n3 (by simp) q
      · exact n3 (by simp) q
      · exact n3 (by simp) q
      · simp only [List.mem_cons, List.not_mem_nil, or_false] at hz
        rcases hz with r | r | r | r
        · exact hp1.ne na (q.symm.trans r)
        · exact hp1.ne nj (q.symm.trans r)
        · exact hp1.ne nh (q.symm.trans r)
        · exact hp1.ne nc (q.symm.trans r)
    have A0n : ∀ z ∈ [lg] ++ ([so, nl, pl, pk, b] ++ [p]), H0 z = none := fun z hz => by
      rcases List.mem_append.mp hz with hz | hz
      · rw [List.mem_singleton.mp hz]; exact nlg0
      · rcases List.mem_append.mp hz with hz | hz
        · exact fre s02 (fr3 z hz)
        · rw [List.mem_singleton.mp hz]; exact np
    have sub5 : ∀ z ∈ [p], z ∈ [lg] ++ ([so, nl, pl, pk, b] ++ [p]) := fun z hz => by rw [List.mem_singleton.mp hz]; simp
    have start : LI72 CG CT CB Pt H0 p b lg 0 H6 a := ⟨[lg] ++ ([so, nl, pl, pk, b] ++ [p]), so, pk, mo, g, nl, pl, [], [], j, h, c,
      extFr (fun z o e _ => s05 z o e) f56 (fun z hz => by rw [List.mem_singleton.mp hz]; exact np), (fun z hz => NoH.of (A0n z hz)), hp6, tabsFr (Same.tabs (fun z o e => s05 z o e) hTab) Lp5 f56, bd5.keep f56 sub5 (fun z hz hm => (ds0 z hz).1 (List.mem_singleton.mp hm)) Lp6.dom, lis5.fr f56 Lp6,
      ⟨by simp, by simp, plg, ds0⟩, m5.fr f56 Lp5 (fun z hz hm => mA z hz (sub5 z hm)), mA, f56 _ _ (by simp [plg.symm]) hlg5, ⟨rfl, fun k t e => by simp at e⟩, Nat.le_refl _, okm, sE, fun z hz => by
        have := bx z hz
        rw [Nat.mul_zero, Nat.pow_zero, Nat.one_mul]
        exact this, fun z hz => by rw [sc0] at hz; rw [(List.mem_replicate.mp hz).2]; exact Nat.zero_le _, by rw [sc0, List.length_replicate]; exact k3⟩
    refine ⟨_, _, rfl, rfl, _, rfl, by omega, by omega, for_range (lo := 0) (fun i2 σ G => ∃ (v6 v7 v8 v9 v10 v11 v12 v13 v14 v15 v16 v17 : Option V) (a : Addr), σ = [some (.ref a0), some (.int (0 + i)), some (.ref p), some (.ref a), some (.ref b), some (.ref lg), v6, v7, v8, v9, v10, v11, v12, v13, v14, v15, v16, v17] ∧ LI72 CG CT CB Pt H0 p b lg i2 G a) ⟨_, _, _, _, _, _, _, _, _, _, _, _, a, rfl, start⟩ (fun i2 σ G hi2 hG => ?_) (fun σ G hG => ?_)⟩
    · clear start bd3 lis3 s3 fr3 bd5 lis5 ds0 plg m5 mz mA A0n sub5 Llg5 Lp5 f56 x56 m2 okm sE sc0 k1 k3 bx n1 n16 Lp2
      obtain ⟨v6, v7, v8, v9, v10, v11, v12, v13, v14, v15, v16, v17, a, rfl, A, so, pk, mo, g, nl, pl, log, ts, j, h, c, xt, fA, hp, tb, bd, lis, ⟨pA, lA, pl', ds⟩, m, nA, hl, lgs, ll, okm, sE, bx, bs, ls⟩ := hG
      have pz : ∀ z ∈ [a, j, h, c], p ≠ z := fun z hz e => nA z hz (e ▸ pA)
      refine ⟨_, rfl, _, rfl, p, a, j, h, c, mo, rfl, hp, m, pz j (by simp), pz h (by simp), pz c (by simp), okm, sE, fun q a2 r d ops ts2 G1 x1 hp1 nq na2 nr nd hq hr1 ho1 l4 pr okIo okSo sev upd_ => ?_⟩
      refine ⟨q, _, rfl, SqL.of hq, rfl, _, _, rfl, _, _, rfl, _, _, rfl, rfl, ?_⟩
      refine ⟨fun σ G' => ∃ (rows due : Addr) (xs : List V) (dd : List PyData) (its : List Itm) (v10 v11 v12 v13 v14 : Option V), σ = [some (.ref a0), some (.int (0 + i)), some (.ref p), some (.ref a), some (.ref b), some (.ref lg), some (.int (0 + i2)), some (.ref a2), some (.ref rows), some (.ref due), v10, v11, v12, v13, v14, v15, v16, v17] ∧
        SameX p G G' ∧ PoolAt G' p ∧ Prep K w aB A a2 mo G' rows due xs dd its, ?_, ?_⟩
      · refine ⟨_, rfl, p, 4, rfl, hp1, by decide, by decide, fun tq G2 u2 u3 hp2 tk2 => ?_⟩
        have x12 := sameX_take tk2
        have Lp1 : Lis [p] G1 := fun z hz => by
          obtain ⟨u, w', e, _⟩ := hp1
          rw [List.mem_singleton.mp hz]
          exact .inl ⟨_, e⟩
        have Lp2 : Lis [p] G2 := fun z hz => by
          obtain ⟨u, w', e, _⟩ := hp2
          rw [List.mem_singleton.mp hz]
          exact .inl ⟨_, e⟩
        have lis1 : Lis A G1 := lis.fr (frX x1) Lp1
        have subp : ∀ z ∈ [p], z ∈ A := fun z hz => by rw [List.mem_singleton.mp hz]; exact pA
        have prep1 := prep_plain (w := w) AK lis na2 nr nd hr1 ho1 l4 pr okIo sev upd_
        refine ⟨rfl, _, rfl, ?_⟩
        by_cases c0 : tq = 0
        · subst c0
          rw [decide_eq_true rfl]
          refine iteT ?_
          have hr2' := x12 _ _ (fun q => by
            obtain ⟨u, w', e, _⟩ := hp
            rw [← q, nr] at e; cases e) hr1
          have lts : ts2.length ≤ 4 := by rw [ho1.1]; exact l4
          have pz' : ∀ {z : Addr}, G z = none → z ≠ p := fun {z} nz q => by
            obtain ⟨u, w', e, _⟩ := hp
            rw [← q, nz] at e; cases e
          refine ⟨_, rfl, _, rfl, r, _, rfl, .inl (SqL.of hr2'), _, _, rfl, rfl, p, _, rfl, hp2, by omega, by rw [List.length_map]; omega, fun at_ G3 u4 u5 hp3 tk3 => ?_⟩
          rw [List.length_map] at u5
          obtain ⟨at', rfl⟩ : ∃ at' : Nat, at_ = (at' : Int) := ⟨at_.toNat, by omega⟩
          have x23 := sameX_take tk3
          refine ⟨_, rfl, p, rfl, hp3, fun bv dv G4 x34 hp4 stab dm => ?_⟩
          have x14 := x12.trans (x23.trans x34)
          have x04 := x1.trans x14
          have m4 := m.fr (frX x04) (fun z hz => by rw [List.mem_singleton.mp hz]; exact lis p pA) (fun z hz hm => pz z hz (List.mem_singleton.mp hm).symm)
          refine ⟨_, _, rfl, _, rfl, a, j, h, c, mo, rfl, m4, by have := okm.len; have := okm.n16; omega, okm.few, fun a3 j3 h3 c3 G5 s45 na3 nj3 nh3 nc3 m5 => ?_⟩
          have Lp1' : ∀ {G' : Hp}, PoolAt G' p → Lis [p] G' := fun {G'} hp' z hz => by
            obtain ⟨u, w', e, _⟩ := hp'
            rw [List.mem_singleton.mp hz]
            exact .inl ⟨_, e⟩
          have hr4 := (x23.trans x34) _ _ (pz' nr) hr2'
          have hr5 := s45 _ _ hr4
          have ho4 := ho1.fr (frX x14) (fun z hz => hz) Lp1.dom
          have hat : at' ≤ ts2.length := by omega
          have hatO : at' ≤ ops.length := by rw [← ho1.1]; exact hat
          obtain ⟨okT1, okT2⟩ : okS mo (ops.take at') ∧ True := ⟨(okS_take (b := ops.drop at') (by rw [List.take_append_drop]; exact okSo)).1, True.intro⟩
          refine ⟨_, rfl, _, rfl, _, rfl, r, _, rfl, SqL.of hr5, fun sl nsl => ?_⟩
          obtain ⟨G6, e6, s56, hsl⟩ := newAt (.lst ((ts2.take at').map V.ref)) nsl
          rw [cutRefT _ _ hat, e6]
          have s46 := s45.trans s56
          refine ⟨sl, rfl, ⟨_, SqL.of hsl⟩, fun wq nwq => ?_⟩
          have nwq4 : G4 wq = none := s46.free nwq
          have m6 := m5.same s56
          have al6 : ∀ z ∈ [a3, j3, h3, c3], ∃ o, G6 z = some o := m6.there
          refine lc_list (K := K) (a := sl) (xs := (ts2.take at').map V.ref) (fun k G' => ∃ (j' h' : Addr) (Mk : Mo) (qs : List Addr), Same G4 G' ∧ G' sl = some (.lst ((ts2.take at').map V.ref)) ∧ MdAt G' a3 Mk j' h' c3 ∧ Mk = ((ops.take at').take k).foldl skipM mo ∧ OkM Mk ∧ SrtE Mk.es ∧ okS Mk ((ops.take at').drop k) ∧ (∀ z ∈ [a3, j', h', c3], G4 z = none ∧ z ≠ wq ∧ z ≠ sl) ∧
              G' wq = some (.lst (qs.map V.ref)) ∧ WsAt K G4 G' qs (skipR mo ((ops.take at').take k)) ∧ (∀ q ∈ qs, q ≠ wq ∧ q ∉ [a3, j', h', c3]))
            ⟨j3, h3, mo, [], fun z o e => by rw [upd_ne (ne_of_none e nwq4)]; exact s46 _ _ e, by rw [upd_ne (ne_of_none hsl nwq)]; exact hsl, m6.same (same_upd nwq), rfl, okm, sE, by rw [List.drop_zero]; exact okT1, fun z hz => ?_, upd_same, ⟨rfl, fun k q e => by simp at e⟩, fun q hq => by cases hq⟩ (fun k G' _ hP => ?_) (fun k x G' hx hP => ?_) (fun G' hP => ?_)
          · obtain ⟨o, e⟩ := al6 z hz
            refine ⟨?_, ne_of_none e nwq, fun q => ?_⟩
            · simp only [List.mem_cons, List.not_mem_nil, or_false] at hz
              rcases hz with q | q | q | q <;> rw [q] <;> assumption
            · have m5' := m5.there z hz
              obtain ⟨o5, e5⟩ := m5'
              rw [q, nsl] at e5
              cases e5
          · obtain ⟨_, _, _, _, _, e, _⟩ := hP
            exact SqL.of e
          · obtain ⟨j', h', Mk, qs, sG, hslG, mG, eM, okk, sk, oks, fz, hwG, ws, nq'⟩ := hP
            obtain ⟨t, ht, rfl⟩ := refAt hx
            obtain ⟨o, ho, hto⟩ := ((ho4.take at').same sG).2 k t ht
            have hk : k < (ops.take at').length := (List.getElem?_eq_some_iff.mp ho).1
            have hdr : (ops.take at').drop k = o :: (ops.take at').drop (k + 1) := by
              rw [List.drop_eq_getElem_cons hk]
              rw [(List.getElem?_eq_some_iff.mp ho).2]
            have htk : (ops.take at').take (k + 1) = (ops.take at').take k ++ [o] := by rw [List.take_add_one, ho]; rfl
            rw [hdr] at oks
            obtain ⟨oko, oks'⟩ := oks
            obtain ⟨h5, hb, _⟩ := pr o (List.mem_of_mem_take (List.mem_of_getElem? ho))
            refine ⟨rfl, _, rfl, _, rfl, a3, t, j', h', c3, Mk, o, h5, rfl, mG, hto, oko, okk, fun dq G7 f7 ndq due7 resOk resEr => ?_⟩
            have notin : ∀ {z : Addr} {y : HO}, G4 z = some y → z ∉ [a3, j', h', c3] := fun {z y} e hm => by
              have := (fz z hm).1
              rw [e] at this
              cases this
            have s47 : Same G4 G7 := fun z y e => f7 z y (notin e) (sG z y e)
            have hw7 := f7 _ _ (fun hm => (fz _ hm).2.1 rfl) hwG
            have hsl7 := f7 _ _ (fun hm => (fz _ hm).2.2 rfl) hslG
            have ndq4 : G4 dq = none := sG.free ndq
            have dqw : dq ≠ wq := fun q => by rw [q, hwG] at ndq; cases ndq
            refine ⟨_, hw7, by rw [List.length_map, ws.1, skipR_len, sizeLine_eq]; have := List.length_take_le k (ops.take at'); have := List.length_take_le at' ops; omega, ?_⟩
            obtain ⟨G8, e8⟩ : ∃ G8, upd G7 wq (.lst ((qs ++ [dq]).map V.ref)) = G8 := ⟨_, rfl⟩
            have e8' : upd G7 wq (.lst (qs.map V.ref ++ [V.ref dq])) = G8 := by rw [← e8, List.map_append]; rfl
            rw [e8']
            have f78 : FrL [wq] G7 G8 := by rw [← e8]; exact frUpd (by simp)
            have hw8 : G8 wq = some (.lst ((qs ++ [dq]).map V.ref)) := by rw [← e8, upd_same]
            have Lw7 : Lis [wq] G7 := fun z hz => by rw [List.mem_singleton.mp hz]; exact .inl ⟨_, hw7⟩
            have nin : ∀ {z : Addr}, z ≠ wq → z ∉ [wq] := fun {z} n hm => n (List.mem_singleton.mp hm)
            have s48 : Same G4 G8 := fun z y e => f78 z y (nin (ne_of_none e nwq4)) (s47 z y e)
            have ws8 : WsAt K G4 G8 (qs ++ [dq]) (skipR mo ((ops.take at').take (k + 1))) := by
              rw [htk, skipR_snoc]
              refine WsAt.snoc ⟨ws.1, fun i u e => ?_⟩ ndq4 ?_
              · obtain ⟨w1, rr, w2, w3⟩ := ws.2 i u e
                obtain ⟨n1, n2⟩ := nq' u (List.mem_of_getElem? e)
                exact ⟨w1, rr, w2, (w3.frT f7 mG.noT n2).fr f78 Lw7 (nin n1)⟩
              · rw [← eM]
                exact due7.fr f78 Lw7 (nin dqw)
            have e8m : skipM Mk o = ((ops.take at').take (k + 1)).foldl skipM mo := by rw [htk, List.foldl_append, ← eM]; rfl
            obtain ⟨ok8, sk8⟩ := skipOkM h5 oko okk sk
            have free4 : ∀ {z : Addr}, G' z = none → G4 z = none ∧ z ≠ wq ∧ z ≠ sl := fun {z} n => ⟨sG.free n, (fun q => by rw [q, hwG] at n; cases n), (fun q => by rw [q, hslG] at n; cases n)⟩
            cases e : stepM Mk o with
            | ok rr =>
              obtain ⟨j4, h4, m7, jc, hc⟩ := resOk rr e
              have er : rr.1 = skipM Mk o := by unfold skipM; rw [e]
              have fz' : ∀ z ∈ [a3, j4, h4, c3], G4 z = none ∧ z ≠ wq ∧ z ≠ sl := fun z hz => by
                simp only [List.mem_cons, List.not_mem_nil, or_false] at hz
                rcases hz with q | q | q | q
                · exact fz z (by rw [q]; simp)
                · rcases jc with q2 | q2
                  · exact fz z (by rw [q, q2]; simp)
                  · rw [q]; exact free4 q2
                · rcases hc with q2 | q2
                  · exact fz z (by rw [q, q2]; simp)
                  · rw [q]; exact free4 q2
                · exact fz z (by rw [q]; simp)
              have old : ∀ u ∈ qs ++ [dq], u ≠ wq ∧ u ∉ [a3, j4, h4, c3] := fun u hu => by
                have ex : u ≠ wq ∧ (∃ y, G' u = some y) ∧ u ∉ [a3, j', h', c3] ∨ u = dq := by
                  rcases List.mem_append.mp hu with hu | hu
                  · obtain ⟨i, hi⟩ := List.getElem?_of_mem hu
                    obtain ⟨_, rr', _, v, hv, _⟩ := ws.2 i u hi
                    exact .inl ⟨(nq' u hu).1, ⟨_, hv⟩, (nq' u hu).2⟩
                  · exact .inr (List.mem_singleton.mp hu)
                rcases ex with ⟨n1, ⟨y, hy⟩, n2⟩ | rfl
                · refine ⟨n1, fun hm => ?_⟩
                  simp only [List.mem_cons, List.not_mem_nil, or_false] at hm n2
                  rcases hm with q | q | q | q
                  · exact n2 (.inl q)
                  · rcases jc with q2 | q2
                    · exact n2 (.inr (.inl (q.trans q2)))
                    · rw [← q, hy] at q2; cases q2
                  · rcases hc with q2 | q2
                    · exact n2 (.inr (.inr (.inl (q.trans q2))))
                    · rw [← q, hy] at q2; cases q2
                  · exact n2 (.inr (.inr (.inr q)))
                · refine ⟨dqw, fun hm => ?_⟩
                  obtain ⟨y, hy⟩ := m7.there u hm
                  obtain ⟨v, hv, _⟩ := id due7
                  simp only [List.mem_cons, List.not_mem_nil, or_false] at hm
                  rcases hm with q | q | q | q
                  · rw [q, m7.dc] at hv; cases hv
                  · obtain ⟨tj, t1, _⟩ := m7.jn
                    rw [q, t1] at hv
                    cases tj <;> cases hv
                  · rw [q, m7.hr] at hv
                    exact notStr hv
                  · rw [q, m7.sc] at hv
                    exact notStr hv
              exact ⟨j4, h4, _, qs ++ [dq], s48, f78 _ _ (nin (ne_of_none hsl nwq)) hsl7, m7.fr f78 Lw7 (fun z hz => nin (fz' z hz).2.1), by rw [er]; exact e8m, by rw [er]; exact ok8, by rw [er]; exact sk8, by rw [er]; exact oks', fz', hw8, ws8, old⟩
            | error er =>
              have m7 := resEr er e
              have es : skipM Mk o = Mk := by unfold skipM; rw [e]
              rw [es] at e8m oks'
              refine ⟨j', h', _, qs ++ [dq], s48, f78 _ _ (nin (ne_of_none hsl nwq)) hsl7, m7.fr f78 Lw7 (fun z hz => nin (fz z hz).2.1), e8m, okk, sk, oks', fz, hw8, ws8, fun u hu => ?_⟩
              rcases List.mem_append.mp hu with hu | hu
              · exact nq' u hu
              · rw [List.mem_singleton.mp hu]
                refine ⟨dqw, fun hm => ?_⟩
                obtain ⟨y, hy⟩ := mG.there dq hm
                rw [ndq] at hy
                cases hy
          · obtain ⟨j', h', Mk, qs, sG, hslG, mG, eM, okk, sk, oks, fz, hwG, ws, nq'⟩ := hP
            have tk0 : (ops.take at').take ((ts2.take at').map V.ref).length = ops.take at' := by
              rw [List.length_map, ((ho4.take at').1 : (ts2.take at').length = (ops.take at').length), List.take_length]
            rw [tk0] at ws
            have hwG' : G' wq = some (.lst (qs.map V.ref)) := hwG
            refine ⟨_, rfl, wq, rfl, ⟨_, SqL.of hwG'⟩, fun fq nfq => ?_⟩
            have qlen : qs.length ≤ 4 := by rw [ws.1, skipR_len]; have := List.length_take_le at' ops; omega
            refine lc_list (K := K) (a := wq) (xs := qs.map V.ref) (fun k G => ∃ fs : List Addr, Same G' G ∧ G fq = some (.lst (fs.map V.ref)) ∧ fs.length ≤ k ∧ WsAt K G4 G fs (((skipR mo (ops.take at')).take k).filter isEr) ∧ ∀ q ∈ fs, ∃ y, G' q = some y)
              ⟨[], same_upd nfq, upd_same, Nat.le_refl _, ⟨rfl, fun k q e => by simp at e⟩, fun q hq => by cases hq⟩ (fun k G _ hP => ?_) (fun k x G hx hP => ?_) (fun GF hP => ?_)
            · obtain ⟨_, s, _⟩ := hP
              exact SqL.of (s _ _ hwG')
            · obtain ⟨fs, sF, hfs, lfs, wsF, exF⟩ := hP
              obtain ⟨u, hu, rfl⟩ := refAt hx
              obtain ⟨nu, rr, hrr, du⟩ := ws.2 k u hu
              obtain ⟨v, hv, hdv⟩ := id du
              have hvG := sF _ _ hv
              have tk1 : (skipR mo (ops.take at')).take (k + 1) = (skipR mo (ops.take at')).take k ++ [rr] := by rw [List.take_add_one, hrr]; rfl
              refine ⟨rfl, _, rfl, u, _, (0 : Int), _, rfl, rfl, SqL.of hvG, atI_nat (j := 0) rfl, rfl, _, rfl, ?_⟩
              cases rr with
              | ok r0 =>
                rw [show (!decide (V.str (dueW (Except.ok r0 : Except Er (Mo × V))).1 = V.str "told")) = false from neS rfl]
                refine ⟨fs, sF, hfs, by omega, ?_, exF⟩
                rw [tk1, List.filter_append, show ([Except.ok r0] : List (Except Er (Mo × V))).filter isEr = [] from rfl, List.append_nil]
                exact wsF
              | error er =>
                rw [show (!decide (V.str (dueW (Except.error er : Except Er (Mo × V))).1 = V.str "told")) = true from by
                  rw [show decide (V.str (dueW (Except.error er : Except Er (Mo × V))).1 = V.str "told") = false from erW er]
                  rfl]
                refine ⟨_, rfl, fs.map V.ref, hfs, by rw [List.length_map, sizeLine_eq]; have := (List.getElem?_eq_some_iff.mp hu).1; omega, ?_⟩
                obtain ⟨F2, f2⟩ : ∃ F2, upd G fq (.lst ((fs ++ [u]).map V.ref)) = F2 := ⟨_, rfl⟩
                have f2' : upd G fq (.lst (fs.map V.ref ++ [V.ref u])) = F2 := by rw [← f2, List.map_append]; rfl
                rw [f2']
                have fF : FrL [fq] G F2 := by rw [← f2]; exact frUpd (by simp)
                have Lf : Lis [fq] G := fun z hz => by rw [List.mem_singleton.mp hz]; exact .inl ⟨_, hfs⟩
                have nf : ∀ {z : Addr} {y : HO}, G' z = some y → z ∉ [fq] := fun {z y} e hm => by
                  rw [List.mem_singleton.mp hm, nfq] at e
                  cases e
                refine ⟨fs ++ [u], fun z y e => fF z y (nf e) (sF z y e), by rw [← f2, upd_same], by rw [List.length_append]; show fs.length + 1 ≤ k + 1; omega, ?_, fun q hq => ?_⟩
                · rw [tk1, List.filter_append, show ([Except.error er] : List (Except Er (Mo × V))).filter isEr = [Except.error er] from rfl]
                  refine WsAt.snoc ⟨wsF.1, fun i w e => ?_⟩ nu ((du.same sF).fr fF Lf (nf hv))
                  obtain ⟨w1, r1, w2, w3⟩ := wsF.2 i w e
                  obtain ⟨y, hy⟩ := exF w (List.mem_of_getElem? e)
                  exact ⟨w1, r1, w2, w3.fr fF Lf (nf hy)⟩
                · rcases List.mem_append.mp hq with hq | hq
                  · exact exF q hq
                  · rw [List.mem_singleton.mp hq]
                    exact ⟨_, hv⟩
            · obtain ⟨fs, sF, hfs, lfs, wsF, exF⟩ := hP
              have tk2 : (skipR mo (ops.take at')).take (qs.map V.ref).length = skipR mo (ops.take at') := by rw [List.length_map, ws.1, List.take_length]
              rw [tk2] at wsF
              rw [List.length_map] at lfs
              have s4F : Same G4 GF := fun z y e => sF z y (sG z y e)
              have hrF := s4F _ _ hr4
              refine ⟨_, rfl, _, rfl, _, rfl, r, _, rfl, SqL.of hrF, fun r1 nr1 => ?_⟩
              obtain ⟨J1, e1, z1, hr1'⟩ := newAt (.lst ((ts2.take at').map V.ref)) nr1
              rw [cutRefT _ _ hat, e1]
              refine ⟨_, rfl, by show 1 ≤ sizeLine; decide, fun r2 nr2 => ?_⟩
              obtain ⟨J2, e2, z2, hr2j⟩ := newAt (.lst [bv]) nr2
              rw [e2]
              refine ⟨r1, r2, _, _, rfl, rfl, z2 _ _ hr1', hr2j, by rw [List.length_map, List.length_take, sizeLine_eq]; show _ + 1 ≤ _; omega, fun r3 nr3 => ?_⟩
              obtain ⟨J3, e3, z3, hr3⟩ := newAt (.lst ((ts2.take at').map V.ref ++ [bv])) nr3
              rw [e3]
              have zF3 := z1.trans (z2.trans z3)
              refine ⟨_, rfl, _, rfl, _, rfl, r, _, rfl, SqL.of (zF3 _ _ hrF), fun r4 nr4 => ?_⟩
              obtain ⟨J4, e4, z4, hr4'⟩ := newAt (.lst ((ts2.drop at').map V.ref)) nr4
              rw [cutRefD _ _ hat, e4]
              refine ⟨r3, r4, _, _, rfl, rfl, z4 _ _ hr3, hr4', by rw [List.length_append, List.length_map, List.length_map, List.length_take, List.length_drop, sizeLine_eq]; show _ + 1 + _ ≤ _; omega, fun r5 nr5 => ?_⟩
              obtain ⟨J5, e5, z5, hr5'⟩ := newAt (.lst (((ts2.take at').map V.ref ++ [bv]) ++ (ts2.drop at').map V.ref)) nr5
              rw [e5]
              have zF5 := zF3.trans (z4.trans z5)
              have s4J := Same.trans s4F zF5
              have bvD : ∀ {H2 : Hp}, Same G4 H2 → Dp K H2 bv dv := fun {H2} s => stab H2 fun z o _ e _ => s _ _ e
              obtain ⟨⟨o1, o2, o3⟩, oS⟩ := oddSh dv dm
              refine ⟨_, rfl, _, rfl, bv, dv, rfl, .dat (bvD s4J), o1, o2, o3, by show 2 ≤ sizeLine; decide, fun d1 nd1 => ?_⟩
              obtain ⟨J6, e6', z6, hd1⟩ := newAt (.lst [V.str "operation", V.str dv.shown]) nd1
              rw [e6']
              refine ⟨by show 1 ≤ sizeLine; decide, fun d2 nd2 => ?_⟩
              obtain ⟨J7, e7, z7, hd2⟩ := newAt (.lst [V.ref d1]) nd2
              rw [e7]
              have zF7 := zF5.trans (z6.trans z7)
              refine ⟨fq, d2, _, _, rfl, rfl, zF7 _ _ hfs, hd2, by rw [List.length_map, sizeLine_eq]; show _ + 1 ≤ _; omega, fun d3 nd3 => ?_⟩
              obtain ⟨J8, e8, z8, hd3⟩ := newAt (.lst (fs.map V.ref ++ [V.ref d1])) nd3
              rw [e8]
              have zF8 := zF7.trans z8
              have s48 := Same.trans s4F zF8
              have lis3 : Lis A G3 := lis.fr (frX (x1.trans (x12.trans x23))) (Lp1' hp3)
              have lis4 : Lis A G4 := lis.fr (frX x04) (Lp1' hp4)
              have hr58 := (z6.trans (z7.trans z8)) _ _ hr5'
              have hp8 := hp4.same s48
              have hd18 := (z7.trans z8) _ _ hd1
              have fin : ∀ due : Addr, ResAt K A J8 due mo ((ops.take at').map Itm.op ++ .bad :: (ops.drop at').map Itm.op) ((ops.take at').map opD ++ dv :: (ops.drop at').map opD) → Prep K w aB A a2 mo J8 r5 due ((ts2.take at').map V.ref ++ bv :: (ts2.drop at').map V.ref) ((ops.take at').map opD ++ dv :: (ops.drop at').map opD) ((ops.take at').map Itm.op ++ .bad :: (ops.drop at').map Itm.op) := fun due res =>
                prep_bad AK AB (by rw [hr58, List.append_assoc]; rfl) (notMem_of_none lis4 (s4F.free (zF3.free (z4.free nr5)))) ((ho4.take at').same s48) ((ho4.drop at').same s48) (by rw [List.length_take, List.length_drop]; omega) (fun o ho => pr o (List.mem_of_mem_take ho)) (fun o ho => pr o (List.mem_of_mem_drop ho)) (okI_take (b := (ops.drop at').map Itm.op) (by rw [← List.map_append, List.take_append_drop]; exact okIo))
                  (fun H2 u => stab H2 fun z o nz e n => u z o (notMem_of_none lis3 nz) (s48 _ _ e) n) dm res
              have x08 : SameX p G J8 := fun z o nz e => s48 _ _ (x04 z o nz e)
              cases efs : fs with
              | nil =>
                rw [efs] at hd3
                refine ⟨d3, _, (0 : Int), V.ref d1, rfl, rfl, SqL.of hd3, atI_nat (j := 0) rfl, r5, d1, _, _, _, _, _, _, _, _, rfl, x08, hp8, fin d1 ⟨notMem_of_none lis4 (s4F.free (zF5.free nd1)), ?_⟩⟩
                have hz : (skipR mo (ops.take at')).filter isEr = [] := List.length_eq_zero_iff.mp (by rw [← wsF.1, efs]; rfl)
                obtain ⟨rr, hrr⟩ := skipR_ok hz
                rw [runI_bad hrr]
                exact ⟨dv, midC (by rw [List.length_map, List.length_map]), hd18⟩
              | cons f1 fs1 =>
                rw [efs] at hd3
                refine ⟨d3, _, (0 : Int), V.ref f1, rfl, rfl, SqL.of hd3, atI_nat (j := 0) rfl, r5, f1, _, _, _, _, _, _, _, _, rfl, x08, hp8, fin f1 ?_⟩
                obtain ⟨g1, rr, g2, g3⟩ := wsF.2 0 f1 (by rw [efs]; rfl)
                have hm := List.mem_of_getElem? g2
                cases rr with
                | ok r0 => exact absurd (List.mem_filter.mp hm).2 (by simp [isEr])
                | error er =>
                  cases ef : (skipR mo (ops.take at')).filter isEr with
                  | nil => rw [ef] at g2; cases g2
                  | cons r1 rs =>
                    rw [ef] at g2
                    obtain rfl := Option.some.inj g2
                    obtain ⟨kk, hk⟩ := skipR_er ef
                    refine ⟨notMem_of_none lis4 g1, ?_⟩
                    rw [runI_more hk]
                    exact g3.same zF8
        · rw [decide_eq_false (fun q => c0 (by injection q))]
          exact iteF ⟨r, d, _, _, _, _, _, _, _, _, rfl, x1.trans x12, hp2, prep1.fr (frX x12) lis1 subp⟩
      · rintro σ G2 ⟨rows, due, xs, dd, its, v10, v11, v12, v13, v14, rfl, x2, hp2, prep⟩
        clear upd_ sev okSo okIo pr l4 ho1 hr1 hq nd nr nq hp1 x1
        have Lp2 : Lis [p] G2 := fun z hz => by
          obtain ⟨u, w', e, _⟩ := hp2
          rw [List.mem_singleton.mp hz]
          exact .inl ⟨_, e⟩
        have subp : ∀ z ∈ [p], z ∈ A := fun z hz => by rw [List.mem_singleton.mp hz]; exact pA
        have f02 := frX x2
        have Lp0 : Lis [p] G := lis.mono subp
        have lis2 : Lis A G2 := lis.fr f02 Lp2
        have bd2 := bd.keep f02 subp (fun z hz hm => (ds z hz).1 (List.mem_singleton.mp hm)) Lp2.dom
        have m2 := m.fr f02 Lp0 (fun z hz hm => pz z hz (List.mem_singleton.mp hm).symm)
        have hl2 := f02 _ _ (fun hm => pl' (List.mem_singleton.mp hm).symm) hl
        have lgs2 := lgs.fr f02 subp lis.dom
        have tb2 := tabsFr tb Lp0 f02
        have xt2 := extFrN xt f02 (fun z hz => fA z (subp z hz))
        have lx : xs.length ≤ 5 := by rw [prep.li]; exact prep.l5
        refine ⟨_, rfl, rows, _, rfl, .inl (SqL.of prep.rw_), fun gl ngl => ?_⟩
        obtain ⟨G3, e3, s3, hgl⟩ := newAt (.lst xs) ngl
        rw [e3]
        have new3 : ∀ z ∈ gl :: A, z ∈ A ∨ G2 z = none := fun z hz => by
          rcases List.mem_cons.mp hz with q | hz
          · rw [q]; exact .inr ngl
          · exact .inl hz
        have Lgl3 : Lis [gl] G3 := fun z hz => by rw [List.mem_singleton.mp hz]; exact .inl ⟨_, hgl⟩
        have lis3 : Lis (gl :: A) G3 := fun z hz => by
          rcases List.mem_cons.mp hz with q | hz
          · rw [q]; exact .inl ⟨_, hgl⟩
          · exact (lis2.same s3) z hz
        have bd3 := bd2.more (L := [gl]) s3 (fun z hz => by rw [List.mem_singleton.mp hz]; exact ngl) Lgl3.dom
        have lgs3 : LgsAt (gl :: A) G3 ts log := lgs2.step (sameFr (A := []) s3) (fun z hz => by cases hz) lis2.dom new3
        have prep3 := (prep.more new3).same s3
        have fA3 : ∀ z ∈ gl :: A, NoH H0 z := fun z hz => by
          rcases List.mem_cons.mp hz with q | hz
          · rw [q]; exact NoH.ext xt2 ngl
          · exact fA z hz
        have nA3 : ∀ z ∈ [a, j, h, c], z ∉ gl :: A := fun z hz hm => by
          rcases List.mem_cons.mp hm with q | hm
          · obtain ⟨o, e⟩ := m2.there z hz
            rw [q, ngl] at e; cases e
          · exact nA z hz hm
        refine ⟨_, rfl, rows, _, rfl, .inl ⟨SqL.of prep3.rw_, fun gt ngt => ?_⟩⟩
        obtain ⟨G4, e4, s4, hgt⟩ := newAt (.tup xs) ngt
        rw [e4]
        refine ⟨by show 2 ≤ sizeLine; decide, fun gs ngs => ?_⟩
        obtain ⟨G5, e5, s5, hgs⟩ := newAt (.lst [V.ref gl, V.ref gt]) ngs
        rw [e5]
        have s35 := s4.trans s5
        have s25 := s3.trans s35
        refine ⟨_, rfl, p, 2, rfl, hp2.same s25, by decide, by decide, fun tg G6 u6 u7 hp6 tk6 => ?_⟩
        have x56 := sameX_take tk6
        have f56 := frX x56
        have Lp5 : Lis [p] G5 := Lp2.same s25
        have Lp6 : Lis [p] G6 := fun z hz => by
          obtain ⟨u, w', e, _⟩ := hp6
          rw [List.mem_singleton.mp hz]
          exact .inl ⟨_, e⟩
        have subp3 : ∀ z ∈ [p], z ∈ gl :: A := fun z hz => List.mem_cons_of_mem _ (subp z hz)
        have lis6 : Lis (gl :: A) G6 := (lis3.same s35).fr f56 Lp6
        have pg : ∀ {z : Addr}, G2 z = none → z ≠ p := fun {z} nz q => by
          obtain ⟨u, w', e, _⟩ := hp2
          rw [← q, nz] at e; cases e
        have ngt0 : G2 gt = none := s3.free ngt
        have hgl6 := x56 _ _ (pg ngl) (s35 _ _ hgl)
        have hgt6 := x56 _ _ (pg ngt0) (s5 _ _ hgt)
        have hgs6 := x56 _ _ (pg ((s3.trans s4).free ngs)) hgs
        obtain ⟨ga, hat, hga⟩ : ∃ ga : Addr, atI [V.ref gl, V.ref gt] tg = some (.ref ga) ∧ ((ga = gl ∧ G6 ga = some (.lst xs)) ∨ G6 ga = some (.tup xs)) := by
          obtain rfl | rfl : tg = 0 ∨ tg = 1 := by omega
          · exact ⟨gl, rfl, .inl ⟨rfl, hgl6⟩⟩
          · exact ⟨gt, rfl, .inr hgt6⟩
        refine ⟨gs, _, tg, .ref ga, rfl, rfl, SqL.of hgs6, hat, ?_⟩
        have bd6 := (bd3.same s35).keep f56 subp3 (fun z hz hm => (ds z hz).1 (List.mem_singleton.mp hm)) Lp6.dom
        have m6 := (m2.same s25).fr f56 Lp5 (fun z hz hm => pz z hz (List.mem_singleton.mp hm).symm)
        have hl6 := f56 _ _ (fun hm => pl' (List.mem_singleton.mp hm).symm) (s25 _ _ hl2)
        have lgs6 := (lgs3.same s35).fr f56 subp3 (lis3.same s35).dom
        have tb6 := tabsFr (Same.tabs s25 tb2) Lp5 f56
        have xt6 := extFrN (xt2.trans (Same.ext s25)) f56 (fun z hz => fA z (subp z hz))
        have prep6 := (prep3.same s35).fr f56 (lis3.same s35) subp3
        refine ⟨tb6, fun D1 xt9 tbD => ?_⟩
        have bdD := bd6.ext lis6.noTb xt9
        have lisD := lis6.ext xt9
        have prepD := prep6.ext xt9
        have mD := m6.ext xt9
        have hlD := xt9 _ _ hl6 (fun _ z => by cases z)
        have lgsD := lgs6.ext xt9
        have xtD := xt6.trans xt9
        have hpD : PoolAt D1 p := by
          obtain ⟨u, w', e, e2⟩ := hp6
          exact ⟨u, w', xt9 _ _ e (fun _ z => by cases z), e2⟩
        obtain ⟨dxb, hbD⟩ := bdD.obj
        have hgaD : (ga = gl ∧ D1 ga = some (.lst xs)) ∨ D1 ga = some (.tup xs) := by
          rcases hga with ⟨q, e⟩ | e
          · exact .inl ⟨q, xt9 _ _ e (fun _ z => by cases z)⟩
          · exact .inr (xt9 _ _ e (fun _ z => by cases z))
        obtain ⟨w1, w2, w3⟩ := shwLine (prepD.shw okm sE) (by decide) (by decide)
        refine ⟨_, rfl, b, dxb, _, rfl, hbD, rfl, _, rfl, tried_tog XM XO bdD lisD (by omega) (hgaD.imp (fun z => z.2) id) (by omega) prepD.li prepD.ld prepD.it (fun k d e1 e2 => (oddSh d (prepD.od k d e1 e2)).1) (fun k v d e1 e2 e3 H' s => .dat (prepD.bad k v d e1 e2 e3 H' fun z o _ e _ => s _ _ e)) prepD.ok (fun A' so2 nl2 pl2 g' q M' log' D2 f12 subA' newA' lis' bd' frs res' cs => ?_)⟩
        have bA : ∀ z ∈ [b, pk], z ∈ gl :: A := fun z hz => by
          simp only [List.mem_cons, List.not_mem_nil, or_false] at hz
          rcases hz with q | q <;> rw [q]
          · exact bdD.bA
          · exact bdD.kA
        have prep2 := prepD.fr f12 lisD bA
        refine ⟨.ref q, _, rfl, .dat res'.dp, w1, w2, w3, _, rfl, .ref due, _, rfl, .dat prep2.res.dp, w1, w2, w3, rfl, _, rfl, ?_⟩
        rw [neS rfl]
        refine iteF ?_
        have LbD : Lis [b, pk] D1 := lisD.mono bA
        have out : ∀ {z : Addr} {o : HO}, z ∉ gl :: A → D1 z = some o → z ∉ A' := fun {z o} nz e hm => by
          rcases newA' z hm with q | q
          · exact nz q
          · rw [e] at q; cases q
        have nA' : ∀ z ∈ [a, j, h, c], z ∉ A' := fun z hz => by
          obtain ⟨o, e⟩ := mD.there z hz
          exact out (nA3 z hz) e
        have m2' := mD.fr f12 LbD (fun z hz hm => nA3 z hz (bA z hm))
        have lgs2' := lgsD.step f12 bA lisD.dom newA'
        have bl : ∀ {z : Addr}, z ∈ [b, pk] → z ≠ p ∧ z ≠ lg := fun {z} hz => ds z (by simp only [List.mem_cons, List.not_mem_nil, or_false] at hz ⊢; rcases hz with q | q <;> simp [q])
        have hl2' := f12 _ _ (fun hm => (bl hm).2 rfl) hlD
        have hp2' : PoolAt D2 p := by
          obtain ⟨u, w', e, e2⟩ := hpD
          exact ⟨u, w', f12 _ _ (fun hm => (bl hm).1 rfl) e, e2⟩
        have fA' : ∀ z ∈ A', NoH H0 z := fun z hz => by
          rcases newA' z hz with q | q
          · exact fA3 z q
          · exact NoH.ext xtD q
        have xt2' := extFrN xtD f12 (fun z hz => fA3 z (bA z hz))
        have tb2' := tabsFr tbD LbD f12
        have ds' : ∀ z ∈ [b, so2, nl2, pl2, pk], z ≠ p ∧ z ≠ lg := fun z hz => by
          obtain ⟨u, w', e, _⟩ := hpD
          rcases frs with ⟨q1, q2, q3⟩ | fr'
          · rw [q1, q2, q3] at hz
            exact ds z hz
          · simp only [List.mem_cons, List.not_mem_nil, or_false] at hz
            have nn : ∀ {y : Addr}, D1 y = none → y ≠ p ∧ y ≠ lg := fun {y} n => ⟨(fun q => by rw [q, e] at n; cases n), (fun q => by rw [q, hlD] at n; cases n)⟩
            rcases hz with q | q | q | q | q
            · exact ds z (by rw [q]; simp)
            · exact nn (fr' z (by rw [q]; simp))
            · exact nn (fr' z (by rw [q]; simp))
            · exact nn (fr' z (by rw [q]; simp))
            · exact ds z (by rw [q]; simp)
        refine ⟨fun σ G7 => σ = [some (.ref a0), some (.int (0 + i)), some (.ref p), some (.ref a), some (.ref b), some (.ref lg), some (.int (0 + i2)), some (.ref a2), some (.ref rows), some (.ref due), v10, v11, v12, v13, v14, some (.ref ga), v16, v17] ∧ ∃ L : List Addr, FrL L D2 G7 ∧ (∀ z ∈ L, z = gl) ∧ Lis L D2 ∧ Lis L G7, ?_, ?_⟩
        · have hga2 : (ga = gl ∧ D2 ga = some (.lst xs)) ∨ D2 ga = some (.tup xs) := by
            rcases hgaD with ⟨q, e⟩ | e
            · refine .inl ⟨q, f12 _ _ (fun hm => ?_) e⟩
              have hb1 : ∀ z ∈ [b, pk], ∃ o, G2 z = some o := fun z hz => by
                have hz' : z ∈ A := by
                  simp only [List.mem_cons, List.not_mem_nil, or_false] at hz
                  rcases hz with r | r <;> rw [r]
                  · exact bd2.bA
                  · exact bd2.kA
                rcases lis2 z hz' with ⟨ys, e'⟩ | ⟨C, dx, fs, e'⟩
                · exact ⟨_, e'⟩
                · exact ⟨_, e'⟩
              obtain ⟨o, e'⟩ := hb1 _ hm
              rw [q, ngl] at e'
              cases e'
            · refine .inr (f12 _ _ (fun hm => ?_) e)
              rcases LbD _ hm with ⟨ys, e'⟩ | ⟨C, dx, fs, e'⟩
              · rw [e] at e'; cases e'
              · rw [e] at e'; cases e'
          rcases hga2 with ⟨q, e⟩ | e
          · refine ⟨_, rfl, .ref ga, _, _, _, _, rfl, .ty _, .base (.lst e), (kit_ty (by decide +kernel) : PySem.W.kitOne K (.type "list") (.type "list") = some true), _, rfl, ?_⟩
            refine iteT ⟨_, rfl, .inl ⟨rfl, _, SqL.of e⟩, ga, _, _, rfl, rfl, e, by rw [sizeLine_eq]; omega, ?_⟩
            refine ⟨rfl, [gl], by rw [q]; exact frUpd (by simp), fun z hz => List.mem_singleton.mp hz, fun z hz => ?_, fun z hz => ?_⟩
            · rw [List.mem_singleton.mp hz, ← q]; exact .inl ⟨_, e⟩
            · rw [List.mem_singleton.mp hz, ← q, upd_same]; exact .inl ⟨_, rfl⟩
          · refine ⟨_, rfl, .ref ga, _, _, _, _, rfl, .ty _, .base (.tup e), (kit_ty (by decide +kernel) : PySem.W.kitOne K (.type "tuple") (.type "list") = some false), _, rfl, ?_⟩
            exact iteF ⟨rfl, [], fun z o _ e => e, fun z hz => (by cases hz), fun z hz => (by cases hz), fun z hz => by cases hz⟩
        · rintro σ G7 ⟨rfl, L, f27, Lgl, L2, L7⟩
          have Lin : ∀ z ∈ L, z ∈ gl :: A := fun z hz => by rw [Lgl z hz]; exact List.mem_cons_self
          have Lin' : ∀ z ∈ L, z ∈ A' := fun z hz => subA' z (Lin z hz)
          have exD : ∀ {z : Addr} {o : HO}, z ≠ gl → z ∉ L := fun {z o} n hm => n (Lgl z hm)
          have prep7 := prep2.fr f27 (lisD.fr f12 (lis'.mono (fun z hz => subA' z (bA z hz)))) Lin
          have hglD : D1 gl = some (.lst xs) := xt9 _ _ hgl6 (fun _ z => by cases z)
          have bd7 := bd'.keep f27 Lin' (fun z hz hm => by
            have old : ∀ {z : Addr}, z ∈ A → z ∉ L := fun {z} hz hm => by
              rcases lis2 z hz with ⟨ys, e'⟩ | ⟨C, dx, fs, e'⟩
              · rw [Lgl z hm, ngl] at e'; cases e'
              · rw [Lgl z hm, ngl] at e'; cases e'
            have olds : ∀ z ∈ [b, so, nl, pl, pk], z ∈ A := fun z hz => by
              simp only [List.mem_cons, List.not_mem_nil, or_false] at hz
              rcases hz with q | q | q | q | q
              · rw [q]; exact bd2.bA
              · exact bd2.sub z (by rw [q]; simp)
              · exact bd2.sub z (by rw [q]; simp)
              · exact bd2.sub z (by rw [q]; simp)
              · exact bd2.sub z (by rw [q]; simp)
            rcases frs with ⟨q1, q2, q3⟩ | fr'
            · rw [q1, q2, q3] at hz
              exact old (olds z hz) hm
            · have nn : D1 z = none → False := fun n => by rw [Lgl z hm, hglD] at n; cases n
              simp only [List.mem_cons, List.not_mem_nil, or_false] at hz
              rcases hz with q | q | q | q | q
              · exact old (olds z (by rw [q]; simp)) hm
              · exact nn (fr' z (by rw [q]; simp))
              · exact nn (fr' z (by rw [q]; simp))
              · exact nn (fr' z (by rw [q]; simp))
              · exact old (olds z (by rw [q]; simp)) hm) L7.dom
          have lis7 := lis'.fr f27 L7
          have m7 := m2'.fr f27 L2 (fun z hz hm => nA' z hz (Lin' z hm))
          have lgs7 := lgs2'.fr f27 Lin' lis'.dom
          have gl2 : ∀ {z : Addr} {o : HO}, G2 z = some o → z ∉ L := fun {z o} e hm => by
            rw [Lgl z hm, ngl] at e; cases e
          have pgl : p ∉ L := by
            obtain ⟨u, w', e, _⟩ := hp2
            exact gl2 e
          have hp7 : PoolAt G7 p := by
            obtain ⟨u, w', e, e2⟩ := hp2'
            exact ⟨u, w', f27 _ _ pgl e, e2⟩
          have hl7 := f27 _ _ (gl2 hl2) hl2'
          have tb7 := tabsFr tb2' L2 f27
          have xt7 := extFrN xt2' f27 (fun z hz => fA' z (Lin' z hz))
          obtain ⟨dv, hdue⟩ := prep7.res.head
          refine ⟨fun σ G8 => ∃ (a' : Addr) (w7 w8 w9 w10 w11 w12 w13 w14 w15 w16 w17 : Option V), σ = [some (.ref a0), some (.int (0 + i)), some (.ref p), some (.ref a'), some (.ref b), some (.ref lg), some (.int (0 + i2)), w7, w8, w9, w10, w11, w12, w13, w14, w15, w16, w17] ∧ LI72 CG CT CB Pt H0 p b lg (i2 + 1) G8 a', ?_, ?_⟩
          · refine ⟨_, rfl, due, _, (0 : Int), _, rfl, rfl, SqL.of hdue, atI_nat (j := 0) rfl, rfl, _, rfl, ?_⟩
            rcases cs with ⟨ke, e, rfl, rfl⟩ | ⟨r, ops, e, eo, rfl, rfl⟩
            · rw [resF e]
              refine iteF ⟨a, _, _, _, _, _, _, _, _, _, _, _, rfl, A', so2, pk, M', g', nl2, pl2, log', ts, j, h, c, xt7, fA', hp7, tb7, bd7, lis7, ⟨subA' p (List.mem_cons_of_mem _ pA), subA' lg (List.mem_cons_of_mem _ lA), pl', ds'⟩, m7, nA', hl7, lgs7, by omega, okm, sE, ?_, bs.mono (by omega), ls⟩
              exact bx.mono (Nat.mul_le_mul_right BIG (Nat.pow_le_pow_right (by decide) (by omega)))
            · rw [resT e]
              obtain ⟨ops', ts3, j3, h3, c3, e1, e2, l4, oS, ho3, mr, nr3⟩ := prepD.good r e
              rw [e1] at eo
              obtain rfl := someInj eo
              refine iteT ⟨_, rfl, _, rfl, .inl ⟨rfl, _, SqL.of hl7⟩, _, rfl, by show 2 ≤ sizeLine; decide, fun tT ntT => ?_⟩
              obtain ⟨G8, e8, s8, htT⟩ := newAt (.tup [V.str "together", V.ref rows]) ntT
              rw [e8]
              have hl8 := s8 _ _ hl7
              refine ⟨lg, _, _, rfl, rfl, hl8, by rw [List.length_map, lgs7.1, sizeLine_eq]; omega, ?_⟩
              obtain ⟨G9, e9⟩ : ∃ G9, upd G8 lg (.lst ((ts ++ [tT]).map V.ref)) = G9 := ⟨_, rfl⟩
              have e9' : upd G8 lg (.lst (ts.map V.ref ++ [V.ref tT])) = G9 := by rw [← e9, List.map_append]; rfl
              rw [e9']
              have f89 : FrL [lg] G8 G9 := by rw [← e9]; exact frUpd (by simp)
              have hl9 : G9 lg = some (.lst ((ts ++ [tT]).map V.ref)) := by rw [← e9, upd_same]
              have Ll8 : Lis [lg] G8 := fun z hz => by rw [List.mem_singleton.mp hz]; exact .inl ⟨_, hl8⟩
              have Ll9 : Lis [lg] G9 := fun z hz => by rw [List.mem_singleton.mp hz]; exact .inl ⟨_, hl9⟩
              have subl : ∀ z ∈ [lg], z ∈ A' := fun z hz => by rw [List.mem_singleton.mp hz]; exact subA' lg (List.mem_cons_of_mem _ lA)
              have rA' : rows ∉ A' := out prepD.rA prepD.rw_
              have nr' : ∀ z ∈ [a2, j3, h3, c3], z ∉ A' := fun z hz => by
                obtain ⟨o, e'⟩ := mr.there z hz
                exact out (nr3 z hz) e'
              have ho8 := (((ho3.fr f12 bA lisD.dom).fr f27 Lin' lis'.dom).same s8)
              have hrw8 := s8 _ _ prep7.rw_
              have lis8 := lis7.same s8
              have m8 := ((mr.fr f12 LbD (fun z hz hm => nr3 z hz (bA z hm))).fr f27 L2 (fun z hz hm => nr' z hz (Lin' z hm))).same s8
              have nlg : ∀ {z : Addr}, z ∉ A' → z ∉ [lg] := fun {z} n hm => n (subl z hm)
              have l1 := lgs7.same s8
              have hrow9 := f89 _ _ (nlg rA') hrw8
              rw [e2] at hrow9
              have entry : LgAt A' G9 tT (.many ops' r.2.2.reverse) := ⟨l4, oS, rows, ts3, rA', f89 _ _ (fun hm => by rw [List.mem_singleton.mp hm, hl8] at htT; cases htT) htT, hrow9, ho8.fr f89 subl lis8.dom⟩
              have lops : its.length ≤ 4 := by rw [e1, List.length_map]; exact l4
              obtain ⟨k1, k2, k3, k4, k5⟩ := runOk e prep.ok okm sE prep.all (C := 81 ^ (4 * i2) * BIG) (C' := 4 * i2) (Nat.le_mul_of_pos_left BIG (Nat.pow_pos (by decide))) bx bs
              refine ⟨a2, _, _, _, _, _, _, _, _, _, _, _, rfl, A', so2, pk, r.1, g', nl2, pl2, _, ts ++ [tT], j3, h3, c3, extFrN (xt7.trans (Same.ext s8)) f89 (fun z hz => fA' z (subl z hz)), fA', ?_, tabsFr (Same.tabs s8 tb7) Ll8 f89, (bd7.same s8).keep f89 subl (fun z hz hm => (ds' z hz).2 (List.mem_singleton.mp hm)) Ll9.dom, lis8.fr f89 Ll9, ⟨subA' p (List.mem_cons_of_mem _ pA), subA' lg (List.mem_cons_of_mem _ lA), pl', ds'⟩, m8.fr f89 Ll8 (fun z hz => nlg (nr' z hz)), nr', hl9, (l1.fr f89 subl lis8.dom).snoc entry, by rw [List.length_append]; show log.length + 1 ≤ i2 + 1; omega, k1, k2, ?_, k4.mono (by omega), by rw [k5]; exact ls⟩
              · obtain ⟨u, w', e1, e2⟩ := hp7
                exact ⟨u, w', f89 _ _ (by simp [pl']) (s8 _ _ e1), e2⟩
              · refine k3.mono ?_
                rw [← Nat.mul_assoc, ← Nat.pow_add]
                exact Nat.mul_le_mul_right BIG (Nat.pow_le_pow_right (by decide) (by omega))
          · rintro σ G8 ⟨a', w7, w8, w9, w10, w11, w12, w13, w14, w15, w16, w17, rfl, hLI⟩
            obtain ⟨A8, so8, pk8, M8, g8, nl8, pl8, log8, ts8, j8, h8, c8, xt8, fA8, hp8, tb8, bd8, lis8, ds8, m8, nA8, hl8, lgs8, ll8, okm8, sE8, bx8, bs8, ls8⟩ := id hLI
            have i24 : i2 + 1 ≤ 4 := by omega
            have hx100 : ∀ o ∈ M8.x, o.natAbs < 10 ^ 100 := fun o ho => Nat.lt_of_le_of_lt (bx8 o ho) (pow100 (by omega))
            have hs100 : ∀ o ∈ M8.sc, o.natAbs < 10 ^ 100 := fun o ho => Nat.lt_of_le_of_lt (bs8 o ho) (Nat.lt_of_le_of_lt (show 4 * (i2 + 1) ≤ 16 by omega) (by decide +kernel))
            obtain ⟨y1, y2, y3⟩ := shwLine (lgs8.shw (by omega)) (by decide) (by decide)
            refine ⟨_, rfl, _, rfl, A8, b, so8, pk8, M8, g8, nl8, pl8, log8, a', j8, h8, c8, rfl, bd8, m8, hx100, hs100, by omega, fun J7 z7 => ⟨_, rfl, iteF ?_⟩⟩
            have bdf := bd8.same z7
            obtain ⟨dxf, hbf⟩ := bdf.obj
            refine ⟨_, rfl, b, dxf, _, rfl, hbf, rfl, A8, b, so8, pk8, M8, g8, nl8, pl8, log8, rfl, bdf, fun q8 tq8 J8 nq8 z8 hq8 ho8 => ?_⟩
            have z08 := z7.trans z8
            refine ⟨.ref q8, .list (log8.map entD), rfl, .dat (.lst (SqL.of hq8) (dpLogs ho8)), y1, y2, y3, _, rfl, .ref lg, .list (log8.map entD), rfl, .dat (.lst (SqL.of (z08 _ _ hl8)) (dpLgs (lgs8.same z08))), y1, y2, y3, rfl, _, rfl, ?_⟩
            rw [neS rfl]
            have bdg := bd8.same z08
            obtain ⟨dxg', hbg⟩ := bdg.obj
            refine iteF ⟨_, rfl, b, dxg', _, rfl, hbg, A8, b, so8, pk8, M8, g8, nl8, pl8, log8, rfl, bdg, (log8.length : Int), rfl, by omega, by omega, _, rfl, lg, _, rfl, .inl (SqL.of (z08 _ _ hl8)), rfl, _, rfl, ?_⟩
            rw [show (!decide (V.int (log8.length : Int) = V.int ((ts8.map V.ref).length : Int))) = false by
              rw [List.length_map, lgs8.1, decide_eq_true rfl]
              rfl]
            exact iteF ⟨_, _, _, _, _, _, _, _, _, _, _, _, a', rfl, hLI.same z08⟩
    · clear start
      obtain ⟨v6, v7, v8, v9, v10, v11, v12, v13, v14, v15, v16, v17, a, rfl, A, so, pk, mo, g, nl, pl, log, ts, j, h, c, xt, fA, hp, tb, bd, lis, ⟨pA, lA, pl', ds⟩, m, nA, hl, lgs, ll, okm, sE, bx, bs, ls⟩ := hG
      obtain ⟨dxb, hb⟩ := bd.obj
      have hx100 : ∀ o ∈ mo.x, o.natAbs < 10 ^ 100 := fun o ho => Nat.lt_of_le_of_lt (bx o ho) (pow100 (by omega))
      have hs100 : ∀ o ∈ mo.sc, o.natAbs < 10 ^ 100 := fun o ho => Nat.lt_of_le_of_lt (bs o ho) (Nat.lt_of_le_of_lt (show 4 * ((1 + (tn' : Int)).toNat) ≤ 16 by omega) (by decide +kernel))
      refine ⟨_, rfl, b, dxb, _, rfl, hb, rfl, by show 0 ≤ sizeLine; decide, fun T nT => ?_⟩
      obtain ⟨G1, e1, s1, hT⟩ := newAt (.tup []) nT
      rw [e1]
      have bd1 := bd.same s1
      have bA : ∀ z ∈ [b, pk], z ∈ A := fun z hz => by
        simp only [List.mem_cons, List.not_mem_nil, or_false] at hz
        rcases hz with q | q <;> rw [q]
        · exact bd.bA
        · exact bd.kA
      refine ⟨A, b, so, pk, mo, g, nl, pl, log, T, [], [], [], rfl, bd1, by omega, .inr hT, by show 0 ≤ 100; decide, rfl, rfl, (fun k v e => by simp at e), True.intro, ?_⟩
      intro A' so2 nl2 pl2 g' q ops G2 f12 subA' newA' lis' eo bd' fr' nq hq
      have eo' : ops = [] := by
        cases ops with
        | nil => rfl
        | cons o os => cases eo
      subst eo'
      have m2 := (m.same s1).fr f12 ((lis.same s1).mono bA) (fun z hz hm => nA z hz (bA z hm))
      have xt2 := extFrN (xt.trans (Same.ext s1)) f12 (fun z hz => fA z (bA z hz))
      have tb2 := tabsFr (Same.tabs s1 tb) ((lis.same s1).mono bA) f12
      refine ⟨by show 0 ≤ sizeLine; decide, fun n1 nn1 => ?_⟩
      obtain ⟨G3, e3, s3, hn1⟩ := newAt (.lst []) nn1
      rw [e3]
      refine ⟨.list [], .list [], .lst (SqL.of (s3 _ _ hq)) .nil, .lst (SqL.of hn1) .nil, shapedNil, shapedNil, _, rfl, ?_⟩
      rw [eqvSame shapedNil]
      refine iteF ?_
      have bd3 := bd'.same s3
      obtain ⟨dx3, hb3⟩ := bd3.obj
      refine ⟨_, rfl, b, dx3, _, rfl, hb3, rfl, A', b, so2, pk, mo, g', nl2, pl2, _, rfl, bd3, fun q4 ts4 G4 nq4 s4 hq4 ho4 => ?_⟩
      obtain ⟨ts4', t4, l4, rfl, ht4, _, hl4⟩ := lastLog ho4
      rw [List.map_append] at hq4
      refine ⟨_, rfl, q4, _, (-1 : Int), .ref t4, rfl, rfl, SqL.of hq4, atI_last _ _, ?_⟩
      refine ⟨by show 0 ≤ sizeLine; decide, fun n5 nn5 => ?_⟩
      obtain ⟨G5, e5, s5, hn5⟩ := newAt (.lst []) nn5
      rw [e5]
      refine ⟨by show 2 ≤ sizeLine; decide, fun n6 nn6 => ?_⟩
      obtain ⟨G6, e6, s6, hn6⟩ := newAt (.tup [V.str "together", V.ref n5]) nn6
      rw [e6]
      have s46 := s5.trans s6
      refine ⟨.tuple [.str "together", .list []], .tuple [.str "together", .list []], .tup (SqT.of (s46 _ _ ht4)) (.cons (.str _) (.cons (.lst (SqL.of (s46 _ _ hl4)) .nil) .nil)), .tup (SqT.of hn6) (.cons (.str _) (.cons (.lst (SqL.of (s6 _ _ hn5)) .nil) .nil)), shapedTog, shapedTog, _, rfl, ?_⟩
      rw [eqvSame shapedTog]
      refine iteF ?_
      have s36 := s4.trans s46
      have bd6 := bd3.same s36
      obtain ⟨dx6, hb6⟩ := bd6.obj
      refine ⟨_, rfl, b, dx6, _, rfl, hb6, rfl, A', b, so2, pk, mo, g', nl2, pl2, _, rfl, bd6, fun q7 ts7 G7 nq7 s7 hq7 ho7 => ?_⟩
      obtain ⟨ts7', t7, l7, rfl, ht7, nl7, hl7⟩ := lastLog ho7
      rw [List.map_append] at hq7
      refine ⟨_, rfl, q7, _, (-1 : Int), .ref t7, rfl, rfl, SqL.of hq7, atI_last _ _, ?_⟩
      refine ⟨t7, _, (1 : Int), .ref l7, rfl, rfl, SqT.of ht7, atI_nat (j := 1) rfl, .inl ⟨rfl, _, SqL.of hl7⟩, l7, _, _, rfl, rfl, hl7, by show 0 < sizeLine; decide, ?_⟩
      obtain ⟨G8, e8⟩ : ∃ G8, upd G7 l7 (.lst [V.int 0]) = G8 := ⟨_, rfl⟩
      have e8' : upd G7 l7 (.lst ([] ++ [V.int 0])) = G8 := e8
      rw [e8']
      have s68 : Same G6 G8 := fun z o e => by rw [← e8, upd_ne (ne_of_none e nl7)]; exact s7 _ _ e
      have bd8 := bd6.same s68
      obtain ⟨dx8, hb8⟩ := bd8.obj
      refine ⟨_, rfl, b, dx8, _, rfl, hb8, rfl, A', b, so2, pk, mo, g', nl2, pl2, _, rfl, bd8, fun q9 ts9 G9 nq9 s9 hq9 ho9 => ?_⟩
      obtain ⟨ts9', t9, l9, rfl, ht9, nl9, hl9⟩ := lastLog ho9
      rw [List.map_append] at hq9
      refine ⟨_, rfl, q9, _, (-1 : Int), .ref t9, rfl, rfl, SqL.of hq9, atI_last _ _, ?_⟩
      refine ⟨by show 0 ≤ sizeLine; decide, fun m5 nm5 => ?_⟩
      obtain ⟨K5, k5, z5, hm5⟩ := newAt (.lst []) nm5
      rw [k5]
      refine ⟨by show 2 ≤ sizeLine; decide, fun m6 nm6 => ?_⟩
      obtain ⟨K6, k6, z6, hm6⟩ := newAt (.tup [V.str "together", V.ref m5]) nm6
      rw [k6]
      have z56 := z5.trans z6
      refine ⟨.tuple [.str "together", .list []], .tuple [.str "together", .list []], .tup (SqT.of (z56 _ _ ht9)) (.cons (.str _) (.cons (.lst (SqL.of (z56 _ _ hl9)) .nil) .nil)), .tup (SqT.of hm6) (.cons (.str _) (.cons (.lst (SqL.of (z6 _ _ hm5)) .nil) .nil)), shapedTog, shapedTog, _, rfl, ?_⟩
      rw [eqvSame shapedTog]
      refine iteF ?_
      have s8K := s9.trans z56
      have s2K := s3.trans (s36.trans (s68.trans s8K))
      refine ⟨_, rfl, _, rfl, A', b, so2, pk, mo, g', nl2, pl2, _, a, j, h, c, rfl, bd8.same s8K, m2.same s2K, hx100, hs100, by omega, fun J7 z7 => ⟨_, rfl, iteF ?_⟩⟩
      exact ⟨_, _, _, _, _, _, _, _, _, _, _, _, _, _, _, _, _, rfl, sqLExt hS0 (xt2.trans (Same.ext (s2K.trans z7))), Same.tabs (s2K.trans z7) tb2⟩
end
end K72
set_option Elab.async false
set_option linter.all false
set_option maxRecDepth 100000
set_option maxHeartbeats 8000000
namespace FNX
open PySem PySem.Spec PyProof.Rows L2
section
variable {K : PySem.W.Frag} {h : Heap} {mg : Str → Option Value} {x qual : Str} {C f N T e : Addr} {st : Stmt} {od an odT : Option Addr} {oc kV doc pm cd ct ocT : Value} {sl slT : Array (Option Value)} {nT : Nat}
/-- an `__init__` without defaults -/
def In0 (K : PySem.W.Frag) (C : Addr) (qual : Str) (st : Stmt) (f : Addr) : Prop := Mk K C f ∧ ∃ fd, Fun K "__init__" qual st f fd
theorem mkIn0 (mk : PySem.W.makesIn K C = true) (a1 : PySem.W.findIn K (.ref C) "__init__" = some (some (.ref f))) (fn : PySem.W.isFn K (.ref f) = true) (kC : PySem.W.keepIn K (.ref C) = true)
    (l1 : K.lookup f = some ⟨oc, od, .func (PySem.W.fnOf "__init__" qual (defArgs st) (defBody st) (defScope st) .none kV doc pm an cd ct), sl⟩)
    (c1 : PySem.W.codeIn K cd qual = true) (kf : PySem.W.keepIn K (.ref f) = true) : In0 K C qual st f := ⟨⟨mk, a1, fn, kC⟩, _, fun_mk l1 c1 kf⟩
/-- an `__init__` with one int for a default -/
def InI (K : PySem.W.Frag) (C : Addr) (qual : Str) (st : Stmt) (f : Addr) (i : Int) : Prop := Mk K C f ∧ ∃ fd, FunD K "__init__" qual (defArgs st) (defBody st) (defScope st) [.int i] [] f fd
theorem mkInI {i : Int} {tk : Tok} (mk : PySem.W.makesIn K C = true) (a1 : PySem.W.findIn K (.ref C) "__init__" = some (some (.ref f))) (fn : PySem.W.isFn K (.ref f) = true) (kC : PySem.W.keepIn K (.ref C) = true)
    (l1 : K.lookup f = some ⟨oc, od, .func (PySem.W.fnOf "__init__" qual (defArgs st) (defBody st) (defScope st) (.ref T) kV doc pm an cd ct), sl⟩) (lT : K.lookup T = some ⟨ocT, odT, .seq #[.int i tk] nT, slT⟩)
    (c1 : PySem.W.codeIn K cd qual = true) (kf : PySem.W.keepIn K (.ref f) = true) : InI K C qual st f i :=
  ⟨⟨mk, a1, fn, kC⟩, _, ⟨oc, od, .ref T, kV, doc, pm, an, cd, ct, sl, rfl, l1, c1, .inr ⟨by simp, T, _, [.int i tk], nT, rfl, lT, rfl, .cons ⟨tk, rfl⟩ .nil⟩, .inl rfl⟩, kf⟩
/-- a dict of the top whose values are defs -/
structure DctF (K : PySem.W.Frag) (w : World) (a : Addr) : Prop where
  ex : ∃ es n, List.lookup a K = some { cls := .type "dict", data := .dict es n } ∧ PySem.W.KeysLit w.params es.toList
theorem DctF.at {w : World} {a f : Addr} {x : Str} (d : DctF K w a) (h : PySem.W.nsIn K a x = some (some (.ref f))) : KDct K w a x (.ref f) := by
  obtain ⟨es, n, h1, h2⟩ := d.ex
  exact ⟨es, n, .ref f, h1, h2, h, rfl⟩
theorem mkDct {w : World} {a : Addr} {es : Array DictEntry} {n : Nat} (h1 : List.lookup a K = some { cls := .type "dict", data := .dict es n }) (h2 : PySem.W.KeysLit w.params es.toList) : DctF K w a := ⟨es, n, h1, h2⟩
end
end FNX
set_option Elab.async false
set_option linter.all false
set_option maxRecDepth 100000
set_option maxHeartbeats 8000000
namespace K72
open PySem PySem.Spec PyProof.Rows L2 FNX
theorem kask_of {K : PySem.W.Frag} {w : World} {aB : Addr} (d : FNX.DctF K w aB) (hs : (aB == sysModules) = false) {z : Str} {r : Option Value} (h : PySem.W.nsIn K aB z = some r) : KAsk K w aB z r := by
  obtain ⟨es, n, h1, h2⟩ := d.ex
  exact ⟨es, n, h1, h2, h, hs⟩
theorem takes_some {K : PySem.W.Frag} {aB : Addr} {z : Str} {k : Int} {tk : Tok} (h : PySem.W.nsIn K aB z = some (some (.int k tk))) : takesD K aB z = some k := by
  unfold takesD
  rw [h]
theorem takes_no {K : PySem.W.Frag} {aB : Addr} {z : Str} (h : PySem.W.nsIn K aB z = some none) : takesD K aB z = none := by
  unfold takesD
  rw [h]
theorem ask_some {K : PySem.W.Frag} {w : World} {aB : Addr} (d : FNX.DctF K w aB) (hs : (aB == sysModules) = false) {z : Str} {k : Int} {tk : Tok} (h : PySem.W.nsIn K aB z = some (some (.int k tk))) (ds : List PyData) : AskOk K w aB (.tuple (.str z :: ds)) := fun z' ds' e => by
  injection e with e
  injection e with e1 e2
  injection e1 with e1
  subst e1
  exact ⟨some (.int k tk), kask_of d hs h, fun u hu => by cases hu; exact ⟨_, _, rfl⟩⟩
theorem ask_no {K : PySem.W.Frag} {w : World} {aB : Addr} (d : FNX.DctF K w aB) (hs : (aB == sysModules) = false) {z : Str} (h : PySem.W.nsIn K aB z = some none) (ds : List PyData) : AskOk K w aB (.tuple (.str z :: ds)) := fun z' ds' e => by
  injection e with e
  injection e with e1 e2
  injection e1 with e1
  subst e1
  exact ⟨none, kask_of d hs h, fun u hu => by cases hu⟩
theorem opOk_some {K : PySem.W.Frag} {aB : Addr} {z : Str} {k : Int} {tk : Tok} (h : PySem.W.nsIn K aB z = some (some (.int k tk))) (ds : List PyData) : opOkD K aB (.tuple (.str z :: ds)) = decide (((ds.length + 1 : Nat) : Int) = 1 + k) := by
  show (match takesD K aB z with | some k => decide (((ds.length + 1 : Nat) : Int) = 1 + k) | none => false) = _
  rw [takes_some h]
theorem opOk_no {K : PySem.W.Frag} {aB : Addr} {z : Str} (h : PySem.W.nsIn K aB z = some none) (ds : List PyData) : opOkD K aB (.tuple (.str z :: ds)) = false := by
  show (match takesD K aB z with | some k => decide (((ds.length + 1 : Nat) : Int) = 1 + k) | none => false) = _
  rw [takes_no h]
section
variable {K : PySem.W.Frag} {w : World} {aB : Addr} {t1 t2 t3 t4 t5 : Tok}
theorem ak_of (d : FNX.DctF K w aB) (hs : (aB == sysModules) = false) (h1 : PySem.W.nsIn K aB "fire" = some (some (.int 2 t1))) (h2 : PySem.W.nsIn K aB "put" = some (some (.int 2 t2))) (h3 : PySem.W.nsIn K aB "add_node" = some (some (.int 1 t3)))
    (h4 : PySem.W.nsIn K aB "add_edge" = some (some (.int 2 t4))) (h5 : PySem.W.nsIn K aB "remove_edge" = some (some (.int 2 t5))) : ∀ o, isFive o = true → opOkD K aB (opD o) = true ∧ AskOk K w aB (opD o) := fun o h => by
  cases o with
  | back p v => cases h
  | drop => cases h
  | fire p v => exact ⟨(opOk_some h1 _).trans rfl, ask_some d hs h1 _⟩
  | put v z => exact ⟨(opOk_some h2 _).trans rfl, ask_some d hs h2 _⟩
  | add z => exact ⟨(opOk_some h3 _).trans rfl, ask_some d hs h3 _⟩
  | join a b => exact ⟨(opOk_some h4 _).trans rfl, ask_some d hs h4 _⟩
  | part a b => exact ⟨(opOk_some h5 _).trans rfl, ask_some d hs h5 _⟩
theorem ab_of (d : FNX.DctF K w aB) (hs : (aB == sysModules) = false) (h1 : PySem.W.nsIn K aB "fire" = some (some (.int 2 t1))) (h2 : PySem.W.nsIn K aB "put" = some (some (.int 2 t2))) (h3 : PySem.W.nsIn K aB "add_node" = some (some (.int 1 t3)))
    (n1 : PySem.W.nsIn K aB "undo" = some none) (n2 : PySem.W.nsIn K aB "together" = some none) (n3 : PySem.W.nsIn K aB "play_on" = some none) (n4 : PySem.W.nsIn K aB "Put" = some none) : ∀ x ∈ oddD, opOkD K aB x = false ∧ AskOk K w aB x := fun x hx => by
  unfold oddD at hx
  simp only [List.mem_cons, List.not_mem_nil, or_false] at hx
  have no : ∀ {x : PyData}, (∀ z ds, x ≠ .tuple (.str z :: ds)) → AskOk K w aB x := fun {x} n z ds e => absurd e (n z ds)
  rcases hx with rfl | rfl | rfl | rfl | rfl | rfl | rfl | rfl | rfl | rfl | rfl | rfl | rfl | rfl | rfl | rfl
  · exact ⟨rfl, no fun _ _ e => by cases e⟩
  · exact ⟨rfl, no fun _ _ e => by cases e⟩
  · exact ⟨rfl, no fun _ _ e => by cases e⟩
  · exact ⟨(opOk_some h1 _).trans rfl, ask_some d hs h1 _⟩
  · exact ⟨(opOk_some h1 _).trans rfl, ask_some d hs h1 _⟩
  · exact ⟨(opOk_some h1 _).trans rfl, ask_some d hs h1 _⟩
  · exact ⟨opOk_no n1 _, ask_no d hs n1 _⟩
  · exact ⟨opOk_no n2 _, ask_no d hs n2 _⟩
  · exact ⟨rfl, no fun _ _ e => by cases e⟩
  · exact ⟨rfl, no fun _ _ e => by cases e⟩
  · exact ⟨rfl, no fun _ _ e => by cases e⟩
  · exact ⟨opOk_no n3 _, ask_no d hs n3 _⟩
  · exact ⟨opOk_no n4 _, ask_no d hs n4 _⟩
  · exact ⟨(opOk_some h3 _).trans rfl, ask_some d hs h3 _⟩
  · exact ⟨rfl, no fun _ _ e => by cases e⟩
  · exact ⟨(opOk_some h2 _).trans rfl, ask_some d hs h2 _⟩
end
end K72
set_option Elab.async false
set_option linter.all false
set_option maxRecDepth 100000
set_option maxHeartbeats 8000000
namespace K72
open PySem PySem.Spec PyProof.Rows L2 FNX
section
variable {P : Program} {w : World} {K : PySem.W.Frag} {mg : Str → Option Value} {base : Heap} {CG : Addr} {CX : CXT} {k : Nat} {x qual : Str} {st : Stmt} {f : Addr} {ps : List Str} {sp : Sp}
theorem at_of (F : FnF K mg x st f) (ok : ∀ fd, Fun K x x st f fd → FnOk P w K mg base CX k f fd ps sp)
    (b : ∀ (kV doc pm : Value) (an : Option Addr) (cdv ct : Value) (us : List Value), us.length = ps.length → bindArgs (PySem.W.fnOf x x (defArgs st) (defBody st) (defScope st) .none kV doc pm an cdv ct) ⟨us, []⟩ = pure (ps.zip us)) : At P w K mg base CX k x ps sp := by
  obtain ⟨g, fd, F⟩ := F
  exact ⟨f, fd, ok fd F, g, F.kp, F.binds b⟩
theorem atG_of (F : FnF K mg x st f) (ok : ∀ fd, Fun K x x st f fd → GOk P w K mg base k f fd ps sp)
    (b : ∀ (kV doc pm : Value) (an : Option Addr) (cdv ct : Value) (us : List Value), us.length = ps.length → bindArgs (PySem.W.fnOf x x (defArgs st) (defBody st) (defScope st) .none kV doc pm an cdv ct) ⟨us, []⟩ = pure (ps.zip us)) : AtG P w K mg base k x ps sp := by
  obtain ⟨g, fd, F⟩ := F
  exact ⟨f, fd, ok fd F, g, F.kp, F.binds b⟩
theorem mat_of (F : MtF K CG x qual st f) (ok : ∀ fd, Fun K x qual st f fd → FnOk P w K mg base CX k f fd ps sp)
    (b : ∀ (kV doc pm : Value) (an : Option Addr) (cdv ct : Value) (us : List Value), us.length = ps.length → bindArgs (PySem.W.fnOf x qual (defArgs st) (defBody st) (defScope st) .none kV doc pm an cdv ct) ⟨us, []⟩ = pure (ps.zip us)) : MAt P w K mg base CG CX k x ps sp := by
  obtain ⟨m, fd, F⟩ := F
  exact ⟨f, fd, ok fd F, m, F.binds b⟩
end
theorem tInvalidSize : InitTxt s_InvalidSize_init := ⟨⟨rfl, rfl, rfl, by decide +kernel, rfl, by decide +kernel, by decide +kernel⟩, ⟨_, _, _, _, rfl⟩, fun _ _ _ _ _ _ _ us hl => match us, hl with | [_, _], _ => rfl, fun _ _ _ _ _ _ _ _ _ => rfl⟩
theorem tInvalidEdge : InitTxt s_InvalidEdge_init := ⟨⟨rfl, rfl, rfl, by decide +kernel, rfl, by decide +kernel, by decide +kernel⟩, ⟨_, _, _, _, rfl⟩, fun _ _ _ _ _ _ _ us hl => match us, hl with | [_, _], _ => rfl, fun _ _ _ _ _ _ _ _ _ => rfl⟩
theorem tInvalidNode : InitTxt s_InvalidNode_init := ⟨⟨rfl, rfl, rfl, by decide +kernel, rfl, by decide +kernel, by decide +kernel⟩, ⟨_, _, _, _, rfl⟩, fun _ _ _ _ _ _ _ us hl => match us, hl with | [_, _], _ => rfl, fun _ _ _ _ _ _ _ _ _ => rfl⟩
theorem tTooMany : InitTxt s_TooMany_init := ⟨⟨rfl, rfl, rfl, by decide +kernel, rfl, by decide +kernel, by decide +kernel⟩, ⟨_, _, _, _, rfl⟩, fun _ _ _ _ _ _ _ us hl => match us, hl with | [_, _], _ => rfl, fun _ _ _ _ _ _ _ _ _ => rfl⟩
theorem tInvalidPosition : InitTxt s_InvalidPosition_init := ⟨⟨rfl, rfl, rfl, by decide +kernel, rfl, by decide +kernel, by decide +kernel⟩, ⟨_, _, _, _, rfl⟩, fun _ _ _ _ _ _ _ us hl => match us, hl with | [_, _], _ => rfl, fun _ _ _ _ _ _ _ _ _ => rfl⟩
theorem tNoPlayer : InitTxt s_NoPlayer_init := ⟨⟨rfl, rfl, rfl, by decide +kernel, rfl, by decide +kernel, by decide +kernel⟩, ⟨_, _, _, _, rfl⟩, fun _ _ _ _ _ _ _ us hl => match us, hl with | [_, _], _ => rfl, fun _ _ _ _ _ _ _ _ _ => rfl⟩
theorem tNotNegative : InitTxt s_NotNegative_init := ⟨⟨rfl, rfl, rfl, by decide +kernel, rfl, by decide +kernel, by decide +kernel⟩, ⟨_, _, _, _, rfl⟩, fun _ _ _ _ _ _ _ us hl => match us, hl with | [_, _], _ => rfl, fun _ _ _ _ _ _ _ _ _ => rfl⟩
theorem tInvalidNumber : InitTxt s_InvalidNumber_init := ⟨⟨rfl, rfl, rfl, by decide +kernel, rfl, by decide +kernel, by decide +kernel⟩, ⟨_, _, _, _, rfl⟩, fun _ _ _ _ _ _ _ us hl => match us, hl with | [_, _], _ => rfl, fun _ _ _ _ _ _ _ _ _ => rfl⟩
theorem tInvalidOperation : InitTxt s_InvalidOperation_init := ⟨⟨rfl, rfl, rfl, by decide +kernel, rfl, by decide +kernel, by decide +kernel⟩, ⟨_, _, _, _, rfl⟩, fun _ _ _ _ _ _ _ us hl => match us, hl with | [_, _], _ => rfl, fun _ _ _ _ _ _ _ _ _ => rfl⟩
theorem all_mk {l : PySem.W.OpenLaw} {w : World} {K : PySem.W.Frag} {h : Heap} {mg : Str → Option Value} {fa fL cL tL fE  f0 f1 f2 f3 f4 f5 f6 f7 f8 f9 f10 f11 f12 f13 f14 f15 f16 f17 f18 f19 f20 f21 f22 f23 f24 f25 f26 f27 f28 f29 f30 f31 f32 f33 f34 f35 f36 f37 f38 f39 f40 f41 f42 f43 f44 f45 f46 f47 f48 c0 c1 c2 c3 c4 c5 c6 c7 c8 CG fI eT CT fI0 CB fI1 aA aB : Addr} {t0 t1 t2 u0 u1 u2 u3 u4 : Tok} (X : K.In h) (G : h.Ns mainGlobals mg) (hfa : mg "law" = some (.ref fa))
    (C0 : Cl K mg "InvalidSize" c0) (ty0 : PySem.W.typeIn K (.ref c0) = some (.type "type"))
    (C1 : Cl K mg "InvalidEdge" c1) (ty1 : PySem.W.typeIn K (.ref c1) = some (.type "type"))
    (C2 : Cl K mg "InvalidNode" c2) (ty2 : PySem.W.typeIn K (.ref c2) = some (.type "type"))
    (C3 : Cl K mg "TooMany" c3) (ty3 : PySem.W.typeIn K (.ref c3) = some (.type "type"))
    (C4 : Cl K mg "InvalidPosition" c4) (ty4 : PySem.W.typeIn K (.ref c4) = some (.type "type"))
    (C5 : Cl K mg "NoPlayer" c5) (ty5 : PySem.W.typeIn K (.ref c5) = some (.type "type"))
    (C6 : Cl K mg "NotNegative" c6) (ty6 : PySem.W.typeIn K (.ref c6) = some (.type "type"))
    (C7 : Cl K mg "InvalidNumber" c7) (ty7 : PySem.W.typeIn K (.ref c7) = some (.type "type"))
    (C8 : Cl K mg "InvalidOperation" c8) (ty8 : PySem.W.typeIn K (.ref c8) = some (.type "type"))
    (gG : PySem.W.nsIn K mainGlobals "Graph" = some (some (.ref CG)))
    (cl : Cls K CG) (n1 : PySem.W.findIn K (.ref CG) "node_count" = some none) (n2 : PySem.W.findIn K (.ref CG) "joined" = some none) (n3 : PySem.W.findIn K (.ref CG) "near" = some none) (FI : InF K CG "Graph.__init__" s_Graph_init fI eT)
    (gC0 : PySem.W.nsIn K mainGlobals "State" = some (some (.ref CT))) (cl0 : Cls K CT) (nC0_0 : PySem.W.findIn K (.ref CT) "drawn" = some none) (nC0_1 : PySem.W.findIn K (.ref CT) "numbers" = some none) (nC0_2 : PySem.W.findIn K (.ref CT) "points" = some none)
    (FC0 : In0 K CT "State.__init__" s_State_init fI0)
    (gC1 : PySem.W.nsIn K mainGlobals "Board" = some (some (.ref CB))) (cl1 : Cls K CB) (nC1_0 : PySem.W.findIn K (.ref CB) "state" = some none) (nC1_1 : PySem.W.findIn K (.ref CB) "past" = some none)
    (FC1 : InI K CB "Board.__init__" s_Board_init fI1 1)
    (F0 : FnF K mg "is_integer" s_is_integer f0)
    (F1 : FnF K mg "is_integer_within" s_is_integer_within f1)
    (F2 : FnF K mg "is_integer_list" s_is_integer_list f2)
    (F3 : FnF K mg "is_node" s_is_node f3)
    (F4 : FnF K mg "check_node" s_check_node f4)
    (F5 : FnF K mg "check_position" s_check_position f5)
    (F6 : FnF K mg "check_number" s_check_number f6)
    (F7 : FnF K mg "check_player" s_check_player f7)
    (F8 : FnF K mg "flip_in_place" s_flip_in_place f8)
    (F9 : FnF K mg "is_edge" s_is_edge f9)
    (F10 : FnF K mg "checked_edges" s_checked_edges f10)
    (F11 : FnF K mg "neighbour_lists" s_neighbour_lists f11)
    (F12 : MtF K CG "size" "Graph.size" s_Graph_size f12)
    (F13 : MtF K CG "edges" "Graph.edges" s_Graph_edges f13)
    (F14 : MtF K CG "neighbours" "Graph.neighbours" s_Graph_neighbours f14)
    (F15 : FnF K mg "fire_node" s_fire_node f15)
    (F16 : FnF K mg "put_number" s_put_number f16)
    (F17 : FnF K mg "append_node" s_append_node f17)
    (F18 : FnF K mg "checked_edge" s_checked_edge f18)
    (F19 : FnF K mg "join_nodes" s_join_nodes f19)
    (F20 : FnF K mg "part_nodes" s_part_nodes f20)
    (F21 : FnF K mg "perform" s_perform f21)
    (F22 : MtF K CT "copied" "State.copied" s_State_copied f22)
    (F23 : FnF K mg "check_operation" s_check_operation f23)
    (F24 : MtF K CB "together" "Board.together" s_Board_together f24)
    (F25 : MtF K CB "graph" "Board.graph" s_Board_graph f25)
    (F26 : MtF K CB "position" "Board.position" s_Board_position f26)
    (F27 : MtF K CB "scores" "Board.scores" s_Board_scores f27)
    (F28 : MtF K CB "__len__" "Board.__len__" s_Board_len f28)
    (F29 : FnF K mg "written" s_written f29)
    (F30 : MtF K CB "log" "Board.log" s_Board_log f30)
    (F31 : FnF K mg "_law_pool" s__law_pool f31)
    (F32 : FnF K mg "_law_take" s__law_take f32)
    (F33 : FnF K mg "_law_joins" s__law_joins f33)
    (F34 : FnF K mg "_law_near" s__law_near f34)
    (F35 : FnF K mg "_law_turned" s__law_turned f35)
    (F36 : FnF K mg "_law_number" s__law_number f36)
    (F37 : FnF K mg "_law_numbers" s__law_numbers f37)
    (F38 : FnF K mg "_law_model" s__law_model f38)
    (F39 : FnF K mg "_law_copy" s__law_copy f39)
    (F40 : FnF K mg "_law_edges_done" s__law_edges_done f40)
    (F41 : FnF K mg "_law_done" s__law_done f41)
    (F42 : FnF K mg "_law_row" s__law_row f42)
    (F43 : FnF K mg "_law_looks" s__law_looks f43)
    (F44 : FnF K mg "_law_start" s__law_start f44)
    (F45 : FnF K mg "_law_board" s__law_board f45)
    (F46 : FnF K mg "_law_several" s__law_several f46)
    (F47 : FnF K mg "_law_odd" s__law_odd f47)
    (F48 : FnF K mg "_law_tried" s__law_tried f48)
    (FE : FnF K mg "_law_told" s__law_told fE)
    (FL : FnC K mg "law" s_law fL cL tL)
    (gA : PySem.W.nsIn K mainGlobals "ACTIONS" = some (some (.ref aA))) (dA : DctF K w aA)
    (kA0 : PySem.W.nsIn K aA "fire" = some (some (.ref f15)))
    (kA1 : PySem.W.nsIn K aA "put" = some (some (.ref f16)))
    (kA2 : PySem.W.nsIn K aA "add_node" = some (some (.ref f17)))
    (kA3 : PySem.W.nsIn K aA "add_edge" = some (some (.ref f19)))
    (kA4 : PySem.W.nsIn K aA "remove_edge" = some (some (.ref f20)))
    (gB : PySem.W.nsIn K mainGlobals "ARGUMENTS" = some (some (.ref aB))) (dB : DctF K w aB)
    (kB0 : PySem.W.nsIn K aB "fire" = some (some (.int 2 u0)))
    (kB1 : PySem.W.nsIn K aB "put" = some (some (.int 2 u1)))
    (kB2 : PySem.W.nsIn K aB "add_node" = some (some (.int 1 u2)))
    (kB3 : PySem.W.nsIn K aB "add_edge" = some (some (.int 2 u3)))
    (kB4 : PySem.W.nsIn K aB "remove_edge" = some (some (.int 2 u4)))
    (nB0 : PySem.W.nsIn K aB "undo" = some none)
    (nB1 : PySem.W.nsIn K aB "together" = some none)
    (nB2 : PySem.W.nsIn K aB "play_on" = some none)
    (nB3 : PySem.W.nsIn K aB "Put" = some none)
    (sB : (aB == sysModules) = false)
    (i0 : PySem.W.nsIn K mainGlobals "MOST_NODES" = some (some (.int 16 t0)))
    (i1 : PySem.W.nsIn K mainGlobals "MOST_EDGES" = some (some (.int 40 t1)))
    (i2 : PySem.W.nsIn K mainGlobals "MOST_PLAYERS" = some (some (.int 8 t2)))
    (z0 : PySem.W.nsIn K mainGlobals "isinstance" = some none)
    (z1 : PySem.W.nsIn K mainGlobals "int" = some none)
    (z2 : PySem.W.nsIn K mainGlobals "bool" = some none)
    (z3 : PySem.W.nsIn K mainGlobals "list" = some none)
    (z4 : PySem.W.nsIn K mainGlobals "tuple" = some none)
    (z5 : PySem.W.nsIn K mainGlobals "len" = some none)
    (z6 : PySem.W.nsIn K mainGlobals "all" = some none)
    (z7 : PySem.W.nsIn K mainGlobals "range" = some none)
    (z8 : PySem.W.nsIn K mainGlobals "enumerate" = some none)
    (z9 : PySem.W.nsIn K mainGlobals "min" = some none)
    (z10 : PySem.W.nsIn K mainGlobals "max" = some none)
    (z11 : PySem.W.nsIn K mainGlobals "sorted" = some none)
    (z12 : PySem.W.nsIn K mainGlobals "repr" = some none)
    (z13 : PySem.W.nsIn K mainGlobals "dict" = some none)
    (z14 : PySem.W.nsIn K mainGlobals "str" = some none)
    (x0 : PySem.W.exmOne K (.ref c5) (.ref c5) = some true)
    (x1 : PySem.W.exmOne K (.ref c6) (.ref c5) = some false)
    (x2 : PySem.W.exmOne K (.ref c6) (.ref c6) = some true)
    (x3 : PySem.W.exmOne K (.ref c1) (.ref c5) = some false)
    (x4 : PySem.W.exmOne K (.ref c1) (.ref c6) = some false)
    (x5 : PySem.W.exmOne K (.ref c1) (.ref c1) = some true)
    (x6 : PySem.W.exmOne K (.ref c3) (.ref c5) = some false)
    (x7 : PySem.W.exmOne K (.ref c3) (.ref c6) = some false)
    (x8 : PySem.W.exmOne K (.ref c3) (.ref c1) = some false)
    (x9 : PySem.W.exmOne K (.ref c3) (.ref c3) = some true)
    (x10 : PySem.W.exmOne K (.ref c8) (.ref c5) = some false)
    (x11 : PySem.W.exmOne K (.ref c8) (.ref c6) = some false)
    (x12 : PySem.W.exmOne K (.ref c8) (.ref c1) = some false)
    (x13 : PySem.W.exmOne K (.ref c8) (.ref c3) = some false)
    (x14 : PySem.W.exmOne K (.ref c8) (.ref c8) = some true)
    : ∃ (fd : FuncData) (cs : List (Addr × Addr)), (∀ p ∈ cs, ∃ y, Door K mg ["law"] y p.1 p.2) ∧ (∀ (s : Shared) (v : Value), BindsTo s fd ⟨[v], []⟩ [("_law_script", v)]) ∧
        (∀ (H : Hp) (a : Addr) (ns : List Int), ns.length ≤ 63 → (∀ p ∈ cs, H p.2 = some (.tbl #[])) → SqL K H a (ns.map V.int) → spLawT K cs [.ref a] H (fun v _ => v = .bl true) fun _ _ _ => False) ∧
        ∀ base : Heap, K.In base → base.Ns mainGlobals mg → (∀ p ∈ cs, LamX.TabB base mg p.1 p.2) → GOk l.prog w K mg base 14 fa fd ["_law_script"] (spLawT K cs) := by
  obtain ⟨gL, ⟨fdL, FL⟩, DL⟩ := FL
  have e := hfa.symm.trans gL
  cases e
  obtain ⟨gE, fdE, FE⟩ := FE
  refine ⟨fdL, [(cL, tL)], fun p hp => by rw [List.mem_singleton.mp hp]; exact ⟨_, DL⟩, fun s v => ?_, fun H a ns hl hT hS => ⟨a, ns, rfl, hS, hl, hT, fun _ => rfl⟩, fun base KB NB TBs => ?_⟩
  · obtain ⟨oc, od, kV, doc, pm, an, ct, osl, rfl, _, _⟩ := FL.ex
    exact .of_eq rfl
  have TB := TBs (cL, tL) List.mem_cons_self
  have bE : L2.Binds K fdE ["_law_door"] [] := FE.binds (fun _ _ _ _ _ _ us hl => match us, hl with | [_], _ => rfl)
  have no : ∀ {x : Str}, PySem.W.nsIn K mainGlobals x = some none → mg x = none := fun z => PySem.W.mg_none_of X G z
  have M : Nms mg := {isi := no z0, int := no z1, bool := no z2, list := no z3, tuple := no z4, len := no z5, all := no z6, range := no z7, enumerate := no z8, min := no z9, max := no z10, sorted := no z11, repr := no z12 }
  have n_dict : mg "dict" = none := no z13
  have n_str : mg "str" = none := no z14
  have i_MOST_NODES := PySem.W.mg_of X G i0
  have i_MOST_EDGES := PySem.W.mg_of X G i1
  have i_MOST_PLAYERS := PySem.W.mg_of X G i2
  have T : GTxt K mg CG := ⟨cl, n1, n2, n3, PySem.W.mg_of X G gG⟩
  have S : STxt K mg CT := ⟨cl0, nC0_0, nC0_1, nC0_2, PySem.W.mg_of X G gC0⟩
  have B : BTxt K mg CB := ⟨cl1, nC1_0, nC1_1, PySem.W.mg_of X G gC1⟩
  have mA := PySem.W.mg_of X G gA
  have mB := PySem.W.mg_of X G gB
  have ES : Ex l.prog w K mg base "InvalidSize" c0 := C0.ex
  have EE : Ex l.prog w K mg base "InvalidEdge" c1 := C1.ex
  have EN : Ex l.prog w K mg base "InvalidNode" c2 := C2.ex
  have EM : Ex l.prog w K mg base "TooMany" c3 := C3.ex
  have EP : Ex l.prog w K mg base "InvalidPosition" c4 := C4.ex
  have EL : Ex l.prog w K mg base "NoPlayer" c5 := C5.ex
  have EG : Ex l.prog w K mg base "NotNegative" c6 := C6.ex
  have EU : Ex l.prog w K mg base "InvalidNumber" c7 := C7.ex
  have EO : Ex l.prog w K mg base "InvalidOperation" c8 := C8.ex

  have a_is_integer : At l.prog w K mg base CX0 1 "is_integer" ["thing"] (spIsInteger K) := at_of F0 (fun fd F => ok_is_integer F M) (fun _ _ _ _ _ _ us hl => match us, hl with | [_], _ => rfl)
  have a_is_integer_within : At l.prog w K mg base CX0 2 "is_integer_within" ["thing", "low", "high"] (spWithin K) := at_of F1 (fun fd F => ok_within F a_is_integer) (fun _ _ _ _ _ _ us hl => match us, hl with | [_, _, _], _ => rfl)
  have a_is_integer_list : At l.prog w K mg base CX0 2 "is_integer_list" ["thing", "length"] (spIntList K) := at_of F2 (fun fd F => ok_int_list F M a_is_integer) (fun _ _ _ _ _ _ us hl => match us, hl with | [_, _], _ => rfl)
  have a_is_node : At l.prog w K mg base CX0 3 "is_node" ["size", "thing"] (spIsNode K) := at_of F3 (fun fd F => ok_is_node F a_is_integer_within) (fun _ _ _ _ _ _ us hl => match us, hl with | [_, _], _ => rfl)
  have a_check_node : At l.prog w K mg base (L2.CX l.prog w) 4 "check_node" ["size", "node"] (spCheckNodeY K c2) := at_of F4 (fun fd F => ok_check_nodeY F EN ty2 a_is_node) (fun _ _ _ _ _ _ us hl => match us, hl with | [_, _], _ => rfl)
  have a_check_position : At l.prog w K mg base (L2.CX l.prog w) 3 "check_position" ["size", "position"] (spCheckPos K c4) := at_of F5 (fun fd F => ok_check_position F EP ty4 a_is_integer_list) (fun _ _ _ _ _ _ us hl => match us, hl with | [_, _], _ => rfl)
  have a_check_number : At l.prog w K mg base (L2.CX l.prog w) 3 "check_number" ["number"] (spCheckNu K c7) := at_of F6 (fun fd F => ok_check_number F EU ty7 a_is_integer) (fun _ _ _ _ _ _ us hl => match us, hl with | [_], _ => rfl)
  have a_check_player : At l.prog w K mg base (L2.CX l.prog w) 4 "check_player" ["count", "player"] (spCheckPl K c5) := at_of F7 (fun fd F => ok_check_player F EL ty5 a_is_integer_within) (fun _ _ _ _ _ _ us hl => match us, hl with | [_, _], _ => rfl)
  have a_flip_in_place : At l.prog w K mg base CX0 1 "flip_in_place" ["numbers", "node", "near"] spFlip := at_of F8 (fun fd F => ok_flip F) (fun _ _ _ _ _ _ us hl => match us, hl with | [_, _, _], _ => rfl)
  have a_is_edge : At l.prog w K mg base CX0 4 "is_edge" ["size", "thing"] (spIsEdgeD K) := at_of F9 (fun fd F => ok_is_edgeD F M a_is_node) (fun _ _ _ _ _ _ us hl => match us, hl with | [_, _], _ => rfl)
  have a_checked_edges : At l.prog w K mg base (L2.CX l.prog w) 5 "checked_edges" ["size", "edges"] (spEdges01 K c1) := at_of F10 (fun fd F => ok_checked01 F M EE ty1 a_is_edge) (fun _ _ _ _ _ _ us hl => match us, hl with | [_, _], _ => rfl)
  have a_neighbour_lists : At l.prog w K mg base CX0 1 "neighbour_lists" ["size", "edges"] (spNear K) := at_of F11 (fun fd F => ok_near F M) (fun _ _ _ _ _ _ us hl => match us, hl with | [_, _], _ => rfl)
  have a_size : MAt l.prog w K mg base CG CX0 1 "size" ["self"] (spSizeE CG) := mat_of F12 (fun fd F => ok_gsizeE F T) (fun _ _ _ _ _ _ us hl => match us, hl with | [_], _ => rfl)
  have a_edges : MAt l.prog w K mg base CG CX0 1 "edges" ["self"] (spEdgesOf CG) := mat_of F13 (fun fd F => ok_gedges F T M) (fun _ _ _ _ _ _ us hl => match us, hl with | [_], _ => rfl)
  have a_neighbours : MAt l.prog w K mg base CG (L2.CX l.prog w) 5 "neighbours" ["self", "node"] (spNb K CG c2) := mat_of F14 (fun fd F => ok_nbY F T M a_check_node) (fun _ _ _ _ _ _ us hl => match us, hl with | [_, _], _ => rfl)
  obtain ⟨MK, fdI, FI⟩ := FI
  have GI := ok_gi01 (P := l.prog) (w := w) (base := base) FI T M i_MOST_NODES i_MOST_EDGES ES ty0 EM ty3 a_is_integer_within a_checked_edges a_neighbour_lists
  have bI : L2.Binds K fdI ["self", "size", "edges"] [] := by
    obtain ⟨ds, hd, hb⟩ := FI.binds1 (ps := ["self", "size", "edges"]) 3 1 (by simp) rfl (fun T kV doc pm an cdv ct us its h1 h2 => match us, its, h1, h2 with | [_, _, _], [_], _, _ => ⟨_, rfl, rfl⟩)
    cases hd
    exact hb
  obtain ⟨MKS, fdSI, FSI⟩ := FC0
  have GSI := ok_sinit (P := l.prog) (w := w) (base := base) FSI S M
  have bSI : L2.Binds K fdSI ["self", "drawn", "numbers", "points"] [] := FSI.binds (fun _ _ _ _ _ _ us hl => match us, hl with | [_, _, _, _], _ => rfl)
  obtain ⟨MKB, fdBI, FBI⟩ := FC1
  have GBI := ok_binit (P := l.prog) (w := w) (base := base) FBI M T S B i_MOST_PLAYERS a_check_position a_is_integer_within a_size MKS GSI bSI
  have bBI : L2.Binds K fdBI ["self", "graph", "position", "players"] [] := by
    obtain ⟨ds, hd, hb⟩ := FBI.binds1 (ps := ["self", "graph", "position", "players"]) 4 1 (by simp) rfl (fun T kV doc pm an cdv ct us its h1 h2 => match us, its, h1, h2 with | [_, _, _, _], [_], _, _ => ⟨_, rfl, rfl⟩)
    cases hd
    exact hb
  have a_fire_node : At l.prog w K mg base (L2.CX l.prog w) 8 "fire_node" ["state", "player", "node"] (spAct CG CT c5 c6 c1 c3 isFire) := at_of F15 (fun fd F => ok_fire_node F M T S EG ty6 a_check_player a_check_node a_size a_neighbours a_flip_in_place) (fun _ _ _ _ _ _ us hl => match us, hl with | [_, _, _], _ => rfl)
  have a_put_number : At l.prog w K mg base (L2.CX l.prog w) 8 "put_number" ["state", "node", "number"] (spAct CG CT c5 c6 c1 c3 isPut) := at_of F16 (fun fd F => ok_put_number F M T S a_check_number a_check_node a_size) (fun _ _ _ _ _ _ us hl => match us, hl with | [_, _, _], _ => rfl)
  have a_append_node : At l.prog w K mg base (L2.CX l.prog w) 8 "append_node" ["state", "number"] (spAct CG CT c5 c6 c1 c3 isAdd) := at_of F17 (fun fd F => ok_append_node F M T S i_MOST_NODES EM ty3 a_check_number a_size a_edges MK GI bI) (fun _ _ _ _ _ _ us hl => match us, hl with | [_, _], _ => rfl)
  have a_checked_edge : At l.prog w K mg base (L2.CX l.prog w) 6 "checked_edge" ["state", "one", "two"] (spCe CG CT) := at_of F18 (fun fd F => ok_checked_edge F M T S a_check_node a_size) (fun _ _ _ _ _ _ us hl => match us, hl with | [_, _, _], _ => rfl)
  have a_join_nodes : At l.prog w K mg base (L2.CX l.prog w) 8 "join_nodes" ["state", "one", "two"] (spAct CG CT c5 c6 c1 c3 isJoin) := at_of F19 (fun fd F => ok_join_nodes F M T S EE ty1 a_checked_edge a_size a_edges MK GI bI) (fun _ _ _ _ _ _ us hl => match us, hl with | [_, _, _], _ => rfl)
  have a_part_nodes : At l.prog w K mg base (L2.CX l.prog w) 8 "part_nodes" ["state", "one", "two"] (spAct CG CT c5 c6 c1 c3 isPart) := at_of F20 (fun fd F => ok_part_nodes F M T S EE ty1 a_checked_edge a_size a_edges MK GI bI) (fun _ _ _ _ _ _ us hl => match us, hl with | [_, _, _], _ => rfl)
  have a_perform : At l.prog w K mg base (L2.CX l.prog w) 9 "perform" ["state", "operation"] (spPerform CG CT c5 c6 c1 c3) := at_of F21 (fun fd F => ok_perform F KB mA (dA.at kA0) (dA.at kA1) (dA.at kA2) (dA.at kA3) (dA.at kA4) F15.1 F16.1 F17.1 F19.1 F20.1 a_fire_node a_put_number a_append_node a_join_nodes a_part_nodes) (fun _ _ _ _ _ _ us hl => match us, hl with | [_, _], _ => rfl)
  have a_State_copied : MAt l.prog w K mg base CT CX0 3 "copied" ["self"] (spCopied CG CT) := mat_of F22 (fun fd F => ok_copied F S MKS GSI bSI) (fun _ _ _ _ _ _ us hl => match us, hl with | [_], _ => rfl)
  have a_check_operation : At l.prog w K mg base (L2.CX l.prog w) 3 "check_operation" ["thing"] (spCheckOp K w aB c8) := at_of F23 (fun fd F => ok_checkop F M n_str mB EO ty8) (fun _ _ _ _ _ _ us hl => match us, hl with | [_], _ => rfl)
  have a_Board_together : MAt l.prog w K mg base CB (L2.CX l.prog w) 10 "together" ["self", "operations"] (spTog K w aB CG CT CB c5 c6 c1 c3 c8) := mat_of F24 (fun fd F => ok_tog F M S B a_State_copied a_check_operation a_perform) (fun _ _ _ _ _ _ us hl => match us, hl with | [_, _], _ => rfl)
  have a_Board_graph : MAt l.prog w K mg base CB CX0 1 "graph" ["self"] (spBoardGr CG CT CB) := mat_of F25 (fun fd F => ok_bgraph F S B) (fun _ _ _ _ _ _ us hl => match us, hl with | [_], _ => rfl)
  have a_Board_position : MAt l.prog w K mg base CB CX0 1 "position" ["self"] (spBoardPos CG CT CB) := mat_of F26 (fun fd F => ok_bpos F M S B) (fun _ _ _ _ _ _ us hl => match us, hl with | [_], _ => rfl)
  have a_Board_scores : MAt l.prog w K mg base CB CX0 1 "scores" ["self"] (spBoardSco CG CT CB) := mat_of F27 (fun fd F => ok_bsco F M S B) (fun _ _ _ _ _ _ us hl => match us, hl with | [_], _ => rfl)
  have a_Board___len__ : MAt l.prog w K mg base CB CX0 1 "__len__" ["self"] (spBoardLen CG CT CB) := mat_of F28 (fun fd F => ok_blen F M B) (fun _ _ _ _ _ _ us hl => match us, hl with | [_], _ => rfl)
  have a_written : At l.prog w K mg base CX0 1 "written" ["operation"] (spWrittenA K) := at_of F29 (fun fd F => ok_writtenA F M) (fun _ _ _ _ _ _ us hl => match us, hl with | [_], _ => rfl)
  have a_Board_log : MAt l.prog w K mg base CB CX0 2 "log" ["self"] (spLogA CG CT CB) := mat_of F30 (fun fd F => ok_logA F B a_written) (fun _ _ _ _ _ _ us hl => match us, hl with | [_], _ => rfl)
  have a__law_pool : At l.prog w K mg base CX0 1 "_law_pool" ["_law_script", "_law_k"] (spPool K) := at_of F31 (fun fd F => ok_pool F M.len) (fun _ _ _ _ _ _ us hl => match us, hl with | [_, _], _ => rfl)
  have a__law_take : At l.prog w K mg base CX0 1 "_law_take" ["_law_pool_here", "_law_sides"] spTake := at_of F32 (fun fd F => ok_take F) (fun _ _ _ _ _ _ us hl => match us, hl with | [_, _], _ => rfl)
  have a__law_joins : At l.prog w K mg base CX0 2 "_law_joins" ["_law_pool_here", "_law_many", "_law_top"] spJoins := at_of F33 (fun fd F => ok_joins F M a__law_take) (fun _ _ _ _ _ _ us hl => match us, hl with | [_, _, _], _ => rfl)
  have a__law_near : At l.prog w K mg base CX0 1 "_law_near" ["_law_many", "_law_joins_here"] (spNear K) := at_of F34 (fun fd F => ok_lnear F M) (fun _ _ _ _ _ _ us hl => match us, hl with | [_, _], _ => rfl)
  have a__law_turned : At l.prog w K mg base CX0 1 "_law_turned" ["_law_near_here", "_law_here", "_law_node"] (spTurned K) := at_of F35 (fun fd F => ok_turned F M) (fun _ _ _ _ _ _ us hl => match us, hl with | [_, _, _], _ => rfl)
  have a__law_number : At l.prog w K mg base CX0 2 "_law_number" ["_law_pool_here"] spNumber := at_of F36 (fun fd F => ok_number F a__law_take) (fun _ _ _ _ _ _ us hl => match us, hl with | [_], _ => rfl)
  have a__law_numbers : At l.prog w K mg base CX0 3 "_law_numbers" ["_law_pool_here", "_law_many"] spNumbers := at_of F37 (fun fd F => ok_numbers F M a__law_number) (fun _ _ _ _ _ _ us hl => match us, hl with | [_, _], _ => rfl)
  have a__law_model : At l.prog w K mg base CX0 1 "_law_model" ["_law_many", "_law_joins_here", "_law_here", "_law_players"] (spModel K) := at_of F38 (fun fd F => ok_model F M) (fun _ _ _ _ _ _ us hl => match us, hl with | [_, _, _, _], _ => rfl)
  have a__law_copy : At l.prog w K mg base CX0 1 "_law_copy" ["_law_model_here"] spCopy := at_of F39 (fun fd F => ok_copy F M n_dict) (fun _ _ _ _ _ _ us hl => match us, hl with | [_], _ => rfl)
  have a__law_edges_done : At l.prog w K mg base CX0 1 "_law_edges_done" ["_law_model_here", "_law_row_here"] (spDone K isEdge) := at_of F40 (fun fd F => ok_edone F M) (fun _ _ _ _ _ _ us hl => match us, hl with | [_, _], _ => rfl)
  have a__law_done : At l.prog w K mg base CX0 2 "_law_done" ["_law_model_here", "_law_row_here"] (spDone K isFive) := at_of F41 (fun fd F => ok_done F M a__law_near a__law_turned a__law_edges_done) (fun _ _ _ _ _ _ us hl => match us, hl with | [_, _], _ => rfl)
  have a__law_row : At l.prog w K mg base CX0 3 "_law_row" ["_law_pool_here", "_law_model_here"] spRow := at_of F42 (fun fd F => ok_row F M a__law_take a__law_number) (fun _ _ _ _ _ _ us hl => match us, hl with | [_, _], _ => rfl)
  have a__law_looks : AtG l.prog w K mg base 2 "_law_looks" ["_law_board_here", "_law_model_here"] (spLooks CG CT CB) := atG_of F43 (fun fd F => ok_looks F M T B a_Board_graph a_Board_position a_Board_scores a_size a_edges) (fun _ _ _ _ _ _ us hl => match us, hl with | [_, _], _ => rfl)
  have a__law_start : At l.prog w K mg base CX0 4 "_law_start" ["_law_pool_here"] spStart := at_of F44 (fun fd F => ok_start F a__law_take a__law_joins a__law_numbers a__law_model) (fun _ _ _ _ _ _ us hl => match us, hl with | [_], _ => rfl)
  have a__law_board : At l.prog w K mg base CX0 8 "_law_board" ["_law_model_here"] (spLBoard CG CT CB) := at_of F45 (fun fd F => ok_lboard F M T B MK GI bI MKB GBI bBI) (fun _ _ _ _ _ _ us hl => match us, hl with | [_], _ => rfl)
  have a__law_several : At l.prog w K mg base CX0 4 "_law_several" ["_law_pool_here", "_law_model_here"] (spSeveral K) := at_of F46 (fun fd F => ok_several F M a__law_take a__law_row a__law_copy a__law_done) (fun _ _ _ _ _ _ us hl => match us, hl with | [_, _], _ => rfl)
  have a__law_odd : At l.prog w K mg base CX0 2 "_law_odd" ["_law_pool_here"] (spOdd K) := at_of F47 (fun fd F => ok_odd F M a__law_take) (fun _ _ _ _ _ _ us hl => match us, hl with | [_], _ => rfl)
  obtain ⟨gTr, fdTr, FTr⟩ := F48
  have bTr : L2.Binds K fdTr ["_law_door"] [] := FTr.binds (fun _ _ _ _ _ _ us hl => match us, hl with | [_], _ => rfl)
  exact ok_law FL M B TB FTr gTr bTr FE gE bE EO EL EG EE EM ⟨x0, x1, x2, x3, x4, x5, x6, x7, x8, x9⟩ ⟨x10, x11, x12, x13, x14⟩ (ak_of dB sB kB0 kB1 kB2 kB3 kB4) (ab_of dB sB kB0 kB1 kB2 nB0 nB1 nB2 nB3) a_Board_log a_Board___len__ a_Board_together a__law_pool a__law_take a__law_start a__law_copy a__law_done a__law_several a__law_odd a__law_board a__law_looks
end K72
set_option Elab.async false
set_option linter.all false
open PySem PySem.W PyProof.Rows
set_option maxRecDepth 100000 in
set_option maxHeartbeats 0 in
theorem PySem.Challenge.cw_firenegatives_k72_operations_together_holds : PySem.Challenge.rw_firenegatives_k72_operations_together.Holds := by
  w_on; o_law; k_head; (case hw => w_witness2)
  k_fill
  refine FNX.walkGK (l := PySem.Challenge.rw_firenegatives_k72_operations_together) (n := 63) (k := 14) (x := "_law_script") K72.spLawT ["law"] rfl (by decide) rfl ⟨rfl, by decide, by decide⟩ (by decide +kernel) (fun w h Y => PySem.W.km_in_of Y) ?F
  case F =>
    intro w mg fa h KX G hmg
    refine' K72.all_mk KX G hmg
      (FNX.mkCl KX G ?_ (FNX.mkXC F.excBase_ValueError FNX.chainVal ?_ ?_ ?_ ?_ ?_ ?_ ?_ ?_ ?_ ?_ ?_) K72.tInvalidSize ?_ ?_ ?_ ?_ ?_) ?_
      (FNX.mkCl KX G ?_ (FNX.mkXC F.excBase_ValueError FNX.chainVal ?_ ?_ ?_ ?_ ?_ ?_ ?_ ?_ ?_ ?_ ?_) K72.tInvalidEdge ?_ ?_ ?_ ?_ ?_) ?_
      (FNX.mkCl KX G ?_ (FNX.mkXC F.excBase_ValueError FNX.chainVal ?_ ?_ ?_ ?_ ?_ ?_ ?_ ?_ ?_ ?_ ?_) K72.tInvalidNode ?_ ?_ ?_ ?_ ?_) ?_
      (FNX.mkCl KX G ?_ (FNX.mkXC F.excBase_OverflowError FNX.chainOver ?_ ?_ ?_ ?_ ?_ ?_ ?_ ?_ ?_ ?_ ?_) K72.tTooMany ?_ ?_ ?_ ?_ ?_) ?_
      (FNX.mkCl KX G ?_ (FNX.mkXC F.excBase_ValueError FNX.chainVal ?_ ?_ ?_ ?_ ?_ ?_ ?_ ?_ ?_ ?_ ?_) K72.tInvalidPosition ?_ ?_ ?_ ?_ ?_) ?_
      (FNX.mkCl KX G ?_ (FNX.mkXC F.excBase_LookupError FNX.chainLook ?_ ?_ ?_ ?_ ?_ ?_ ?_ ?_ ?_ ?_ ?_) K72.tNoPlayer ?_ ?_ ?_ ?_ ?_) ?_
      (FNX.mkCl KX G ?_ (FNX.mkXC F.excBase_RuntimeError FNX.chainRun ?_ ?_ ?_ ?_ ?_ ?_ ?_ ?_ ?_ ?_ ?_) K72.tNotNegative ?_ ?_ ?_ ?_ ?_) ?_
      (FNX.mkCl KX G ?_ (FNX.mkXC F.excBase_ValueError FNX.chainVal ?_ ?_ ?_ ?_ ?_ ?_ ?_ ?_ ?_ ?_ ?_) K72.tInvalidNumber ?_ ?_ ?_ ?_ ?_) ?_
      (FNX.mkCl KX G ?_ (FNX.mkXC F.excBase_ValueError FNX.chainVal ?_ ?_ ?_ ?_ ?_ ?_ ?_ ?_ ?_ ?_ ?_) K72.tInvalidOperation ?_ ?_ ?_ ?_ ?_) ?_
      ?_ ⟨?_, ?_, ?_, ?_⟩ ?_ ?_ ?_ (FNX.mkIn ?_ ?_ ?_ ?_ ?_ ?_ ?_ ?_)
      ?_ ⟨?_, ?_, ?_, ?_⟩ ?_ ?_ ?_ (FNX.mkIn0 ?_ ?_ ?_ ?_ ?_ ?_ ?_)
      ?_ ⟨?_, ?_, ?_, ?_⟩ ?_ ?_ (FNX.mkInI ?_ ?_ ?_ ?_ ?_ ?_ ?_ ?_)
      (FNX.mkF KX G ?_ ?_ ?_ ?_) (FNX.mkF KX G ?_ ?_ ?_ ?_) (FNX.mkF KX G ?_ ?_ ?_ ?_) (FNX.mkF KX G ?_ ?_ ?_ ?_) (FNX.mkF KX G ?_ ?_ ?_ ?_) (FNX.mkF KX G ?_ ?_ ?_ ?_) (FNX.mkF KX G ?_ ?_ ?_ ?_) (FNX.mkF KX G ?_ ?_ ?_ ?_) (FNX.mkF KX G ?_ ?_ ?_ ?_) (FNX.mkF KX G ?_ ?_ ?_ ?_) (FNX.mkF KX G ?_ ?_ ?_ ?_) (FNX.mkF KX G ?_ ?_ ?_ ?_) (FNX.mkMt ?_ ?_ ?_ ?_ ?_) (FNX.mkMt ?_ ?_ ?_ ?_ ?_) (FNX.mkMt ?_ ?_ ?_ ?_ ?_) (FNX.mkF KX G ?_ ?_ ?_ ?_) (FNX.mkF KX G ?_ ?_ ?_ ?_) (FNX.mkF KX G ?_ ?_ ?_ ?_) (FNX.mkF KX G ?_ ?_ ?_ ?_) (FNX.mkF KX G ?_ ?_ ?_ ?_) (FNX.mkF KX G ?_ ?_ ?_ ?_) (FNX.mkF KX G ?_ ?_ ?_ ?_) (FNX.mkMt ?_ ?_ ?_ ?_ ?_) (FNX.mkF KX G ?_ ?_ ?_ ?_) (FNX.mkMt ?_ ?_ ?_ ?_ ?_) (FNX.mkMt ?_ ?_ ?_ ?_ ?_) (FNX.mkMt ?_ ?_ ?_ ?_ ?_) (FNX.mkMt ?_ ?_ ?_ ?_ ?_) (FNX.mkMt ?_ ?_ ?_ ?_ ?_) (FNX.mkF KX G ?_ ?_ ?_ ?_) (FNX.mkMt ?_ ?_ ?_ ?_ ?_) (FNX.mkF KX G ?_ ?_ ?_ ?_) (FNX.mkF KX G ?_ ?_ ?_ ?_) (FNX.mkF KX G ?_ ?_ ?_ ?_) (FNX.mkF KX G ?_ ?_ ?_ ?_) (FNX.mkF KX G ?_ ?_ ?_ ?_) (FNX.mkF KX G ?_ ?_ ?_ ?_) (FNX.mkF KX G ?_ ?_ ?_ ?_) (FNX.mkF KX G ?_ ?_ ?_ ?_) (FNX.mkF KX G ?_ ?_ ?_ ?_) (FNX.mkF KX G ?_ ?_ ?_ ?_) (FNX.mkF KX G ?_ ?_ ?_ ?_) (FNX.mkF KX G ?_ ?_ ?_ ?_) (FNX.mkF KX G ?_ ?_ ?_ ?_) (FNX.mkF KX G ?_ ?_ ?_ ?_) (FNX.mkF KX G ?_ ?_ ?_ ?_) (FNX.mkF KX G ?_ ?_ ?_ ?_) (FNX.mkF KX G ?_ ?_ ?_ ?_) (FNX.mkF KX G ?_ ?_ ?_ ?_) (FNX.mkF KX G ?_ ?_ ?_ ?_) (FNX.mkFC KX G ?_ ?_ ?_ ?_ ?_ ?u11 ?hdL ?noL)
      ?_ (FNX.mkDct ?_ ?qKL) ?_ ?_ ?_ ?_ ?_
      ?_ (FNX.mkDct ?_ ?qKM) ?_ ?_ ?_ ?_ ?_ ?_ ?_ ?_ ?_ ?sB
      ?_ ?_ ?_ ?_ ?_ ?_ ?_ ?_ ?_ ?_ ?_ ?_ ?_ ?_ ?_ ?_ ?_ ?_ ?x0 ?x1 ?x2 ?x3 ?x4 ?x5 ?x6 ?x7 ?x8 ?x9 ?x10 ?x11 ?x12 ?x13 ?x14
    any_goals k_is
    case qKM => exact ⟨⟨_, _, rfl, rfl⟩, ⟨_, _, rfl, rfl⟩, ⟨_, _, rfl, rfl⟩, ⟨_, _, rfl, rfl⟩, ⟨_, _, rfl, rfl⟩, trivial⟩
    case sB => kernel_rfl
    case qKL => exact ⟨⟨_, _, rfl, rfl⟩, ⟨_, _, rfl, rfl⟩, ⟨_, _, rfl, rfl⟩, ⟨_, _, rfl, rfl⟩, ⟨_, _, rfl, rfl⟩, ⟨_, _, rfl, rfl⟩, ⟨_, _, rfl, rfl⟩, trivial⟩
    case u11 => rfl
    case hdL => kernel_rfl
    case noL => kernel_rfl
    case x0 => kernel_rfl
    case x1 => kernel_rfl
    case x2 => kernel_rfl
    case x3 => kernel_rfl
    case x4 => kernel_rfl
    case x5 => kernel_rfl
    case x6 => kernel_rfl
    case x7 => kernel_rfl
    case x8 => kernel_rfl
    case x9 => kernel_rfl
    case x10 => kernel_rfl
    case x11 => kernel_rfl
    case x12 => kernel_rfl
    case x13 => kernel_rfl
    case x14 => kernel_rfl
#print axioms PySem.Challenge.cw_firenegatives_k72_operations_together_holds
