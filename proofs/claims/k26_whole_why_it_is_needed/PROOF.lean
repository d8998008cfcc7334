import PyProof.Rows.All
import Wide.All
import OpenK.AllK
import Wide.FinOn
import Lean
import PyProof.EqAt
import PyProof.EqKinds
import PyProof.TupleCall
import PyProof.NeKinds
import PySem.Challenge.RW_lendrule_k26_whole_why_it_is_needed
set_option Elab.async false
set_option linter.all false
set_option maxRecDepth 100000
noncomputable section
section
open PySem PySem.Spec PyProof.Rows
def HX:=@List.findIdx?_eq_some_iff_getElem
def n6:=@PyProof.Rows.slot_tuple_getitem
def HY:=@PyProof.Rows.callWith_builtin1
def HZ:=@List.eq_nil_of_length_eq_zero
def H9:=@F.args_tuple_iterator_next_1
def Ia:=@PySem.F.slot_dict_setdefault
def Ib:=@F.entry_tuple_iterator_next
def oe:=@PyProof.Rows.callWith_type1
def Bo:=@List.getD_eq_getElem?_getD
def Ic:=@Calls.Name_function_global
def j9:=@List.getElem?_append_right
def Ie:=@wpAny_newFunctionEnv_cells
def vH:=@F.slot_tuple_iterator_next
def vI:=@List.drop_eq_getElem_cons
def il:=@List.getElem?_append_left
def lY:=@List.getElem?_eq_none_iff
def cP:=@List.getElem?_eq_some_iff
def ka:=@AutoSeq1.wpAny_loadPart'
def du:=@List.getElem?_eq_getElem
def Bp:=@PySem.F.args_tuple_add_2
def Bq:=@PySem.F.slot_list_append
def Br:=@PySem.F.type_list_append
def ip:=@List.getElem?_replicate
def Bs:=@PySem.F.entry_tuple_add
def Bt:=@F.plain_set_update_loop
def og:=@PySem.F.plainAttrs_list
def lZ:=@wpAny_callSpecial?_slot
def vJ:=@Option.bind_eq_some_iff
def Bu:=@List.drop_eq_nil_of_le
def oh:=@List.take_of_length_le
def jI:=@Option.map_eq_some_iff
def Bv:=@PySem.F.slot_tuple_add
def bP:=@List.getElem?_set_self
def Bw:=@Heap.get?_update_other
def cx:=@Heap.get?_push_of_some
def iq:=@List.length_replicate
def l0:=@List.getElem?_eq_none
def dC:=@List.mem_append_right
def Bx:=@Obj.isFreed_of_fields
def vK:=@Heap.get?_update_self
def vL:=@Array.getElem?_toList
def kc:=@Nat.le_of_ble_eq_true
def By:=@Bool.and_eq_true_iff
def Bz:=@Around.under_plainId
def bx:=@List.getElem?_set_ne
def cj:=@List.mem_of_getElem?
def bQ:=@List.mem_cons_of_mem
def ir:=@List.mem_append_left
def vM:=@List.getElem?_of_mem
def qF:=@Array.length_toList
def vN:=@Int.toNat_of_nonneg
def qG:=@List.map_congr_left
def BA:=@List.filterMap_cons
def oi:=@Heap.SameBut.update
def qH:=@beq_eq_false_iff_ne
def el:=@PySem.mem_of_lookup
def dZ:=@Heap.get?_push_size
def qI:=@List.getElem?_range
def bK:=@List.length_append
def b6:=@List.mem_cons_self
def oj:=@Obj.data_mapFields
def BB:=@List.pairwise_cons
def iu:=@Bool.false_ne_true
def l7:=@wpAny_Call_Name_kw
def qJ:=@Int.emod_lt_of_pos
def jJ:=@Nat.lt_of_le_of_lt
def cQ:=@Nat.lt_of_lt_of_le
def vO:=@List.mem_filterMap
def cq:=@List.mem_singleton
def BC:=@Nat.lt_succ_of_lt
def jd:=@List.map_inj_left
def fP:=@Int.toNat_natCast
def BD:=@Option.isSome_map
def om:=@List.length_range
def BE:=@PassesOwn.leaving
def jK:=@wpAny_truthy_bool
def kd:=@wpAny_setState_of
def BF:=@wpAny_pyIter_list
def qK:=@of_decide_eq_true
def je:=@wpAny_newObj_type
def cu:=@List.getElem?_map
def gD:=@decide_eq_true_eq
def qL:=@Classical.not_not
def iw:=@List.append_assoc
def vP:=@List.reverse_cons
def oo:=@List.flatMap_cons
def bF:=@List.size_toArray
def BG:=@Obj.cls_mapFields
def eF:=@List.not_mem_nil
def aV:=@Option.bind_some
def aQ:=@Bool.and_eq_true
def BH:=@List.drop_length
def BI:=@Nat.min_eq_right
def qM:=@List.length_drop
def BJ:=@wpAny_isInstance
def jg:=@List.mem_flatMap
def BL:=@Nat.le_of_not_lt
def jh:=@List.lookup_cons
def vQ:=@beq_self_eq_true
def BM:=@noFill_tuple_add
def BN:=@Option.getD_none
def BO:=@Nat.lt_succ_self
def bq:=@List.length_cons
def BP:=@wpAny_askSetting
def vR:=@List.getElem_mem
def kf:=@Around.in1_units
def fq:=@List.all_eq_true
def oq:=@List.length_take
def ji:=@wpAny_call_entry
def qN:=@Bool.not_eq_true
def dw:=@List.length_set
def aC:=@List.length_map
def kh:=@List.find?_cons
def ou:=@Option.map_some
def BQ:=@Nat.min_eq_left
def vS:=@codeAny_builtin
def gE:=@List.nil_append
def bD:=@Option.some.inj
def cR:=@List.mem_append
def gF:=@List.mem_filter
def cY:=@List.map_append
def eG:=@decide_eq_false
def l8:=@wpAny_passesOwn
def gX:=@List.append_nil
def fu:=@List.nodup_cons
def ki:=@Int.emod_nonneg
def vT:=@List.of_mem_zip
def vU:=@wpAny_execs_nil
def BR:=@wpAny_ite_split
def jk:=@List.length_nil
def qO:=@wpAny_setField
def fQ:=@decide_eq_true
def qP:=@Heap.size_push
def vV:=@List.nodup_nil
def fU:=@List.mem_range
def gY:=@List.all_cons
def bc:=@List.mem_cons
def l9:=@List.any_cons
def vW:=@Paired.length
def bR:=@List.map_cons
def kj:=@wpAny_holding
def jl:=@Nat.lt_irrefl
def kl:=@Prod.mk.injEq
def km:=@Int.zero_add
def bO:=@Heap.lt_size
def me:=@Nat.le_of_lt
def ov:=@Nat.le_of_eq
def vX:=@wpAny_typeOf
def fw:=@List.map_map
def qQ:=@Nat.ne_of_gt
def cF:=@Nat.le_trans
def bG:=@List.mem_map
def vY:=@Nat.succ_mul
def qR:=@List.map_nil
def jL:=@Nat.zero_add
def mf:=@codeAny_mono
def cI:=@Nat.ne_of_lt
def kn:=@wpAny_field
def gn:=@Nat.zero_le
def vZ:=@IsRange.new
def bh:=@Nat.le_refl
def ox:=@beq_iff_eq
def aK:=@wpAny_pure
def oy:=@call_meets
def mh:=@wpAny_mono
def qS:=@wpAny_rule
def av:=@wpAny_bind
def bE:=@eq_of_beq
def eH:=@or_false
def dy:=@congrArg
def oz:=@if_false
def ko:=@if_true
def er:=@Ne.symm
abbrev cS:=Value->Shared->Prop
abbrev dM:=Str->Option Value
abbrev cb:=List Value
abbrev mi:=Option Value
abbrev ak:=PySem.W.Frag
abbrev aw:=PySem.Shared
abbrev aj:=PySem.Value
abbrev ae:=PySem.Addr
abbrev aq:=PySem.Expr
abbrev aE:=PySem.Stmt
abbrev aW:=PySem.World
abbrev bY:=PySem.Around
abbrev bJ:=PySem.Program
abbrev dQ:=PySem.FuncData
end
namespace mH
end mH
section
namespace L2
open PySem PySem.Spec PyProof.Rows
abbrev cy:=Sum Int Str
inductive V where
  | cG | bl (b:Bool) | int (i:Int) | str (x:Str) | U0 (b:Array UInt8) | Z7 (b:UInt64) | ref (a:ae) | ty (n:String)
  deriving DecidableEq
def RelV:V->aj->Prop
  | .cG,u=>u=Value.none
  | .bl b,u=>u=Value.bool b
  | .int i,u=>∃t,u=Value.int i t
  | .str x,u=>∃t,u=Value.str x t
  | .U0 b,u=>∃t,u=Value.bytes b t
  | .Z7 b,u=>∃t,u=Value.float b t
  | .ref a,u=>u=Value.ref a
  | .ty n,u=>u=Value.type n
abbrev Vals:List V->cb->Prop:=Paired RelV
inductive HO where
  /-- a list -/
  | au (xs:List V)
  /-- a tuple (never Yu) -/
  | aB (xs:List V)
  /-- a dict U1 keys are ints and U2;one U1 keys are tuples of ints and U2 (PM empty one is aet) -/
  | dK (kvs:List (cy×V)) | dT (xs:List (List cy×ae×aj))
  /-- a set of ints: aY Yv,aY size -/
  | set (S:Int->Bool) (n:Nat)
  /-- an instance of PM class at C,aY dict at dx,aY QX -/
  | QY (C dx:ae) (fs:List (Str×V))
  /-- PM dict of PM instance at x -/
  | own (x:ae)
  /-- PM dict of an Uv -/
  | xd (fs:List (Str×V))
  /-- a bound method,f of x -/
  | Z8 (f x:ae)
  /-- a range Ig lo,lo+1,.. below hi -/
  | Z9 (lo hi:Int)
  /-- a U3 aeu is ac3 to PM Ig (PM aaa;a dict while a loop ac4 it): aev,never written while it is so -/
  | lF (o:Obj) (u:HO)
  /-- a code U4 table -/
  | yu (q:Str)
  /-- any other U3,by what is true of aY one Ig (a def of ac5 own: aew a S n:=HO.ext fun h=>..) -/
  | ext (φ:Heap->Prop)
abbrev Hp:=ae->Option HO
def Rd(H:Hp)(a:ae)(u:HO):Prop:=H a=some u\/∃o,H a=some (.lF o u)
def d0:List Str:=["arrivals","empties","needs","held"]
def jm(K:ak)(H:Hp)(a:ae)(xs:List V):Prop :=
  Rd H a (.aB xs) \/
    ∃(o:Obj) (aY:Array aj) (n:Nat),K.lookup a=some o/\o.cls=.type "tuple"/\o.data=.seq aY n/\aY.size<=sizeLine/\Vals xs aY.toList
def qj(K:ak)(H:Hp)(a:ae)(xs:List V):Prop :=
  Rd H a (.au xs)\/∃(aY:cb) (n:Nat),K.lookup a=some {cls:=.type "list",data:=.seq aY.toArray n}/\aY.length<=sizeLine/\Vals xs aY
structure Uw (K:ak) (C:ae):Prop where
  pg:W.plainGet K C Str.empty=true
  hd:W.hasDictIn K C=true
  po:W.plainOver K C=true
  sa:W.findIn K (.ref C) "__setattr__"=some (some (.builtin "object.__setattr__"))
def oA(K:ak)(C:ae)(f:Str):Prop:=W.findIn K (.ref C) f=some none
section
variable {X:Cx} {CX:DR} {k:Nat} {f C:ae} {fd:dQ} {ps:List Str} {sp:Sp} {Mq:List V} {ds:cb} {E:XK} {x m:Str} {p pos Fz:Pos} {e o:aq} {es:List aq} {ta:TE} {t:TA}
structure Mk (K:ak) (C f:ae):Prop where
  makes:W.makesIn K C=true
  init:W.findIn K (.ref C) "__init__"=some (some (.ref f))
  fn:W.isFn K (.ref f)=true
  kp:W.keepIn K (.ref C)=true
end
structure dW (N P:List Str) (sc:Scope):Prop where
  kind:sc.kind=.function
  co:sc.isCoroutine=false
  gen:sc.isGenerator=false
  nd:N.Nodup
  pre:N.take P.length=P
  par:∀x∈P,sc.names.lookup x=some .local\/sc.names.lookup x=some .cell
  nofree:∀y∈sc.names,y.2≠.free
def iR(s:aE):Arguments:=match s with
  | .FunctionDef _ a _ _ _ _ _ _ _ _=>a
  | _=>{posonlyargs:=[],args:=[],vararg:=none,kwonlyargs:=[],kw_defaults:=[],kwarg:=none,defaults:=[]}
def dz(s:aE):List aE:=match s with
  | .FunctionDef _ _ b _ _ _ _ _ _ _=>b
  | _=>[]
def aM(s:aE):Scope:=match s with
  | .FunctionDef _ _ _ _ _ _ sc _ _ _=>sc
  | _=>{kind:=.function,names:=[],isGenerator:=false,isCoroutine:=false}
structure BS (K:ak) (x qual:Str) (st:aE) (f:ae) (fd:dQ):Prop where
  ex:∃(oc:aj) (od:Option ae) (kV doc pm:aj) (an:Option ae) (dG ct:aj) (tQ:Array mi),
    fd=W.fnOf x qual (iR st) (dz st) (aM st) .none kV doc pm an dG ct/\K.lookup f=some ⟨oc,od,.func fd,tQ⟩/\W.codeIn K dG qual=true
  kp:W.keepIn K (.ref f)=true
section
variable {P:bJ} {w:aW} {K:ak} {mg:dM} {base:Heap}
theorem Ih{x qual:Str}{st:aE}{f:ae}{oc:aj}{od an:Option ae}{tQ:Array mi}{kV doc pm dG ct:aj}(l:K.lookup f=some ⟨oc,od,.func (W.fnOf x qual (iR st) (dz st) (aM st) .none kV doc pm an dG ct),tQ⟩)
    (c:W.codeIn K dG qual=true) (k:W.keepIn K (.ref f)=true):BS K x qual st f (W.fnOf x qual (iR st) (dz st) (aM st) .none kV doc pm an dG ct):=⟨⟨oc,od,kV,doc,pm,an,dG,ct,tQ,rfl,l,c⟩,k⟩
end
end L2
namespace L2.PL
open PySem PySem.Spec PyProof.Rows
inductive PV where
 | cG | bl (b:Bool) | int (i:Int) | str (x:Str) | aB (xs:List PV) | au (xs:List PV)
mutual
def c9(K:ak)(F:Hp):PV->V->Prop
 | .cG,v=>v=.cG
 | .bl b,v=>v=.bl b
 | .int i,v=>v=.int i
 | .str x,v=>v=.str x
 | .aB ps,v=>∃a vs,v=.ref a/\jm K F a vs/\bt K F ps vs
 | .au ps,v=>∃a vs,v=.ref a/\qj K F a vs/\bt K F ps vs
def bt(K:ak)(F:Hp):List PV->List V->Prop
 | [],vs=>vs=[]
 | p::ps,vs=>∃v r,vs=v::r/\c9 K F p v/\bt K F ps r
end
section
variable {K:ak} {F F' H H':Hp}
theorem bt.nil:bt K F [] []:=by simp[bt]
theorem bt.cons{p:PV}{ps:List PV}{v:V}{vs:List V}(h:c9 K F p v)(t:bt K F ps vs):bt K F (p::ps) (v::vs):=by
 simp only[bt];exact⟨v,vs,rfl,h,t⟩
theorem dE{v:V}:c9 K F .cG v↔v=.cG:=by simp only[c9]
theorem bZ{b:Bool}{v:V}:c9 K F (.bl b) v↔v=.bl b:=by simp only[c9]
theorem aI{i:Int}{v:V}:c9 K F (.int i) v↔v=.int i:=by simp only[c9]
theorem cD{i:Str}{v:V}:c9 K F (.str i) v↔v=.str i:=by simp only[c9]
theorem bM{ps:List PV}{v:V}:c9 K F (.aB ps) v↔∃a vs,v=.ref a/\jm K F a vs/\bt K F ps vs:=by simp only[c9]
end
def ClsAt(K:ak)(C:Str)(cls:aj):Prop:=W.nsIn K mainGlobals C=some (some cls)
section
variable {X:Cx} {H₀ ab:Hp}
def Ii:cb:=[.type "ValueError",.type "Exception",.type "BaseException",.type "object"]
structure aab (K:ak) (C:ae):Prop where
 ga:W.findIn K (.ref C) "__getattribute__"=some (some (.builtin "BaseException.__getattribute__"))
 noHook:W.findIn K (.ref C) "__getattr__"=some none
 cl:W.findIn K (.ref C) "__class__"=some (some (.builtin "object.__class__"))
 get:W.specialIn K (.builtin "object.__class__") "__get__"=some (some (.builtin "getset_descriptor.__get__"))
 takes:W.takesIn K (.builtin "object.__class__")=some true
 obj:W.mroIn K C (.type "object")=some true
 aex:W.mroIn K C (.type "BaseException")=some true
def uy(K:ak)(C:Str):Prop:=∃Ca,ClsAt K C (.ref Ca)/\W.excIn K Ca Ii "ValueError.__new__"=true/\aab K Ca
end
structure Pg where
 defs:List (Str×aE)
 cons:List (Str×PV)
 d3:List Str
 exc:List Str:=[]
 sub:List ((Str×Str)×Bool):=[]
 tabs:List (Str×List (Str×Str)):=[]
 own:List (Str×List Str):=[]
 bL:List Str:=[]
 obs:List (Str×List Str):=[]
 cls:List (Str×aE):=[]
 flds:List Str:=[]
 fZ:List (Str×List (Str×PV)):=[]
 mJ:List Str:=[]
 PN:List (Str×List Str):=[]
def params(st:aE):List Str:=(iR st).args.map fun a=>a.arg
def U5:NameKind->Bool
 | .local=>true
 | .cell=>true
 | _=>false
def dj(st:aE):List Str:=params st++((aM st).names.filter fun y=>U5 y.2&&!(params st).contains y.1).map fun y=>y.1
structure Ij (K:ak) (x:Str) (st:aE):Prop where
 ex:∃f fd,W.nsIn K mainGlobals x=some (some (.ref f))/\BS K x x st f fd/\∀us:cb,us.length=(params st).length->bindArgs fd ⟨us,[]⟩=pure ((params st).zip us)
 sc:dW (dj st) (params st) (aM st)
def BU(K:ak)(C D:Str)(b:Bool):Prop:=∃cls dv,ClsAt K C cls/\(W.nsIn K mainGlobals D=some (some dv)\/(W.nsIn K mainGlobals D=some none/\bootBuiltins D=some dv/\D≠"__name__"))/\((∃Da,dv=.ref Da)\/∃T,dv=.type T)/\W.exmOne K cls dv=some b/\W.kitOne K cls dv=some b
theorem Ik{K:ak}{C D:Str}{b:Bool}{cls:aj}{Da:ae}(a:W.nsIn K mainGlobals C=some (some cls))(d:W.nsIn K mainGlobals D=some (some (.ref Da)))(e:W.exmOne K cls (.ref Da)=some b)(k:W.kitOne K cls (.ref Da)=some b):BU K C D b:=⟨cls,_,a,.inl d,.inl ⟨_,rfl⟩,e,k⟩
theorem Il{K:ak}{C D:Str}{b:Bool}{cls:aj}{T:String}(a:W.nsIn K mainGlobals C=some (some cls))(d:W.nsIn K mainGlobals D=some none)(v:bootBuiltins D=some (.type T))(n:D≠"__name__")(e:W.exmOne K cls (.type T)=some b)(k:W.kitOne K cls (.type T)=some b):BU K C D b:=⟨cls,_,a,.inr ⟨d,v,n⟩,.inr ⟨_,rfl⟩,e,k⟩
theorem U6{K:ak}{C:Str}{Ca:ae}(a:W.nsIn K mainGlobals C=some (some (.ref Ca)))(q:W.excIn K Ca Ii "ValueError.__new__"=true)(k1:W.findIn K (.ref Ca) "__getattribute__"=some (some (.builtin "BaseException.__getattribute__")))(k2:W.findIn K (.ref Ca) "__getattr__"=some none)
  (k3:W.findIn K (.ref Ca) "__class__"=some (some (.builtin "object.__class__"))) (k4:W.specialIn K (.builtin "object.__class__") "__get__"=some (some (.builtin "getset_descriptor.__get__"))) (k5:W.takesIn K (.builtin "object.__class__")=some true) (k6:W.mroIn K Ca (.type "object")=some true) (k7:W.mroIn K Ca (.type "BaseException")=some true):uy K C :=
 ⟨Ca,a,q,⟨k1,k2,k3,k4,k5,k6,k7⟩⟩
def FA(K:ak)(P:Params)(T:Str)(b7:List (Str×Str)):Prop :=
 ∃a es n,W.nsIn K mainGlobals T=some (some (.ref a))/\K.lookup a=some ⟨.type "dict",none,.dict es n,#[]⟩/\W.KeysLit P es.toList/\∀d∈b7,∃f,W.nsIn K a d.1=some (some (.ref f))/\W.nsIn K mainGlobals d.2=some (some (.ref f))
theorem aac{K:ak}{P:Params}{T:Str}{b7:List (Str×Str)}{a:ae}{es:Array DictEntry}{n:Nat}(h1:W.nsIn K mainGlobals T=some (some (.ref a)))(h2:K.lookup a=some ⟨.type "dict",none,.dict es n,#[]⟩)(h3:W.KeysLit P es.toList)
  (h4:∀d∈b7,∃f,W.nsIn K a d.1=some (some (.ref f))/\W.nsIn K mainGlobals d.2=some (some (.ref f))):FA K P T b7:=⟨a,es,n,h1,h2,h3,h4⟩
def flatIs:List PV->cb->Bool
 | [],[]=>true
 | .int i::r,.int j _::q=>(i==j)&&flatIs r q
 | .str x::r,.str y _::q=>(x==y)&&flatIs r q
 | .bl a::r,.bool b::q=>(a==b)&&flatIs r q
 | .cG::r,.none::q=>flatIs r q
 | _,_=>false
theorem mK{K:ak}:∀{ps:List PV} {us:cb},flatIs ps us=true->∃vs,Vals vs us/\∀F,bt K F ps vs
 | [],[],_=>⟨[],.nil,fun _=>.nil⟩
 | .int i::r,.int j t::q,h=>by
  simp only[flatIs,aQ,ox]at h;obtain⟨vs,h1,h2⟩:=mK h.2;exact⟨.int i::vs,.cons ⟨t,by rw[h.1]⟩ h1,fun F=>.cons (aI.mpr rfl) (h2 F)⟩
 | .str x::r,.str y t::q,h=>by
  simp only[flatIs,aQ]at h;have e:=bE h.1;obtain⟨vs,h1,h2⟩:=mK h.2;exact⟨.str x::vs,.cons ⟨t,by rw[e]⟩ h1,fun F=>.cons (cD.mpr rfl) (h2 F)⟩
 | .bl a::r,.bool b::q,h=>by
  simp only[flatIs,aQ,ox]at h;obtain⟨vs,h1,h2⟩:=mK h.2;exact⟨.bl a::vs,.cons (by rw[h.1];rfl) h1,fun F=>.cons (bZ.mpr rfl) (h2 F)⟩
 | .cG::r,.none::q,h=>by
  simp only[flatIs]at h;obtain⟨vs,h1,h2⟩:=mK h;exact⟨.cG::vs,.cons rfl h1,fun F=>.cons (dE.mpr rfl) (h2 F)⟩
theorem Mr{K:ak}{g:ae}{x:Str}{a:ae}{ps:List PV}{us:cb}{n:Nat}{dd:Option ae}{sl:Array mi}(h1:W.nsIn K g x=some (some (.ref a)))(h2:K.lookup a=some ⟨.type "tuple",dd,.seq us.toArray n,sl⟩)(h3:flatIs ps us=true)(h4:us.length<=100) :
  ∃u v,W.nsIn K g x=some (some u)/\RelV v u/\∀F,c9 K F (.aB ps) v:=by
 obtain⟨vs,r,b⟩:=mK (K:=K) h3;exact⟨_,.ref a,h1,rfl,fun F=>bM.mpr ⟨a,vs,rfl,.inr ⟨_,us.toArray,n,h2,rfl,rfl,by rw[bF];exact cF h4 (by decide),by simpa using r⟩,b F⟩⟩
theorem Ms{K:ak}{g:ae}{x:Str}{y:Str}{t:Tok}(a:W.nsIn K g x=some (some (.str y t))):∃u v,W.nsIn K g x=some (some u)/\RelV v u/\∀F,c9 K F (.str y) v:=⟨_,.str y,a,⟨t,rfl⟩,fun F=>cD.mpr rfl⟩
def QZ(K:ak)(C:Str)(st:aE)(flds:List Str):Prop:=∃Ca f fd,W.nsIn K mainGlobals C=some (some (.ref Ca))/\Mk K Ca f/\Uw K Ca/\(∀g∈flds,oA K Ca g)/\BS K "__init__" (C++".__init__") st f fd/\(∀us:cb,us.length=(params st).length->bindArgs fd ⟨us,[]⟩=pure ((params st).zip us))/\dW (dj st) (params st) (aM st)
def yv(K:ak)(P:Params)(T:Str)(b7:List (Str×PV)):Prop :=
 ∃a es n,W.nsIn K mainGlobals T=some (some (.ref a))/\K.lookup a=some ⟨.type "dict",none,.dict es n,#[]⟩/\W.KeysLit P es.toList/\∀d∈b7,∃u v,W.nsIn K a d.1=some (some u)/\RelV v u/\∀F,c9 K F d.2 v
def Q0(K:ak)(x:Str):Prop:=x∈d0/\∃c T,W.tabIn K x=some (c,T)/\W.codeHdIn K c T=true
def Im(K:ak):Prop:=∃bm o,W.nsIn K mainGlobals "__builtins__"=some (some (.ref bm))/\bm≠builtinsNs/\bm≠mainGlobals/\K.lookup bm=some o/\o.cls=.type "module"/\o.dict=some builtinsNs/\o.data=.plain
structure mM (K:ak) (h:Heap):Prop where
 at_:∀x∈d0,∀c T,W.tabIn K x=some (c,T)->W.codeHdIn K c T=true/\h.get? T=some {cls:=.none,data:=.fields #[]}/\K.lookup T=none
 nd:(d0.filterMap fun x=>(W.tabIn K x).map (·.2)).Nodup
theorem mM.keeps{K:ak}{h h':Heap}(t:mM K h)(k:∀b o,h.get? b=some o->h'.get? b=some o):mM K h':=⟨fun x hx c T e=>let ⟨h1,h2,h3⟩:=t.at_ x hx c T e;⟨h1,k _ _ h2,h3⟩,t.nd⟩
theorem Mt{K:ak}{g:ae}{x:Str}{i:Int}{t:Tok}(a:W.nsIn K g x=some (some (.int i t))):∃u v,W.nsIn K g x=some (some u)/\RelV v u/\∀F,c9 K F (.int i) v:=⟨_,.int i,a,⟨t,rfl⟩,fun F=>aI.mpr rfl⟩
structure Io (P:Pg) (w:aW) (K:ak):Prop where
 hd:∀d∈P.defs,Ij K d.1 d.2
 hc:∀d∈P.cons,∃u v,W.nsIn K mainGlobals d.1=some (some u)/\RelV v u/\∀F,c9 K F d.2 v
 hb:∀x∈P.d3,W.nsIn K mainGlobals x=some none
 he:∀C∈P.exc,uy K C
 hs:∀d∈P.sub,BU K d.1.1 d.1.2 d.2
 ht:∀d∈P.tabs,FA K w.params d.1 d.2
 hcl:∀d∈P.cls,QZ K d.1 d.2 P.flds
 hct:∀d∈P.fZ,yv K w.params d.1 d.2
 hlm:∀x∈P.mJ,Q0 K x
 hbm:P.mJ≠[]->Im K
def Ip:aj->List ae
 | .ref a=>[a]
 | _=>[]
def DS:Option Obj->List ae
 | some ⟨_,_,.dict es _,_⟩=>es.toList.flatMap fun e=>Ip e.val
 | some ⟨_,_,.func fd,_⟩=>Ip fd.code
 | some ⟨_,_,.cls cd,_⟩=>cd.ns::cd.mro.flatMap Ip
 | _=>[]
def fragOf(h:Heap):List ae->ak
 | []=>[]
 | a::r=>match h.get? a with
  | some o=>(a,o)::fragOf h r
  | none=>fragOf h r
theorem oC(h:Heap):∀as:List ae,(fragOf h as).In h
 | []=>fun _ _ e=>by cases e
 | a::r=>fun b o e=>by
  unfold fragOf at e;split at e
  ·rename_i o' ho;rw[jh]at e;cases z:b==a with
   | true =>
    rw[z]at e;cases e;rw[bE z];exact ho
   | false =>
    rw[z]at e;exact oC h r b o e
  ·exact oC h r b o e
def nsO:Option Obj->List ae
 | some ⟨_,_,.cls cd,_⟩=>[cd.ns]
 | _=>[]
def aae(h:Heap)(a:ae):List ae:=a::(DS (h.get? a)++(nsO (h.get? a)).flatMap fun b=>(DS (h.get? b)).flatMap fun c=>c::DS (h.get? c))
def fA(h:Heap):ak:=fragOf h (mainGlobals::(DS (h.get? mainGlobals)).flatMap (aae h))
def chFn(K:ak)(x:Str):Option dQ:=match W.nsIn K mainGlobals x with
 | some (some (.ref f))=>(match K.lookup f with
  | some ⟨_,_,.func fd,_⟩=>(match W.codeIn K fd.code x with
   | true=>some {fd with kwdefaults:=.none,doc:=.none,pyModule:=.none,annotations:=none,code:=.none,closureTuple:=.none}
   | false=>none)
  | _=>none)
 | _=>none
def mN(x:Str)(st:aE):dQ:=W.fnOf x x (iR st) (dz st) (aM st) .none .none .none .none none .none .none
theorem Mu{K:ak}{x:Str}{st:aE}(h:chFn K x=some (mN x st)):∃f fd,W.nsIn K mainGlobals x=some (some (.ref f))/\BS K x x st f fd:=by
 unfold chFn at h;split at h
 ·rename_i f hf;split at h
  ·rename_i oc od fd tQ hl;split at h
   ·rename_i hc;have h:=bD h;obtain⟨a1,a2,a3,a4,a5,a6,a7,a8,a9,a10,a11,a12,a13,a14,a15⟩:=fd;unfold mN at h;simp only[FuncData.mk.injEq]at h;obtain⟨e1,e2,e3,e4,e5,e6,e7,e8,-,-,-,-,-,-,e15⟩:=h;subst e1 e2 e3 e4 e5 e6 e7 e8 e15;exact⟨f,_,hf,Ih hl hc (by unfold W.keepIn;dsimp only;rw[hl])⟩
   ·cases h
  ·cases h
 ·cases h
def uz(K:ak)(g:ae)(d:Str×PV):Bool:=match W.nsIn K g d.1 with
 | some (some (.int j _))=>(match d.2 with | .int i=>i==j | _=>false)
 | some (some (.str y _))=>(match d.2 with | .str x=>x==y | _=>false)
 | some (some (.ref a))=>(match K.lookup a with
  | some ⟨.type t,_,.seq us _,_⟩=>(match d.2 with | .aB ps=>(t=="tuple")&&(flatIs ps us.toList&&decide (us.toList.length<=100)) | _=>false)
  | _=>false)
 | _=>false
theorem yw{K:ak}{g:ae}{x:Str}{p:PV}(h:uz K g (x,p)=true):∃u v,W.nsIn K g x=some (some u)/\RelV v u/\∀F,c9 K F p v:=by
 unfold uz at h;dsimp only at h
 split at h
 ·rename_i j t hn;split at h
  ·rename_i i;obtain rfl:=bE h;exact Mt hn
  ·cases h
 ·rename_i y t hn;split at h
  ·rename_i i;obtain rfl:=bE h;exact Ms hn
  ·cases h
 ·rename_i a hn;split at h
  ·rename_i t dd us n sl hl;split at h
   ·rename_i ps;rw[aQ,aQ]at h;obtain⟨h1,h2,h3⟩:=h;obtain rfl:=bE h1;obtain⟨us⟩:=us;exact Mr hn hl h2 (qK h3)
   ·cases h
  ·cases h
 ·cases h
def yx(K:ak)(x:Str):Bool:=match W.nsIn K mainGlobals x with
 | some none=>true
 | _=>false
theorem Iq{K:ak}{x:Str}(h:yx K x=true):W.nsIn K mainGlobals x=some none:=by
 unfold yx at h;split at h
 ·assumption
 ·cases h
abbrev OV:=Option mi
def yy(K:ak)(C:Str):Option (Bool×OV×OV×OV×OV×Option Bool×Option Bool×Option Bool):=match W.nsIn K mainGlobals C with
 | some (some (.ref a))=>some (W.excIn K a Ii "ValueError.__new__",W.findIn K (.ref a) "__getattribute__",W.findIn K (.ref a) "__getattr__",W.findIn K (.ref a) "__class__",W.specialIn K (.builtin "object.__class__") "__get__",W.takesIn K (.builtin "object.__class__"),W.mroIn K a (.type "object"),W.mroIn K a (.type "BaseException"))
 | _=>none
def qT:Option (Bool×OV×OV×OV×OV×Option Bool×Option Bool×Option Bool):=some (true,some (some (.builtin "BaseException.__getattribute__")),some none,some (some (.builtin "object.__class__")),some (some (.builtin "getset_descriptor.__get__")),some true,some true,some true)
theorem Ir{K:ak}{C:Str}(h:yy K C=qT):uy K C:=by
 unfold yy qT at h;split at h
 ·rename_i a hn;have h:=bD h;simp only[kl]at h;obtain⟨h1,h2,h3,h4,h5,h6,h7,h8⟩:=h;exact U6 hn h1 h2 h3 h4 h5 h6 h7 h8
 ·cases h
def yz(K:ak)(C D:Str):Option (Option Bool×Option Bool):=match W.nsIn K mainGlobals C with
 | some (some cls)=>(match W.nsIn K mainGlobals D with
  | some (some (.ref a))=>some (W.exmOne K cls (.ref a),W.kitOne K cls (.ref a))
  | some none=>(match bootBuiltins D with
   | some (.type T)=>(match decide (D="__name__")with
    | true=>none
    | false=>some (W.exmOne K cls (.type T),W.kitOne K cls (.type T)))
   | _=>none)
  | _=>none)
 | _=>none
theorem Iu{K:ak}{C D:Str}{b:Bool}(h:yz K C D=some (some b,some b)):BU K C D b:=by
 unfold yz at h;split at h
 ·rename_i cls hc;split at h
  ·rename_i a hd;have h:=bD h;rw[kl]at h;exact Ik hc hd h.1 h.2
  ·rename_i hd;split at h
   ·rename_i T hT;split at h
    ·cases h
    ·rename_i hD;have h:=bD h;rw[kl]at h;exact Il hc hd hT (of_decide_eq_false hD) h.1 h.2
   ·cases h
  ·cases h
 ·cases h
def DT(e:DictEntry):Option Str×Int:=(match e.key with
 | .str x _=>some x
 | _=>none,e.hash)
def Iv(K:ak)(a:ae)(d:Str×Str):Bool:=match W.nsIn K a d.1,W.nsIn K mainGlobals d.2 with
 | some (some (.ref f)),some (some (.ref g))=>f==g
 | _,_=>false
def yA(K:ak)(T:Str)(b7:List (Str×Str)):Option (aj×Option ae×Array mi×List (Option Str×Int)×Bool):=match W.nsIn K mainGlobals T with
 | some (some (.ref a))=>(match K.lookup a with
  | some ⟨c,dd,.dict es _,sl⟩=>some (c,dd,sl,es.toList.map DT,b7.all (Iv K a))
  | _=>none)
 | _=>none
def qU(P:Params)(b7:List (Str×Str)):Option (aj×Option ae×Array mi×List (Option Str×Int)×Bool):=some (.type "dict",none,#[],b7.map (fun d=>(some d.1,PyData.keyHash P d.1)),true)
theorem qV{β:Type}{P:Params}:∀{es:List DictEntry} {b7:List (Str×β)},es.map DT=b7.map (fun d=>(some d.1,PyData.keyHash P d.1))->W.KeysLit P es
 | [],_,_=>trivial
 | _::_,[],h=>by cases h
 | e::es,d::b7,h=>by
  rw[bR,bR,List.cons.injEq]at h;obtain⟨h1,h2⟩:=h;refine⟨?_,qV h2⟩;unfold DT at h1;rw[kl]at h1;obtain⟨h3,h4⟩:=h1;split at h3
  ·rename_i x t hk;cases h3;exact⟨_,t,hk,h4⟩
  ·cases h3
theorem Iw{K:ak}{a:ae}{d:Str×Str}(h:Iv K a d=true):∃f,W.nsIn K a d.1=some (some (.ref f))/\W.nsIn K mainGlobals d.2=some (some (.ref f)):=by
 unfold Iv at h;split at h
 ·rename_i f g h1 h2;obtain rfl:=bE h;exact⟨_,h1,h2⟩
 ·cases h
theorem Iy{K:ak}{P:Params}{T:Str}{b7:List (Str×Str)}(h:yA K T b7=qU P b7):FA K P T b7:=by
 unfold yA qU at h;split at h
 ·rename_i a hn;split at h
  ·rename_i c dd es n sl hl;have h:=bD h;simp only[kl]at h;obtain⟨rfl,rfl,rfl,h4,h5⟩:=h;exact aac hn hl (qV h4) fun d hd=>Iw (fq.mp h5 d hd)
  ·cases h
 ·cases h
abbrev Mv:=Option (aj×Option ae×Array mi×List (Option Str×Int)×Bool)
def qW(K:ak)(T:Str)(b7:List (Str×PV)):Mv:=match W.nsIn K mainGlobals T with
 | some (some (.ref a))=>(match K.lookup a with
  | some ⟨c,dd,.dict es _,sl⟩=>some (c,dd,sl,es.toList.map DT,b7.all (uz K a))
  | _=>none)
 | _=>none
def mO(P:Params)(b7:List (Str×PV)):Mv:=some (.type "dict",none,#[],b7.map (fun d=>(some d.1,PyData.keyHash P d.1)),true)
theorem FC{K:ak}{P:Params}{T:Str}{b7:List (Str×PV)}(h:qW K T b7=mO P b7):yv K P T b7:=by
 unfold qW mO at h;split at h
 ·rename_i a hn;split at h
  ·rename_i c dd es n sl hl;have h:=bD h;simp only[kl]at h;obtain⟨rfl,rfl,rfl,h4,h5⟩:=h;exact⟨a,es,n,hn,hl,qV h4,fun d hd=>yw (fq.mp h5 d hd)⟩
  ·cases h
 ·cases h
def BV(K:ak)(f:ae)(qual:Str):Option dQ:=match K.lookup f with
 | some ⟨_,_,.func fd,_⟩=>(match W.codeIn K fd.code qual with
  | true=>some {fd with kwdefaults:=.none,doc:=.none,pyModule:=.none,annotations:=none,code:=.none,closureTuple:=.none}
  | false=>none)
 | _=>none
def Iz(x qual:Str)(st:aE):dQ:=W.fnOf x qual (iR st) (dz st) (aM st) .none .none .none .none none .none .none
theorem FD{K:ak}{x qual:Str}{st:aE}{f:ae}(h:BV K f qual=some (Iz x qual st)):∃fd,BS K x qual st f fd:=by
 unfold BV at h;split at h
 ·rename_i oc od fd tQ hl;split at h
  ·rename_i hc;have h:=bD h;obtain⟨a1,a2,a3,a4,a5,a6,a7,a8,a9,a10,a11,a12,a13,a14,a15⟩:=fd;unfold Iz at h;simp only[FuncData.mk.injEq]at h;obtain⟨e1,e2,e3,e4,e5,e6,e7,e8,-,-,-,-,-,-,e15⟩:=h;subst e1 e2 e3 e4 e5 e6 e7 e8 e15;exact⟨_,Ih hl hc (by unfold W.keepIn;dsimp only;rw[hl])⟩
  ·cases h
 ·cases h
abbrev Q1:=Option (Bool×OV×List OV×Option dQ)
def yB(K:ak)(flds:List Str)(C:Str):Q1:=match W.nsIn K mainGlobals C with
 | some (some (.ref a))=>(match W.findIn K (.ref a) "__init__" with
  | some (some (.ref f))=>some (W.makesIn K a&&(W.isFn K (.ref f)&&(W.keepIn K (.ref a)&&(W.plainGet K a Str.empty&&(W.hasDictIn K a&&W.plainOver K a)))),W.findIn K (.ref a) "__setattr__",flds.map (fun g=>W.findIn K (.ref a) g),BV K f (C++".__init__"))
  | _=>none)
 | _=>none
def qX(flds:List Str)(C:Str)(st:aE):Q1:=some (true,some (some (.builtin "object.__setattr__")),flds.map (fun _=>some none),some (Iz "__init__" (C++".__init__") st))
def v5:List Str->Bool
 | []=>true
 | x::r=>!r.contains x&&v5 r
theorem uA:∀{l:List Str},v5 l=true->l.Nodup
 | [],_=>vV
 | x::r,h=>by
  simp only[v5,aQ,Bool.not_eq_true',List.contains_eq_mem,decide_eq_false_iff_not]at h;exact fu.mpr ⟨h.1,uA h.2⟩
def aag:Option NameKind->Bool
 | some .local=>true
 | some .cell=>true
 | _=>false
def U7:NameKind->Bool
 | .free=>false
 | _=>true
def U8:ScopeKind->Bool
 | .function=>true
 | _=>false
def Mw(st:aE):Bool:=U8 (aM st).kind&&(!(aM st).isCoroutine&&(!(aM st).isGenerator&&(v5 (dj st)&&((params st).all (fun x=>aag ((aM st).names.lookup x))&&(aM st).names.all fun y=>U7 y.2))))
theorem IA{st:aE}(h:Mw st=true):dW (dj st) (params st) (aM st):=by
 unfold Mw at h;rw[aQ,aQ,aQ,aQ,aQ]at h;obtain⟨h1,h2,h3,h4,h5,h6⟩:=h;refine⟨?_,by simpa using h2,by simpa using h3,uA h4,?_,fun x hx=>?_,fun y hy=>?_⟩
 ·cases z:(aM st).kind<;>rw[z]at h1<;>first | rfl | cases h1
 ·unfold dj;exact List.take_left
 ·have k:=fq.mp h5 x hx;cases z:(aM st).names.lookup x with
  | none=>rw[z]at k;cases k
  | some b =>
   rw[z]at k;cases b<;>first | exact .inl rfl | exact .inr rfl | cases k
 ·have k:=fq.mp h6 y hy;intro z;rw[z]at k;cases k
def DU(P:Pg):Prop:=∀(kV doc pm:aj) (an:Option ae) (dG ct:aj) (u:Nat->aj),
 P.defs.map (fun d=>bindArgs (W.fnOf d.1 d.1 (iR d.2) (dz d.2) (aM d.2) .none kV doc pm an dG ct) ⟨(List.range (params d.2).length).map u,[]⟩)=P.defs.map fun d=>pure ((params d.2).zip ((List.range (params d.2).length).map u))
theorem yC{us:cb}{n:Nat}(h:us.length=n):(List.range n).map (fun i=>us.getD i .none)=us:=by
 subst h;apply List.ext_getElem
 ·simp
 ·intro i h1 h2;simp[Bo,h2]
theorem Q2{K:ak}{x:Str}{st:aE}{f:ae}{fd:dQ}{P:Pg}(hb:DU P)(hd:(x,st)∈P.defs)(F:BS K x x st f fd)(us:cb)(hl:us.length=(params st).length):bindArgs fd ⟨us,[]⟩=pure ((params st).zip us):=by
 obtain⟨oc,od,kV,doc,pm,an,dG,ct,tQ,rfl,lk,uB⟩:=F.ex;have k:=jd.mp (hb kV doc pm an dG ct fun i=>us.getD i .none) (x,st) hd
 dsimp only at k
 rw[yC hl]at k;exact k
def Mx(P:Pg):Prop:=∀(kV doc pm:aj) (an:Option ae) (dG ct:aj) (u:Nat->aj),
 P.cls.map (fun d=>bindArgs (W.fnOf "__init__" (d.1++".__init__") (iR d.2) (dz d.2) (aM d.2) .none kV doc pm an dG ct) ⟨(List.range (params d.2).length).map u,[]⟩)=P.cls.map fun d=>pure ((params d.2).zip ((List.range (params d.2).length).map u))
theorem IB{K:ak}{P:Pg}{C:Str}{st:aE}(Q3:Mw st=true)(hb:Mx P)(hd:(C,st)∈P.cls)(h:yB K P.flds C=qX P.flds C st):QZ K C st P.flds:=by
 unfold yB qX at h;split at h
 ·rename_i a hn;split at h
  ·rename_i f hf;have h:=bD h;simp only[kl,aQ]at h;obtain⟨⟨h1,h2,h3,h4,h5,h6⟩,h7,h8,h9⟩:=h;obtain⟨fd,F⟩:=FD h9;refine⟨a,f,fd,hn,⟨h1,hf,h2,h3⟩,⟨h4,h5,h6,h7⟩,fun g hg=>jd.mp h8 g hg,F,fun us hl=>?_,IA Q3⟩
   obtain⟨oc,od,kV,doc,pm,an,dG,ct,tQ,rfl,lk,uB⟩:=F.ex;have k:=jd.mp (hb kV doc pm an dG ct fun i=>us.getD i .none) (C,st) hd
   dsimp only at k
   rw[yC hl]at k;exact k
  ·cases h
 ·cases h
abbrev Q4:=List (Option dQ)×List (Option dQ)×Bool×List (Option (Bool×OV×OV×OV×OV×Option Bool×Option Bool×Option Bool))×List (Option (Option Bool×Option Bool))×List Mv×List Q1×List Mv
def BW(K:ak)(h:Heap)(x:Str):Bool:=match W.tabIn K x with
 | none=>true
 | some (c,T)=>W.codeHdIn K c T&&((K.lookup T).isNone&&(match h.get? T with
  | some ⟨.none,none,.fields vs,sl⟩=>vs.isEmpty&&sl.isEmpty
  | _=>false))
def Q5(K:ak):Bool:=match W.nsIn K mainGlobals "__builtins__" with
 | some (some (.ref bm))=>!(bm==builtinsNs)&&(!(bm==mainGlobals)&&(match K.lookup bm with
  | some ⟨.type m,some d,.plain,_⟩=>(m=="module")&&(d==builtinsNs)
  | _=>false))
 | _=>false
def yD(P:Pg)(K:ak)(h:Heap):Bool:=d0.all (BW K h)&&(decide (d0.filterMap fun x=>(W.tabIn K x).map (·.2)).Nodup&&((P.mJ.isEmpty || Q5 K)&&P.mJ.all fun x=>d0.contains x&&(W.tabIn K x).isSome))
theorem uC{K:ak}{h:Heap}{x:Str}{c T:ae}(e:BW K h x=true)(t:W.tabIn K x=some (c,T)):W.codeHdIn K c T=true/\h.get? T=some {cls:=.none,data:=.fields #[]}/\K.lookup T=none:=by
 unfold BW at e;rw[t]at e;simp only[aQ]at e;obtain⟨h1,h2,h3⟩:=e;refine⟨h1,?_,by simpa using h2⟩
 split at h3
 ·rename_i vs sl z;rw[aQ]at h3;rw[z];have e1:vs=#[]:=by simpa using h3.1
  have e2:sl=#[]:=by simpa using h3.2
  rw[e1,e2]
 ·cases h3
theorem My{K:ak}(e:Q5 K=true):Im K:=by
 unfold Q5 at e;split at e
 ·rename_i bm hb;simp only[aQ]at e;obtain⟨h1,h2,h3⟩:=e;split at h3
  ·rename_i m d sl z;rw[aQ]at h3;obtain rfl:=bE h3.1;obtain rfl:=bE h3.2;exact⟨bm,_,hb,by simpa using h1,by simpa using h2,z,rfl,rfl,rfl⟩
  ·cases h3
 ·cases e
theorem IC{P:Pg}{K:ak}{h:Heap}(e:yD P K h=true):mM K h/\(∀x∈P.mJ,Q0 K x)/\(P.mJ≠[]->Im K):=by
 unfold yD at e;simp only[aQ]at e;obtain⟨h1,h2,h3,h4⟩:=e;have all:=fq.mp h1;refine⟨⟨fun x hx c T t=>uC (all x hx) t,qK h2⟩,fun x hx=>?_,fun z=>?_⟩
 ·have:=fq.mp h4 x hx;rw[aQ]at this;have hm:x∈d0:=by simpa using this.1
  cases t:W.tabIn K x with
  | none=>rw[t]at this;cases this.2
  | some cT=>exact⟨hm,cT.1,cT.2,t,(uC (all x hm) t).1⟩
 ·rcases Bool.or_eq_true_iff.mp h3 with y | y
  ·exact absurd (List.isEmpty_iff.mp y) z
  ·exact My y
def BX(P:Pg)(K:ak)(hp:Heap):Q4:=((P.defs.take 26).map (fun d=>chFn K d.1),(P.defs.drop 26).map (fun d=>chFn K d.1),P.cons.all (uz K mainGlobals)&&(P.d3.all (yx K)&&yD P K hp),P.exc.map (yy K),P.sub.map (fun d=>yz K d.1.1 d.1.2),P.tabs.map (fun d=>yA K d.1 d.2),P.cls.map (fun d=>yB K P.flds d.1),P.fZ.map fun d=>qW K d.1 d.2)
def BY(P:Pg)(w:aW):Q4:=((P.defs.take 26).map (fun d=>some (mN d.1 d.2)),(P.defs.drop 26).map (fun d=>some (mN d.1 d.2)),true,P.exc.map (fun _=>qT),P.sub.map (fun d=>some (some d.2,some d.2)),P.tabs.map (fun d=>qU w.params d.2),P.cls.map (fun d=>qX P.flds d.1 d.2),P.fZ.map fun d=>mO w.params d.2)
theorem FF{P:Pg}{w:aW}{K:ak}(Q3:P.defs.all (fun d=>Mw d.2)=true)(U9:DU P)(ID:P.cls.all (fun d=>Mw d.2)=true)(IE:Mx P){hp:Heap}(h:BX P K hp=BY P w):Io P w K/\mM K hp:=by
 unfold BX BY at h;simp only[kl]at h;obtain⟨h1,h0,h2,h3,h4,h5,h6,h7⟩:=h;rw[aQ,aQ]at h2;obtain⟨l1,l2,l3⟩:=IC h2.2.2;refine⟨⟨fun d hd=>?_,fun d hd=>yw (fq.mp h2.1 d hd),fun x hx=>Iq (fq.mp h2.2.1 x hx),fun C hC=>Ir (jd.mp h3 C hC),fun d hd=>Iu (jd.mp h4 d hd),fun d hd=>Iy (jd.mp h5 d hd),fun d hd=>IB (fq.mp ID d hd) IE hd (jd.mp h6 d hd),fun d hd=>FC (jd.mp h7 d hd),l2,l3⟩,l1⟩
 have hh:chFn K d.1=some (mN d.1 d.2):=by
  have yE:=hd;rw[<-List.take_append_drop 26 P.defs]at yE;rcases cR.mp yE with z | z
  ·exact jd.mp h1 d z
  ·exact jd.mp h0 d z
 obtain⟨f,fd,a,F⟩:=Mu hh;exact⟨⟨f,fd,a,F,fun us hl=>Q2 U9 hd F us hl⟩,IA (fq.mp Q3 d hd)⟩
theorem mP{α β γ:Type}{o:Option α}{f:α->β}{g:α->γ}{a:β}{b:γ}(h1:o.map f=some a)(h2:o.map g=some b):o.map (fun s=>(f s,g s))=some (a,b):=by
 cases o with
 | none=>cases h1
 | some s=>cases h1;cases h2;rfl
def Mz(P:Pg)(Q3:P.defs.all (fun d=>Mw d.2)=true)(U9:DU P)(ID:P.cls.all (fun d=>Mw d.2)=true)(IE:Mx P):W.Hook :=
 ⟨Q4,fun s=>BX P (fA s.heap) s.heap,fun w=>BY P w,fun w h=>∃K:ak,K.In h/\Io P w K/\mM K h,fun w s e=>⟨_,oC _ _,FF Q3 U9 ID IE e⟩,fun _ _ _ ⟨K,a,b,c⟩ k=>⟨K,a.keeps k,b,c.keeps k⟩⟩
def mQ(p:bJ)(row:String)(b:Bool)(N:Nat)(w:aW):Option aw:=(W.fencedOpening treeTable p w N).bind fun s₀=>W.topFrom treeTable p (w.withFollow row b) N s₀
theorem FG{p q:bJ}{loose:List Str}{Xt:aw->Bool}{α:Type}{Yf:aw->α}{Ya:aW->α}{N:Nat}{g0:Bool}(row:String)
  (h1:∀w,(mQ p row false N w).map (W.openSeen q loose (importedModules p.main.body) Xt g0)=some (W.openGood q loose)) (h2:∀w,(mQ p row true N w).map (W.openSeen q loose (importedModules p.main.body) Xt g0)=some (W.openGood q loose))
  (h3:∀w,(mQ p row false N w).map Yf=some (Ya (w.withFollow row false))) (h4:∀w,(mQ p row true N w).map Yf=some (Ya (w.withFollow row true))):W.LeftO p q loose Xt Yf Ya N g0:=by
 refine W.LeftO.of_split row fun w=>?_
 obtain⟨sA,a1,a2⟩:=jI.mp (h1 w);obtain⟨sB,b1,b2⟩:=jI.mp (h2 w);obtain⟨sC,c1,c2⟩:=jI.mp (h3 w);obtain⟨sD,d1,d2⟩:=jI.mp (h4 w);rw[a1]at c1;rw[b1]at d1;cases c1;cases d1;obtain⟨s0,f0,tA⟩:=vJ.mp a1;obtain⟨s1,f1,tB⟩:=vJ.mp b1;rw[f0]at f1;cases f1;rw[f0,ou,tA,tB,ou,ou,a2,b2,c2,d2]
end L2.PL
namespace cz
open PySem L2 L2.PL mH
def top(i:Nat):aE:=PySem.Challenge.pw_lendrule_k26_whole_why_it_is_needed.main.body.getD i (.Pass ⟨0,0,0,0⟩)
abbrev yF:aE:=top 5
abbrev mR:aE:=top 6
abbrev IF:aE:=top 7
abbrev DV:aE:=top 8
abbrev pj:aE:=top 9
abbrev uD:aE:=top 12
abbrev pw:aE:=top 13
abbrev qY:aE:=top 14
abbrev IG:aE:=top 16
abbrev BZ:aE:=top 17
abbrev pz:aE:=top 29
abbrev IH:aE:=top 30
abbrev DW:aE:=top 31
abbrev uE:aE:=top 32
abbrev mU:aE:=top 33
abbrev DX:aE:=top 34
abbrev lG:aE:=top 35
abbrev uF:aE:=top 36
abbrev kq:aE:=top 37
abbrev lH:aE:=top 38
abbrev qZ:aE:=top 39
abbrev q8:aE:=top 40
abbrev pA:aE:=top 41
abbrev pB:aE:=top 42
abbrev pC:aE:=top 43
abbrev pE:aE:=top 44
abbrev pG:aE:=top 45
abbrev uG:aE:=top 46
abbrev pH:aE:=top 47
abbrev uH:aE:=top 48
abbrev uI:aE:=top 49
abbrev q9:aE:=top 50
abbrev pI:aE:=top 51
abbrev DY:aE:=top 54
abbrev mV:aE:=top 55
abbrev pJ:aE:=top 56
abbrev yG:aE:=top 57
abbrev kr:aE:=top 58
abbrev rb:aE:=top 60
abbrev yH:aE:=top 61
abbrev yI:aE:=top 62
abbrev yJ:aE:=top 63
abbrev uJ:aE:=top 64
abbrev yK:aE:=top 65
abbrev DZ:aE:=top 66
abbrev yL:aE:=top 67
abbrev rf:aE:=top 68
abbrev rg:aE:=top 69
abbrev rh:aE:=top 70
abbrev ri:aE:=top 71
abbrev D0:aE:=top 72
abbrev mW:aE:=top 73
abbrev II:aE:=top 74
abbrev rj:aE:=top 75
abbrev yM:aE:=top 76
abbrev uK:aE:=top 77
abbrev IJ:aE:=top 78
def bC:Pg where
 defs:=(("leaves":Str),yF)::(("check_part":Str),mR)::(("part":Str),IF)::(("first":Str),DV)::(("is_copied":Str),pj)::(("kind_of":Str),uD)::(("is_holder":Str),pw)::(("shape_of":Str),qY)::(("spread":Str),IG)::(("tell_new":Str),BZ)::(("row_nexts":Str),pz)::(("acts":Str),IH)::(("nexts":Str),DW)::(("touched":Str),uE)::(("is_lending":Str),mU)::(("touch":Str),DX)::(("touch_whole":Str),lG)::(("at_acts":Str),uF)::(("operand_acts":Str),kq)::(("target_acts":Str),lH)::(("put_acts":Str),qZ)::(("set_acts":Str),q8)::(("copy_acts":Str),pA)::(("move_acts":Str),pB)::(("drop_acts":Str),pC)::(("lend_acts":Str),pE)::(("call_acts":Str),pG)::(("arg_act":Str),uG)::(("owner_act":Str),pH)::(("if_acts":Str),uH)::(("go_acts":Str),uI)::(("say_acts":Str),q9)::(("give_acts":Str),pI)::(("needs":Str),DY)::(("acts_ahead":Str),mV)::(("needed_by":Str),pJ)::(("handed":Str),yG)::(("needed_ahead":Str),kr)::(("_law_cell_at":Str),rb)::(("_law_mixed":Str),yH)::(("_law_names":Str),yI)::(("_law_shape":Str),yJ)::(("_law_leaves":Str),uJ)::(("_law_parts":Str),yK)::(("_law_lets":Str),DZ)::(("_law_spots":Str),yL)::(("_law_numbers":Str),rf)::(("_law_operand":Str),rg)::(("_law_carried":Str),rh)::(("_law_lending":Str),ri)::(("_law_call":Str),D0)::(("_law_small_row":Str),mW)::(("_law_row":Str),II)::(("_law_program":Str),rj)::(("_law_whole":Str),yM)::(("_law_itself":Str),uK)::(("law":Str),IJ)::[]
 cons:=[("HOLDER_WORDS",(.aB [(.str "lent"),(.str "sole")])),("ROW",(.int 0)),("ACT",(.int 1)),("NAME",(.int 2)),("THROUGH",(.int 3)),("FIRST",(.int 4)),("MANY",(.int 5)),("TAKER",(.int 6)),("REST",(.aB [(.str "rest"),(.str ""),(.bl false),(.int 0),(.int 0),(.str "")])),("HAND",(.aB [(.str "hand"),(.str ""),(.bl false),(.int 0),(.int 0),(.str "")])),("LENDING",(.aB [(.str "lend"),(.str "sole")]))]
 d3:=["bool","enumerate","int","isinstance","len","list","range","set","sorted","str","sum","tuple"]
 exc:=["NoPart","NoName"]
 sub:=[]
 tabs:=[("MAKERS",[("put","put_acts"),("set","set_acts"),("fill","put_acts"),("copy","copy_acts"),("move","move_acts"),("drop","drop_acts"),("lend","lend_acts"),("sole","lend_acts"),("call","call_acts"),("if","if_acts"),("go","go_acts"),("say","say_acts"),("give","give_acts")])]
 own:=[]
 bL:=[]
 obs:=[]
 cls:=[]
 flds:=[]
 fZ:=[]
 mJ:=["needs"]
 PN:=[("nexts",["firsts"])]
end cz
namespace cz
open PySem L2 L2.PL
theorem Q3:bC.defs.all (fun d=>Mw d.2)=true:=by kernel_rfl
theorem U9:DU bC:=by
 intro kV doc pm an dG ct u;kernel_rfl
theorem ID:bC.cls.all (fun d=>Mw d.2)=true:=by kernel_rfl
theorem IE:Mx bC:=by
 intro kV doc pm an dG ct u;kernel_rfl
def qv:bJ:=W.view (W.OpenLaw.prog PySem.Challenge.rw_lendrule_k26_whole_why_it_is_needed) [78]
def lo:List Str:=(W.OpenLaw.prog PySem.Challenge.rw_lendrule_k26_whole_why_it_is_needed).boundNames.filter (· != "law")
def Xt(s:aw):Bool:=W.xlAt qv [] s&&W.recOk (W.RowW.records (W.OpenRow.toRowW (W.OpenLaw.row PySem.Challenge.rw_lendrule_k26_whole_why_it_is_needed))) s
abbrev hk:W.Hook:=Mz bC Q3 U9 ID IE
theorem e1(w:aW):(mQ (W.OpenLaw.prog PySem.Challenge.rw_lendrule_k26_whole_why_it_is_needed) "special-get-raises" false 5000 w).map (W.openSeen qv lo (importedModules (W.OpenLaw.prog PySem.Challenge.rw_lendrule_k26_whole_why_it_is_needed).main.body) Xt true)=some (W.openGood qv lo):=by kernel_rfl
theorem e2(w:aW):(mQ (W.OpenLaw.prog PySem.Challenge.rw_lendrule_k26_whole_why_it_is_needed) "special-get-raises" true 5000 w).map (W.openSeen qv lo (importedModules (W.OpenLaw.prog PySem.Challenge.rw_lendrule_k26_whole_why_it_is_needed).main.body) Xt true)=some (W.openGood qv lo):=by kernel_rfl
theorem aah(w:aW):(mQ (W.OpenLaw.prog PySem.Challenge.rw_lendrule_k26_whole_why_it_is_needed) "special-get-raises" false 5000 w).map (fun s:aw=>(bC.defs.take 26).map (fun d=>chFn (fA s.heap) d.1))=some ((bC.defs.take 26).map (fun d=>some (mN d.1 d.2))):=by kernel_rfl
theorem aai(w:aW):(mQ (W.OpenLaw.prog PySem.Challenge.rw_lendrule_k26_whole_why_it_is_needed) "special-get-raises" false 5000 w).map (fun s:aw=>(bC.defs.drop 26).map (fun d=>chFn (fA s.heap) d.1))=some ((bC.defs.drop 26).map (fun d=>some (mN d.1 d.2))):=by kernel_rfl
theorem aaj(w:aW):(mQ (W.OpenLaw.prog PySem.Challenge.rw_lendrule_k26_whole_why_it_is_needed) "special-get-raises" false 5000 w).map (fun s:aw=>(bC.cons.all (uz (fA s.heap) mainGlobals)&&(bC.d3.all (yx (fA s.heap))&&yD bC (fA s.heap) s.heap),bC.exc.map (yy (fA s.heap)),bC.sub.map (fun d=>yz (fA s.heap) d.1.1 d.1.2),bC.tabs.map (fun d=>yA (fA s.heap) d.1 d.2),bC.cls.map (fun d=>yB (fA s.heap) bC.flds d.1),bC.fZ.map fun d=>qW (fA s.heap) d.1 d.2))=some ((true,bC.exc.map (fun _=>qT),bC.sub.map (fun d=>some (some d.2,some d.2)),bC.tabs.map (fun d=>qU (w.withFollow "special-get-raises" false).params d.2),bC.cls.map (fun d=>qX bC.flds d.1 d.2),bC.fZ.map fun d=>mO (w.withFollow "special-get-raises" false).params d.2)):=by kernel_rfl
theorem e3(w:aW):(mQ (W.OpenLaw.prog PySem.Challenge.rw_lendrule_k26_whole_why_it_is_needed) "special-get-raises" false 5000 w).map (W.Hook.obs hk)=some (W.Hook.val hk (w.withFollow "special-get-raises" false)):=mP (aah w) (mP (aai w) (aaj w))
theorem aak(w:aW):(mQ (W.OpenLaw.prog PySem.Challenge.rw_lendrule_k26_whole_why_it_is_needed) "special-get-raises" true 5000 w).map (fun s:aw=>(bC.defs.take 26).map (fun d=>chFn (fA s.heap) d.1))=some ((bC.defs.take 26).map (fun d=>some (mN d.1 d.2))):=by kernel_rfl
theorem aal(w:aW):(mQ (W.OpenLaw.prog PySem.Challenge.rw_lendrule_k26_whole_why_it_is_needed) "special-get-raises" true 5000 w).map (fun s:aw=>(bC.defs.drop 26).map (fun d=>chFn (fA s.heap) d.1))=some ((bC.defs.drop 26).map (fun d=>some (mN d.1 d.2))):=by kernel_rfl
theorem aam(w:aW):(mQ (W.OpenLaw.prog PySem.Challenge.rw_lendrule_k26_whole_why_it_is_needed) "special-get-raises" true 5000 w).map (fun s:aw=>(bC.cons.all (uz (fA s.heap) mainGlobals)&&(bC.d3.all (yx (fA s.heap))&&yD bC (fA s.heap) s.heap),bC.exc.map (yy (fA s.heap)),bC.sub.map (fun d=>yz (fA s.heap) d.1.1 d.1.2),bC.tabs.map (fun d=>yA (fA s.heap) d.1 d.2),bC.cls.map (fun d=>yB (fA s.heap) bC.flds d.1),bC.fZ.map fun d=>qW (fA s.heap) d.1 d.2))=some ((true,bC.exc.map (fun _=>qT),bC.sub.map (fun d=>some (some d.2,some d.2)),bC.tabs.map (fun d=>qU (w.withFollow "special-get-raises" true).params d.2),bC.cls.map (fun d=>qX bC.flds d.1 d.2),bC.fZ.map fun d=>mO (w.withFollow "special-get-raises" true).params d.2)):=by kernel_rfl
theorem e4(w:aW):(mQ (W.OpenLaw.prog PySem.Challenge.rw_lendrule_k26_whole_why_it_is_needed) "special-get-raises" true 5000 w).map (W.Hook.obs hk)=some (W.Hook.val hk (w.withFollow "special-get-raises" true)):=mP (aak w) (mP (aal w) (aam w))
theorem ws:W.OpenLaw.wellSaid PySem.Challenge.rw_lendrule_k26_whole_why_it_is_needed=true:=by kernel_rfl
end cz
open PySem PySem.W PyProof.Rows PySem.Calls
set_option maxRecDepth 100000 in
set_option maxHeartbeats 0 in
theorem cz.fin(hc:∀d:DefRec,d.name="law"->d.params.defaults=[]->W.WalkO cz.qv cz.lo (XL cz.qv []) (Hook.says cz.hk) (W.OpenRow.toRowW (W.OpenLaw.row PySem.Challenge.rw_lendrule_k26_whole_why_it_is_needed)) d [] (fun f vs=>PySem.call f vs)):PySem.Challenge.rw_lendrule_k26_whole_why_it_is_needed.Holds:=by
 w_on;refine W.holds_law cz.ws fun aeF=>?_
 refine W.holds_open (q:=cz.qv) (loose:=cz.lo) (Xt:=cz.Xt) (XP:=XL cz.qv []) (Yf:=Hook.obs cz.hk) (Ya:=Hook.val cz.hk) (YP:=Hook.says cz.hk) (N:=5000) (L2.PL.FG "special-get-raises" cz.e1 cz.e2 cz.e3 cz.e4) (Hook.of _) (Hook.keeps _) (fun s e=>xl_of s (By.mp e).1) XL.keeps (by rfl) (by rfl) (by rfl) (fun s e=>recFacts_of (By.mp e).2) (by rfl) (by first | assumption | decide +kernel) (by decide +kernel) ⟨rfl,rfl,rfl,rfl,rfl,by decide +kernel⟩ ?hw (hc _ rfl rfl)
 case hw=>w_witness2
end
namespace L2
open PySem PySem.Spec PyProof.Rows
def uL:cy->aj->Bool
  | .inl k,v=>Value.isInt k v
  | .inr x,v=>Value.isStrOf x v
def aan(w:aW):cy->Int
  | .inl k=>hashInt k
  | .inr x=>hashStr w x
theorem dH:∀{k:cy} {v:aj},uL k v=true->(∃i t,k=Sum.inl i/\v=Value.int i t)\/(∃x t,k=Sum.inr x/\v=Value.str x t)
  | .inl i,v,h=>by
    obtain⟨t,e⟩:=Value.isInt_shape (k:=i) (v:=v) h;exact .inl ⟨i,t,rfl,e⟩
  | .inr x,v,h=>by
    obtain⟨t,e⟩:=Value.isStrOf_shape (x:=x) (v:=v) h;exact .inr ⟨x,t,rfl,e⟩
theorem FH(i:Int)(t:Tok):uL (.inl i) (.int i t)=true:=by simp[uL,Value.isInt]
theorem FI(x:Str)(t:Tok):uL (.inr x) (.str x t)=true:=by simp[uL,Value.isStrOf]
theorem Q6(a b:Int):decide ((Sum.inl a:cy)=Sum.inl b)=(a==b):=by
  by_cases e:a=b
  · subst e;simp
  · have h:¬(Sum.inl a:cy)=Sum.inl b:=fun q=>e (Sum.inl.inj q)
    rw[eG h];exact(qH.mpr e).symm
theorem Q7(a b:Str):decide ((Sum.inr a:cy)=Sum.inr b)=decide (a=b):=by
  by_cases e:a=b
  · subst e;simp
  · have h:¬(Sum.inr a:cy)=Sum.inr b:=fun q=>e (Sum.inr.inj q)
    rw[eG h,eG e]
theorem Q8(a:Int)(b:Str):decide ((Sum.inl a:cy)=Sum.inr b)=false:=eG (fun q=>nomatch q)
theorem Q9(a:Str)(b:Int):decide ((Sum.inr a:cy)=Sum.inl b)=false:=eG (fun q=>nomatch q)
def fJ(prog:bJ)(w:aW):PySem.KeyKind prog w cy where
  is:=uL
  hash:=aan w
  inj:=fun v a b ha hb=>by
    rcases dH ha with⟨i,t,rfl,rfl⟩ | ⟨x,t,rfl,rfl⟩
    · rcases dH hb with⟨j,u,rfl,e⟩ | ⟨y,u,rfl,e⟩
      · injection e with e1 _;rw[e1]
      · exact nomatch e
    · rcases dH hb with⟨j,u,rfl,e⟩ | ⟨y,u,rfl,e⟩
      · exact nomatch e
      · injection e with e1 _;rw[e1]
  byValue:=fun k v h=>by
    rcases dH h with⟨i,t,rfl,rfl⟩ | ⟨x,t,rfl,rfl⟩<;>rfl
  pyHash:=fun hv h=>by
    rcases dH hv with⟨i,t,rfl,rfl⟩ | ⟨x,t,rfl,rfl⟩
    · exact wpAny_pyHash_int h
    · exact wpAny_pyHash_str h
  eqBool:=fun hu hv h=>by
    rcases dH hu with⟨i,t,rfl,rfl⟩ | ⟨x,t,rfl,rfl⟩
    · rcases dH hv with⟨j,u,rfl,rfl⟩ | ⟨y,u,rfl,rfl⟩
      · rw[Q6]at h;exact wpAny_eqBool_int h
      · rw[Q8]at h;exact SeqAt.EqAt.int_str i t y u _ _ _ _ h
    · rcases dH hv with⟨j,u,rfl,rfl⟩ | ⟨y,u,rfl,rfl⟩
      · rw[Q9]at h;exact SeqAt.EqAt.str_int x t j u _ _ _ _ h
      · rw[Q7]at h;exact wpAny_eqBool_str h
  «strs» := fun k x t v h=>by
    rcases dH h with⟨i,u,rfl,e⟩ | ⟨y,u,rfl,e⟩
    · exact nomatch e
    · injection e with e1 _
      subst e1;cases v<;>rfl
theorem yN(prog:bJ)(w:aW)(i:Int)(t:Tok):(fJ prog w).is (.inl i) (.int i t)=true:=FH i t
theorem yO(prog:bJ)(w:aW)(x:Str)(t:Tok):(fJ prog w).is (.inr x) (.str x t)=true:=FI x t
theorem Vals.length{xs:List V}{us:cb}(r:Vals xs us):xs.length=us.length:=vW r
theorem Vals.get:∀{xs:List V} {us:cb} {i:Nat} {x:V},Vals xs us->xs[i]?=some x->∃u,us[i]?=some u/\RelV x u
  | _,_,_,_,.nil,e=>by simp at e
  | _,_,0,_,.cons r _,e=>by simp at e;subst e;exact⟨_,rfl,r⟩
  | _,_,i+1,x,.cons _ t,e=>by
    obtain⟨u,h1,h2⟩:=Vals.get (i:=i) (x:=x) t (by simpa using e)
    exact⟨u,by simpa using h1,h2⟩
theorem Vals.append:∀{xs ys:List V} {us ws:cb},Vals xs us->Vals ys ws->Vals (xs++ys) (us++ws)
  | _,_,_,_,.nil,s=>s
  | _,_,_,_,.cons r t,s=>.cons r (Vals.append t s)
theorem Vals.take:∀{xs:List V} {us:cb} (n:Nat),Vals xs us->Vals (xs.take n) (us.take n)
  | _,_,0,_=>.nil
  | _,_,_+1,.nil=>.nil
  | _,_,n+1,.cons r t=>.cons r (Vals.take n t)
theorem Vals.drop:∀{xs:List V} {us:cb} (n:Nat),Vals xs us->Vals (xs.drop n) (us.drop n)
  | _,_,0,r=>r
  | _,_,_+1,.nil=>.nil
  | _,_,n+1,.cons _ t=>Vals.drop n t
def FJ:Option V->mi->Prop
  | some v,some u=>RelV v u
  | none,none=>True
  | _,_=>False
def KV{κ:Type}:List (κ×V)->List (κ×aj)->Prop:=Paired fun(p:κ×V) (q:κ×aj)=>p.1=q.1/\RelV p.2 q.2
def kV:cy->V
  | .inl i=>.int i
  | .inr x=>.str x
def dX(H:Hp)(a:ae)(o:HO):Hp:=fun b=>if b=a then some o else H b
theorem aX{H:Hp}{a:ae}{o:HO}:dX H a o a=some o:=by unfold dX;rw[if_pos rfl]
theorem aR{H:Hp}{a b:ae}{o:HO}(h:b≠a):dX H a o b=H b:=by unfold dX;rw[if_neg h]
theorem IK{H:Hp}{a b:ae}{o u:HO}(h:H a=some o)(h':H b=some u)(d:o≠u):a≠b:=by
  intro e;subst e;rw[h]at h';exact d (bD h')
theorem ne_of_none{H:Hp}{a b:ae}{o:HO}(h:H a=some o)(h':H b=none):a≠b:=by
  intro e;subst e;rw[h]at h';cases h'
section
variable (P:bJ) (w:aW)
def fg(H:Hp)(h:Heap)(a:ae):HO->Prop
  | .au xs=>xs.length<=sizeLine/\∃(aY:cb) (n:Nat),Vals xs aY/\h.get? a=some {cls:=.type "list",data:=.seq aY.toArray n}
  | .aB xs=>xs.length<=sizeLine/\∃aY:cb,Vals xs aY/\IsTup h a aY.toArray
  | .dK kvs=>kvs.length<=sizeLine/\(a==sysModules)=false/\∃vs,KV kvs vs/\h.DictOf (fJ P w) a vs
  | .dT xs=>xs.length<=sizeLine/\(a==sysModules)=false/\∃o es ep,h.get? a=some o/\o.ExactDict/\o.data=.dict es ep/\es.toList=xs.map (entryOfKey (tupleKind (fJ P w)))/\(xs.map (·.1)).Nodup
  | .set S n=>h.SetOf (intKind P w) a S n
  | .QY C dx fs=>H dx=some (.own a)/\fs.length<=1000/\dx≠a/\h.get? a=some (W.instObj C dx) /\
      ∃mA,h.Ns1 dx mA/\(∀f,FJ (fs.lookup f) (mA f))/\PySem.Within mA (fs.map (·.1))
  | .own _=>∃o,h.get? a=some o
  | .xd fs=>∃mA,h.Ns1 a mA/\∀f,FJ (fs.lookup f) (mA f)
  | .Z9 lo hi=>∃t u v,h.get? a=some {cls:=.type "range",data:=.fields #[.int lo t,.int hi u,.int 1 v]}
  | .lF o u=>h.get? a=some o/\fg H h a u
  | .yu q=>∃ps:Array aj,h.get? a=some {cls:=.none,data:=.fields ps}/\TriplesOk ps.toList/\∀(pos:Pos) (cv:aj),codeAmong pos ps.toList=some cv ->
      ∃(c:ae) (oc:Obj) (u:HO) (vs:Array aj) (t:Tok),cv=.ref c/\H c=some (.lF oc u)/\oc.data=.fields vs/\vs[1]?=some (.str q t)
  | .Z8 f x=>h.get? a=some (W.methodObj (.ref f) (.ref x))
  | .ext φ=>φ h/\(∃o,h.get? a=some o)/\∀h1 h2:Heap,φ h1->(∀o,h1.get? a=some o->h2.get? a=some o)->φ h2
def nZ(H:Hp)(h:Heap):Prop:=∀a o,H a=some o->fg P w H h a o
end
section
variable {P:bJ} {w:aW} {H H':Hp} {h h':Heap} {a:ae} {o:HO}
theorem fg.lt(x:fg P w H h a o):a<h.objs.size:=by
  cases o with
  | au xs=>obtain⟨_,_,_,_,e⟩:=x;exact bO e
  | aB xs=>obtain⟨_,_,_,p⟩:=x;exact p.lt
  | dK kvs=>obtain⟨_,_,_,_,o,_,_,e,_⟩:=x;exact bO e
  | dT kvs=>obtain⟨_,_,o,_,_,e,_⟩:=x;exact bO e
  | set S n=>obtain⟨o,_,_,_,e,_⟩:=x;exact bO e
  | QY C dx fs=>obtain⟨_,_,_,e,_⟩:=x;exact bO e
  | own y=>obtain⟨_,e⟩:=x;exact bO e
  | xd fs=>obtain⟨_,⟨_,_,_,e,_⟩,_⟩:=x;exact bO e
  | Z9 lo hi=>obtain⟨_,_,_,e⟩:=x;exact bO e
  | lF ob u=>obtain⟨e,_⟩:=x;exact bO e
  | yu q=>obtain⟨_,e,_⟩:=x;exact bO e
  | Z8 f y=>exact bO (show h.get? a=some _ from x)
  | ext φ=>obtain⟨_,⟨_,e⟩,_⟩:=x;exact bO e
theorem Paired.Ra{α β:Type}{F G:α->β->Prop}:∀{l₁:List α} {l₂:List β},Paired F l₁ l₂->(∀a b,F a b->G a b)->Paired G l₁ l₂
  | _,_,.nil,_=>.nil
  | _,_,.cons r t,f=>.cons (f _ _ r) (Paired.Ra t f)
theorem fg.yP(x:fg P w H h a o)(k:∀b u,(b=a\/H b=some (.own a))->h.get? b=some u->h'.get? b=some u)
    (ho:∀b,H b=some (.own a)->H' b=some (.own a)) (ht:∀b xs,H b=some (.aB xs)->H' b=some (.aB xs)) (hz:∀b ob u,H b=some (.lF ob u)->H' b=some (.lF ob u)):fg P w H' h' a o:=by
  induction o with
  | au xs=>obtain⟨z,aY,n,r,e⟩:=x;exact⟨z,aY,n,r,k _ _ (.inl rfl) e⟩
  | aB xs=>obtain⟨z,aY,r,ob,e,c⟩:=x;exact⟨z,aY,r,ob,k _ _ (.inl rfl) e,c⟩
  | dK kvs=>obtain⟨z,y,vs,r,ob,es,ep,e,c⟩:=x;exact⟨z,y,vs,r,ob,es,ep,k _ _ (.inl rfl) e,c⟩
  | dT kvs=>obtain⟨z,y,ob,es,ep,e,c⟩:=x;exact⟨z,y,ob,es,ep,k _ _ (.inl rfl) e,c⟩
  | set S n=>obtain⟨ob,es,ep,t,e,c⟩:=x;exact⟨ob,es,ep,t,k _ _ (.inl rfl) e,c⟩
  | QY C dx fs =>
    obtain⟨d,z,ne,e,mA,⟨od,es,ep,e2,c⟩,r⟩:=x;exact⟨ho _ d,z,ne,k _ _ (.inl rfl) e,mA,⟨od,es,ep,k _ _ (.inr d) e2,c⟩,r⟩
  | own y=>obtain⟨ob,e⟩:=x;exact⟨ob,k _ _ (.inl rfl) e⟩
  | xd fs=>obtain⟨mA,⟨od,es,ep,e,c⟩,r⟩:=x;exact⟨mA,⟨od,es,ep,k _ _ (.inl rfl) e,c⟩,r⟩
  | Z9 lo hi=>obtain⟨t,u,v,e⟩:=x;exact⟨t,u,v,k _ _ (.inl rfl) e⟩
  | lF ob u ih=>obtain⟨e,q⟩:=x;exact⟨k _ _ (.inl rfl) e,ih q⟩
  | yu q =>
    obtain⟨ps,e,t,c⟩:=x;exact⟨ps,k _ _ (.inl rfl) e,t,fun pos cv z=>let ⟨c,oc,u,vs,tk,h1,h2,h3⟩:=c pos cv z;⟨c,oc,u,vs,tk,h1,hz _ _ _ h2,h3⟩⟩
  | Z8 f y =>
    have e:h.get? a=some (W.methodObj (.ref f) (.ref y)):=x;show h'.get? a=some (W.methodObj (.ref f) (.ref y));exact k a _ (.inl rfl) e
  | ext φ=>obtain⟨p,⟨o,e⟩,st⟩:=x;exact⟨st _ _ p fun o q=>k _ _ (.inl rfl) q,⟨o,k _ _ (.inl rfl) e⟩,st⟩
theorem nZ.lt(x:nZ P w H h)(e:H a=some o):a<h.objs.size:=(x a o e).lt
theorem nZ.fresh(x:nZ P w H h)(e:h.objs.size<=a):H a=none:=by
  cases q:H a with
  | none=>rfl
  | some u=>exact absurd (cQ (x.lt q) e) (jl _)
theorem nZ.kept(x:nZ P w H h)(k:∀b u,h.get? b=some u->h'.get? b=some u):nZ P w H h':=fun a o e =>
  (x a o e).yP (fun b u _ q=>k b u q) (fun _ q=>q) (fun _ _ q=>q) fun _ _ _ q=>q
theorem nZ.laid(x:nZ P w H h)(k:∀b u,h.get? b=some u->h'.get? b=some u)(hp:h.objs.size<=a)(new:fg P w (dX H a o) h' a o):nZ P w (dX H a o) h':=fun b u e=>by
  have hn:=x.fresh hp;by_cases hb:b=a
  · subst hb;rw[aX]at e;cases e;exact new
  · rw[aR hb]at e
    exact(x b u e).yP (fun c v _ q=>k c v q) (fun c q=>by rw[aR (ne_of_none q hn)];exact q) (fun c xs q=>by rw[aR (ne_of_none q hn)];exact q) fun c ob v q=>by rw[aR (ne_of_none q hn)];exact q
end
theorem Rd.ok{P:bJ}{w:aW}{H:Hp}{h:Heap}{a:ae}{u:HO}(r:Rd H a u)(x:nZ P w H h):fg P w H h a u:=by
  rcases r with r | ⟨o,r⟩
  · exact x a u r
  · obtain⟨_,q⟩:=x a _ r
    exact q
def Yw:Option HO->Prop
  | some (.au _)=>True
  | some (.dK _)=>True
  | some (.dT _)=>True
  | some (.set _ _)=>True
  | some (.QY _ _ _)=>True
  | some (.ext _)=>True
  | _=>False
section
variable {P:bJ} {w:aW} {H:Hp} {h h':Heap} {x e:ae} {o':HO}
theorem nZ.write(ok:nZ P w H h)(mu:Yw (H x))(he:e=x\/H e=some (.own x))(k:∀b u,b≠e->h.get? b=some u->h'.get? b=some u)(Ux:∃u,h'.get? e=some u)
    (new:fg P w (dX H x o') h' x o'):nZ P w (dX H x o') h':=fun b u q=>by
  have Va:∀c y,H c=some (.own y)->c≠x:=fun c y r z=>by subst z;rw[r]at mu;exact mu
  have aao:∀c xs,H c=some (.aB xs)->c≠x:=fun c xs r z=>by subst z;rw[r]at mu;exact mu
  have aap:∀c ob v,H c=some (.lF ob v)->c≠x:=fun c ob v r z=>by subst z;rw[r]at mu;exact mu
  by_cases hb:b=x
  · subst hb;rw[aX]at q;cases q;exact new
  · rw[aR hb]at q
    by_cases Rb:b=e
    · have q':H b=some (.own x):=by
        rcases he with z | z
        · exact absurd (Rb.trans z) hb
        · rw[Rb];exact z
      rw[q]at q';cases q';obtain⟨v,hv⟩:=Ux;exact⟨v,by rw[Rb];exact hv⟩
    · refine(ok b u q).yP (fun c v hc r=>k c v ?_ r) (fun c r=>by rw[aR (Va c b r)];exact r) (fun c xs r=>by rw[aR (aao c xs r)];exact r) fun c ob v r=>by rw[aR (aap c ob v r)];exact r
      rcases hc with rfl | hc
      · exact Rb
      · rintro rfl
        rcases he with z | z
        · exact Va c b hc z
        · rw[hc]at z;cases z;exact hb rfl
end
structure Un (fs ex:List ae) (H H':Hp) (h h':Heap):Prop where
  keep:∀b o,h.get? b=some o->H b=none->b∉fs->b∉ex->h'.get? b=some o
  slot:∀b o,h.get? b=some o->H b=none->b∈fs->b∉ex->∃sl,h'.get? b=some {o with slots:=sl}
  free:∀b o,h.get? b=some o->H b=none->b∉ex->H' b=none
  there:∀b o,h.get? b=some o->b∉ex->∃o',h'.get? b=some o'
  tups:∀b xs,H b=some (.aB xs)->H' b=some (.aB xs)
  frzs:∀b o u,H b=some (.lF o u)->H' b=some (.lF o u)
  tbls:∀b q,H b=some (.yu q)->H' b=some (.yu q)
section
variable {fs Rc ex ex':List ae} {H H1 H2:Hp} {h h1 h2 h':Heap} {a x e:ae} {o:HO}
theorem Un.any(u:Un fs ex H H1 h h1){b:ae}{ob:Obj}(q:h.get? b=some ob)(n:H b=none)(hx:b∉ex):∃sl,h1.get? b=some {ob with slots:=sl}:=by
  by_cases hb:b∈fs
  · exact u.slot b ob q n hb hx
  · exact⟨ob.slots,u.keep b ob q n hb hx⟩
theorem Un.kept(k:∀b u,h.get? b=some u->h'.get? b=some u):Un fs ex H H h h' :=
  ⟨fun b ob q _ _ _=>k b ob q,fun b ob q _ _ _=>⟨ob.slots,k b ob q⟩,fun _ _ _ n _=>n,fun b ob q _=>⟨ob,k b ob q⟩,fun _ _ q=>q,fun _ _ _ q=>q,fun _ _ q=>q⟩
theorem Un.refl:Un fs ex H H h h:=Un.kept fun _ _ q=>q
theorem Un.laid(k:∀b u,h.get? b=some u->h'.get? b=some u)(hp:h.objs.size<=a)(hn:H a=none):Un fs ex H (dX H a o) h h' where
  keep:=fun b u q _ _ _=>k b u q
  slot:=fun b u q _ _ _=>⟨u.slots,k b u q⟩
  free:=fun b u q n _=>by rw[aR (cI (cQ (bO q) hp))];exact n
  there:=fun b u q _=>⟨u,k b u q⟩
  tups:=fun b xs q=>by rw[aR (ne_of_none q hn)];exact q
  frzs:=fun b u xs q=>by rw[aR (ne_of_none q hn)];exact q
  tbls:=fun b ps q=>by rw[aR (ne_of_none q hn)];exact q
theorem Un.write(mu:Yw (H x))(he:e=x\/H e=some (.own x))(k:∀b u,b≠e->h.get? b=some u->h'.get? b=some u)(Ux:∃u,h'.get? e=some u):Un fs ex H (dX H x o) h h':=by
  have hx:∀b,H b=none->b≠x:=fun b n z=>by subst z;rw[n]at mu;exact mu
  have hb:∀b,H b=none->b≠e:=fun b n z=>by
    subst z;rcases he with r | r
    · exact hx b n r
    · rw[n]at r;cases r
  have hm:∀b u,H b=some u->¬Yw (some u)->b≠x:=fun b u q nm z=>by subst z;rw[q]at mu;exact nm mu
  refine⟨fun b u q n _ _=>k b u (hb b n) q,fun b u q n _ _=>⟨u.slots,k b u (hb b n) q⟩,fun b u q n _=>by rw[aR (hx b n)];exact n,fun b u q _=>?_,
    fun b xs q=>by rw[aR (hm b _ q fun z=>z)];exact q,fun b u xs q=>by rw[aR (hm b _ q fun z=>z)];exact q,fun b ps q=>by rw[aR (hm b _ q fun z=>z)];exact q⟩
  by_cases Rb:b=e
  · subst Rb;exact Ux
  · exact⟨u,k b u Rb q⟩
end
def Yx(h:Heap)(H:Hp):List ae:=(List.range h.objs.size).filter fun a=>(H a).isSome
def yQ(h:Heap)(H:Hp):Heap:=W.hideAll h (Yx h H)
theorem FK(h:Heap)(H:Hp):(yQ h H).objs.size=h.objs.size:=W.hideAll_size _ _
theorem hidT_get{h:Heap}{H:Hp}{b:ae}{o:Obj}(e:h.get? b=some o)(n:H b=none):(yQ h H).get? b=some o :=
  W.hideAll_get _ e fun hm=>by
    have q:(H b).isSome=true:=(gF.mp hm).2;rw[n]at q;simp at q
theorem of_hidT{h:Heap}{H:Hp}{b:ae}{o:Obj}(e:(yQ h H).get? b=some o):h.get? b=some o/\H b=none:=by
  have e':h.get? b=some o:=W.of_hideAll (Yx h H) e;refine⟨e',?_⟩;cases q:H b with
  | none=>rfl
  | some x =>
    have hm:b∈Yx h H:=gF.mpr ⟨fU.mpr (bO e'),by simp[q]⟩
    have z:(yQ h H).get? b=none:=W.hideAll_none (Yx h H) hm;rw[z]at e;cases e
structure Mod (K:ak) (mg:dM) (base:Heap):Prop where
  kin:K.In base
  glob:base.Ns mainGlobals mg
  blt:∃mb,base.Ns builtinsNs mb/\∀x:Str,x≠"__name__"->mb x=bootBuiltins x
  nolimit:base.NoLimit
structure Cx where
  prog:bJ
  w:aW
  K:ak
  mg:dM
  base:Heap
  A:bY
  N:List Str
  s₀:aw
  H₀:Hp
  env:Env
  outer:List Env
  stack:List Env
  ex:List ae
  fn:Str->Bool
  calm:Bool
  pn:List (ae×Obj)
  xe:cS
def Bj(l:List Env):List ae:=l.filterMap (·.frame)
abbrev Cx.fs(X:Cx):List ae:=Bj X.outer
def Uy(sc:Scope)(x:Str):Prop:=sc.names.lookup x=some .local\/sc.names.lookup x=some .cell\/sc.names.lookup x=some .free
def PQ(sc:Scope)(x:Str):Prop:=sc.names.lookup x=some .local\/sc.names.lookup x=some .cell
def aaq(env:Env)(h:Heap)(m:dM)(x:Str)(u:aj):Prop :=
  (env.kindOf x=some .local/\m x=some u)\/((env.kindOf x=some .cell\/env.kindOf x=some .free)/\∃c,env.cells.lookup x=some c/\h.IsCell c (some u))
def tV(x:Str):Str:=x++".<locals>."++"<lambda>"
def rl(K:ak)(H:Hp):Prop:=∀x∈d0,∀c T,W.tabIn K x=some (c,T)->H T=some (.yu (tV x))
structure Cx.Ok (X:Cx):Prop where
  mod:Mod X.K X.mg X.base
  kind:X.env.scope.kind=.function
  glob:X.env.globals=mainGlobals
  blt:X.env.builtins=builtinsNs
  above:X.s₀.heap.objs.size<=X.env.locals
  inj:∀x y c,X.env.cells.lookup x=some c->X.env.cells.lookup y=some c->x=y
  has:∀x,(X.env.kindOf x=some .cell\/X.env.kindOf x=some .free)->∃c,X.env.cells.lookup x=some c
  cab:∀x c,X.fn x=true->X.env.cells.lookup x=some c->X.s₀.heap.objs.size<=c
  hd:X.calm=true->X.A.handled=none
  frames:X.A.frames=some X.stack
  stk:X.stack=X.outer\/(X.stack=X.env::X.outer/\X.env.frame=some X.env.locals)
  exf:∀b∈X.ex,b≠X.env.locals/\∀x c,X.env.cells.lookup x=some c->c≠b
  bs:∀b o,X.base.get? b=some o->X.s₀.heap.get? b=some o/\X.H₀ b=none
  bsz:X.base.objs.size<=X.s₀.heap.objs.size
  noex:∀b o,X.base.get? b=some o->b∉X.ex
  exfs:∀b∈X.ex,b∉X.fs
  funs:X.s₀.heap.FunFrames X.base X.outer
  frf:∀b∈X.fs,X.H₀ b=none
  tabs:rl X.K X.H₀
structure Inv (X:Cx) (ag:List (ae×Obj)) (σ:List (Option V)) (H:Hp) (s:aw):Prop where
  ok:X.Ok
  os:s.os=X.s₀.os
  bare:AllBare s.gens
  base:Un X.fs X.ex X.H₀ H X.s₀.heap s.heap
  loc:∃m,s.heap.Ns X.env.locals m/\∀(i:Nat) (x:Str) (v:V),X.N[i]?=some x->σ[i]?=some (some v)->Uy X.env.scope x->∃u,RelV v u/\aaq X.env s.heap m x u
  cell:∀x c,X.env.cells.lookup x=some c->∃v,s.heap.IsCell c v
  free:H X.env.locals=none
  freeC:∀x c,X.env.cells.lookup x=some c->H c=none
  pin:∀p∈X.pn++ag,s.heap.get? p.1=some p.2/\H p.1=none/\p.1≠X.env.locals/\p.1∉X.fs/\∀v,p.2.data≠.cell v
  hok:nZ X.prog X.w H s.heap
  len:σ.length=X.N.length
section
variable {X:Cx} {ag:List (ae×Obj)} {σ:List (Option V)} {H H':Hp} {s:aw} {h':Heap}
theorem Cx.Ok.aar(ok:X.Ok){b:ae}{o:Obj}(e:X.base.get? b=some o):b∉X.fs:=fun hb=>by
  have:=(ok.funs.mem hb).1;rw[e]at this;cases this
theorem Inv.bs(I:Inv X ag σ H s):∀b o,X.base.get? b=some o->s.heap.get? b=some o/\H b=none:=fun b o e =>
  ⟨I.base.keep b o (I.ok.bs b o e).1 (I.ok.bs b o e).2 (I.ok.aar e) (I.ok.noex b o e),I.base.free b o (I.ok.bs b o e).1 (I.ok.bs b o e).2 (I.ok.noex b o e)⟩
theorem Inv.bk(I:Inv X ag σ H s):∀b o,X.base.get? b=some o->s.heap.get? b=some o:=fun b o e=>(I.bs b o e).1
theorem Inv.mod(I:Inv X ag σ H s):Mod X.K X.mg X.base:=I.ok.mod
theorem Inv.yo(I:Inv X ag σ H s):X.K.In s.heap:=I.ok.mod.kin.keeps I.bk
theorem Inv.lt(I:Inv X ag σ H s):X.env.locals<s.heap.objs.size:=let ⟨_,hn,_⟩:=I.loc;hn.lt
theorem Inv.sz(I:Inv X ag σ H s):X.s₀.heap.objs.size<=s.heap.objs.size:=cF I.ok.above (me I.lt)
theorem Inv.aas(I:Inv X ag σ H s){a:ae}(h:s.heap.objs.size<=a):a∉X.fs:=fun hb=>by
  obtain⟨_,o,ho,_⟩:=I.ok.funs.mem hb;exact absurd (cQ (bO ho) (cF I.sz h)) (jl _)
theorem Inv.Rf(I:Inv X ag σ H s):∀x c,X.env.cells.lookup x=some c->c≠X.env.locals:=fun x c e z=>by
  obtain⟨v,o,ho,hd⟩:=I.cell x c e;obtain⟨m,⟨o',es,ep,yR,yE,_⟩,_⟩:=I.loc;rw[z,yR]at ho;cases ho;rw[yE]at hd;cases hd
theorem Inv.funs(I:Inv X ag σ H s):s.heap.FunFrames X.base X.outer:=by
  have all:∀(l:List Env),(∀b∈Bj l,b∈X.fs)->X.s₀.heap.FunFrames X.base l->s.heap.FunFrames X.base l:=by
    intro l;induction l with
    | nil=>intro _ _;trivial
    | cons env r ih =>
      intro hs hl;obtain⟨hk,⟨L,o,hf,hn,ho,hd⟩,hr⟩:=hl;have hL:L∈X.fs:=hs L (by unfold Bj;rw[BA,hf];exact b6)
      obtain⟨sl,e⟩:=I.base.slot L o ho (I.ok.frf L hL) hL fun z=>I.ok.exfs L z hL
      exact⟨hk,⟨L,_,hf,hn,e,hd⟩,ih (fun b hb=>hs b (by unfold Bj;rw[BA,hf];exact bQ _ hb)) hr⟩
  exact all X.outer (fun _ hb=>hb) I.ok.funs
theorem Inv.stack(I:Inv X ag σ H s):s.heap.FunFrames X.base X.stack:=by
  rcases I.ok.stk with e | ⟨e,hf⟩
  · rw[e];exact I.funs
  · rw[e]
    obtain⟨m,hn,_⟩:=I.loc;refine .cons (by rw[I.ok.kind];decide) hf hn ?_ I.funs
    exact Heap.get?_none_of_le (cF I.ok.bsz I.ok.above)
theorem Inv.B6(I:Inv X ag σ H s):∀b∈Bj X.stack,b∈X.env.locals::X.fs:=fun b hb=>by
  rcases I.ok.stk with e | ⟨e,hf⟩
  · rw[e]at hb;exact bQ _ hb
  · rw[e]at hb
    unfold Bj at hb;rw[BA,hf]at hb;exact hb
theorem Inv.D3(I:Inv X ag σ H s):∀b∈Bj X.stack,H b=none:=fun b hb=>by
  rcases bc.mp (I.B6 b hb)with e | hb
  · rw[e];exact I.free
  · obtain⟨_,o,ho,_⟩:=I.ok.funs.mem hb
    exact I.base.free b o ho (I.ok.frf b hb) fun z=>I.ok.exfs b z hb
theorem Inv.tabs(I:Inv X ag σ H s):rl X.K H:=fun x hx c T e=>I.base.tbls T _ (I.ok.tabs x hx c T e)
theorem Inv.step{g':Array GenState}{t':Nat}{d':Drawn}{ch:List ae}(I:Inv X ag σ H s)
    (Me:∀b∈ch,(b∈X.ex\/X.s₀.heap.objs.size<=b)/\b≠X.env.locals/\(∀x c,X.env.cells.lookup x=some c->c≠b)/\∀p∈X.pn++ag,p.1≠b)
    (keep:∀b o,b≠X.env.locals->b∉X.fs->b∉ch->s.heap.get? b=some o->H b=none->h'.get? b=some o)
    (slot:∀b o,b≠X.env.locals->b∈X.fs->b∉ch->s.heap.get? b=some o->H b=none->∃sl,h'.get? b=some {o with slots:=sl}) (free:∀b o,b∉ch->s.heap.get? b=some o->H b=none->H' b=none)
    (there:∀b o,b∉ch->s.heap.get? b=some o->∃o',h'.get? b=some o')
    (tups:∀b xs,H b=some (.aB xs)->H' b=some (.aB xs)) (frzs:∀b o u,H b=some (.lF o u)->H' b=some (.lF o u)) (tbls:∀b q,H b=some (.yu q)->H' b=some (.yu q))
    (ns:∀m,s.heap.Ns X.env.locals m->h'.Ns X.env.locals m) (hok:nZ X.prog X.w H' h') (hg:AllBare g') :
    Inv X ag σ H' {s with heap:=h',gens:=g',drawn:=d',toks:=t'}:=by
  have neL:∀b o,X.s₀.heap.get? b=some o->b≠X.env.locals:=fun b o e=>cI (cQ (bO e) I.ok.above)
  have Yy:∀b o,X.s₀.heap.get? b=some o->b∉X.ex->b∉ch:=fun b o e hx hb=>by
    rcases(Me b hb).1 with z | z
    · exact hx z
    · exact absurd (cQ (bO e) z) (jl _)
  have cellK:∀x c,X.env.cells.lookup x=some c->∀v,s.heap.IsCell c v->h'.IsCell c v:=by
    rintro x c e v ⟨o,ho,hd⟩
    have Vb:c∉ch:=fun z=>(Me c z).2.2.1 x c e rfl
    by_cases hc:c∈X.fs
    · obtain⟨sl,q⟩:=slot c o (I.Rf x c e) hc Vb ho (I.freeC x c e)
      exact⟨_,q,hd⟩
    · exact⟨o,keep c o (I.Rf x c e) hc Vb ho (I.freeC x c e),hd⟩
  refine⟨I.ok,I.os,hg,⟨fun b o e n hb hx=>?_,fun b o e n hb hx=>?_,fun b o e n hx=>?_,fun b o e hx=>?_,fun b xs e=>tups b xs (I.base.tups b xs e),fun b o xs e=>frzs b o xs (I.base.frzs b o xs e),fun b ps e=>?_⟩,?_,fun x c e=>?_,?_,fun x c e=>?_,fun p hp=>?_,hok,I.len⟩
  · exact keep b o (neL b o e) hb (Yy b o e hx) (I.base.keep b o e n hb hx) (I.base.free b o e n hx)
  · obtain⟨sl,e1⟩:=I.base.slot b o e n hb hx
    obtain⟨sl',e2⟩:=slot b _ (neL b o e) hb (Yy b o e hx) e1 (I.base.free b o e n hx);exact⟨sl',e2⟩
  · obtain⟨o',e1⟩:=I.base.there b o e hx
    exact free b o' (Yy b o e hx) e1 (I.base.free b o e n hx)
  · obtain⟨o',e1⟩:=I.base.there b o e hx
    exact there b o' (Yy b o e hx) e1
  · exact tbls b ps (I.base.tbls b ps e)
  · obtain⟨m,hn,hl⟩:=I.loc
    refine⟨m,ns m hn,fun i x v e1 e2 e3=>?_⟩
    obtain⟨u,r,l⟩:=hl i x v e1 e2 e3;refine⟨u,r,?_⟩;rcases l with l | ⟨k,c,e,z⟩
    · exact .inl l
    · exact .inr ⟨k,c,e,cellK x c e _ z⟩
  · obtain⟨v,z⟩:=I.cell x c e
    exact⟨v,cellK x c e v z⟩
  · obtain⟨m,⟨o,_,_,ho,_⟩,_⟩:=I.loc
    exact free _ o (fun z=>(Me _ z).2.1 rfl) ho I.free
  · obtain⟨v,o,ho,hd⟩:=I.cell x c e
    exact free c o (fun z=>(Me c z).2.2.1 x c e rfl) ho (I.freeC x c e)
  · obtain⟨e,n,ne,nf,d⟩:=I.pin p hp
    have Vb:p.1∉ch:=fun z=>(Me p.1 z).2.2.2 p hp rfl
    exact⟨keep p.1 p.2 ne nf Vb e n,free p.1 p.2 Vb e n,ne,nf,d⟩
theorem Inv.un{t':Nat}(I:Inv X ag σ H s)(u:Un X.fs [] H H' s.heap h')(hok:nZ X.prog X.w H' h'):Inv X ag σ H' {s with heap:=h',toks:=t'}:=by
  obtain⟨m,⟨o,es,ep,ho,r⟩,_⟩:=id I.loc;obtain⟨sl,hL⟩:=u.any ho I.free (by simp)
  exact I.step (g':=s.gens) (d':=s.drawn) (ch:=[]) (fun _ z=>nomatch z) (fun b o _ hb _ e n=>u.keep b o e n hb (by simp)) (fun b o _ hb _ e n=>u.slot b o e n hb (by simp)) (fun b o _ e n=>u.free b o e n (by simp)) (fun b o _ e=>u.there b o e (by simp)) u.tups u.frzs u.tbls (fun m' hm=>by
    obtain⟨o',Vc,ep',yR,r'⟩:=hm;rw[ho]at yR;cases yR;exact⟨_,Vc,ep',hL,r'⟩) hok I.bare
theorem Inv.call{g':Array GenState}{t':Nat}{d':Drawn}{ch:List ae}(I:Inv X ag σ H s)(u:Un (Bj X.stack) ch H H' s.heap h')(hok:nZ X.prog X.w H' h')(hg:AllBare g')
    (Me:∀b∈ch,(b∈X.ex\/X.s₀.heap.objs.size<=b)/\b≠X.env.locals/\(∀x c,X.env.cells.lookup x=some c->c≠b)/\∀p∈X.pn++ag,p.1≠b) :
    Inv X ag σ H' {s with heap:=h',gens:=g',drawn:=d',toks:=t'}:=by
  obtain⟨m,⟨o,es,ep,ho,r⟩,_⟩:=id I.loc;obtain⟨sl,hL⟩:=u.any ho I.free fun z=>(Me _ z).2.1 rfl
  exact I.step (ch:=ch) Me (fun b o hL hb hc e n=>u.keep b o e n (fun z=>(bc.mp (I.B6 b z)).elim hL hb) hc) (fun b o _ _ hc e n=>u.any e n hc) (fun b o hc e n=>u.free b o e n hc) (fun b o hc e=>u.there b o e hc) u.tups u.frzs u.tbls (fun m' hm=>by
    obtain⟨o',Vc,ep',yR,r'⟩:=hm;rw[ho]at yR;cases yR;exact⟨_,Vc,ep',hL,r'⟩) hok hg
theorem Inv.turned{t':Nat}{it:ae}(I:Inv X ag σ H s)(k:∀b o,b≠it->s.heap.get? b=some o->h'.get? b=some o)(hn:H it=none)(hL:it≠X.env.locals)
    (h1:it∈X.ex\/X.s₀.heap.objs.size<=it) (h2:∀x c,X.env.cells.lookup x=some c->c≠it) (h3:∀p∈X.pn++ag,p.1≠it):Inv X ag σ H {s with heap:=h',toks:=t'}:=by
  have Vd:∀b u,H b=some u->b≠it:=fun b u e z=>by rw[z,hn]at e;cases e
  refine I.step (g':=s.gens) (d':=s.drawn) (ch:=[it]) (fun b hb=>?_) (fun b o _ _ hc e _=>k b o (fun z=>hc (by simp[z])) e) (fun b o _ _ hc e _=>⟨o.slots,k b o (fun z=>hc (by simp[z])) e⟩) (fun _ _ _ _ n=>n)
    (fun b o hc e=>⟨o,k b o (fun z=>hc (by simp[z])) e⟩) (fun _ _ e=>e) (fun _ _ _ e=>e) (fun _ _ e=>e) (fun m hm=>?_) (fun b u e=>?_) I.bare
  · have e:b=it:=by simpa using hb
    subst e;exact⟨h1,hL,h2,h3⟩
  · obtain⟨o,es,ep,ho,r⟩:=hm
    exact⟨o,es,ep,k _ o (er hL) ho,r⟩
  · refine(I.hok b u e).yP (fun c v hc q=>k c v ?_ q) (fun _ q=>q) (fun _ _ q=>q) fun _ _ _ q=>q
    rcases hc with z | z
    · rw[z];exact Vd b u e
    · exact Vd c _ z
theorem Inv.tok(I:Inv X ag σ H s)(t:Nat):Inv X ag σ H {s with toks:=t}:=I.un (h':=s.heap) (t':=t) Un.refl I.hok
theorem Inv.kept{t':Nat}(I:Inv X ag σ H s)(k:∀b u,s.heap.get? b=some u->h'.get? b=some u):Inv X ag σ H {s with heap:=h',toks:=t'}:=I.un (Un.kept k) (I.hok.kept k)
theorem Inv.laid{a:ae}{o:HO}{t':Nat}(I:Inv X ag σ H s)(k:∀b u,s.heap.get? b=some u->h'.get? b=some u)(hp:s.heap.objs.size<=a)(new:fg X.prog X.w (dX H a o) h' a o) :
    Inv X ag σ (dX H a o) {s with heap:=h',toks:=t'}:=I.un (Un.laid k hp (I.hok.fresh hp)) (I.hok.laid k hp new)
theorem Inv.write{x e:ae}{o:HO}{t':Nat}(I:Inv X ag σ H s)(mu:Yw (H x))(he:e=x\/H e=some (.own x))(k:∀b u,b≠e->s.heap.get? b=some u->h'.get? b=some u)(Ux:∃u,h'.get? e=some u)
    (new:fg X.prog X.w (dX H x o) h' x o):Inv X ag σ (dX H x o) {s with heap:=h',toks:=t'}:=I.un (Un.write mu he k Ux) (I.hok.write mu he k Ux new)
theorem Inv.mY{PR:List (ae×Obj)}(I:Inv X ag σ H s)(h:∀p∈PR,s.heap.get? p.1=some p.2/\H p.1=none/\p.1≠X.env.locals/\p.1∉X.fs/\∀v,p.2.data≠.cell v):Inv X PR σ H s :=
  ⟨I.ok,I.os,I.bare,I.base,I.loc,I.cell,I.free,I.freeC,fun p hp=>(cR.mp hp).elim (fun z=>I.pin p (ir _ z)) (h p),I.hok,I.len⟩
theorem yS{N:List Str}(hN:N.Nodup){i j:Nat}{x:Str}(a:N[i]?=some x)(b:N[j]?=some x):i=j:=by
  obtain⟨h1,e1⟩:=cP.mp a;obtain⟨h2,e2⟩:=cP.mp b;exact(List.getElem_inj hN).mp (e1.trans e2.symm)
theorem store_ok2{M:Model}{A:bY}{E:cS}{i:Nat}{x:Str}{v:V}{u:aj}{Q:Unit->aw->Prop}(I:Inv X ag σ H s)(hN:X.N.Nodup)(hi:X.N[i]?=some x)(hx:PQ X.env.scope x)(r:RelV v u)
    (h:∀s',Inv X ag (σ.set i (some v)) H s'->(∃a,Heap.SameBut a s.heap s'.heap/\(a=X.env.locals\/X.env.cells.lookup x=some a))->Q () s') (hf:X.fn x=true\/X.env.scope.names.lookup x=some .local:=by first | exact .inl rfl | exact .inr rfl | assumption):wpAny M A (storeName X.env x u) Q E s:=by
  obtain⟨m,hn,hl⟩:=id I.loc;have aau:(X.env.scope.kind==.class || (X.env.scope.kind==.module&&X.env.locals != X.env.globals))=false:=by rw[I.ok.kind];rfl
  have Ve:i<σ.length:=by rw[I.len];exact(cP.mp hi).1
  have Rf:=I.Rf;have D4:∀{a:ae} {h':Heap},(∃o,s.heap.get? a=some o/\H a=none)->Heap.SameBut a s.heap h'->nZ X.prog X.w H h':=fun {a h'} ha hs b ob e=>by
    obtain⟨_,_,rm⟩:=ha;refine(I.hok b ob e).yP (fun c w' hc q=>(hs.2 c ?_).trans q) (fun _ q=>q) (fun _ _ q=>q) fun _ _ _ q=>q
    rintro rfl
    rcases hc with rfl | hc
    · rw[rm]at e;cases e
    · rw[rm]at hc;cases hc
  rcases hx with hk | hk
  · refine wpAny_storeName_local hk hn (fun h' Vf hs=>?_) aau
    obtain⟨oL,_,_,Vg,_⟩:=id hn;refine h _ ⟨I.ok,I.os,I.bare,⟨fun b o e n hb hx=>?_,fun b o e n hb hx=>?_,I.base.free,fun b o e hx=>?_,I.base.tups,I.base.frzs,I.base.tbls⟩,⟨_,Vf,fun j y v' e1 e2 e3=>?_⟩,fun y c e=>?_,I.free,I.freeC,fun p hp=>?_,D4 ⟨oL,Vg,I.free⟩ hs,by simpa using I.len⟩ ⟨_,hs,.inl rfl⟩
    · exact(hs.2 b (cI (cQ (bO e) I.ok.above))).trans (I.base.keep b o e n hb hx)
    · obtain⟨sl,e1⟩:=I.base.slot b o e n hb hx
      exact⟨sl,(hs.2 b (cI (cQ (bO e) I.ok.above))).trans e1⟩
    · obtain⟨o',e1⟩:=I.base.there b o e hx
      exact⟨o',(hs.2 b (cI (cQ (bO e) I.ok.above))).trans e1⟩
    · by_cases hj:j=i
      · subst hj
        rw[hi]at e1;cases e1;rw[bP Ve]at e2;cases e2;exact⟨u,r,.inl ⟨hk,by simp⟩⟩
      · rw[bx (er hj)]at e2
        obtain⟨u',r',q⟩:=hl j y v' e1 e2 e3;refine⟨u',r',?_⟩;rcases q with⟨k,e⟩ | ⟨k,c,e,z⟩
        · refine .inl ⟨k,?_⟩
          have:y≠x:=fun e=>hj (yS hN e1 (e▸hi))
          simp[this,e]
        · exact .inr ⟨k,c,e,z.sameBut hs (Rf y c e)⟩
    · obtain⟨w',z⟩:=I.cell y c e
      exact⟨w',z.sameBut hs (Rf y c e)⟩
    · obtain⟨e,n,ne,nf,d⟩:=I.pin p hp
      exact⟨(hs.2 p.1 ne).trans e,n,ne,nf,d⟩
  · have Vh:X.fn x=true:=by
      rcases hf with z | z
      · exact z
      · rw[z]at hk;cases hk
    obtain⟨c,hc⟩:=I.ok.has x (.inl hk);obtain⟨w',z⟩:=I.cell x c hc;refine wpAny_storeName_cell I.ok.kind hk hc z (fun h' D5 hs=>?_)
    obtain⟨oc,Yz,aav⟩:=id z;refine h {s with heap:=h'} ⟨I.ok,I.os,I.bare,⟨fun b o e n hb hx=>?_,fun b o e n hb hx=>?_,I.base.free,fun b o e hx=>?_,I.base.tups,I.base.frzs,I.base.tbls⟩,⟨m,hn.sameBut hs (er (Rf x c hc)),fun j y v' e1 e2 e3=>?_⟩,fun y c' e=>?_,I.free,I.freeC,fun p hp=>?_,D4 ⟨oc,Yz,I.freeC x c hc⟩ hs,by simpa using I.len⟩ ⟨c,hs,.inr hc⟩
    · exact(hs.2 b (cI (cQ (bO e) (I.ok.cab x c Vh hc)))).trans (I.base.keep b o e n hb hx)
    · obtain⟨sl,e1⟩:=I.base.slot b o e n hb hx
      exact⟨sl,(hs.2 b (cI (cQ (bO e) (I.ok.cab x c Vh hc)))).trans e1⟩
    · obtain⟨o',e1⟩:=I.base.there b o e hx
      exact⟨o',(hs.2 b (cI (cQ (bO e) (I.ok.cab x c Vh hc)))).trans e1⟩
    · by_cases hj:j=i
      · subst hj
        rw[hi]at e1;cases e1;rw[bP Ve]at e2;cases e2;exact⟨u,r,.inr ⟨.inl hk,c,hc,D5⟩⟩
      · rw[bx (er hj)]at e2
        obtain⟨u',r',q⟩:=hl j y v' e1 e2 e3;refine⟨u',r',?_⟩;rcases q with q | ⟨k,c',e,z'⟩
        · exact .inl q
        · refine .inr ⟨k,c',e,z'.sameBut hs ?_⟩
          rintro rfl
          exact hj (yS hN e1 (I.ok.inj _ _ _ e hc▸hi))
    · by_cases hcc:c'=c
      · subst hcc;exact⟨_,D5⟩
      · obtain⟨w2,z2⟩:=I.cell y c' e
        exact⟨w2,z2.sameBut hs hcc⟩
    · obtain⟨e,n,ne,nf,d⟩:=I.pin p hp
      refine⟨(hs.2 p.1 ?_).trans e,n,ne,nf,d⟩;intro q;rw[q,Yz]at e;have q':oc=p.2:=bD e;exact d w' (by rw[<-q'];exact aav)
theorem rn{M:Model}{A:bY}{E:cS}{i:Nat}{x:Str}{v:V}{u:aj}{Q:Unit->aw->Prop}(I:Inv X ag σ H s)(hN:X.N.Nodup)(hi:X.N[i]?=some x)(hx:PQ X.env.scope x)(r:RelV v u)
    (h:∀s',Inv X ag (σ.set i (some v)) H s'->Q () s') (hf:X.fn x=true\/X.env.scope.names.lookup x=some .local:=by first | exact .inl rfl | exact .inr rfl | assumption):wpAny M A (storeName X.env x u) Q E s :=
  store_ok2 I hN hi hx r (fun s' I' _=>h s' I') hf
theorem Inv.Vi{s':aw}{ch:List ae}(I:Inv X ag σ H s)(ho:s'.os=s.os)(u:Un (Bj X.stack) ch H H' s.heap s'.heap)(hok:nZ X.prog X.w H' s'.heap)(hg:AllBare s'.gens)
    (Me:∀b∈ch,(b∈X.ex\/X.s₀.heap.objs.size<=b)/\b≠X.env.locals/\(∀x c,X.env.cells.lookup x=some c->c≠b)/\∀p∈X.pn++ag,p.1≠b):Inv X ag σ H' s':=by
  obtain⟨h',g',d',t',o'⟩:=s';have e:o'=s.os:=ho;subst e;exact I.call (g':=g') (t':=t') (d':=d') u hok hg Me
end
abbrev XK:=aj->Option ae->Hp->Prop
abbrev St:=List (Option V)
abbrev VK:=V->Hp->Prop
abbrev TE:=St->Hp->VK->Prop
abbrev TT:=St->Hp->(Bool->Hp->Prop)->Prop
abbrev TA:=St->Hp->(List V->Hp->Prop)->Prop
structure j2 where
  nx:St->Hp->Prop
  rt:VK
  bk:St->Hp->Prop:=fun _ _=>False
  ct:St->Hp->Prop:=fun _ _=>False
abbrev TS:=j2->St->Hp->Prop
def EP(X:Cx)(ag:List (ae×Obj))(σ:St)(Q:VK)(u:aj)(s':aw):Prop:=∃v H',Inv X ag σ H' s'/\RelV v u/\Q v H'
def TP(X:Cx)(ag:List (ae×Obj))(σ:St)(Q:Bool->Hp->Prop)(b:Bool)(s':aw):Prop:=∃H',Inv X ag σ H' s'/\Q b H'
def AP(X:Cx)(ag:List (ae×Obj))(σ:St)(Q:List V->Hp->Prop)(us:cb)(s':aw):Prop:=∃vs H',Inv X ag σ H' s'/\Vals vs us/\Q vs H'
def SP(X:Cx)(ag:List (ae×Obj))(D:j2)(f:Flow)(s':aw):Prop :=
  match f with
  | .next=>∃cn H',Inv X ag cn H' s'/\D.nx cn H'
  | .brk=>∃cn H',Inv X ag cn H' s'/\D.bk cn H'
  | .cont=>∃cn H',Inv X ag cn H' s'/\D.ct cn H'
  | .ret u=>∃v cn H',Inv X ag cn H' s'/\RelV v u/\D.rt v H'
def PE(X:Cx)(e:aq)(t:TE):Prop :=
  ∀(ag:List (ae×Obj)) (s:aw) (σ:St) (H:Hp) (Q:VK),Inv X ag σ H s->t σ H Q->wpAny (model X.prog X.w) X.A (eval e X.env) (EP X ag σ Q) X.xe s
def PT(X:Cx)(e:aq)(t:TT):Prop :=
  ∀(ag:List (ae×Obj)) (s:aw) (σ:St) (H:Hp) (Q:Bool->Hp->Prop),Inv X ag σ H s->t σ H Q->wpAny (model X.prog X.w) X.A (isTrue e X.env (eval e X.env)) (TP X ag σ Q) X.xe s
def PW(X:Cx)(e:aq)(t:TT):Prop :=
  ∀(iS:Sem aj) (ag:List (ae×Obj)) (s:aw) (σ:St) (H:Hp) (Q:Bool->Hp->Prop),Inv X ag σ H s->t σ H Q->wpAny (model X.prog X.w) X.A (isTrue e X.env iS) (TP X ag σ Q) X.xe s
theorem PW.pt{X:Cx}{e:aq}{t:TT}(h:PW X e t):PT X e t:=h _
def PA(X:Cx)(es:List aq)(t:TA):Prop :=
  ∀(pos:Pos) (ag:List (ae×Obj)) (s:aw) (σ:St) (H:Hp) (Q:List V->Hp->Prop),Inv X ag σ H s->t σ H Q->wpAny (model X.prog X.w) X.A (spliced (backTo pos (starEach es X.env))) (AP X ag σ Q) X.xe s
def PS(X:Cx)(st:aE)(t:TS):Prop :=
  ∀(ag:List (ae×Obj)) (s:aw) (σ:St) (H:Hp) (D:j2),Inv X ag σ H s->t D σ H->wpAny (model X.prog X.w) X.A (exec st X.env) (SP X ag D) X.xe s
def oD(X:Cx)(st:List aE)(t:TS):Prop :=
  ∀(ag:List (ae×Obj)) (s:aw) (σ:St) (H:Hp) (D:j2),Inv X ag σ H s->t D σ H->wpAny (model X.prog X.w) X.A (execs st X.env) (SP X ag D) X.xe s
theorem thn{α:Type}{t:Sem α}{Q Q':α->aw->Prop}{M:Model}{A:bY}{E:cS}{s:aw}(h:wpAny M A t Q E s)(hQ:∀a s,Q a s->Q' a s):wpAny M A t Q' E s:=mh h hQ fun _ _ x=>x
section
variable {X:Cx}
def mj(i:Nat):TE:=fun σ H Q=>∃v,σ[i]?=some (some v)/\Q v H
def tC(v:V):TE:=fun _ H Q=>Q v H
theorem pe_var{i:Nat}{x:Str}{pos:Pos}(hN:X.N[i]?=some x)(hv:Uy X.env.scope x)(hd:(x==("__debug__":Str))=false:=by decide)(uB:(x==("__classdict__":Str))=false:=by decide):PE X (.Name x pos) (mj i):=by
  intro ag s σ H Q I h;obtain⟨v,e,h⟩:=h;obtain⟨m,hn,hl⟩:=I.loc;obtain⟨u,r,l⟩:=hl i x v hN e hv;have fin:EP X ag σ Q u s:=⟨v,H,I,r,h⟩;rcases l with⟨hk,hm⟩ | ⟨hk,c,hc,ku⟩
  · exact wpAny_Name (wpAny_loadName_local I.ok.kind hk hn hm fin) hd
  · rcases hk with hk | hk
    · exact wpAny_Name (wpAny_loadName_cell I.ok.kind hk hc ku fin) hd
    · exact wpAny_Name (wpAny_loadName_free I.ok.kind hk hc ku fin uB) hd
theorem v9{i j pos}:PE X (.Constant (.int i) j pos) (tC (.int i)):=fun _ _ _ H _ I h=>wpAny_Constant_int ⟨.int i,H,I.tok _,⟨_,rfl⟩,h⟩
theorem PU{b j pos}:PE X (.Constant (.bool b) j pos) (tC (.bl b)):=fun _ _ _ H _ I h=>Constant_bool ⟨.bl b,H,I,rfl,h⟩
theorem Rg{j pos}:PE X (.Constant .none j pos) (tC .cG):=fun _ _ _ H _ I h=>Constant_none ⟨.cG,H,I,rfl,h⟩
theorem Rh{x j pos}:PE X (.Constant (.str x) j pos) (tC (.str x)):=fun _ _ _ H _ I h=>Calls.Constant_str ⟨.str x,H,I.tok _,⟨_,rfl⟩,h⟩
def Gl(X:Cx)(x:Str):Prop:=X.env.kindOf x=some .globalImplicit
theorem ld_glob{E:cS}{ag:List (ae×Obj)}{s:aw}{σ:St}{H:Hp}{x:Str}{u:aj}{pos:Pos}{Q:cS}(I:Inv X ag σ H s)(hg:Gl X x)(hm:X.mg x=some u)(h:Q u s)
    (hd:(x==("__debug__":Str))=false:=by decide):wpAny (model X.prog X.w) X.A (eval (.Name x pos) X.env) Q E s :=
  Ic I.ok.kind hg (Calls.loadGlobal_global (by rw[I.ok.glob];exact I.mod.glob.keeps I.bk) hm h) hd
theorem ld_blt{E:cS}{ag:List (ae×Obj)}{s:aw}{σ:St}{H:Hp}{x:Str}{u:aj}{pos:Pos}{Q:cS}(I:Inv X ag σ H s)(hg:Gl X x)(hm:X.mg x=none)(hv:bootBuiltins x=some u)(h:Q u s)
    (hn:x≠"__name__":=by decide) (hd:(x==("__debug__":Str))=false:=by decide):wpAny (model X.prog X.w) X.A (eval (.Name x pos) X.env) Q E s:=by
  obtain⟨mb,h1,h2⟩:=I.mod.blt;exact Ic I.ok.kind hg (Calls.loadGlobal_builtin (by rw[I.ok.glob];exact I.mod.glob.keeps I.bk) hm (by rw[I.ok.blt];exact h1.keeps I.bk) ((h2 x hn).trans hv) h) hd
theorem D6{x:Str}{v:V}{u:aj}{pos:Pos}(hg:Gl X x)(hm:X.mg x=some u)(r:RelV v u)(hd:(x==("__debug__":Str))=false:=by decide):PE X (.Name x pos) (tC v) :=
  fun _ _ _ H _ I h=>ld_glob I hg hm ⟨v,H,I,r,h⟩ hd
theorem MA{x:Str}{v:V}{u:aj}{pos:Pos}(hg:Gl X x)(hm:X.mg x=none)(hv:bootBuiltins x=some u)(r:RelV v u)(hn:x≠"__name__":=by decide)(hd:(x==("__debug__":Str))=false:=by decide):PE X (.Name x pos) (tC v) :=
  fun _ _ _ H _ I h=>ld_blt I hg hm hv ⟨v,H,I,r,h⟩ hn hd
variable {a b:aq} {ta tb:TE} {pos:Pos}
def tB(t:TE):TT:=fun σ H Q=>t σ H fun x H1=>∃c,x=.bl c/\Q c H1
theorem Ri{e:aq}{t:TE}(h:PE X e t)(he:∀iS,isTrue e X.env iS=(do let v <-iS;standAt e.pos;holding [v] (truthy v)):=by intro _;rfl):PT X e (tB t):=by
  intro ag s σ H Q I hw;refine isTrue_plain (thn (h ag s σ H _ I hw) fun v s1 ⟨x,H1,I1,r1,q1⟩=>?_) (he _)
  obtain⟨d,rfl,q⟩:=q1;cases r1;exact jK ⟨H1,I1,q⟩
variable {tA YA:TT} {rest:List aq}
def aaw(t u:TT):TT:=fun σ H Q=>t σ H fun c H1=>if c=true then u σ H1 Q else Q false H1
def tOr(t u:TT):TT:=fun σ H Q=>t σ H fun c H1=>if c=true then Q true H1 else u σ H1 Q
def aax(t:TT):TT:=fun σ H Q=>t σ H fun c H1=>Q (!c) H1
theorem MB(ha:PT X a tA):PW X (.BoolOp .And [a] pos) tA:=by
  intro wh ag s σ H Q I h;refine isTrue_and (thn (ha ag s σ H Q I h) fun c s1 e=>?_)
  cases c with
  | true=>exact isTrue_and_nil e
  | false=>exact e
theorem Rj(ha:PT X a tA):PW X (.BoolOp .Or [a] pos) tA:=by
  intro wh ag s σ H Q I h;refine isTrue_or (thn (ha ag s σ H Q I h) fun c s1 e=>?_)
  cases c with
  | false=>exact isTrue_or_nil e
  | true=>exact e
theorem Rl(ha:PT X a tA)(hb:PW X (.BoolOp .And (b::rest) pos) YA):PW X (.BoolOp .And (a::b::rest) pos) (aaw tA YA):=by
  intro wh ag s σ H Q I h;refine isTrue_and (thn (ha ag s σ H _ I h) fun c s1 ⟨H1,I1,q1⟩=>?_)
  cases c with
  | true=>exact hb wh ag s1 σ H1 Q I1 q1
  | false=>exact⟨H1,I1,q1⟩
theorem Vj(ha:PT X a tA)(hb:PW X (.BoolOp .Or (b::rest) pos) YA):PW X (.BoolOp .Or (a::b::rest) pos) (tOr tA YA):=by
  intro wh ag s σ H Q I h;refine isTrue_or (thn (ha ag s σ H _ I h) fun c s1 ⟨H1,I1,q1⟩=>?_)
  cases c with
  | true=>exact⟨H1,I1,q1⟩
  | false=>exact hb wh ag s1 σ H1 Q I1 q1
theorem Rm(ha:PT X a tA):PT X (.UnaryOp .Not a pos) (aax tA):=by
  intro ag s σ H Q I h;exact isTrue_not (ha ag s σ H (fun c H1=>Q (!c) H1) I h)
def Vk(ta tb:TE):TE:=fun σ H Q=>ta σ H fun x H1=>∃c,x=.bl c/\if c=true then tb σ H1 Q else Q (.bl false) H1
def Vl(ta:TE):TE:=fun σ H Q=>ta σ H fun x H1=>∃c,x=.bl c/\Q (.bl (!c)) H1
theorem Rn{op}{t:TE}(h:PE X a t):PE X (.BoolOp op [a] pos) t:=fun ag s σ H Q I hw=>BoolOp_one (h ag s σ H Q I hw)
theorem Ro(ha:PE X a ta)(hb:PE X (.BoolOp .And (b::rest) pos) tb):PE X (.BoolOp .And (a::b::rest) pos) (Vk ta tb):=by
  intro ag s σ H Q I h;refine BoolOp_and (thn (ha ag s σ H _ I h) fun v s1 ⟨x,H1,I1,r1,q1⟩=>?_)
  obtain⟨c,rfl,q1⟩:=q1;cases r1;refine jK ?_;cases c with
  | true=>exact hb ag s1 σ H1 Q I1 q1
  | false=>exact⟨.bl false,H1,I1,rfl,q1⟩
theorem Rq(ha:PE X a ta):PE X (.UnaryOp .Not a pos) (Vl ta):=by
  intro ag s σ H Q I h;refine UnaryOp_ (thn (ha ag s σ H _ I h) fun v s1 ⟨x,H1,I1,r1,q1⟩=>?_)
  obtain⟨c,rfl,q1⟩:=q1;cases r1;exact not_of (jK ⟨.bl (!c),H1,I1,rfl,q1⟩)
def tIf(t:TT)(ta tb:TE):TE:=fun σ H Q=>t σ H fun c H1=>if c=true then ta σ H1 Q else tb σ H1 Q
theorem IL{c:aq}(hc:PT X c tA)(ha:PE X a ta)(hb:PE X b tb):PE X (.IfExp c a b pos) (tIf tA ta tb):=by
  intro ag s σ H Q I h;refine wpAny_IfExp (thn (hc ag s σ H _ I h) fun d s1 ⟨H1,I1,q1⟩=>?_)
  cases d with
  | true=>exact ha ag s1 σ H1 Q I1 q1
  | false=>exact hb ag s1 σ H1 Q I1 q1
end
def lu(K:ak)(H:Hp)(a:ae)(xs:List V):Prop :=
  Rd H a (.au xs) \/
    ∃(o:Obj) (aY:Array aj) (n:Nat),K.lookup a=some o/\o.cls=.type "list"/\o.dict=none/\o.data=.seq aY n/\aY.size<=sizeLine/\Vals xs aY.toList
theorem qj.sq{K:ak}{H:Hp}{a:ae}{xs:List V}(h:qj K H a xs):lu K H a xs:=by
  rcases h with h | ⟨aY,n,e,z,r⟩
  · exact .inl h
  · exact .inr ⟨_,aY.toArray,n,e,rfl,rfl,rfl,by simpa using z,by simpa using r⟩
def aay:aj->Option V
  | .none=>some .cG
  | .bool b=>some (.bl b)
  | .int i _=>some (.int i)
  | .str x _=>some (.str x)
  | .bytes b _=>some (.U0 b)
  | .float b _=>some (.Z7 b)
  | .ref a=>some (.ref a)
  | .type n=>some (.ty n)
  | _=>none
theorem RelV.abs{x:V}{u:aj}(r:RelV x u):aay u=some x:=by
  cases x with
  | cG=>cases r;rfl
  | bl _=>cases r;rfl
  | int _=>obtain⟨t,rfl⟩:=r;rfl
  | str _=>obtain⟨t,rfl⟩:=r;rfl
  | U0 _=>obtain⟨t,rfl⟩:=r;rfl
  | Z7 _=>obtain⟨t,rfl⟩:=r;rfl
  | ref _=>cases r;rfl
  | ty _=>cases r;rfl
theorem RelV.inj{x y:V}{u:aj}(r:RelV x u)(q:RelV y u):x=y:=bD (r.abs.symm.trans q.abs)
theorem Vals.inj:∀{xs ys:List V} {us:cb},Vals xs us->Vals ys us->xs=ys
  | _,_,_,.nil,.nil=>rfl
  | _,_,_,.cons r t,.cons r' t'=>by rw[r.inj r',Vals.inj t t']
section
variable {X:Cx} {ag:List (ae×Obj)} {σ:St} {H:Hp} {s:aw} {a:ae} {xs ys:List V}
theorem lu.of{K:ak}(h:H a=some (.au xs)):lu K H a xs:=.inl (.inl h)
theorem jm.of{K:ak}(h:H a=some (.aB xs)):jm K H a xs:=.inl (.inl h)
theorem Inv.list(I:Inv X ag σ H s)(h:lu X.K H a xs):∃aY:cb,Vals xs aY/\PlainL s.heap a aY.toArray/\xs.length<=sizeLine:=by
  rcases h with h | ⟨o,aY,n,hk,hc,hd,hs,hz,r⟩
  · obtain⟨z,aY,n,r,e⟩:=h.ok I.hok
    exact⟨aY,r,⟨_,n,e,rfl,rfl,rfl⟩,z⟩
  · refine⟨aY.toList,r,⟨o,n,I.yo a o hk,hc,hd,by simpa using hs⟩,?_⟩
    have e:=r.length;simp only[qF]at e
    lia
theorem Inv.tuple(I:Inv X ag σ H s)(h:jm X.K H a xs):∃aY:cb,Vals xs aY/\IsTup s.heap a aY.toArray/\xs.length<=sizeLine:=by
  rcases h with h | ⟨o,aY,n,hk,hc,hs,hz,r⟩
  · obtain⟨z,aY,r,p⟩:=h.ok I.hok
    exact⟨aY,r,p,z⟩
  · refine⟨aY.toList,r,⟨o,I.yo a o hk,hc,n,by simpa using hs⟩,?_⟩
    have e:=r.length;simp only[qF]at e
    lia
theorem Inv.ro(I:Inv X ag σ H s)(h:lu X.K H a xs)(h':lu X.K H a ys):xs=ys:=by
  obtain⟨aY,r,⟨o,n,e,_,_,d⟩,_⟩:=I.list h;obtain⟨its',r',⟨o',n',e',_,_,d'⟩,_⟩:=I.list h';rw[e]at e';cases e';rw[d]at d';injection d' with d1 _
  have:aY=its':=by simpa using dy Array.toList d1
  subst this;exact r.inj r'
theorem Inv.oE(I:Inv X ag σ H s)(h:jm X.K H a xs)(h':jm X.K H a ys):xs=ys:=by
  obtain⟨aY,r,⟨o,e,_,n,d⟩,_⟩:=I.tuple h;obtain⟨its',r',⟨o',e',_,n',d'⟩,_⟩:=I.tuple h';rw[e]at e';cases e';rw[d]at d';injection d' with d1 _
  have:aY=its':=by simpa using dy Array.toList d1
  subst this;exact r.inj r'
end
section
variable {X:Cx} {st:aE} {rest:List aE} {t u:TS} {e:aq} {te:TE} {pos:Pos}
def Vm:TS:=fun D σ H=>D.nx σ H
def Vn(t u:TS):TS:=fun D σ H=>t {D with nx:=u D} σ H
theorem D7:oD X [] Vm:=fun _ _ σ H _ I h=>vU ⟨σ,H,I,h⟩
theorem fB(h1:PS X st t)(h2:oD X rest u):oD X (st::rest) (Vn t u):=by
  intro ag s σ H D I h;refine wpAny_execs_cons (thn (h1 ag s σ H {D with nx:=u D} I h) fun f s1 q=>?_)
  cases f with
  | next =>
    obtain⟨cn,H',I',q⟩:=q;exact h2 ag s1 cn H' D I' q
  | ret v=>exact q
  | brk=>exact q
  | cont=>exact q
theorem iU(h1:PS X st t):oD X [st] t:=by
  intro ag s σ H D I h;refine wpAny_execs_cons (thn (h1 ag s σ H D I h) fun f s1 q=>?_)
  cases f with
  | next=>exact vU q
  | ret v=>exact q
  | brk=>exact q
  | cont=>exact q
theorem Inv.quiet{ag:List (ae×Obj)}{σ:St}{H:Hp}{s:aw}(I:Inv X ag σ H s):interactive X.env=false:=by simp[interactive,I.ok.kind]
def tDrop(te:TE):TS:=fun D σ H=>te σ H fun _ H1=>D.nx σ H1
theorem gM(he:PE X e te)(hs:swapsWith e none pos.line X.env=pure false:=by rfl):PS X (.Expr e pos) (tDrop te):=by
  intro ag s σ H D I h;exact wpAny_Expr_any (thn (he ag s σ H _ I h) fun v s1 ⟨x,H1,I1,r1,q1⟩=>⟨σ,H1,I1,q1⟩) I.quiet hs
def aaz(te:TE):TS:=fun D σ H=>te σ H D.rt
theorem B7(he:PE X e te):PS X (.Return (some e) pos) (aaz te):=by
  intro ag s σ H D I h;exact wpAny_Return_some (thn (he ag s σ H _ I h) fun v s1 ⟨x,H1,I1,r1,q1⟩=>⟨x,σ,H1,I1,r1,q1⟩)
def Vo:TS:=fun D _ H=>D.rt .cG H
theorem MC:PS X (.Return none pos) Vo:=fun _ _ σ H _ I h=>wpAny_Return_none ⟨.cG,σ,H,I,rfl,h⟩
def aaA(c:TT)(t u:TS):TS:=fun D σ H=>c σ H fun b H1=>if b=true then t D σ H1 else u D σ H1
theorem PX{c:aq}{a b:List aE}{tc:TT}(hc:PT X c tc)(ha:oD X a t)(hb:oD X b u):PS X (.If c a b pos) (aaA tc t u):=by
  intro ag s σ H D I h;refine wpAny_If (thn (hc ag s σ H _ I h) fun d s1 ⟨H1,I1,q1⟩=>?_)
  cases d with
  | true=>exact ha ag s1 σ H1 D I1 q1
  | false=>exact hb ag s1 σ H1 D I1 q1
def Ru:TS:=fun _ _ _=>False
theorem IM:PS X st Ru:=fun _ _ _ _ _ _ h=>h.elim
end
abbrev TG:=V->St->Hp->(St->Hp->Prop)->Prop
abbrev MD:=List V->St->Hp->(St->Hp->Prop)->Prop
def PG(X:Cx)(target:aq)(t:TG):Prop :=
  ∀(ag:List (ae×Obj)) (s:aw) (σ:St) (H:Hp) (v:V) (u:aj) (Q:St->Hp->Prop),Inv X ag σ H s->RelV v u->t v σ H Q ->
    wpAny (model X.prog X.w) X.A (assign target X.env u) (fun _ s'=>∃cn H',Inv X ag cn H' s'/\Q cn H') X.xe s
def HQ(X:Cx)(ts:List aq)(t:MD):Prop :=
  ∀(ag:List (ae×Obj)) (s:aw) (σ:St) (H:Hp) (vs:List V) (us:cb) (Q:St->Hp->Prop),Inv X ag σ H s->Vals vs us->t vs σ H Q ->
    wpAny (model X.prog X.w) X.A (assignInOrder ((assignEach ts X.env).map (·.2)) us) (fun _ s'=>∃cn H',Inv X ag cn H' s'/\Q cn H') X.xe s
abbrev TIp:=V->V->Hp->VK->Prop
def PIp(X:Cx)(op:Operator)(t:TIp):Prop :=
  ∀(ag:List (ae×Obj)) (s:aw) (σ:St) (H:Hp) (x y:V) (v u:aj) (Q:VK),Inv X ag σ H s->RelV x v->RelV y u->t x y H Q ->
    wpAny (model X.prog X.w) X.A (inplaceOp op v u) (EP X ag σ Q) X.xe s
section
variable {X:Cx} {pos:Pos}
def gName(i:Nat):TG:=fun v σ H Q=>Q (σ.set i (some v)) H
theorem wa{i:Nat}{x:Str}(hN:X.N.Nodup)(hi:X.N[i]?=some x)(hx:PQ X.env.scope x)(hf:X.fn x=true\/X.env.scope.names.lookup x=some .local:=by first | exact .inl rfl | exact .inr rfl | assumption):PG X (.Name x pos) (gName i):=by
  intro ag s σ H v u Q I r h;exact wpAny_assign_Name (rn I hN hi hx r (fun s' I'=>⟨_,H,I',h⟩) hf)
def Vp:MD:=fun vs σ H Q=>vs=[]/\Q σ H
def IP(t:TG)(u:MD):MD:=fun vs σ H Q=>∃v r,vs=v::r/\t v σ H fun cn H'=>u r cn H' Q
theorem D8:HQ X [] Vp:=by
  intro ag s σ H vs us Q I r h;obtain⟨e,h⟩:=h;subst e;cases r;exact assignInOrder_nil ⟨σ,H,I,h⟩
theorem rz{e:aq}{es:List aq}{t:TG}{u:MD}(h1:PG X e t)(h2:HQ X es u)
    (hs:(assignEach (e::es) X.env).map (·.2)=assign e X.env::(assignEach es X.env).map (·.2):=by rfl):HQ X (e::es) (IP t u):=by
  intro ag s σ H vs us Q I r h;obtain⟨v,vr,e1,h⟩:=h;subst e1;cases r with
  | cons r rr =>
    rw[hs];refine assignInOrder_cons (thn (h1 ag s σ H _ _ _ I r h) fun _ s1 ⟨gW,H1,I1,q1⟩=>?_)
    exact h2 ag s1 gW H1 _ _ Q I1 rr q1
def Vq(K:ak)(n:Nat)(t:MD):TG:=fun v σ H Q=>∃a xs,v=.ref a/\jm K H a xs/\xs.length=n/\t xs σ H Q
theorem IQ{es:List aq}{k:Nat}{t:MD}{n:Nat}(hc:X.calm=true)(h:HQ X es t)
    (hn:(assignEach es X.env).length=n:=by rfl) (FL:(assignEach es X.env).findIdx? (·.1)=none:=by rfl):PG X (.Tuple es k pos) (Vq X.K n t):=by
  intro ag s σ H v u Q I r hw;obtain⟨a,xs,e1,hq,hl,hw⟩:=hw;subst e1;cases r;obtain⟨aY,rv,ht,hz⟩:=I.tuple hq;refine assign_Tuple_tuple (I.ok.hd hc) ht (by simp[hn,<-hl,rv.length]) FL fun h' hx=>?_
  have I1:Inv X ag σ H {s with heap:=h'}:=I.kept (t':=s.toks) fun b o e=>hx b o (cI (bO e)) e
  exact h ag _ σ H xs _ Q I1 (by simpa using rv) hw
def mZ(te:TE)(g:TG):TS:=fun D σ H=>te σ H fun x H1=>g x σ H1 D.nx
theorem Rv{tg e:aq}{te:TE}{g:TG}(he:PE X e te)(hg:PG X tg g)(hs:swapsWithSole [tg] e pos.line X.env=pure false:=by rfl)(hw:swappedStores [tg] e X.env=pure none:=by rfl)
    (h1:(assignEach [tg] X.env).map (·.2)=[assign tg X.env]:=by rfl):PS X (.Assign [tg] e pos) (mZ te g):=by
  intro ag s σ H D I h;refine wpAny_Assign_stores (thn (he ag s σ H _ I h) fun v s1 ⟨x,H1,I1,r1,q1⟩=>?_) hs hw
  rw[h1];exact thn (hg ag s1 σ H1 x v _ I1 r1 q1) fun _ s2 q=>q
theorem wb{i:Nat}{x:Str}{e:aq}{te:TE}{gO:Pos}(hN:X.N.Nodup)(hi:X.N[i]?=some x)(hx:PQ X.env.scope x)(he:PE X e te)(hs:swapsWith e (some (.Name x gO)) pos.line X.env=pure false:=by rfl)(hf:X.fn x=true\/X.env.scope.names.lookup x=some .local:=by first | exact .inl rfl | exact .inr rfl | assumption) :
    PS X (.Assign [.Name x gO] e pos) (mZ te (gName i)):=by
  intro ag s σ H D I h;refine wpAny_Assign_Name (thn (he ag s σ H _ I h) fun v s1 ⟨y,H1,I1,r1,q1⟩=>?_) hs
  exact rn I1 hN hi hx r1 (fun s2 I2=>⟨_,H1,I2,q1⟩) hf
def aaC(i:Nat)(te:TE)(ti:TIp):TS:=fun D σ H=>∃x,σ[i]?=some (some x)/\te σ H fun y H1=>ti x y H1 fun z H2=>D.nx (σ.set i (some z)) H2
theorem IS{i:Nat}{x:Str}{e:aq}{te:TE}{op:Operator}{ti:TIp}{gO:Pos}(hN:X.N.Nodup)(hi:X.N[i]?=some x)(hx:PQ X.env.scope x)(he:PE X e te)(ho:PIp X op ti)(hf:X.fn x=true\/X.env.scope.names.lookup x=some .local:=by first | exact .inl rfl | exact .inr rfl | assumption) :
    PS X (.AugAssign (.Name x gO) op e pos) (aaC i te ti):=by
  intro ag s σ H D I h;obtain⟨v,e1,h⟩:=h;obtain⟨m,hn,hl⟩:=I.loc;have vis:Uy X.env.scope x:=by rcases hx with k | k;exact .inl k;exact .inr (.inl k)
  obtain⟨u,r,l⟩:=hl i x v hi e1 vis;refine wpAny_AugAssign_Name ?_;have go:wpAny (model X.prog X.w) X.A (eval e X.env) (fun w FN=>wpAny (model X.prog X.w) X.A (inplaceOp op u w) (fun r aaD=>wpAny (model X.prog X.w) X.A (storeName X.env x r) (fun _=>SP X ag D .next) X.xe aaD) X.xe FN) X.xe s:=by
    refine thn (he ag s σ H _ I h) fun w s1 ⟨y,H1,I1,r1,q1⟩=>?_
    refine thn (ho ag s1 σ H1 v y u w _ I1 r r1 q1) fun z s2 ⟨zv,H2,I2,r2,q2⟩=>?_
    exact rn I2 hN hi hx r2 (fun s3 I3=>⟨_,H2,I3,q2⟩) hf
  rcases l with⟨hk,hm⟩ | ⟨hk,c,hc,ku⟩
  · exact wpAny_loadName_local I.ok.kind hk hn hm go
  · rcases hk with hk | hk
    · exact wpAny_loadName_cell I.ok.kind hk hc ku go
    · rcases hx with k | k
      · have:X.env.scope.names.lookup x=some .free:=hk
        rw[k]at this;cases this
      · have:X.env.scope.names.lookup x=some .free:=hk
        rw[k]at this;cases this
end
section
variable {X:Cx} {pos:Pos}
def Rx(c:TT)(tb:TS):TS:=fun D σ H=>∃W:Nat->St->Hp->Prop,(∃m,W m σ H)/\∀m σ H,W m σ H ->
  c σ H fun b H1=>if b=true then ∃N:St->Hp->Prop,(∀cn H',N cn H'->∃m',m'<m/\W m' cn H')/\tb {D with nx:=N,ct:=N,bk:=D.nx} σ H1 else D.nx σ H1
theorem IT{c:aq}{body:List aE}{tc:TT}{tb:TS}(hp:PassesOwn (model X.prog X.w) X.A X.env X.xe)(hc:PT X c tc)(hb:oD X body tb):PS X (.While c body [] pos) (Rx tc tb):=by
  intro ag s σ H D I h;obtain⟨W,⟨m0,w0⟩,tW⟩:=h;refine wpAny_While (codeAny_whileLoop (fun n s'=>∃cn H',Inv X ag cn H' s'/\W n cn H') ?_ m0 ⟨σ,H,I,w0⟩)
  rintro n s1 ⟨gW,H1,I1,w1⟩
  refine l8 hp (thn (hc ag s1 gW H1 _ I1 (tW n gW H1 w1)) fun b s2 ⟨H2,I2,q2⟩=>?_)
  cases b with
  | true =>
    obtain⟨N,hN,q2⟩:=q2;rw[if_pos rfl];refine l8 hp (thn (hb ag s2 gW H2 _ I2 q2) fun f s3 q3=>?_)
    cases f with
    | next =>
      obtain⟨lx,H3,I3,n3⟩:=q3;obtain⟨m',hm,w3⟩:=hN lx H3 n3;exact⟨m',hm,lx,H3,I3,w3⟩
    | cont =>
      obtain⟨lx,H3,I3,n3⟩:=q3;obtain⟨m',hm,w3⟩:=hN lx H3 n3;exact⟨m',hm,lx,H3,I3,w3⟩
    | brk=>exact q3
    | ret v=>exact q3
  | false =>
    rw[if_neg iu];exact vU ⟨gW,H2,I2,q2⟩
end
structure It where
  go:Nat->Hp->Prop
  yld:Nat->Hp->V->Hp->Prop
  stop:Nat->Hp->Prop
def wc(X:Cx)(ag:List (ae×Obj))(H:Hp)(b:ae):Prop :=
  H b=none/\b≠X.env.locals/\b∉X.fs/\(b∈X.ex\/X.s₀.heap.objs.size<=b)/\(∀x c,X.env.cells.lookup x=some c->c≠b)/\∀p∈X.pn++ag,p.1≠b
theorem Inv.IU{X:Cx}{ag:List (ae×Obj)}{σ:St}{H H':Hp}{s:aw}{b:ae}(I:Inv X ag σ H s)(hb:s.heap.objs.size<=b)(hn:H' b=none):wc X ag H' b:=by
  refine⟨hn,qQ (cQ I.lt hb),I.aas hb,.inr (cF I.sz hb),fun x c e z=>?_,fun p hp z=>?_⟩
  · obtain⟨v,q⟩:=I.cell x c e
    exact absurd (cQ q.lt (by rw[z];exact hb)) (jl _)
  · exact absurd (cQ (bO (I.pin p hp).1) (by rw[z];exact hb)) (jl _)
structure Turn (P:bJ) (w:aW) (K:ak) (tg:aq) (J:It) (fp:List ae) (it:ae) (tn:Nat->Heap->Prop):Prop where
  mem:it∈fp
  obj:∀i h,tn i h->∀b∈fp,∃o,h.get? b=some o/\∀v,o.data≠.cell v
  keep:∀i h h',tn i h->(∀b∈fp,∀o,h.get? b=some o->h'.get? b=some o)->tn i h'
  item:∀(X:Cx),X.prog=P->X.w=w->X.K=K->X.calm=true->∀(i:Nat) (ag:List (ae×Obj)) (s:aw) (σ:St) (H:Hp) (E:cS),Inv X ag σ H s->(∀b∈fp,wc X ag H b)->tn i s.heap->J.go i H ->
    wpAny (model P w) X.A (pyNext (.ref it)) (fun r s1=>∃u,r=some u /\
      wpAny (model P w) X.A (letOwnedTupleGo tg (.ref it) u) (fun _ s2=>∃x H',Inv X ag σ H' s2/\RelV x u/\J.yld i H x H'/\tn (i+1) s2.heap/\∀b∈fp,H' b=none) E s1) E s
  done:∀(X:Cx),X.prog=P->X.w=w->X.K=K->X.calm=true->∀(i:Nat) (ag:List (ae×Obj)) (s:aw) (σ:St) (H:Hp) (E:cS),Inv X ag σ H s->(∀b∈fp,wc X ag H b)->tn i s.heap->J.stop i H ->
    wpAny (model P w) X.A (pyNext (.ref it)) (fun r s1=>r=none/\Inv X ag σ H s1) E s
  self:∀(A:bY) (i:Nat) (s:aw) (Q:cS) (E:cS),tn i s.heap->Q (.ref it) s->wpAny (model P w) A (pyIter (.ref it)) Q E s
abbrev TI:=St->Hp->(It->Hp->Prop)->Prop
def PIE(X:Cx)(ag:List (ae×Obj))(σ:St)(tg:aq)(R:It->Hp->Prop)(itv:aj)(s2:aw):Prop :=
  ∃(it:ae) (fp:List ae) (tn:Nat->Heap->Prop) (J:It) (H':Hp),itv=.ref it/\Inv X ag σ H' s2/\Turn X.prog X.w X.K tg J fp it tn/\tn 0 s2.heap/\(∀b∈fp,wc X ag H' b)/\R J H'
def PI(X:Cx)(tg iter:aq)(wi:TI):Prop :=
  ∀(ag:List (ae×Obj)) (s:aw) (σ:St) (H:Hp) (R:It->Hp->Prop),Inv X ag σ H s->wi σ H R ->
    wpAny (model X.prog X.w) X.A (eval iter X.env) (fun v s1=>wpAny (model X.prog X.w) X.A (pyIter v) (PIE X ag σ tg R) X.xe s1) X.xe s
theorem IV{M:Model}{A:bY}{E:cS}{s:aw}{tg:aq}{it:ae}{u:aj}{o:Obj}{n:String}{vs:Array aj}{Q:Unit->aw->Prop}(ho:s.heap.get? it=some o)(hc:o.cls=.type n)(hd:o.data=.fields vs)
    (hn:["enumerate","zip","dict_itemiterator","dict_reverseitemiterator","odict_iterator","itertools.zip_longest","itertools.pairwise"].contains n=false) (hQ:Q () s):wpAny M A (letOwnedTupleGo tg (.ref it) u) Q E s:=by
  unfold letOwnedTupleGo;cases tg<;>first
    | exact aK hQ
    | (cases u<;>first
        | exact aK hQ
        | (refine av (wpAny_load ho ?_)
           rw[hc,hd];show wpAny M A (if(["enumerate","zip","dict_itemiterator","dict_reverseitemiterator","odict_iterator","itertools.zip_longest","itertools.pairwise"].contains n&&vs[0]?==some (rawInt _))=true then _ else _) Q E s
           rw[if_neg (by intro h;rw[hn,Bool.false_and]at h;cases h)]
           exact aK hQ))
def Uz(K:ak)(a:ae):It :=
  ⟨fun i H=>∃xs x,lu K H a xs/\xs[i]?=some x,fun i H x H'=>H'=H/\∀xs,lu K H a xs->xs[i]?=some x,fun i H=>∃xs,lu K H a xs/\xs.length<=i⟩
def Itt(K:ak)(a:ae):It :=
  ⟨fun i H=>∃xs x,jm K H a xs/\xs[i]?=some x,fun i H x H'=>H'=H/\∀xs,jm K H a xs->xs[i]?=some x,fun i H=>∃xs,jm K H a xs/\xs.length<=i⟩
def YB(lo:Int)(n:Nat):It:=⟨fun i _=>i<n,fun i H x H'=>H'=H/\x=.int (lo+i),fun i _=>n<=i⟩
theorem FP{P:bJ}{w:aW}{K:ak}{tg:aq}(a it:ae):Turn P w K tg (Uz K a) [it] it (fun i h=>h.IsListIter it a i) where
  mem:=by simp
  obj:=fun i h st b hb=>by
    have e:b=it:=by simpa using hb
    subst e;obtain⟨o,e,c,d⟩:=st;exact⟨o,e,fun v z=>by rw[d]at z;cases z⟩
  keep:=fun i h h' st k=>st.at fun o e=>k it (by simp) o e
  item:=by
    intro X hP hw hK hc i ag s σ H E I hf st hg;subst hP hw hK;obtain⟨xs,x,hq,hx⟩:=hg;obtain⟨aY,rv,p,hz⟩:=I.list hq;obtain⟨u,hu,ru⟩:=rv.get hx;obtain⟨f0,f1,f2,f3,f4,f5⟩:=hf it (by simp)
    refine wpAny_pyNext_list_item st p.isList (x:=u) (by simpa using hu) fun h' yp sb=>?_
    have I1:Inv X ag σ H {s with heap:=h'}:=I.turned (t':=s.toks) (fun b o hb e=>(sb.2 b hb).trans e) f0 f1 f3 f4 f5
    obtain⟨o,e,c,d⟩:=id yp;exact⟨u,rfl,IV (s:={s with heap:=h'}) e c d (by decide) ⟨x,H,I1,ru,⟨rfl,fun ys hy=>by rw[I.ro hy hq];exact hx⟩,yp,fun b hb=>(hf b hb).1⟩⟩
  done:=by
    intro X hP hw hK hc i ag s σ H E I hf st hg;subst hP hw hK;obtain⟨xs,hq,hx⟩:=hg;obtain⟨aY,rv,p,hz⟩:=I.list hq;obtain⟨f0,f1,f2,f3,f4,f5⟩:=hf it (by simp)
    have hl:=rv.length;exact wpAny_pyNext_list_end (I.ok.hd hc) st p.isList (by simp;lia) fun h' eb=>⟨rfl,I.turned (t':=s.toks) (fun b o hb e=>eb b o hb e) f0 f1 f3 f4 f5⟩
  self:=fun _ _ _ _ _ st h=>wpAny_pyIter_listiter st h
theorem B8{P:bJ}{w:aW}{K:ak}{tg:aq}(a it:ae):Turn P w K tg (Itt K a) [it] it (fun i h=>h.IsTupleIter it a i) where
  mem:=by simp
  obj:=fun i h st b hb=>by
    have e:b=it:=by simpa using hb
    subst e;obtain⟨o,e,c,d⟩:=st;exact⟨o,e,fun v z=>by rw[d]at z;cases z⟩
  keep:=fun i h h' st k=>st.at fun o e=>k it (by simp) o e
  item:=by
    intro X hP hw hK hc i ag s σ H E I hf st hg;subst hP hw hK;obtain⟨xs,x,hq,hx⟩:=hg;obtain⟨aY,rv,p,hz⟩:=I.tuple hq;obtain⟨u,hu,ru⟩:=rv.get hx;obtain⟨f0,f1,f2,f3,f4,f5⟩:=hf it (by simp)
    refine wpAny_pyNext_tuple_item st (show s.heap.IsTuple a aY.toArray from p) (x:=u) (by simpa using hu) fun h' yp sb=>?_
    have I1:Inv X ag σ H {s with heap:=h'}:=I.turned (t':=s.toks) (fun b o hb e=>(sb.2 b hb).trans e) f0 f1 f3 f4 f5
    obtain⟨o,e,c,d⟩:=id yp;exact⟨u,rfl,IV (s:={s with heap:=h'}) e c d (by decide) ⟨x,H,I1,ru,⟨rfl,fun ys hy=>by rw[I.oE hy hq];exact hx⟩,yp,fun b hb=>(hf b hb).1⟩⟩
  done:=by
    intro X hP hw hK hc i ag s σ H E I hf st hg;subst hP hw hK;obtain⟨xs,hq,hx⟩:=hg;obtain⟨aY,rv,p,hz⟩:=I.tuple hq;obtain⟨f0,f1,f2,f3,f4,f5⟩:=hf it (by simp)
    have hl:=rv.length;exact wpAny_pyNext_tuple_end (I.ok.hd hc) st (show s.heap.IsTuple a aY.toArray from p) (by simp;lia) fun h' eb=>⟨rfl,I.turned (t':=s.toks) (fun b o hb e=>eb b o hb e) f0 f1 f3 f4 f5⟩
  self:=fun _ _ _ _ _ st h=>wpAny_pyIter_tupleiter st h
theorem B9{P:bJ}{w:aW}{K:ak}{tg:aq}(it:ae)(lo:Int)(n:Nat):Turn P w K tg (YB lo n) [it] it (fun i h=>IsRangeIter h it (lo+(i:Nat)*1) ((n:Int)-(i:Nat)) 1) where
  mem:=by simp
  obj:=fun i h st b hb=>by
    have e:b=it:=by simpa using hb
    subst e;exact⟨_,st,fun v z=>by
      have z':Data.fields _=Data.cell v:=z;cases z'⟩
  keep:=fun i h h' st k=>k it (by simp) _ st
  item:=by
    intro X hP hw hK hc i ag s σ H E I hf st hg;subst hP hw hK;obtain⟨f0,f1,f2,f3,f4,f5⟩:=hf it (by simp)
    have W:=Walks.range (prog:=X.prog) (w:=X.w) (I.ok.hd hc) it lo 1 n;refine W.item i s _ _ hg st fun v h' tk hv yp kk=>?_
    obtain⟨t,rfl⟩:=hv;have I1:Inv X ag σ H {s with heap:=h',toks:=tk}:=I.turned (fun b o hb e=>kk b o (by simpa using hb) e) f0 f1 f3 f4 f5
    refine⟨_,rfl,IV (s:={s with heap:=h',toks:=tk}) (n:="range_iterator") yp rfl rfl (by decide) ⟨.int (lo+i),H,I1,⟨t,?_⟩,⟨rfl,rfl⟩,yp,fun b hb=>(hf b hb).1⟩⟩
    rw[Int.mul_one]
  done:=by
    intro X hP hw hK hc i ag s σ H E I hf st hg;subst hP hw hK;obtain⟨f0,f1,f2,f3,f4,f5⟩:=hf it (by simp)
    exact wpAny_pyNext_range_end (I.ok.hd hc) st (by have:n<=i:=hg;lia) fun h' eb=>⟨rfl,I.turned (t':=s.toks) (fun b o hb e=>eb b o hb e) f0 f1 f3 f4 f5⟩
  self:=fun _ _ _ _ _ st h=>wpAny_pyIter_rangeiter st h
section
variable {X:Cx} {tg:aq}
def Vr(K:ak)(tl:TE):TI:=fun σ H R=>tl σ H fun x H1=>∃a,x=.ref a/\(∃xs,lu K H1 a xs)/\R (Uz K a) H1
def aaG(K:ak)(tl:TE):TI:=fun σ H R=>tl σ H fun x H1=>∃a,x=.ref a/\(∃xs,jm K H1 a xs)/\R (Itt K a) H1
theorem D9{l:aq}{tl:TE}(hl:PE X l tl):PI X tg l (Vr X.K tl):=by
  intro ag s σ H R I h;refine thn (hl ag s σ H _ I h) fun v s1 ⟨x,H1,I1,r1,q1⟩=>?_
  obtain⟨a,e,⟨xs,hq⟩,q⟩:=q1;subst e;cases r1;obtain⟨aY,rv,p,hz⟩:=I1.list hq;refine BF p.isList ?_;refine⟨s1.heap.objs.size,[s1.heap.objs.size],_,_,H1,rfl,I1.kept (t':=s1.toks) fun b o e=>cx _ e,FP a _,⟨_,dZ _ rfl,rfl,rfl⟩,fun b hb=>?_,q⟩
  have e:b=s1.heap.objs.size:=by simpa using hb
  subst e;exact I1.IU (bh _) (I1.hok.fresh (bh _))
theorem Ry{l:aq}{tl:TE}(hl:PE X l tl):PI X tg l (aaG X.K tl):=by
  intro ag s σ H R I h;refine thn (hl ag s σ H _ I h) fun v s1 ⟨x,H1,I1,r1,q1⟩=>?_
  obtain⟨a,e,⟨xs,hq⟩,q⟩:=q1;subst e;cases r1;obtain⟨aY,rv,p,hz⟩:=I1.tuple hq;refine wpAny_pyIter_tuple (show s1.heap.IsTuple a aY.toArray from p) ?_
  refine⟨s1.heap.objs.size,[s1.heap.objs.size],_,_,H1,rfl,I1.kept (t':=s1.toks) fun b o e=>cx _ e,B8 a _,⟨_,dZ _ rfl,rfl,rfl⟩,fun b hb=>?_,q⟩
  have e:b=s1.heap.objs.size:=by simpa using hb
  subst e;exact I1.IU (bh _) (I1.hok.fresh (bh _))
theorem IW{ag:List (ae×Obj)}{σ:St}{H:Hp}{s:aw}{R:It->Hp->Prop}{E:cS}{lo hi:Int}{t u v:Tok}{tk:Nat}(I:Inv X ag σ H s)(h1:-(2^62)<=lo)(h2:lo<2^62)(h3:-(2^62)<=hi)(h4:hi<2^62)
    (q:R (YB lo (hi-lo).toNat) H):wpAny (model X.prog X.w) X.A (pyIter (.ref s.heap.objs.size)) (PIE X ag σ tg R) E {s with heap:=s.heap.push {cls:=.type "range",data:=.fields #[.int lo t,.int hi u,.int 1 v]},toks:=tk}:=by
  refine wpAny_pyIter_range (vZ ..) (small_one h1 h2 h3 h4) ?_;have I1:Inv X ag σ H {s with heap:=s.heap.push {cls:=.type "range",data:=.fields #[.int lo t,.int hi u,.int 1 v]},toks:=tk}:=I.kept fun b o e=>cx _ e
  refine⟨(s.heap.push {cls:=.type "range",data:=.fields #[.int lo t,.int hi u,.int 1 v]}).objs.size,[(s.heap.push {cls:=.type "range",data:=.fields #[.int lo t,.int hi u,.int 1 v]}).objs.size],_,_,H,rfl,
    I1.kept (t':=tk) fun b o e=>cx _ e,B9 _ lo (hi-lo).toNat,?_,fun b hb=>?_,q⟩
  · have e1:lo+((0:Nat):Int)*1=lo:=by simp
    have e2:(((hi-lo).toNat:Nat):Int)-((0:Nat):Int)=Builtin.Range.rangeSize lo hi 1:=by rw[rangeSize_one];split<;>lia
    show IsRangeIter _ _ (lo+((0:Nat):Int)*1) ((((hi-lo).toNat:Nat):Int)-((0:Nat):Int)) 1;rw[e1,e2];exact dZ _ rfl
  · have e:b=(s.heap.push {cls:=.type "range",data:=.fields #[.int lo t,.int hi u,.int 1 v]}).objs.size:=by simpa using hb
    subst e;exact I1.IU (bh _) (I1.hok.fresh (bh _))
def Vs(ta:TA):TI:=fun σ H R=>ta σ H fun vs H1=>∃j:Int,vs=[.int j] /\ -(2^62)<=j/\j<2^62/\R (YB 0 j.toNat) H1
theorem FQ{a:aq}{ta:TA}{p pos:Pos}(hg:Gl X "range")(hm:X.mg "range"=none)(ha:PA X [a] ta)(hs:starEach [a] X.env=[(false,eval a X.env)]:=by rfl):PI X tg (.Call (.Name "range" p) [a] [] pos) (Vs ta):=by
  intro ag s σ H R I h;refine Call_ (ld_blt I hg hm boot_range (oe (thn (ha pos ag s σ H _ I h) fun us s1 ⟨vs,H1,I1,r1,q1⟩=>?_) hs rfl))
  obtain⟨j,e,q1,q2,q⟩:=q1;subst e;cases r1 with
  | cons r rr =>
    cases rr;obtain⟨t,rfl⟩:=r;exact call_range_1 (IW I1 (by lia) (by lia) q1 q2 (by simpa using q))
def Rz(wi:TI)(g:TG)(tb:TS):TS:=fun D σ H=>wi σ H fun J H1=>∃W:Nat->Nat->St->Hp->Prop,(∃m,W 0 m σ H1)/\∀i m σ H,W i m σ H ->
  (J.stop i H/\D.nx σ H)\/(J.go i H/\∃N:St->Hp->Prop,(∀cn H',N cn H'->∃m',m'<m/\W (i+1) m' cn H')/\∀x H',J.yld i H x H'->g x σ H' fun uM H2=>tb {D with nx:=N,ct:=N,bk:=D.nx} uM H2)
def rA(fp:List ae)(h:Heap):List (ae×Obj):=fp.filterMap fun b=>(h.get? b).map fun o=>(b,o)
theorem jM{fp:List ae}{h:Heap}{b:ae}{o:Obj}(hb:b∈fp)(e:h.get? b=some o):(b,o)∈rA fp h:=vO.mpr ⟨b,hb,by rw[e];rfl⟩
theorem FU{fp:List ae}{h:Heap}{p:ae×Obj}(hp:p∈rA fp h):p.1∈fp/\h.get? p.1=some p.2:=by
  obtain⟨b,hb,e⟩:=vO.mp hp;cases q:h.get? b with
  | none=>rw[q]at e;cases e
  | some o =>
    rw[q]at e;have e':(b,o)=p:=bD e;subst e';exact⟨hb,q⟩
theorem Inv.pinned{ag:List (ae×Obj)}{σ:St}{H:Hp}{s:aw}{fp:List ae}(I:Inv X ag σ H s)(hf:∀b∈fp,wc X ag H b)(ho:∀b∈fp,∃o,s.heap.get? b=some o/\∀v,o.data≠.cell v):Inv X (ag++rA fp s.heap) σ H s :=
  I.mY fun p hp=>(cR.mp hp).elim (fun z=>I.pin p (dC _ z)) fun z=>by
    obtain⟨hb,e⟩:=FU z;obtain⟨f0,f1,f2,_⟩:=hf p.1 hb;obtain⟨o,e',d⟩:=ho p.1 hb;rw[e]at e';cases e';exact⟨e,f0,f1,f2,d⟩
theorem Inv.rB{ag pl:List (ae×Obj)}{σ:St}{H:Hp}{s:aw}(I:Inv X (ag++pl) σ H s):Inv X ag σ H s:=I.mY fun p hp=>I.pin p (dC _ (ir _ hp))
theorem ps_for{iter:aq}{body:List aE}{wi:TI}{g:TG}{tb:TS}{pos:Pos}(hp:PassesOwn (model X.prog X.w) X.A X.env X.xe)(hc:X.calm=true)(hi:PI X tg iter wi)(hg:PG X tg g)(hb:oD X body tb)
    (hs:∀x,foldedSetIterable iter X.env x=pure x:=by intro _;rfl):PS X (.For tg iter body [] pos) (Rz wi g tb):=by
  intro ag s σ H D I h;refine wpAny_For (thn (hi ag s σ H _ I h) fun v s1 h1=>thn h1 fun itv s2 h2=>?_) hs
  obtain⟨it,fp,tn,J,H2,e,I2,T,Ea,f2,W,⟨m0,w0⟩,tW⟩:=h2;subst e;have Cb:∀{H':Hp},(∀b∈fp,H' b=none)->∀b∈fp,wc X ag H' b:=fun hn b hb=>⟨hn b hb,(f2 b hb).2⟩
  refine codeAny_forLoop_any (fun n s'=>∃i cn H',Inv X ag cn H' s'/\tn i s'.heap/\(∀b∈fp,H' b=none)/\W i n cn H') ?_ m0 ⟨0,σ,H2,I2,Ea,fun b hb=>(f2 b hb).1,w0⟩
  rintro n s3 ⟨i,lx,H3,I3,Vt,fr3,w3⟩
  rcases tW i n lx H3 w3 with⟨stop,qn⟩ | ⟨go,N,hN,step⟩
  · refine l8 hp (thn (T.done X rfl rfl rfl hc i ag s3 lx H3 X.xe I3 (Cb fr3) Vt stop) fun r s4 ⟨hr,I4⟩=>?_)
    subst hr;exact vU ⟨lx,H3,I4,qn⟩
  · refine l8 hp (thn (T.item X rfl rfl rfl hc i ag s3 lx H3 X.xe I3 (Cb fr3) Vt go) fun r s4 ⟨u,hr,h4⟩=>?_)
    subst hr;refine l8 hp (thn h4 fun _ s5 ⟨x,H5,I5,r5,y5,RA,fr5⟩=>?_)
    have I5':=I5.pinned (Cb fr5) (T.obj _ _ RA);refine l8 hp (thn (hg _ s5 lx H5 x u _ I5' r5 (step x H5 y5)) fun _ s6 ⟨YC,H6,I6,q6⟩=>?_)
    refine l8 hp (thn (hb _ s6 YC H6 _ I6 q6) fun f s7 q7=>?_)
    have again:∀{IX:St} {H7:Hp},Inv X (ag++rA fp s5.heap) IX H7 s7->N IX H7->∃m,m<n/\∃i cn H',Inv X ag cn H' s7/\tn i s7.heap/\(∀b∈fp,H' b=none)/\W i m cn H':=fun {IX H7} I7 n7=>by
      obtain⟨m',hm,w7⟩:=hN IX H7 n7;refine⟨m',hm,i+1,IX,H7,I7.rB,T.keep _ _ _ RA fun b hb o e=>(I7.pin (b,o) (dC _ (dC _ (jM hb e)))).1,fun b hb=>?_,w7⟩
      obtain⟨o,e,d⟩:=T.obj _ _ RA b hb;exact(I7.pin (b,o) (dC _ (dC _ (jM hb e)))).2.1
    cases f with
    | next=>obtain⟨IX,H7,I7,n7⟩:=q7;exact again I7 n7
    | cont=>obtain⟨IX,H7,I7,n7⟩:=q7;exact again I7 n7
    | brk=>obtain⟨IX,H7,I7,q7⟩:=q7;exact⟨IX,H7,I7.rB,q7⟩
    | ret v=>obtain⟨x7,IX,H7,I7,r7,q7⟩:=q7;exact⟨x7,IX,H7,I7.rB,r7,q7⟩
end
theorem IY{K:ak}{a:ae}{xs:List V}{g:TG}{tb:TS}{D:j2}{σ:St}{H:Hp}(Pv:Nat->St->Hp->Prop)(h0:Pv 0 σ H)(hl:∀i σ H,i<=xs.length->Pv i σ H->lu K H a xs)
    (hs:∀i x σ H,xs[i]?=some x->Pv i σ H->g x σ H fun uM H2=>tb {D with nx:=Pv (i+1),ct:=Pv (i+1),bk:=D.nx} uM H2) (hd:∀σ H,Pv xs.length σ H->D.nx σ H) :
    ∃W:Nat->Nat->St->Hp->Prop,(∃m,W 0 m σ H)/\∀i m σ H,W i m σ H ->
      ((Uz K a).stop i H/\D.nx σ H)\/((Uz K a).go i H/\∃N:St->Hp->Prop,(∀cn H',N cn H'->∃m',m'<m/\W (i+1) m' cn H')/\∀x H',(Uz K a).yld i H x H'->g x σ H' fun uM H2=>tb {D with nx:=N,ct:=N,bk:=D.nx} uM H2):=by
  refine⟨fun i m σ H=>m=xs.length-i/\i<=xs.length/\Pv i σ H,⟨xs.length,by simp,gn _,h0⟩,?_⟩
  rintro i m σ H ⟨rfl,hi,p⟩
  have q:=hl i σ H hi p;by_cases eM:i<xs.length
  · refine .inr ⟨⟨xs,xs[i],q,by simp[eM]⟩,Pv (i+1),fun cn H' p'=>⟨xs.length-(i+1),by lia,rfl,eM,p'⟩,fun x H' y=>?_⟩
    obtain⟨e,y⟩:=y;subst e;exact hs i x σ _ (y xs q) p
  · have e:i=xs.length:=by lia
    subst e;exact .inl ⟨⟨xs,q,bh _⟩,hd σ H p⟩
abbrev R2:=V->V->Hp->VK->Prop
def OpR(X:Cx)(f:aj->aj->Sem aj)(r:R2):Prop :=
  ∀(ag:List (ae×Obj)) (s:aw) (σ:St) (H:Hp) (x y:V) (v u:aj) (Q:VK),Inv X ag σ H s->RelV x v->RelV y u->r x y H Q ->
    wpAny (model X.prog X.w) X.A (f v u) (EP X ag σ Q) X.xe s
def UnR(X:Cx)(f:aj->Sem aj)(r:V->Hp->VK->Prop):Prop :=
  ∀(ag:List (ae×Obj)) (s:aw) (σ:St) (H:Hp) (x:V) (v:aj) (Q:VK),Inv X ag σ H s->RelV x v->r x H Q ->
    wpAny (model X.prog X.w) X.A (f v) (EP X ag σ Q) X.xe s
def lI(X:Cx)(f:aj)(r:List V->Hp->VK->Prop):Prop :=
  ∀(ag:List (ae×Obj)) (s:aw) (σ:St) (H:Hp) (xs:List V) (us:cb) (Q:VK),Inv X ag σ H s->Vals xs us->r xs H Q ->
    wpAny (model X.prog X.w) X.A (call f us) (EP X ag σ Q) X.xe s
def aaJ(X:Cx)(r:V->Hp->(Bool->Hp->Prop)->Prop):Prop :=
  ∀(ag:List (ae×Obj)) (s:aw) (σ:St) (H:Hp) (x:V) (v:aj) (Q:Bool->Hp->Prop),Inv X ag σ H s->RelV x v->r x H Q ->
    wpAny (model X.prog X.w) X.A (truthy v) (TP X ag σ Q) X.xe s
def UA(r:R2)(ta tb:TE):TE:=fun σ H Q=>ta σ H fun x H1=>tb σ H1 fun y H2=>r x y H2 Q
def tUn(r:V->Hp->VK->Prop)(ta:TE):TE:=fun σ H Q=>ta σ H fun x H1=>r x H1 Q
def rI(C:Int->Int->Prop)(g:Int->Int->V):R2:=fun x y H Q=>∃i j,x=.int i/\y=.int j/\C i j/\Q (g i j) H
def Cc(g:Int->Int->V):R2:=fun x y H Q=>∃i j,x=.int i/\y=.int j/\Q (g i j) H
def rU(g:Int->V):V->Hp->VK->Prop:=fun x H Q=>∃i,x=.int i/\Q (g i) H
section
variable {X:Cx} {a b c:aq} {ta tb tc:TE} {pos:Pos}
theorem RB(ha:PE X a ta)(hb:PE X b tb){ag:List (ae×Obj)}{s:aw}{σ:St}{H:Hp}{R:V->V->Hp->Prop}(I:Inv X ag σ H s)
    (h:ta σ H fun x H1=>tb σ H1 fun y H2=>R x y H2) {Q:cS} {f:aj->aj->Sem aj}
    (hf:∀v u s2 x y H2,Inv X ag σ H2 s2->RelV x v->RelV y u->R x y H2->wpAny (model X.prog X.w) X.A (f v u) Q X.xe s2) :
    wpAny (model X.prog X.w) X.A (eval a X.env) (fun v s₁=>wpAny (model X.prog X.w) X.A (eval b X.env) (fun u FN=>wpAny (model X.prog X.w) X.A (f v u) Q X.xe FN) X.xe s₁) X.xe s:=by
  refine thn (ha ag s σ H _ I h) fun v s1 ⟨x,H1,I1,r1,q1⟩=>?_
  refine thn (hb ag s1 σ H1 _ I1 q1) fun u s2 ⟨y,H2,I2,r2,q2⟩=>?_
  exact hf v u s2 x y H2 I2 r1 r2 q2
theorem PY{op:Operator}{r:R2}(ho:OpR X (binaryOp op) r)(ha:PE X a ta)(hb:PE X b tb):PE X (.BinOp a op b pos) (UA r ta tb):=by
  intro ag s σ H Q I h;exact wpAny_BinOp (RB ha hb I h fun v u s2 x y H2 I2 rx ry q=>ho ag s2 σ H2 x y v u Q I2 rx ry q)
theorem PZ{op:UnaryOp}{r:V->Hp->VK->Prop}(ho:UnR X (unaryOp op) r)(ha:PE X a ta):PE X (.UnaryOp op a pos) (tUn r ta):=by
  intro ag s σ H Q I h;exact UnaryOp_ (thn (ha ag s σ H _ I h) fun v s1 ⟨x,H1,I1,r1,q1⟩=>ho ag s1 σ H1 x v Q I1 r1 q1)
theorem YD{f:aj->aj->Sem aj}{C:Int->Int->Prop}{g:Int->Int->Int}
    (rule:∀(i j:Int) (t u:Tok) (s:aw) (Q:cS) (E:cS),C i j->Q (.int (g i j) s.toks) {s with toks:=s.toks+1}->wpAny (model X.prog X.w) X.A (f (.int i t) (.int j u)) Q E s) :
    OpR X f (rI C fun i j=>.int (g i j)):=by
  intro ag s σ H x y v u Q I rx ry h;obtain⟨i,j,rfl,rfl,hc,q⟩:=h;obtain⟨t,rfl⟩:=rx;obtain⟨t',rfl⟩:=ry;exact rule i j t t' s _ _ hc ⟨.int (g i j),H,I.tok _,⟨_,rfl⟩,q⟩
theorem ME{f:aj->aj->Sem aj}{g:Int->Int->Int}
    (rule:∀(i j:Int) (t u:Tok) (s:aw) (Q:cS) (E:cS),Q (.int (g i j) s.toks) {s with toks:=s.toks+1}->wpAny (model X.prog X.w) X.A (f (.int i t) (.int j u)) Q E s) :
    OpR X f (Cc fun i j=>.int (g i j)):=by
  intro ag s σ H x y v u Q I rx ry h;obtain⟨i,j,rfl,rfl,q⟩:=h;obtain⟨t,rfl⟩:=rx;obtain⟨t',rfl⟩:=ry;exact rule i j t t' s _ _ ⟨.int (g i j),H,I.tok _,⟨_,rfl⟩,q⟩
theorem MF{f:aj->aj->Sem aj}{g:Int->Int->Bool}
    (rule:∀(i j:Int) (t u:Tok) (s:aw) (Q:cS) (E:cS),Q (.bool (g i j)) s->wpAny (model X.prog X.w) X.A (f (.int i t) (.int j u)) Q E s) :
    OpR X f (Cc fun i j=>.bl (g i j)):=by
  intro ag s σ H x y v u Q I rx ry h;obtain⟨i,j,rfl,rfl,q⟩:=h;obtain⟨t,rfl⟩:=rx;obtain⟨t',rfl⟩:=ry;exact rule i j t t' s _ _ ⟨.bl (g i j),H,I,rfl,q⟩
def aaK(i j:Int):Prop:=0<j/\j<1073741824
def aaL(i j:Int):Prop:=0<=j/\j<=1000000/\i.natAbs<2^64
def RC(i j:Int):Prop:=(-(2^64)<i/\i<2^64)\/(-(2^64)<j/\j<2^64)
theorem RC.ok{i j:Int}(h:RC i j):IntMulOk i j:=by
  rcases h with⟨h1,h2⟩ | ⟨h1,h2⟩
  · exact .of_left (intBits_le_64 h1 h2)
  · exact .of_right (intBits_le_64 h1 h2)
theorem RD:OpR X (binaryOp .Add) (Cc fun i j=>.int (i+j)):=ME fun _ _ _ _ _ _ _ q=>add_int q
theorem RE:OpR X (binaryOp .Sub) (Cc fun i j=>.int (i-j)):=ME fun _ _ _ _ _ _ _ q=>sub_int q
theorem RF:OpR X (binaryOp .Mult) (rI RC fun i j=>.int (i*j)):=YD fun _ _ _ _ _ _ _ hc q=>mul_int q hc.ok
theorem MG:OpR X (binaryOp .FloorDiv) (rI aaK fun i j=>.int (i/j)):=YD fun i j _ _ _ _ _ hc q=>by
  have h1:(0:Int)<j:=hc.1;have h2:j<1073741824:=hc.2;exact floordiv_int (by lia) (by rw[Int.fdiv_eq_ediv_of_nonneg i (by lia)];exact q) (.inl (PyProof.noPylong_small (by lia)))
theorem RG:OpR X (binaryOp .Mod) (rI (fun _ j=>0<j) fun i j=>.int (i%j)):=YD fun i j _ _ _ _ _ hc q=>by
  have h1:(0:Int)<j:=hc;exact mod_int' (by lia) (by rw[Int.fmod_eq_emod_of_nonneg i (by lia)];exact q)
theorem RH:OpR X (binaryOp .Pow) (rI aaL fun i j=>.int (i^j.toNat)):=YD fun _ _ _ _ _ _ _ hc q=>pow_int_small hc.1 hc.2.1 hc.2.2 q
theorem iop_add:OpR X (inplaceOp .Add) (Cc fun i j=>.int (i+j)):=ME fun _ _ _ _ _ _ _ q=>iadd_int q
theorem MH:OpR X (inplaceOp .Sub) (Cc fun i j=>.int (i-j)):=ME fun _ _ _ _ _ _ _ q=>isub_int q
theorem unI{f:aj->Sem aj}{g:Int->Int}
    (rule:∀(i:Int) (t:Tok) (s:aw) (Q:cS) (E:cS),Q (.int (g i) s.toks) {s with toks:=s.toks+1}->wpAny (model X.prog X.w) X.A (f (.int i t)) Q E s) :
    UnR X f (rU fun i=>.int (g i)):=by
  intro ag s σ H x v Q I rx h;obtain⟨i,rfl,q⟩:=h;obtain⟨t,rfl⟩:=rx;exact rule i t s _ _ ⟨.int (g i),H,I.tok _,⟨_,rfl⟩,q⟩
theorem IZ:UnR X (unaryOp .USub) (rU fun i=>.int (-i)):=unI fun _ _ _ _ _ q=>neg_int q
end
section
variable {X:Cx} {a b c:aq} {ta tb tc:TE} {pos:Pos}
theorem I0{ag:List (ae×Obj)}{σ:St}{H:Hp}{s:aw}{Q:VK}{k k':Bool}(I:Inv X ag σ H s)(q:Q (.bl k) H)(e:k=k'):EP X ag σ Q (.bool k') s:=by
  subst e;exact⟨.bl k,H,I,rfl,q⟩
theorem P5:OpR X (compareOp .Lt) (Cc fun i j=>.bl (decide (i<j))):=MF fun _ _ _ _ _ _ _ q=>lt_int q
theorem Vu:OpR X (compareOp .LtE) (Cc fun i j=>.bl (decide (i<=j))):=MF fun _ _ _ _ _ _ _ q=>le_int q
theorem Vv:OpR X (compareOp .Gt) (Cc fun i j=>.bl (decide (j<i))):=MF fun _ _ _ _ _ _ _ q=>gt_int q
theorem Vw:OpR X (compareOp .GtE) (Cc fun i j=>.bl (decide (j<=i))):=MF fun _ _ _ _ _ _ _ q=>ge_int q
theorem RI:OpR X (compareOp .Is) (fun x y H Q=>y=.cG/\Q (.bl (decide (x=.cG))) H):=by
  intro ag s σ H x y v u Q I rx ry h;obtain⟨rfl,q⟩:=h;cases ry;refine is_none_gen (I0 I q ?_);cases x<;>first
    | (cases rx;rfl)
    | (obtain⟨t,rfl⟩:=rx;rfl)
theorem MI:OpR X (compareOp .IsNot) (fun x y H Q=>y=.cG/\Q (.bl (!decide (x=.cG))) H):=by
  intro ag s σ H x y v u Q I rx ry h;obtain⟨rfl,q⟩:=h;cases ry;refine isnot_none_gen (I0 I q ?_);cases x<;>first
    | (cases rx;rfl)
    | (obtain⟨t,rfl⟩:=rx;rfl)
theorem MJ{op:CmpOp}{r:R2}(ho:OpR X (compareOp op) r)(ha:PE X a ta)(hb:PE X b tb)(hm:behindInMarks op b=false):PE X (.Compare a [op] [b] pos) (UA r ta tb):=by
  intro ag s σ H Q I h;exact wpAny_Compare1 (RB ha hb I h fun v u s2 x y H2 I2 rx ry q=>ho ag s2 σ H2 x y v u Q I2 rx ry q) hm
def P6(t:TE):TT:=fun σ H Q=>t σ H fun x H'=>∃k,x=.bl k/\Q k H'
theorem we{op:CmpOp}{r:R2}(ho:OpR X (compareOp op) r)(ha:PE X a ta)(hb:PE X b tb)(hm:behindInMarks op b=false):PT X (.Compare a [op] [b] pos) (P6 (UA r ta tb)):=by
  intro ag s σ H Q I h;refine wpAny_isTrue_Compare1 (thn (ha ag s σ H _ I h) fun v s1 ⟨x,H1,I1,r1,q1⟩=>thn (hb ag s1 σ H1 _ I1 q1) fun u s2 ⟨y,H2,I2,r2,q2⟩ =>
    thn (ho ag s2 σ H2 x y v u _ I2 r1 r2 q2) fun c s3 ⟨z,H3,I3,r3,k,e,q3⟩=>?_) hm
  subst e;cases r3;exact jK ⟨H3,I3,q3⟩
def Ja(r r':R2)(ta tb tc:TE):TE:=fun σ H Q=>ta σ H fun x H1=>tb σ H1 fun y H2=>r x y H2 fun z H3=>∃k,z=.bl k /\
  (if k=true then tc σ H3 fun w' H4=>r' y w' H4 Q else Q (.bl false) H3)
theorem Jb{op wj:CmpOp}{r r':R2}(ho:OpR X (compareOp op) r)(yR:OpR X (compareOp wj) r')(ha:PE X a ta)(hb:PE X b tb)(hc:PE X c tc)
    (hm:lastMarks [op,wj] [b,c]=false:=by with_unfolding_all rfl):PE X (.Compare a [op,wj] [b,c] pos) (Ja r r' ta tb tc):=by
  intro ag s σ H Q I h;refine Compare_chain (thn (ha ag s σ H _ I h) fun v s1 ⟨x,H1,I1,r1,q1⟩=>chain_link (thn (hb ag s1 σ H1 _ I1 q1) fun u s2 ⟨y,H2,I2,r2,q2⟩ =>
    thn (ho ag s2 σ H2 x y v u _ I2 r1 r2 q2) fun d s3 ⟨z,H3,I3,r3,k,e,q3⟩=>?_)) hm
  subst e;cases r3;refine jK ?_;cases k with
  | false=>exact ite_ff ⟨.bl false,H3,I3,rfl,q3⟩
  | true=>exact ite_tt (chain_last (thn (hc ag s3 σ H3 _ I3 q3) fun w' s4 ⟨z',H4,I4,r4,q4⟩=>yR ag s4 σ H4 y z' u w' Q I4 r2 r4 q4))
theorem Jc{op wj:CmpOp}{r r':R2}(ho:OpR X (compareOp op) r)(yR:OpR X (compareOp wj) r')(ha:PE X a ta)(hb:PE X b tb)(hc:PE X c tc)
    (hm:lastMarks [op,wj] [b,c]=false:=by with_unfolding_all rfl):PT X (.Compare a [op,wj] [b,c] pos) (P6 (Ja r r' ta tb tc)):=by
  intro ag s σ H Q I h;refine isTrue_chain (thn (ha ag s σ H _ I h) fun v s1 ⟨x,H1,I1,r1,q1⟩=>test_link (thn (hb ag s1 σ H1 _ I1 q1) fun u s2 ⟨y,H2,I2,r2,q2⟩ =>
    thn (ho ag s2 σ H2 x y v u _ I2 r1 r2 q2) fun d s3 ⟨z,H3,I3,r3,k,e,q3⟩=>?_)) hm
  subst e;cases r3;refine jK ?_;cases k with
  | false =>
    obtain⟨k',e',q'⟩:=q3;cases e';exact ite_ff ⟨H3,I3,q'⟩
  | true =>
    refine ite_tt (test_last (thn (hc ag s3 σ H3 _ I3 q3) fun w' s4 ⟨z',H4,I4,r4,q4⟩=>thn (yR ag s4 σ H4 y z' u w' _ I4 r2 r4 q4) fun d' s5 ⟨z2,H5,I5,r5,k2,e2,q5⟩=>?_))
    subst e2;cases r5;exact jK ⟨H5,I5,q5⟩
def Vx(K:ak)(x:V)(H:Hp)(k:Bool):Prop :=
  match x with
  | .cG=>k=false
  | .bl b=>k=b
  | .int i=>k=(i != 0)
  | .str y=>y.length<=sizeLine/\k=((y.length:Int) != 0)
  | .U0 y=>y.size<=sizeLine/\k=((y.size:Int) != 0)
  | .ref p=>(∃xs,lu K H p xs/\k = !xs.isEmpty)\/(∃xs,jm K H p xs/\k = !xs.isEmpty)\/∃kvs,H p=some (.dK kvs)/\k = !kvs.isEmpty
  | _=>False
theorem Cd{κ:Type}{kvs:List (κ×V)}{vs:List (κ×aj)}(r:KV kvs vs):(!vs.isEmpty) = !kvs.isEmpty:=by
  cases r<;>rfl
theorem rD{xs:List V}{aY:cb}(r:Vals xs aY):(!aY.toArray.isEmpty) = !xs.isEmpty:=by
  cases r<;>simp
theorem oF:(sizeLine:Nat)<2^63:=by rw[sizeLine_eq];decide
theorem RJ:aaJ X (fun x H Q=>∃k,Vx X.K x H k/\Q k H):=by
  intro ag s σ H x v Q I rx h;obtain⟨k,e,q⟩:=h;have hl:=oF;have hs:sizeLine=16777216:=sizeLine_eq;cases x with
  | cG =>
    cases rx;have e':k=false:=e;subst e';exact truthy_none ⟨H,I,q⟩
  | bl b =>
    cases rx;have e':k=b:=e;subst e';exact jK ⟨H,I,q⟩
  | int i =>
    obtain⟨t,rfl⟩:=rx;have e':k=(i != 0):=e;subst e';exact PySem.P.truthy_int ⟨H,I,q⟩
  | str y =>
    obtain⟨t,rfl⟩:=rx;obtain⟨hy,e'⟩:y.length<=sizeLine/\k=((y.length:Int) != 0):=e;subst e';exact PySem.P.truthy_str (by lia) ⟨H,I.tok _,q⟩
  | U0 y =>
    obtain⟨t,rfl⟩:=rx;obtain⟨hy,e'⟩:y.size<=sizeLine/\k=((y.size:Int) != 0):=e;subst e';exact W.truthy_bytes (by lia) ⟨H,I.tok _,q⟩
  | ref p =>
    cases rx;have e':(∃xs,lu X.K H p xs/\k = !xs.isEmpty)\/(∃xs,jm X.K H p xs/\k = !xs.isEmpty)\/∃kvs,H p=some (.dK kvs)/\k = !kvs.isEmpty:=e
    rcases e' with⟨xs,hx,e'⟩ | ⟨xs,hx,e'⟩ | ⟨kvs,hx,e'⟩
    · subst e'
      obtain⟨aY,r,pl,hz⟩:=I.list hx;have dm:=r.length;exact wpAny_truthy_list pl.isList (by simp only[bF];lia) ⟨H,I.tok _,by rw[rD r];exact q⟩
    · subst e'
      obtain⟨aY,r,pl,hz⟩:=I.tuple hx;have dm:=r.length;exact truthy_tuple pl (by simp only[bF];lia) ⟨H,I.tok _,by rw[rD r];exact q⟩
    · subst e'
      obtain⟨hz,hS,vs,r,m⟩:kvs.length<=sizeLine/\(p==sysModules)=false/\∃vs,KV kvs vs/\s.heap.DictOf (fJ X.prog X.w) p vs:=I.hok p _ hx
      have dm:kvs.length=vs.length:=vW r;exact wpAny_truthy_dict hS m (by lia) ⟨H,I.tok _,by rw[Cd r];exact q⟩
  | _=>exact(show False from e).elim
theorem Ce:OpR X (binaryOp .Add) (fun x y H Q=>∃i j,x=.str i/\y=.str j/\i.length+j.length<=sizeLine/\Q (.str (i++j)) H):=by
  intro ag s σ H x y v u Q I rx ry h;obtain⟨i,j,rfl,rfl,hz,q⟩:=h;obtain⟨t,rfl⟩:=rx;obtain⟨t',rfl⟩:=ry;exact add_str (fun t' tk=>⟨.str (i++j),H,I.tok _,⟨_,rfl⟩,q⟩) hz
theorem kx{x:V}{us:cb}(r:Vals [x] us):∃u,us=[u]/\RelV x u:=by
  cases r with
  | cons r1 r2=>cases r2;exact⟨_,rfl,r1⟩
theorem Jd{x y:V}{us:cb}(r:Vals [x,y] us):∃u w',us=[u,w']/\RelV x u/\RelV y w':=by
  cases r with
  | cons r1 r2 =>
    cases r2 with
    | cons r3 r4=>cases r4;exact⟨_,_,rfl,r1,r3⟩
theorem uN:lI X (.type "int") (fun xs H Q=>(∃i,xs=[.int i]/\Q (.int i) H)\/∃k,xs=[.bl k]/\Q (.int (if k then 1 else 0)) H):=by
  intro ag s σ H xs us Q I r h;rcases h with⟨i,rfl,q⟩ | ⟨k,rfl,q⟩
  · obtain⟨u,rfl,t,rfl⟩:=kx r
    exact call_int_int ⟨.int i,H,I,⟨_,rfl⟩,q⟩
  · obtain⟨u,rfl,r1⟩:=kx r
    cases r1;exact call_int_bool ⟨.int (if k then 1 else 0),H,I.tok _,⟨_,rfl⟩,q⟩
theorem wm:lI X (.type "str") (fun xs H Q=>∃i,xs=[.int i]/\i.natAbs.log2<1920/\Q (.str (toString i)) H):=by
  intro ag s σ H xs us Q I r h;obtain⟨i,rfl,hz,q⟩:=h;obtain⟨u,rfl,t,rfl⟩:=kx r;exact PySem.P.str_of_int hz ⟨.str _,H,I.tok _,⟨_,rfl⟩,q⟩
end
structure eI (k:Nat) (A:bY):Prop where
  hd:A.handled=none
  dp:A.depth+3*k+5<recursionLimit
  un:A.units+16*k+1200<cLine
theorem eI.mono{j k:Nat}{A:bY}(r:eI k A)(h:j<=k):eI j A:=⟨r.hd,by have:=r.dp;lia,by have:=r.un;lia⟩
theorem eI.deeper{k:Nat}{A:bY}(r:eI (k+1) A)(env:Env):eI k (A.deeper env) :=
  ⟨r.hd,by have:=r.dp;show A.depth+1+3*k+5<_;lia,by have:=r.un;show A.units+3+16*k+1200<_;lia⟩
theorem eI.depth{k:Nat}{A:bY}(r:eI k A):A.depth<recursionLimit:=by have:=r.dp;lia
theorem eI.units{k:Nat}{A:bY}(r:eI k A):A.units+64<cLine:=by have:=r.un;lia
def Vy:TA:=fun _ H Q=>Q [] H
def P7(ta:TE)(tr:TA):TA:=fun σ H Q=>ta σ H fun x H1=>tr σ H1 fun xs H2=>Q (x::xs) H2
section
variable {X:Cx} {e:aq} {es:List aq} {te:TE} {t:TA} {pos:Pos}
theorem iz:PA X [] Vy:=fun _ _ _ _ H Q I h=>Calls.spliced_nil ⟨[],H,I,.nil,h⟩
theorem dF(ha:PE X e te)(hr:PA X es t)(hs:starEach (e::es) X.env=(false,eval e X.env)::starEach es X.env:=by rfl):PA X (e::es) (P7 te t):=by
  intro pos ag s σ H Q I h;rw[hs];show wpAny _ _ (spliced ((false,eval e X.env)::backTo pos (starEach es X.env))) _ _ s;refine Calls.spliced_cons (thn (ha ag s σ H _ I h) fun u s1 ⟨x,H1,I1,r1,q1⟩=>?_)
  exact thn (hr pos ag s1 σ H1 _ I1 q1) fun us s2 ⟨xs,H2,I2,r2,q2⟩=>⟨x::xs,H2,I2,.cons r1 r2,q2⟩
def aaM(t:TA):TE:=fun σ H Q=>t σ H fun xs H1=>xs.length<=sizeLine/\∀p,H1 p=none->Q (.ref p) (dX H1 p (.aB xs))
def aaN(t:TA):TE:=fun σ H Q=>t σ H fun xs H1=>xs.length<=sizeLine/\∀p,H1 p=none->Q (.ref p) (dX H1 p (.au xs))
theorem RK{x1}(h:PA X es t):PE X (.Tuple es x1 pos) (aaM t):=by
  intro ag s σ H Q I hq;refine wpAny_Tuple_spliced (thn (h pos ag s σ H _ I hq) fun us s1 ⟨xs,H1,I1,r,z,q⟩=>⟨by rw[<-r.length];exact z,?_⟩)
  have hf:H1 s1.heap.objs.size=none:=I1.hok.fresh (bh _);refine⟨.ref s1.heap.objs.size,dX H1 s1.heap.objs.size (.aB xs),I1.laid (t':=s1.toks) (fun b u e=>cx _ e) (bh _) ?_,rfl,q _ hf⟩
  exact⟨z,us,r,⟨_,dZ _ rfl,rfl,_,rfl⟩⟩
theorem Je(h:PA X es t):PE X (.List es pos) (aaN t):=by
  intro ag s σ H Q I hq;refine wpAny_List_spliced (thn (h pos ag s σ H _ I hq) fun us s1 ⟨xs,H1,I1,r,z,q⟩=>⟨by rw[<-r.length];exact z,?_⟩)
  have hf:H1 s1.heap.objs.size=none:=I1.hok.fresh (bh _);refine⟨.ref s1.heap.objs.size,dX H1 s1.heap.objs.size (.au xs),I1.laid (t':=s1.toks) (fun b u e=>cx _ e) (bh _) ?_,rfl,q _ hf⟩
  exact⟨z,us,0,r,dZ _ rfl⟩
end
abbrev Sp:=List V->Hp->VK->XK->Prop
abbrev DR:=List Env->Hp->aw->XK->cS
structure Cf (P:bJ) (w:aW) (K:ak) (mg:dM) (base:Heap) (A:bY) (outer:List Env) (s:aw) (H:Hp):Prop where
  frames:A.frames=some outer
  mod:Mod K mg base
  bs:∀b o,base.get? b=some o->s.heap.get? b=some o/\H b=none
  bsz:base.objs.size<=s.heap.objs.size
  funs:s.heap.FunFrames base outer
  frf:∀b∈Bj outer,H b=none
  hok:nZ P w H s.heap
  bare:AllBare s.gens
  tabs:rl K H
def CE(outer:List Env)(P:bJ)(w:aW)(H:Hp)(s:aw)(Q:VK)(u:aj)(s':aw):Prop :=
  ∃v H',s'.os=s.os/\AllBare s'.gens/\Un (Bj outer) [] H H' s.heap s'.heap/\nZ P w H' s'.heap/\RelV v u/\Q v H'
def CR(CX:DR)(outer:List Env)(P:bJ)(w:aW)(H:Hp)(s:aw)(Q:VK)(E:XK)(r:Result)(s':aw):Prop :=
  match r with
  | .ok (.ret u)=>CE outer P w H s Q u s'
  | .ok _=>False
  | .error e=>CX outer H s E e s'
structure FnOk (P:bJ) (w:aW) (K:ak) (mg:dM) (base:Heap) (CX:DR) (k:Nat) (f:ae) (fd:dQ) (ps:List Str) (sp:Sp):Prop where
  len:∀vs H Q E,sp vs H Q E->vs.length=ps.length
  run:∀(A:bY) (outer:List Env) (s:aw) (H:Hp) (args:Args) (us:cb) (vs:List V) (Q:VK) (E:XK),eI k A->Cf P w K mg base A outer s H->BindsTo s fd args (ps.zip us)->Vals vs us->sp vs H Q E ->
    codeAny (model P w) A (.call (.ref f) args) (CR CX outer P w H s Q E) s
section
variable {X:Cx} {ag:List (ae×Obj)} {σ:St} {H:Hp} {s s':aw}
theorem Inv.RL(I:Inv X ag σ H s):Cf X.prog X.w X.K X.mg X.base X.A X.stack s H :=
  ⟨I.ok.frames,I.ok.mod,I.bs,cF I.ok.bsz I.sz,I.stack,I.D3,I.hok,I.bare,I.tabs⟩
theorem Inv.after{Q:VK}{u:aj}(I:Inv X ag σ H s)(h:CE X.stack X.prog X.w H s Q u s'):EP X ag σ Q u s':=by
  obtain⟨v,H',os,bare,un,hok,r,q⟩:=h;obtain⟨hh,g,d,t,Vz⟩:=s';obtain rfl:Vz=s.os:=os;exact⟨v,H',I.call (h':=hh) (g':=g) (d':=d) (t':=t) (ch:=[]) un hok bare (fun b z=>absurd z (by simp)),r,q⟩
end
def Eb(sp:Sp)(Mq:List V)(E:XK)(t:TA):TE:=fun σ H Q=>t σ H fun vs H1=>sp (vs++Mq) H1 Q E
def f9(K:ak)(fd:dQ)(ps:List Str)(ds:cb):Prop :=
  ∀(s:aw) (us:cb),K.In s.heap->(us++ds).length=ps.length->BindsTo s fd ⟨us,[]⟩ (ps.zip (us++ds))
theorem f9.all{K:ak}{fd:dQ}{ps:List Str}(h:∀us:cb,us.length=ps.length->bindArgs fd ⟨us,[]⟩=pure (ps.zip us)):f9 K fd ps []:=fun s us _ hl=>by
  rw[gX]at hl ⊢;exact .of_eq (h us hl)
def Cg(CX:DR)(X:Cx)(E:XK):Prop:=∀(ag:List (ae×Obj)) (σ:St) (H:Hp) (s:aw) (e:aj) (s':aw),Inv X ag σ H s->CX X.stack H s E e s'->X.xe e s'
section
variable {X:Cx} {CX:DR} {k:Nat} {f C:ae} {fd:dQ} {ps:List Str} {sp:Sp} {Mq:List V} {ds:cb} {E:XK} {x m:Str} {p pos Fz:Pos} {e o:aq} {es:List aq} {ta:TE} {t:TA}
theorem Jf{ag:List (ae×Obj)}{σ:St}{H:Hp}{s:aw}{Q:VK}{us:cb}{vs:List V}(F:FnOk X.prog X.w X.K X.mg X.base CX k f fd ps sp)(hr:eI k X.A)(hb:f9 X.K fd ps ds)(hd:Vals Mq ds)(hx:Cg CX X E)
    (I:Inv X ag σ H s) (r:Vals vs us) (h:sp (vs++Mq) H Q E):wpAny (model X.prog X.w) X.A (call (.ref f) us) (EP X ag σ Q) X.xe s:=by
  have r2:Vals (vs++Mq) (us++ds):=r.append hd;have hl:(us++ds).length=ps.length:=by rw[<-r2.length];exact F.len _ _ _ _ h
  refine wpAny_call (mf (F.run X.A X.stack s H ⟨us,[]⟩ (us++ds) (vs++Mq) Q E hr I.RL (hb s us I.yo hl) r2 h) fun r s' hq=>?_)
  cases r with
  | error e=>exact hx ag σ H s e s' I hq
  | ok fl =>
    cases fl with
    | ret u=>exact I.after hq
    | next=>exact False.elim hq
    | brk=>exact False.elim hq
    | cont=>exact False.elim hq
theorem ql(F:FnOk X.prog X.w X.K X.mg X.base CX k f fd ps sp)(hr:eI k X.A)(hg:Gl X x)(hm:X.mg x=some (.ref f))(hk:W.keepIn X.K (.ref f)=true)(hb:f9 X.K fd ps ds)(hd:Vals Mq ds)(hx:Cg CX X E)
    (ha:PA X (e::es) t) (FV:(x==("__debug__":Str))=false:=by decide) (he:starEach (e::es) X.env=(false,eval e X.env)::starEach es X.env:=by rfl) (oG:(backTo pos (starEach es X.env)).any (·.1)=false:=by rfl) :
    PE X (.Call (.Name x p) (e::es) [] pos) (Eb sp Mq E t):=by
  intro ag s σ H Q I h;refine l7 (ld_glob I hg hm ?_ FV);refine W.callWith_K (h₀:=X.base) I.ok.mod.kin hk (thn (ha pos ag s σ H _ I h) fun us s1 ⟨vs,H1,I1,r,q⟩=>⟨I1.yo,?_⟩) he oG
  exact Jf F hr hb hd hx I1 r q
end
theorem uO{kindOf:Str->Option NameKind}{x:Str}:∀{yT:List (Str×aj)} {m:dM},(∀v,(x,v)∉yT)->bindL kindOf yT m x=m x
  | [],_,_=>rfl
  | (n,v)::r,m,h=>by
    unfold bindL;rw[uO fun w hw=>h w (bQ _ hw)]
    split
    · have:x≠n:=by rintro rfl;exact h v b6
      simp[this]
    · rfl
theorem uP{kindOf:Str->Option NameKind}{x:Str}:∀{yT:List (Str×aj)} {m:dM},(∀v,(x,v)∉yT)->bindC kindOf yT m x=m x
  | [],_,_=>rfl
  | (n,v)::r,m,h=>by
    unfold bindC;rw[uP fun w hw=>h w (bQ _ hw)]
    split
    · rfl
    · have:x≠n:=by rintro rfl;exact h v b6
      simp[this]
theorem uQ{kindOf:Str->Option NameKind}{x:Str}{v:aj}:∀{P:List Str} {vs:cb} {i:Nat} {m:dM},P.Nodup->P[i]?=some x->vs[i]?=some v->kindOf x=some .local ->
    bindL kindOf (P.zip vs) m x=some v
  | [],_,_,_,_,h,_,_=>by simp at h
  | _::_,[],_,_,_,_,h,_=>by simp at h
  | p::P,w::vs,0,m,nd,h1,h2,hk=>by
    simp at h1 h2;subst h1;subst h2;show bindL kindOf ((p,w)::P.zip vs) m p=_;unfold bindL;rw[uO fun v hv=>(fu.mp nd).1 (vT hv).1,if_pos hk]
    simp
  | p::P,w::vs,i+1,m,nd,h1,h2,hk=>by
    show bindL kindOf ((p,w)::P.zip vs) m x=_;unfold bindL;exact uQ (i:=i) (fu.mp nd).2 (by simpa using h1) (by simpa using h2) hk
theorem uR{kindOf:Str->Option NameKind}{x:Str}{v:aj}:∀{P:List Str} {vs:cb} {i:Nat} {m:dM},P.Nodup->P[i]?=some x->vs[i]?=some v->kindOf x≠some .local ->
    bindC kindOf (P.zip vs) m x=some v
  | [],_,_,_,_,h,_,_=>by simp at h
  | _::_,[],_,_,_,_,h,_=>by simp at h
  | p::P,w::vs,0,m,nd,h1,h2,hk=>by
    simp at h1 h2;subst h1;subst h2;show bindC kindOf ((p,w)::P.zip vs) m p=_;unfold bindC;rw[uP fun v hv=>(fu.mp nd).1 (vT hv).1,if_neg hk]
    simp
  | p::P,w::vs,i+1,m,nd,h1,h2,hk=>by
    show bindC kindOf ((p,w)::P.zip vs) m x=_;unfold bindC;exact uR (i:=i) (fu.mp nd).2 (by simpa using h1) (by simpa using h2) hk
def start(N:List Str)(vs:List V):St:=vs.map some++List.replicate (N.length-vs.length) none
def ly(CX:DR)(P:bJ)(w:aW)(K:ak)(mg:dM)(base:Heap)(N:List Str)(qual:Str)(scope:Scope)(f:ae)(cd:aj)(A:bY)(outer:List Env)(s:aw)(H:Hp)(E:XK):Cx where
  prog:=P
  w:=w
  K:=K
  mg:=mg
  base:=base
  A:=A.deeper (envOfC qual scope s.heap.objs.size f cd)
  N:=N
  s₀:=s
  H₀:=H
  env:=envOfC qual scope s.heap.objs.size f cd
  outer:=outer
  stack:=envOfC qual scope s.heap.objs.size f cd::outer
  ex:=[]
  calm:=true
  fn:=fun _=>true
  pn:=[]
  xe:=fun e s'=>wpAny (model P w) (A.deeper (envOfC qual scope s.heap.objs.size f cd)) (leaving (envOfC qual scope s.heap.objs.size f cd) e) (fun _ MK=>CX outer H s E e MK) (fun e' MK=>CX outer H s E e' MK) s'
theorem yU{sc:Scope}{n:Nat}{x:Str}(h:sc.names.lookup x=some .cell):∃c,(cellsFrom n sc.names []).lookup x=some c:=by
  have q:=W.cellsFrom_some sc.names n [] (.inl h);exact Option.isSome_iff_exists.mp q
theorem uS{CX:DR}{P:bJ}{w:aW}{K:ak}{mg:dM}{base:Heap}{N ps:List Str}{qual:Str}{scope:Scope}{f:ae}{cd:aj}{A:bY}{outer:List Env}{s s1:aw}{H:Hp}{E:XK}{us:cb}{vs:List V}
    (S:dW N ps scope) (hd:A.handled=none) (e0:Cf P w K mg base A outer s H) (hl:vs.length=ps.length) (r:Vals vs us)
    (x:InCallC s s.heap.objs.size (bindL (envOfC qual scope s.heap.objs.size f cd).kindOf (ps.zip us) fun _=>none) (cellsFrom (s.heap.objs.size+1) scope.names []) (bindC (envOfC qual scope s.heap.objs.size f cd).kindOf (ps.zip us) fun _=>none) s1) :
    Inv (ly CX P w K mg base N qual scope f cd A outer s H E) [] (start N vs) H s1:=by
  have oG:ps.length<=N.length:=by have:=dy List.length S.pre;rw[oq]at this;lia
  obtain⟨h1,tk,rfl,hk⟩:=x.done;have noA:∀b:ae,b∉(ly CX P w K mg base N qual scope f cd A outer s H E).ex:=fun b z=>absurd (show b∈([]:List ae)from z) (by simp)
  refine⟨⟨e0.mod,S.kind,rfl,rfl,bh _,fun y z c h1 h2=>?_,fun y hy=>?_,fun y c _ h=>?_,fun _=>hd,Around.frames_deeper e0.frames,.inr ⟨rfl,rfl⟩,fun b z=>absurd z (noA b),e0.bs,e0.bsz,fun b _ _=>noA b,fun b z=>absurd z (noA b),e0.funs,e0.frf,e0.tabs⟩,
    rfl,e0.bare,Un.kept hk,⟨_,x.toInCall.ns,fun i y v h1 h2 h3=>?_⟩,fun y c h=>⟨_,x.cell y c h⟩,e0.hok.fresh (bh _),fun y c h=>?_,fun p hp=>absurd (show p∈([]:List (ae×Obj))from hp) (by simp),e0.hok.kept hk,?_⟩
  · exact name_of_addr x.apart (el h1) (el h2)
  · have hy:scope.names.lookup y=some .cell\/scope.names.lookup y=some .free:=hy
    rcases hy with hy | hy
    · exact yU hy
    · exact absurd rfl (S.nofree _ (el hy))
  · exact me (x.above y c (el h))
  · have hi:i<vs.length:=by
      unfold start at h2;by_cases hi:i<vs.length
      · exact hi
      · rw[j9 (by simpa using hi)]at h2
        rw[ip]at h2;split at h2<;>cases h2
    have ha:vs[i]?=some v:=by
      unfold start at h2;rw[il (by simpa using hi),cu]at h2
      cases e:vs[i]? with
      | none=>rw[e]at h2;cases h2
      | some a=>rw[e]at h2;cases h2;rfl
    obtain⟨u,hu,rv⟩:=r.get ha;have hp:ps[i]?=some y:=by
      rw[<-S.pre,List.getElem?_take_of_lt (by lia)];exact h1
    have ndP:ps.Nodup:=by rw[<-S.pre];exact S.nd.sublist (List.take_sublist _ _)
    refine⟨u,rv,?_⟩;rcases S.par y (cj hp)with k | k
    · exact .inl ⟨k,uQ ndP hp hu k⟩
    · obtain⟨c,e⟩:=yU (n:=s.heap.objs.size+1) k
      refine .inr ⟨.inl k,c,e,?_⟩;have q:=x.cell y c e;rw[uR ndP hp hu (by show scope.names.lookup y≠_;rw[k];decide)]at q
      exact q
  · exact e0.hok.fresh (me (x.above y c (el h)))
  · unfold start
    show _=N.length;rw[bK,aC,iq]
    lia
theorem Ec{CX:DR}{P:bJ}{w:aW}{K:ak}{mg:dM}{base:Heap}{k:Nat}{f:ae}{name qual:Str}{params:Arguments}{body:List aE}{scope:Scope}{dV kV doc pm dG ct oc:aj}{an od:Option ae}
    {tQ:Array mi} {N ps:List Str} {sp:Sp} (lk:K.lookup f=some ⟨oc,od,.func (W.fnOf name qual params body scope dV kV doc pm an dG ct),tQ⟩) (uB:W.codeIn K dG qual=true) (S:dW N ps scope)
    (len:∀vs H Q E,sp vs H Q E->vs.length=ps.length)
    (hbody:∀(A:bY) (outer:List Env) (s:aw) (H:Hp) (vs:List V) (Q:VK) (E:XK),eI k (A.deeper (envOfC qual scope s.heap.objs.size f dG))->sp vs H Q E ->
      ∃t,oD (ly CX P w K mg base N qual scope f dG A outer s H E) body t/\t {nx:=fun _ H'=>Q .cG H',rt:=Q} (start N vs) H) :
    FnOk P w K mg base CX (k+1) f (W.fnOf name qual params body scope dV kV doc pm an dG ct) ps sp:=by
  refine⟨len,fun A outer s H args us vs Q E hr e0 hb r m6=>?_⟩
  have hl:=len _ _ _ _ m6;have KX:K.In s.heap:=e0.mod.kin.keeps fun b o e=>(e0.bs b o e).1
  have lim:s.heap.NoLimit:=e0.mod.nolimit.keeps fun b o e=>(e0.bs b o e).1
  have VA:∀y∈ps.zip us,scope.names.lookup y.1=some .local\/(scope.names.lookup y.1=some .cell/\((cellsFrom (s.heap.objs.size+1) scope.names []).lookup y.1).isSome=true):=by
    rintro⟨n,v⟩ hy
    rcases S.par n (vT hy).1 with q | q
    · exact .inl q
    · exact .inr ⟨q,W.cellsFrom_some _ _ _ (.inl q)⟩
  refine codeAny_call_function hr.depth (KX _ _ lk) rfl S.co S.gen rfl (W.codeRec_of KX uB) (hb _ _ _ _ ?_);refine Ie S.kind VA fun env he s1 x=>?_
  subst he;refine⟨lim.keeps x.toInCall.keep,codeAny_func ?_⟩;obtain⟨t,ht,hq⟩:=hbody A outer s H vs Q E (hr.deeper _) m6;have I:Inv (ly CX P w K mg base N qual scope f dG A outer s H E) [] (start N vs) H s1:=uS S hr.hd e0 hl r x;refine mh (ht [] s1 (start N vs) H _ I hq) (fun fl s' hs=>?_) fun e s' hs=>hs
  have fin:∀{cn:St} {H':Hp} {v:V} {u:aj},Inv (ly CX P w K mg base N qual scope f dG A outer s H E) [] cn H' s'->RelV v u->Q v H'->CE outer P w H s Q u s' :=
    fun {cn H' v u} J rv q=>⟨v,H',J.os,J.bare,J.base,J.hok,rv,q⟩
  cases fl with
  | ret u =>
    obtain⟨v,cn,H',J,rv,q⟩:=hs;exact fin J rv q
  | next =>
    obtain⟨cn,H',J,q⟩:=hs;exact fin (v:=V.cG) (u:=Value.none) J rfl q
  | brk =>
    obtain⟨_,_,_,q⟩:=hs;exact False.elim q
  | cont =>
    obtain⟨_,_,_,q⟩:=hs;exact False.elim q
section
variable {X:Cx} {x:Str} {p pos:Pos} {e:aq} {es:List aq} {t:TA} {id T:String} {r:List V->Hp->VK->Prop}
def tCB(r:List V->Hp->VK->Prop)(t:TA):TE:=fun σ H Q=>t σ H fun vs H1=>r vs H1 Q
theorem m7(hc:lI X (.builtin id) r)(hg:Gl X x)(hm:X.mg x=none)(hv:bootBuiltins x=some (.builtin id))(ha:PA X (e::es) t)(hn:x≠"__name__":=by decide)(FV:(x==("__debug__":Str))=false:=by decide)
    (he:starEach (e::es) X.env=(false,eval e X.env)::starEach es X.env:=by rfl) (oG:(backTo pos (starEach es X.env)).any (·.1)=false:=by rfl):PE X (.Call (.Name x p) (e::es) [] pos) (tCB r t):=by
  intro ag s σ H Q I h;refine l7 (ld_blt I hg hm hv ?_ hn FV);exact HY (thn (ha pos ag s σ H _ I h) fun us s1 ⟨vs,H1,I1,r1,q1⟩=>hc ag s1 σ H1 vs us Q I1 r1 q1) he oG
theorem jz(hc:lI X (.type T) r)(hg:Gl X x)(hm:X.mg x=none)(hv:bootBuiltins x=some (.type T))(ha:PA X (e::es) t)(hn:x≠"__name__":=by decide)(FV:(x==("__debug__":Str))=false:=by decide)
    (he:starEach (e::es) X.env=(false,eval e X.env)::starEach es X.env:=by rfl) (oG:(backTo pos (starEach es X.env)).any (·.1)=false:=by rfl):PE X (.Call (.Name x p) (e::es) [] pos) (tCB r t):=by
  intro ag s σ H Q I h;refine l7 (ld_blt I hg hm hv ?_ hn FV);exact oe (thn (ha pos ag s σ H _ I h) fun us s1 ⟨vs,H1,I1,r1,q1⟩=>hc ag s1 σ H1 vs us Q I1 r1 q1) he oG
end
end L2
namespace HT
open PySem PyProof.Rows
section
variable {prog:bJ} {w:aW} {A:bY} {E:cS} {s:aw}
theorem ML{t b:ae}{vs ws:cb}{Q:cS}(ht:IsTup s.heap t vs.toArray)(hb:IsTup s.heap b ws.toArray)(hv:vs≠[])
    (h1:ws=[]->Q (.ref t) s) (h2:ws≠[]->Q (.ref s.heap.objs.size) {s with heap:=s.heap.push {cls:=.type "tuple",data:=.seq (vs++ws).toArray}})
    (hsz:vs.length+ws.length<=sizeLine):wpAny (model prog w) A (binaryOp .Add (.ref t) (.ref b)) Q E s:=by
  obtain⟨⟨cls,dd,data,sl⟩,ho,hc,n,hd⟩:=id ht;obtain⟨⟨aaQ,YE,VB,YF⟩,ho2,VC,n2,RM⟩:=id hb;simp only at hc hd VC RM;subst hc hd VC RM;have e:vs.toArray++ws.toArray=(vs++ws).toArray:=by simp
  by_cases hw:ws=[]
  · exact concat_meets ⟨_,ho,rfl⟩ ⟨_,ho2,rfl⟩ BM seq_tuple_add Bv Bs (Bp _ _)
      (tuple_addW1 t b vs.toArray ws.toArray n n2 dd YE sl YF (by simpa using hv) (by simp[hw])) ⟨ho,ho2,h1 hw⟩
  · refine concat_meets ⟨_,ho,rfl⟩ ⟨_,ho2,rfl⟩ BM seq_tuple_add Bv Bs (Bp _ _)
      (tuple_addW2 t b vs.toArray ws.toArray n n2 dd YE sl YF (by simpa using hv) (by simpa using hw) (by rw[bF,bF];exact hsz)) ⟨ho,ho2,?_⟩
    rw[e];exact h2 hw
def eV(n d:Nat):Option Int->Nat
  | none=>d
  | some v=>if v<0 then(v+(n:Int)).toNat else min v.toNat n
theorem yV(n d:Nat):eV n d none=d:=rfl
theorem qm(n d k:Nat):eV n d (some (k:Int))=min k n:=by
  show(if(k:Int)<0 then((k:Int)+(n:Int)).toNat else min (k:Int).toNat n)=min k n
  rw[if_neg (by lia),fP]
theorem RN(n d:Nat)(hd:d<=n)(o:Option Int):eV n d o<=n:=by
  cases o with
  | none=>exact hd
  | some v =>
    show(if v<0 then(v+(n:Int)).toNat else min v.toNat n)<=n
    by_cases hv:v<0
    · rw[if_pos hv];lia
    · rw[if_neg hv];exact Nat.min_le_right _ _
theorem Ed(v:Int)(n d:Nat):(if v<0 then max (v+(n:Int)) 0 else min v (n:Int))=((eV n d (some v):Nat):Int):=by
  show(if v<0 then max (v+(n:Int)) 0 else min v (n:Int))=(((if v<0 then(v+(n:Int)).toNat else min v.toNat n):Nat):Int)
  by_cases hv:v<0
  · simp only[if_pos hv];lia
  · simp only[if_neg hv];lia
theorem Ci(lo hi:Option Int)(n:Nat):Builtin.Slice.sliceAdjust lo hi 1 (n:Int)=(((eV n 0 lo:Nat):Int),((eV n n hi:Nat):Int)):=by
  have h1:¬((1:Int)<0):=by lia
  unfold Builtin.Slice.sliceAdjust;simp only[h1,oz];refine Prod.ext ?_ ?_
  · cases lo with
    | none=>rfl
    | some v=>exact Ed v n 0
  · cases hi with
    | none=>rfl
    | some v=>exact Ed v n n
theorem Cj(i j:Nat):Builtin.Slice.slicePlaces (i:Int) (j:Int) 1=j-i:=by
  unfold Builtin.Slice.slicePlaces;have h1:(1:Int)>0:=by lia
  simp only[h1,ko,Int.ediv_one];split<;>lia
theorem rE{v:aj}{o:Option Int}{Q:Option Int->aw->Prop}(p:IsPart v o)(h:Q o s):wpAny (model prog w) A (Builtin.Slice.slicePartIndex v) Q E s:=by
  cases p with
  | none=>exact slicePart_none h
  | int i t=>exact slicePart_int h
theorem jA{sl:ae}{vl vu:aj}{lo hi:Option Int}{n:Nat}{Q:Int×Int×Nat->aw->Prop}(hs:s.heap.IsSliceOf sl vl vu .none)(pl:IsPart vl lo)(pu:IsPart vu hi)
    (h:Q (((eV n 0 lo:Nat):Int),1,eV n n hi-eV n 0 lo) s):wpAny (model prog w) A (Builtin.Slice.sliceApplied (.ref sl) (pure (n:Int))) Q E s:=by
  obtain⟨os,RO,UB,VD⟩:=id hs;unfold Builtin.Slice.sliceApplied Builtin.Slice.sliceFields;refine av (av (kn RO VD (x:=vl) rfl (av (kn RO VD (x:=vu) rfl (av (kn RO VD (x:=.none) rfl (aK ?_)))))));refine av (slicePart_none ?_);show wpAny _ _ (if((1:Int)==0)=true then _ else _) _ _ s
  rw[if_neg (by decide)]
  refine av (rE pl (av (rE pu (av (aK ?_)))));show wpAny _ _ (match Builtin.Slice.sliceAdjust lo hi 1 (n:Int)with | (lo,hi)=>pure (lo,(1:Int),Builtin.Slice.slicePlaces lo hi 1)) _ _ s
  rw[Ci lo hi n];show wpAny _ _ (pure (((eV n 0 lo:Nat):Int),(1:Int),Builtin.Slice.slicePlaces ((eV n 0 lo:Nat):Int) ((eV n n hi:Nat):Int) 1)) _ _ s;rw[Cj];exact aK h
theorem Jg(xs:Array aj)(i k:Nat):((List.range k).filterMap fun(m:Nat)=>xs[((i:Int)+(m:Int)*1).toNat]?).toArray=((xs.toList.drop i).take k).toArray:=by
  have e:(fun(m:Nat)=>xs[((i:Int)+(m:Int)*1).toNat]?)=fun m=>xs[i+m]?:=by
    funext m
    have:((i:Int)+(m:Int)*1).toNat=i+m:=by lia
    rw[this]
  rw[e];have:=pick_run xs i k;rw[List.filterMap_map]at this;have e2:((fun x=>xs[x]?) ∘ fun x=>i+x)=fun m=>xs[i+m]?:=rfl
  rw[e2]at this;rw[this]
theorem m8{t sl:ae}{items:Array aj}{vl vu:aj}{lo hi:Option Int}{Q:cS}(ht:IsTup s.heap t items)(hs:s.heap.IsSliceOf sl vl vu .none)(pl:IsPart vl lo)(pu:IsPart vu hi)
    (hw:¬(eV items.size 0 lo=0/\eV items.size items.size hi=items.size))
    (h:Q (.ref s.heap.objs.size) {s with heap:=s.heap.push {cls:=.type "tuple",data:=.seq ((items.toList.drop (eV items.size 0 lo)).take (eV items.size items.size hi-eV items.size 0 lo)).toArray}})
    (hsz:items.size<=sizeLine):wpAny (model prog w) A (getItem (.ref t) (.ref sl)) Q E s:=by
  have Ee:sizeOk (.seq ((items.toList.drop (eV items.size 0 lo)).take (eV items.size items.size hi-eV items.size 0 lo)).toArray):=by
    show((items.toList.drop (eV items.size 0 lo)).take (eV items.size items.size hi-eV items.size 0 lo)).toArray.size<=sizeLine;rw[bF,oq,qM,qF]
    lia
  have hj:eV items.size items.size hi<=items.size:=RN _ _ (bh _) hi;obtain⟨os,RO,UB,VD⟩:=id hs;have Jh:s.TypeIs (.ref sl) "slice":=⟨os,RO,UB⟩;unfold getItem
  try with_reducible refine kj ?_
  first | refine av (aK ?_) | skip
  refine av (wpAny_sequenceKey ht.typeIs (by decide) ?_)
  refine av (lZ (name:=Str.ofString "__getitem__") ht.typeIs n6
    (ji n6 ht.typeIs entry_tuple_getitem ?_ (args_tuple_getitem _ _)))
  show wpAny _ _ (Builtin.Tuple.tupleItemsOf (.ref t) >>= _) _ _ s;refine av (tupleItemsOf_ ht ?_);refine av (vX Jh ?_);rw[if_pos (by decide)]
  refine av (jA hs pl pu ?_);have FW:¬((((eV items.size 0 lo:Nat):Int)==0&&(1:Int)==1&&(eV items.size items.size hi-eV items.size 0 lo)==items.size)=true):=by
    intro q;rw[aQ,aQ]at q;have q1:((eV items.size 0 lo:Nat):Int)=0:=bE q.1.1;have q2:eV items.size items.size hi-eV items.size 0 lo=items.size:=bE q.2;exact hw ⟨by lia,by lia⟩
  show wpAny _ _ (if(((eV items.size 0 lo:Nat):Int)==0&&(1:Int)==1&&(eV items.size items.size hi-eV items.size 0 lo)==items.size)=true then _ else _) _ _ s
  rw[if_neg FW,Jg]
  first
    | exact av (m:=Builtin.Tuple.tupleExact _) (je (aK ⟨_,rfl,aK h⟩) Ee)
    | exact av (m:=Builtin.Tuple.tupleExact _) (je (av (aK (aK ⟨_,rfl,aK h⟩))) Ee)
    | exact av (av (m:=Builtin.Tuple.tupleExact _) (je (aK (aK ⟨_,rfl,aK h⟩)) Ee))
    | exact av (av (m:=Builtin.Tuple.tupleExact _) (je (aK ⟨_,rfl,aK h⟩) Ee))
end
end HT
namespace L2
open PySem PySem.Spec PyProof.Rows
abbrev TO:=St->Hp->(Option Int->Hp->Prop)->Prop
def PO(X:Cx)(e:Option aq)(t:TO):Prop :=
  ∀(ag:List (ae×Obj)) (s:aw) (σ:St) (H:Hp) (Q:Option Int->Hp->Prop),Inv X ag σ H s->t σ H Q ->
    wpAny (model X.prog X.w) X.A (evalPart e X.env) (fun u s'=>∃o H',Inv X ag σ H' s'/\IsPart u o/\Q o H') X.xe s
def MM:TO:=fun _ H Q=>Q none H
def VE(t:TE):TO:=fun σ H Q=>t σ H fun x H1=>∃i,x=.int i/\Q (some i) H1
theorem rF{ns:List Int}:∀{us:cb},Vals (ns.map V.int) us->IntsAre us ns:=by
  induction ns with
  | nil=>intro us r;rw[qR]at r;cases r;exact .nil
  | cons n ns ih =>
    intro us r;rw[bR]at r;cases r with
    | cons r1 r2 =>
      obtain⟨t,e⟩:=r1;subst e;exact .cons n t (ih r2)
section
variable {X:Cx} {e:aq} {te:TE} {lo hi:Option aq} {tl th:TO} {pos p2:Pos}
theorem MN:PO X none MM:=by
  intro ag s σ H Q I h;rw[evalPart_none];exact aK ⟨none,H,I,.none,h⟩
theorem MO(h:PE X e te):PO X (some e) (VE te):=by
  intro ag s σ H Q I hw;rw[evalPart_some];refine thn (h ag s σ H _ I hw) fun u s1 ⟨x,H1,I1,r1,q1⟩=>?_
  obtain⟨i,rfl,q⟩:=q1;obtain⟨t,rfl⟩:=r1;exact⟨some i,H1,I1,.int i t,q⟩
def YG(X:Cx)(r:V->Option Int->Option Int->Hp->VK->Prop):Prop :=
  ∀(ag:List (ae×Obj)) (s:aw) (σ:St) (H:Hp) (x:V) (v vl vu:aj) (lo hi:Option Int) (sl:ae) (Q:VK),Inv X ag σ H s->RelV x v->s.heap.IsSliceOf sl vl vu .none->IsPart vl lo->IsPart vu hi->r x lo hi H Q ->
    ∃T id,typeLookup (.type T) "__getitem__"=pure (some (.builtin id))/\s.TypeIs v T/\wpAny (model X.prog X.w) X.A (getItem v (.ref sl)) (EP X ag σ Q) X.xe s
def tSl(r:V->Option Int->Option Int->Hp->VK->Prop)(te:TE)(tl th:TO):TE:=fun σ H Q=>te σ H fun x H1=>tl σ H1 fun l H2=>th σ H2 fun u H3=>r x l u H3 Q
theorem yW{r:V->Option Int->Option Int->Hp->VK->Prop}(hr:YG X r)(he:PE X e te)(hl:PO X lo tl)(hu:PO X hi th):PE X (.Subscript e (.Slice lo hi none p2) pos) (tSl r te tl th):=by
  intro ag s σ H Q I h;refine Subscript_ (thn (he ag s σ H _ I h) fun v s1 ⟨x,H1,I1,r1,q1⟩=>?_)
  refine wpAny_Slice (thn (hl ag s1 σ H1 _ I1 q1) fun vl s2 ⟨l,H2,I2,pl,q2⟩=>thn (hu ag s2 σ H2 _ I2 q2) fun vu s3 ⟨u,H3,I3,pu,q3⟩=>?_)
  rw[evalPart_none];refine aK ?_;have I4:Inv X ag σ H3 {s3 with heap:=s3.heap.push {cls:=.type "slice",data:=.fields #[vl,vu,.none]}}:=I3.kept (t':=s3.toks) fun b ob q=>cx _ q
  obtain⟨T,id,hT,ht,hg⟩:=hr ag {s3 with heap:=s3.heap.push {cls:=.type "slice",data:=.fields #[vl,vu,.none]}} σ H3 x v vl vu l u s3.heap.objs.size Q I4 r1 (Heap.IsSliceOf.new ..) pl pu q3
  show wpAny (model X.prog X.w) X.A (subscriptTail e (.Slice lo hi none p2) v (.ref s3.heap.objs.size)) (EP X ag σ Q) X.xe {s3 with heap:=s3.heap.push {cls:=.type "slice",data:=.fields #[vl,vu,.none]}}
  exact tail_any (ops:=[.ref s3.heap.objs.size,v]) ht hT hg (by with_unfolding_all rfl)
def tX(xs:List V)(lo hi:Option Int):List V:=(xs.drop (HT.eV xs.length 0 lo)).take (HT.eV xs.length xs.length hi-HT.eV xs.length 0 lo)
theorem pK(xs:List V)(lo hi:Option Int):(tX xs lo hi).length<=xs.length:=by
  unfold tX;rw[oq,qM]
  lia
def aaR(K:ak):V->Option Int->Option Int->Hp->VK->Prop:=fun x lo hi H Q=>∃a xs,x=.ref a/\jm K H a xs /\
  ¬(HT.eV xs.length 0 lo=0/\HT.eV xs.length xs.length hi=xs.length)/\∀p,H p=none->Q (.ref p) (dX H p (.aB (tX xs lo hi)))
theorem RP:YG X (aaR X.K):=by
  intro ag s σ H x v vl vu lo hi sl Q I rx hs pl pu h;obtain⟨a,xs,rfl,hx,hw,q⟩:=h;cases rx;obtain⟨aY,r,ht,hz⟩:=I.tuple hx;have dm:aY.toArray.size=xs.length:=by rw[bF];exact r.length.symm
  refine⟨"tuple",_,n6.lookup,ht.typeIs,?_⟩;refine HT.m8 ht hs pl pu (by rw[dm];exact hw) ?_ (by rw[dm];exact hz)
  rw[dm];refine⟨.ref s.heap.objs.size,_,I.laid (t':=s.toks) (o:=.aB (tX xs lo hi)) (fun b ob q=>cx _ q) (bh _) ?_,rfl,q _ (I.hok.fresh (bh _))⟩
  exact⟨cF (pK xs lo hi) hz,_,(r.drop (HT.eV xs.length 0 lo)).take (HT.eV xs.length xs.length hi-HT.eV xs.length 0 lo),IsTup.new _ _⟩
def VF(K:ak):R2:=fun x y H Q=>∃a b xs ys,x=.ref a/\y=.ref b/\jm K H a xs/\jm K H b ys/\xs≠[]/\xs.length+ys.length<=sizeLine /\
  (ys=[]->Q (.ref a) H)/\(ys≠[]->∀p,H p=none->Q (.ref p) (dX H p (.aB (xs++ys))))
theorem Vals.wq{xs:List V}{us:cb}(r:Vals xs us):us=[]↔xs=[]:=by
  cases r with
  | nil=>simp
  | cons _ _=>simp
theorem MP:OpR X (binaryOp .Add) (VF X.K):=by
  intro ag s σ H x y v u Q I rx ry h;obtain⟨a,b,xs,ys,rfl,rfl,ha,hb,hx,hz,q1,q2⟩:=h;cases rx;cases ry;obtain⟨aY,r1,p1,_⟩:=I.tuple ha;obtain⟨iO,r2,p2,_⟩:=I.tuple hb;refine HT.ML p1 p2 (fun z=>hx (r1.wq.mp z)) (fun z=>⟨.ref a,H,I,rfl,q1 (r2.wq.mp z)⟩) (fun z=>?_) (by rw[<-r1.length,<-r2.length];exact hz)
  refine⟨.ref s.heap.objs.size,_,I.laid (t':=s.toks) (o:=.aB (xs++ys)) (fun b ob q=>cx _ q) (bh _) ?_,rfl,q2 (fun w=>z (r2.wq.mpr w)) _ (I.hok.fresh (bh _))⟩
  exact⟨by rw[bK];exact hz,_,r1.append r2,IsTup.new _ _⟩
end
def Ji(n:Nat)(i:Int):Option Nat:=if 0<=i then(if i<n then some i.toNat else none)else if -(n:Int)<=i then some (i+n).toNat else none
def atI{α:Type}(xs:List α)(i:Int):Option α:=(Ji xs.length i).bind fun j=>xs[j]?
theorem MQ{n:Nat}{i:Int}{j:Nat}(h:Ji n i=some j):seqIndex? i n=some j/\j<n /\ -(n:Int)<=i/\i<n:=by
  unfold Ji at h;by_cases h0:0<=i
  · rw[if_pos h0]at h
    by_cases h1:i<n
    · rw[if_pos h1]at h
      have e:i.toNat=j:=bD h;exact⟨by rw[seqIndex_of h0 h1,e],by lia,by lia,h1⟩
    · rw[if_neg h1]at h;cases h
  · rw[if_neg h0]at h
    by_cases h1:-(n:Int)<=i
    · rw[if_pos h1]at h
      have e:(i+n).toNat=j:=bD h;exact⟨by rw[seqIndex_neg (by lia) h1,e],by lia,h1,by lia⟩
    · rw[if_neg h1]at h;cases h
theorem wt{α:Type}{xs:List α}{i:Int}{v:α}(h:atI xs i=some v):∃j,seqIndex? i xs.length=some j/\xs[j]?=some v/\j<xs.length /\ -(xs.length:Int)<=i/\i<xs.length:=by
  unfold atI at h;cases e:Ji xs.length i with
  | none=>rw[e]at h;cases h
  | some j =>
    rw[e]at h;obtain⟨h1,h2,h3,h4⟩:=MQ e;exact⟨j,h1,h,h2,h3,h4⟩
theorem dk{α:Type}{xs:List α}{j:Nat}{v:α}(h:xs[j]?=some v):atI xs (j:Int)=some v:=by
  have hj:j<xs.length:=(cP.mp h).1;have e:Ji xs.length (j:Int)=some j:=by
    unfold Ji;rw[if_pos (by lia),if_pos (by lia)];simp
  unfold atI;rw[e];exact h
def kZ(b:aq):Prop:=∀o i,subscripted b false o i=operate [o,i] (getItem o i)
def RQ(X:Cx)(r:R2):Prop :=
  ∀(value slice:aq) (ag:List (ae×Obj)) (s:aw) (σ:St) (H:Hp) (x y:V) (v u:aj) (Q:VK),Inv X ag σ H s->RelV x v->RelV y u->r x y H Q ->
    subscripted slice false v u=operate [v,u] (getItem v u)->wpAny (model X.prog X.w) X.A (subscriptTail value slice v u) (EP X ag σ Q) X.xe s
def MtR(X:Cx)(id:String)(r:V->List V->Hp->VK->Prop):Prop :=
  ∀(ag:List (ae×Obj)) (s:aw) (σ:St) (H:Hp) (x:V) (xs:List V) (v:aj) (us:cb) (Q:VK),Inv X ag σ H s->RelV x v->Vals xs us->r x xs H Q ->
    wpAny (model X.prog X.w) X.A (call (.builtin id) (v::us)) (EP X ag σ Q) X.xe s
section
variable {X:Cx} {a b:aq} {ta tb:TE} {pos:Pos}
theorem yX{r:R2}(hr:RQ X r)(ha:PE X a ta)(hb:PE X b tb)(hs:kZ b):PE X (.Subscript a b pos) (UA r ta tb):=by
  intro ag s σ H Q I h;exact Subscript_ (RB ha hb I h fun v u s2 x y H2 I2 rx ry q=>hr a b ag s2 σ H2 x y v u Q I2 rx ry q (hs _ _))
def VG(K:ak):R2:=fun x y H Q=>∃p xs i v,x=.ref p/\y=.int i/\lu K H p xs/\atI xs i=some v/\Q v H
def aaT(K:ak):R2:=fun x y H Q=>∃p xs i v,x=.ref p/\y=.int i/\jm K H p xs/\atI xs i=some v/\Q v H
def aaU:R2:=fun x y H Q=>∃z i c,x=.str z/\y=.int i/\z.length<=sizeLine/\atI z.cps.toList i=some c/\Q (.str ⟨#[c]⟩) H
theorem wu:RQ X (VG X.K):=by
  intro value slice ag s σ H x y v u Q I rx ry h hs;obtain⟨p,xs,i,z,rfl,rfl,hq,he,q⟩:=h;cases rx;obtain⟨t,rfl⟩:=ry;obtain⟨aY,r,pl,hz⟩:=I.list hq;obtain⟨j,h1,h2,h3,h4,h5⟩:=wt he;obtain⟨w,ew,RR⟩:=r.get h2;have hl:=r.length;have hn:=oF;have fin:EP X ag σ Q w s:=⟨z,H,I,RR,q⟩;by_cases h0:0<=i
  · have hj:i.toNat=j:=by
      rw[seqIndex_of h0 h5]at h1;exact bD h1
    exact item_listR pl.isList h0 (by lia) (by rw[hj];simpa using ew) fin hs
  · have hj:(i+(aY.toArray.size:Int)).toNat=j:=by
      rw[seqIndex_neg (by lia) h4]at h1
      rw[bF,<-hl];exact bD h1
    exact subscriptTail_builtinR (x:=w) pl.isList.typeIs slot_list_getitem.lookup
      (wpAny_getItem_list_neg (Q:=fun r s'=>r=w/\EP X ag σ Q r s') pl.isList (by lia) (by rw[bF]<;>lia) (by lia) (by rw[hj];simpa using ew) ⟨rfl,fin⟩) hs
theorem RS:RQ X (aaT X.K):=by
  intro value slice ag s σ H x y v u Q I rx ry h hs;obtain⟨p,xs,i,z,rfl,rfl,hq,he,q⟩:=h;cases rx;obtain⟨t,rfl⟩:=ry;obtain⟨aY,r,pl,hz⟩:=I.tuple hq;obtain⟨j,h1,h2,h3,h4,h5⟩:=wt he;obtain⟨w,ew,RR⟩:=r.get h2;have hl:=r.length;have hn:=oF;have fin:EP X ag σ Q w s:=⟨z,H,I,RR,q⟩;exact subscriptTail_builtinR (x:=w) pl.typeIs slot_tuple_getitem.lookup
    (getItem_tuple (j:=j) (Q:=fun r s'=>r=w/\EP X ag σ Q r s') pl (by lia) (by lia) (by rw[bF,<-hl];exact h1) (by simpa using ew) ⟨rfl,fin⟩) hs
theorem RT:RQ X aaU:=by
  intro value slice ag s σ H x y v u Q I rx ry h hs;obtain⟨z,i,c,rfl,rfl,hz,he,q⟩:=h;obtain⟨t,rfl⟩:=rx;obtain⟨t',rfl⟩:=ry;obtain⟨j,h1,h2,h3,h4,h5⟩:=wt he;have hl:z.cps.toList.length=z.length:=by simp[Str.length]
  rw[hl]at h1 h4 h5;have hn:=oF;exact tail_any (typeIs_str s z t) slot_str_getitem.lookup (getItem_str (c:=c) (by
    have e1:decide (i < -(2^63:Int))=false:=eG (by lia)
    have e2:decide (i>=2^63)=false:=eG (by lia)
    rw[e1,e2,Bool.or_false]) (by rw[h1];simpa using h2) ⟨.str ⟨#[c]⟩,H,I.tok _,⟨_,rfl⟩,q⟩) hs
theorem wx(lo hi:Option Int)(n:Nat):(sliceBounds lo hi none n).1=((HT.eV n 0 lo:Nat):Int)/\(sliceBounds lo hi none n).2.1=((HT.eV n n hi:Nat):Int)/\(sliceBounds lo hi none n).2.2=1:=by
  refine⟨?_,?_,rfl⟩
  · cases lo with
    | none=>simp[sliceBounds,HT.eV]
    | some i =>
      simp only[sliceBounds,HT.eV,BN,show(1:Int)>0 by decide,ko]
      by_cases h:i<0
      · simp only[h,ko]<;>lia
      · simp only[h,oz]<;>lia
  · cases hi with
    | none=>simp[sliceBounds,HT.eV]
    | some i =>
      simp only[sliceBounds,HT.eV,BN,show(1:Int)>0 by decide,ko]
      by_cases h:i<0
      · simp only[h,ko]<;>lia
      · simp only[h,oz]<;>lia
theorem tY(aY:cb)(lo hi:Option Int):slicePick aY.toArray lo hi none=((aY.drop (HT.eV aY.length 0 lo)).take (HT.eV aY.length aY.length hi-HT.eV aY.length 0 lo)).toArray:=by
  obtain⟨h1,h2,h3⟩:=wx lo hi aY.toArray.size;unfold slicePick;rw[h1,h2,h3];simp only[sliceRange_one,pick_run,bF]<;>rfl
def aaV(K:ak):V->Option Int->Option Int->Hp->VK->Prop:=fun x lo hi H Q=>∃a xs,x=.ref a/\lu K H a xs/\∀p,H p=none->Q (.ref p) (dX H p (.au (tX xs lo hi)))
theorem Ef:YG X (aaV X.K):=by
  intro ag s σ H x v vl vu lo hi sl Q I rx hs pl pu h;obtain⟨a,xs,rfl,hx,q⟩:=h;cases rx;obtain⟨aY,r,ht,hz⟩:=I.list hx;have dm:=r.length;refine⟨"list",_,slot_list_getitem.lookup,ht.isList.typeIs,?_⟩;refine wpAny_getItem_list_slice ht.isList hs pl pu .none (by simp) ?_ (by rw[bF]<;>lia)
  rw[tY,<-dm];refine⟨.ref s.heap.objs.size,_,I.laid (t':=s.toks) (o:=.au (tX xs lo hi)) (fun b ob q=>cx _ q) (bh _) ?_,rfl,q _ (I.hok.fresh (bh _))⟩
  exact⟨cF (pK xs lo hi) hz,_,0,(r.drop (HT.eV xs.length 0 lo)).take (HT.eV xs.length xs.length hi-HT.eV xs.length 0 lo),dZ _ rfl⟩
theorem jN:lI X (.builtin "len") (fun xs H Q=>∃p ys,xs=[.ref p]/\(lu X.K H p ys\/jm X.K H p ys)/\Q (.int ys.length) H):=by
  intro ag s σ H xs us Q I r h;obtain⟨p,ys,rfl,hq,q⟩:=h;obtain⟨u,rfl,rx⟩:=kx r;cases rx;have hn:=oF;rcases hq with hq | hq
  · obtain⟨aY,r',pl,hz⟩:=I.list hq
    have dm:=r'.length;exact Calls.call_len_list pl.isList (by simp only[bF]<;>lia) ⟨.int ys.length,H,I.tok _,⟨s.toks+1,by rw[bF,dm]⟩,q⟩
  · obtain⟨aY,r',pl,hz⟩:=I.tuple hq
    have dm:=r'.length;exact len_tuple pl (by simp only[bF]<;>lia) ⟨.int ys.length,H,I.tok _,⟨s.toks+1,by rw[bF,dm]⟩,q⟩
theorem wz:lI X (.builtin "len") (fun xs H Q=>∃z,xs=[.str z]/\z.length<=sizeLine/\Q (.int z.length) H):=by
  intro ag s σ H xs us Q I r h;obtain⟨z,rfl,hz,q⟩:=h;obtain⟨u,rfl,t,rfl⟩:=kx r;have hn:=oF;exact len_str (by lia) ⟨.int z.length,H,I.tok _,⟨_,rfl⟩,q⟩
theorem jO:lI X (.type "list") (fun xs H Q=>∃p ys,xs=[.ref p]/\(lu X.K H p ys\/jm X.K H p ys)/\∀l,H l=none->Q (.ref l) (dX H l (.au ys))):=by
  intro ag s σ H xs us Q I r h;obtain⟨p,ys,rfl,hq,q⟩:=h;obtain⟨u,rfl,rx⟩:=kx r;cases rx;have fin:∀(aY:cb),Vals ys aY->ys.length<=sizeLine->∀(h':Heap) (c':Nat),(∀b o',s.heap.get? b=some o'->h'.get? b=some o') ->
      h'.get? s.heap.objs.size=some {cls:=.type "list",dict:=none,data:=.seq aY.toArray c',slots:=#[]}->EP X ag σ Q (.ref s.heap.objs.size) {s with heap:=h'}:=fun aY r' hz h' c' kp e =>
    ⟨.ref s.heap.objs.size,_,I.laid (t':=s.toks) kp (bh _) (show fg X.prog X.w _ h' _ (.au ys)from⟨hz,aY,c',r',e⟩),rfl,q _ (I.hok.fresh (bh _))⟩
  rcases hq with hq | hq
  · obtain⟨aY,r',pl,hz⟩:=I.list hq
    have dm:=r'.length;obtain⟨o,ho,hc,n,hd⟩:=pl.isList;exact call_list_seq p (.inl rfl) ho hc hd (fun h' c' kp e=>fin aY r' hz h' c' kp e) (by simp only[bF]<;>lia)
  · obtain⟨aY,r',pl,hz⟩:=I.tuple hq
    have dm:=r'.length;obtain⟨o,ho,hc,n,hd⟩:=pl;exact call_list_seq p (.inr rfl) ho hc hd (fun h' c' kp e=>fin aY r' hz h' c' kp e) (by simp only[bF]<;>lia)
theorem lJ:lI X (.type "tuple") (fun xs H Q=>∃p ys,xs=[.ref p]/\((lu X.K H p ys/\∀l,H l=none->Q (.ref l) (dX H l (.aB ys)))\/(jm X.K H p ys/\Q (.ref p) H))):=by
  intro ag s σ H xs us Q I r h;obtain⟨p,ys,rfl,h⟩:=h;obtain⟨u,rfl,rx⟩:=kx r;cases rx;rcases h with⟨hq,q⟩ | ⟨hq,q⟩
  · obtain⟨aY,r',pl,hz⟩:=I.list hq
    have dm:=r'.length;refine call_tuple_list pl.isList (fun h' kp=>?_) (by simp only[bF]<;>lia)
    have I1:Inv X ag σ H {s with heap:=h'}:=I.kept (t':=s.toks) kp
    have I2:Inv X ag σ (dX H h'.objs.size (.aB ys)) {s with heap:=h'.push {cls:=.type "tuple",data:=.seq aY.toArray}} :=
      I1.laid (t':=s.toks) (fun b o e=>cx _ e) (bh _) (show fg X.prog X.w _ _ _ (.aB ys)from⟨hz,aY,r',IsTup.new _ _⟩)
    exact⟨.ref h'.objs.size,_,I2,rfl,q _ (I1.hok.fresh (bh _))⟩
  · obtain⟨aY,r',pl,hz⟩:=I.tuple hq
    exact call_tuple_same pl ⟨.ref p,H,I,rfl,q⟩
def tyV(K:ak)(T:String)(x:V)(H:Hp):Prop:=match x with
  | .str _=>T="str"
  | .int _=>T="int"
  | .ref p=>(T="list"/\∃xs,lu K H p xs)\/(T="tuple"/\∃o,K.lookup p=some o/\o.cls=.type "tuple"/\o.dict=none) \/
      (T="dict"/\((∃kvs,H p=some (.dK kvs))\/∃kvs,H p=some (.dT kvs)))\/(T="set"/\∃S n,H p=some (.set S n))
  | _=>False
theorem Jj{ag:List (ae×Obj)}{σ:St}{H:Hp}{s:aw}{T:String}{x:V}{v:aj}(I:Inv X ag σ H s)(r:RelV x v)(ty:tyV X.K T x H) :
    s.TypeIs v T/\∀a,v=.ref a->∃ob,s.heap.get? a=some ob/\ob.dict=none:=by
  cases x with
  | str z =>
    obtain⟨t,rfl⟩:=r;cases(show T="str" from ty)
    exact⟨typeIs_str s z t,fun _ e=>nomatch e⟩
  | int i =>
    obtain⟨t,rfl⟩:=r;cases(show T="int" from ty)
    exact⟨typeIs_int s i t,fun _ e=>nomatch e⟩
  | ref p =>
    cases r;rcases ty with⟨rfl,xs,hq⟩ | ⟨rfl,o,hk,hc,hd⟩ | ⟨rfl,hk⟩ | ⟨rfl,S,n,hk⟩
    · obtain⟨aY,_,pl,_⟩:=I.list hq
      refine⟨pl.isList.typeIs,fun a e=>?_⟩
      cases e;obtain⟨o,n,e,c,hd,_⟩:=pl;exact⟨o,e,hd⟩
    · refine⟨⟨o,I.yo p o hk,hc⟩,fun a e=>?_⟩
      cases e;exact⟨o,I.yo _ o hk,hd⟩
    · have z:∃o,s.heap.get? p=some o/\o.ExactDict:=by
        rcases hk with⟨kvs,hk⟩ | ⟨kvs,hk⟩
        · obtain⟨_,_,_,_,o,_,_,e,ex,_⟩:=I.hok p _ hk
          exact⟨o,e,ex⟩
        · obtain⟨_,_,o,_,_,e,ex,_⟩:=(show fg X.prog X.w H s.heap p (.dT kvs)from I.hok p _ hk)
          exact⟨o,e,ex⟩
      obtain⟨o,e,ex⟩:=z;refine⟨⟨o,e,ex.1⟩,fun a e2=>?_⟩
      cases e2;exact⟨o,e,ex.2.1⟩
    · obtain⟨o,_,_,_,e,ex,_⟩:=I.hok p _ hk
      refine⟨⟨o,e,ex.1⟩,fun a e2=>?_⟩
      cases e2;exact⟨o,e,ex.2.1⟩
  | _=>exact False.elim ty
def VH(K:ak)(T:String)(r:V->List V->Hp->VK->Prop)(to:TE):TE:=fun σ H Q=>to σ H fun x H1=>tyV K T x H1/\r x [] H1 Q
def YH(K:ak)(T:String)(r:V->List V->Hp->VK->Prop)(to:TE)(t:TA):TE:=fun σ H Q=>to σ H fun x H1=>tyV K T x H1/\t σ H1 fun xs H2=>r x xs H2 Q
variable {o e:aq} {es:List aq} {to:TE} {t:TA} {name:Str} {Fz wA:Pos} {T id:String} {r:V->List V->Hp->VK->Prop}
theorem RU(pa:PlainAttrs T)(slot:Slot T name id)(hty:typeOf (.builtin id)=pure (.type "method_descriptor"))(hm:MtR X id r)(ho:PE X o to)
    (Jk:attributeBase o name X.env (eval o X.env)=eval o X.env:=by rfl) (Jl:(Fz.endLine==wA.line)=true:=by rfl):PE X (.Call (.Attribute o name Fz) [] [] wA) (VH X.K T r to):=by
  intro ag s σ H Q I h;refine wpAny_Call_method0_late Jk Jl (thn (ho ag s σ H _ I h) fun v s1 ⟨x,H1,I1,r1,ty,q1⟩=>?_)
  obtain⟨h1,h2⟩:=Jj I1 r1 ty;exact⟨T,id,pa,slot,hty,h1,h2,Calls.callWith_builtin rfl (PySem.evalArgs_none (hm ag s1 σ H1 x [] v [] Q I1 r1 .nil q1))⟩
theorem uT(pa:PlainAttrs T)(slot:Slot T name id)(hty:typeOf (.builtin id)=pure (.type "method_descriptor"))(hm:MtR X id r)(ho:PE X o to)(ha:PA X (e::es) t)
    (Jk:attributeBase o name X.env (eval o X.env)=eval o X.env:=by rfl)
    (aaX:((backTo wA (starEach (e::es) X.env)).all (fun x=>!x.1)&&(backToKw wA (keywordEach [] X.env)).all (fun x=>x.1.isSome)
      && decide ((e::es).length+([]:List Keyword).length+(if([]:List Keyword).isEmpty then 0 else 1)<30))=true:=by rfl)
    (Jl:(Fz.endLine==wA.line)=true:=by rfl) (hs:starEach (e::es) X.env=(false,eval e X.env)::starEach es X.env:=by rfl) (RV:(backTo wA (starEach es X.env)).any (·.1)=false:=by rfl) :
    PE X (.Call (.Attribute o name Fz) (e::es) [] wA) (YH X.K T r to t):=by
  intro ag s σ H Q I h;refine wpAny_Call_method_late Jk aaX Jl rfl (thn (ho ag s σ H _ I h) fun v s1 ⟨x,H1,I1,r1,ty,q1⟩=>?_)
  obtain⟨h1,h2⟩:=Jj I1 r1 ty;refine⟨T,id,pa,slot,hty,h1,h2,?_⟩;have hA:=ha wA ag s1 σ H1 _ I1 q1;rw[hs]at hA ⊢;refine Calls.callWith_builtin (by show(false || (backTo wA (starEach es X.env)).any (·.1))=false;rw[RV]<;>rfl) (Calls.evalArgs_plain ?_)
  exact thn hA fun us s2 ⟨vs,H2,I2,r2,q2⟩=>hm ag s2 σ H2 x vs v us Q I2 r1 r2 q2
end
def YI(X:Cx)(id:String)(r:V->List V->Hp->VK->Prop):Prop :=
  ∀(ag:List (ae×Obj)) (s:aw) (σ:St) (H:Hp) (x:V) (xs:List V) (v:aj) (us:cb) (Q:VK),Inv X ag σ H s->RelV x v->Vals xs us->r x xs H Q ->
    wpAny (model X.prog X.w) X.A (call (.builtin id) (v::us)) (EP X ag σ Q) X.xe s
theorem Vals.one:∀{x:V} {us:cb},Vals [x] us->∃u,us=[u]/\RelV x u
  | _,_,.cons r .nil=>⟨_,rfl,r⟩
theorem Vals.two:∀{x y:V} {us:cb},Vals [x,y] us->∃u v,us=[u,v]/\RelV x u/\RelV y v
  | _,_,_,.cons r (.cons q .nil)=>⟨_,_,rfl,r,q⟩
theorem Vals.zero:∀{us:cb},Vals [] us->us=[]
  | _,.nil=>rfl
theorem Vals.reverse{xs:List V}{us:cb}(h:Vals xs us):Vals xs.reverse us.reverse:=by
  induction h with
  | nil=>exact .nil
  | cons r t ih=>rw[vP,vP];exact Vals.append ih (.cons r .nil)
section
variable {X:Cx} {ag:List (ae×Obj)} {σ:St} {H:Hp} {s:aw} {l b:ae} {xs ys zs:List V}
theorem Inv.MR{aY its':cb}{n:Nat}{f:Array aj->Array aj}{t':Nat}(I:Inv X ag σ H s)(hH:H l=some (.au xs))
    (e:s.heap.get? l=some {cls:=.type "list",data:=.seq aY.toArray n}) (hf:f aY.toArray=its'.toArray) (hv:Vals ys its') (hz:ys.length<=sizeLine) :
    Inv X ag σ (dX H l (.au ys)) {s with heap:=s.heap.update l (Obj.mapSeq f),toks:=t'}:=by
  have q:=PySem.IsL.update e f;rw[hf]at q;refine I.write (x:=l) (e:=l) (by rw[hH];exact trivial) (.inl rfl) (fun b' u hb hu=>(Bw s.heap (Obj.mapSeq f) (er hb)).trans hu) ⟨_,q⟩ ?_
  exact⟨hz,its',_,hv,q⟩
theorem Inv.VI{aY:cb}{t':Nat}(I:Inv X ag σ H s)(hv:Vals ys aY)(hz:ys.length<=sizeLine) :
    Inv X ag σ (dX H s.heap.objs.size (.au ys)) {s with heap:=s.heap.push {cls:=.type "list",data:=.seq aY.toArray},toks:=t'} :=
  I.laid (fun _ _ q=>cx _ q) (bh _) ⟨hz,aY,0,hv,dZ _ rfl⟩
theorem Inv.fresh(I:Inv X ag σ H s):H s.heap.objs.size=none:=I.hok.fresh (bh _)
theorem Inv.MS(I:Inv X ag σ H s)(hH:H l=some (.au xs)):xs.length<=sizeLine/\∃(aY:cb) (n:Nat),Vals xs aY/\xs.length=aY.length/\s.heap.get? l=some {cls:=.type "list",data:=.seq aY.toArray n}:=by
  obtain⟨z,aY,n,r,e⟩:=I.hok l _ hH;exact⟨z,aY,n,r,r.length,e⟩
theorem Jm{n:Nat}(h:n<=sizeLine):Builtin.List.listTooLong n=false:=by
  unfold Builtin.List.listTooLong;exact eG (by lia)
end
section
variable {X:Cx}
def wB:V->List V->Hp->VK->Prop:=fun x vs H Q=>∃l xs y,x=.ref l/\vs=[y]/\H l=some (.au xs)/\xs.length<sizeLine/\Q .cG (dX H l (.au (xs++[y])))
theorem oH:YI X "list.append" wB:=by
  intro ag s σ H x vs v us Q I rx rv h;obtain⟨l,xs,y,rfl,rfl,hH,hz,q⟩:=h;cases rx;obtain⟨u,rfl,ru⟩:=rv.one;obtain⟨z,aY,n,r,hl,e⟩:=I.MS hH;refine oy F.slot_list_append ⟨_,e,rfl⟩ F.entry_list_append (F.args_list_append_2 _ _) (PySem.list_append l aY.toArray n u (by rw[bF];lia)) ⟨e,?_⟩
  refine⟨.cG,_,I.MR (its':=aY++[u]) hH e (by simp) (r.append (.cons ru .nil)) ?_,rfl,q⟩
  rw[bK,List.length_singleton]
  lia
def yY:V->List V->Hp->VK->Prop:=fun x vs H Q=>∃l xs,x=.ref l/\vs=[]/\H l=some (.au xs)/\Q .cG (dX H l (.au xs.reverse))
theorem Ck:YI X "list.reverse" yY:=by
  intro ag s σ H x vs v us Q I rx rv h;obtain⟨l,xs,rfl,rfl,hH,q⟩:=h;cases rx;have hus:=rv.zero;subst hus;obtain⟨z,aY,n,r,hl,e⟩:=I.MS hH;refine oy F.slot_list_reverse ⟨_,e,rfl⟩ F.entry_list_reverse (F.args_list_reverse_1 _) (AutoSeq1.list_reverse_list_0 l aY.toArray n (by rw[bF];lia)) ⟨e,?_⟩
  refine⟨.cG,_,I.MR (its':=aY.reverse) hH e (by simp) r.reverse ?_,rfl,q⟩
  rw[List.length_reverse]
  lia
end
end L2
namespace Att
open PySem PySem.W PySem.Calls PyProof.Rows
theorem p9{P:Params}{h:Heap}:∀(ns:List Int) (vs:cb),WellAll P h vs (ns.map WData.int)->IntsAre vs ns:=by
  intro ns;induction ns with
  | nil =>
    intro vs w;rw[qR]at w;cases w;exact .nil
  | cons n ns ih =>
    intro vs w;rw[bR]at w;cases w with
    | cons a b =>
      cases a;exact .cons _ _ (ih _ b)
theorem FX{l:OpenLaw}{n:Nat}(hn:l.most=some n){P:Params}{h:Heap}{args:List WData}{RW:cb}
    (MT:l.row.toRowW.claim.pre args=true) (P8:WellAll P h RW args) :
    ∃a vs ns,RW=[Value.ref a]/\args=[WData.list (ns.map WData.int)]/\h.get? a=some {cls:=.type "list",data:=.seq vs.toArray}/\IntsAre vs ns/\ns.length<=n:=by
  have hsh:WShape.hasAll [] args [.list .int]=true:=(pre_splitW MT).1;have hc:l.pre.holds [] {args:=args}=true:=(pre_splitW MT).2
  obtain⟨d,r,rfl,h1,h2⟩:=hasAllW_cons hsh;obtain rfl:=hasAllW_nil h2;obtain⟨xs,rfl,h3⟩:=hasW_list h1;obtain⟨ns,rfl⟩:=items_int h3;have dm:ns.length<=n:=by
    unfold OpenLaw.pre at hc;have h4:(WTm.not (.lt (.lit (.int (n:Int))) (.len (.arg 0)))).holds [] {args:=[.list (ns.map .int)]}=true:=by
      have h4:=(holds_andW hc).1;rw[hn]at h4;exact h4
    have h5:=condW_of h4 (w_not (w_lt w_lit (w_len_list (w_arg rfl))));rw[aC]at h5;refine BL fun q=>?_
    have q':(n:Int)<((ns.length:Nat):Int):=by lia
    first
      | (rw[fQ q']at h5;exact absurd h5 (by decide))
      | (simp at h5;lia)
  cases P8 with
  | cons w1 w2 =>
    cases w2;cases w1 with
    | list ho m9=>exact⟨_,_,ns,rfl,rfl,ho,p9 ns _ m9,dm⟩
theorem FY(l:OpenLaw)(args:List WData):l.row.toRowW.claim.post args (.bool true) args=true :=
  postW_of (r:=l.row.toRowW) (X:=(true==true))
    (show WShape.has [] (.bool true) .bool=true by first | rfl | decide | simp[WShape.has,WShape.arms,WShape.armsAll])
    (show(WTm.eq .res (.lit (.bool true))).value [] {args:=args,res:=some (.bool true),after:=args}=some (.bool (true==true))from w_eq_bool (w_res rfl) w_lit) rfl
theorem yZ{l:OpenLaw}{n:Nat}{q:bJ}{loose:List Str}{XP:dM->Heap->Prop}{YP:aW->Heap->Prop}{d:DefRec}
    (hn:l.most=some n) (hdf:d.params.defaults=[])
    (call:∀(w:aW) (s₀ s₁:aw) (mg mb:dM) (fa:ae) (o:Obj) (pm cd doc:aj) (a:ae) (vs:cb) (ns:List Int),
      Ground q loose [] XP w s₀ mg mb s₁.heap->YP w s₁.heap ->
      s₁.heap.get? fa=some o->o.data=.func (docDef d.name d.params d.body d.scope pm cd doc)->s₁.heap.CodeRec cd d.name->mg d.name=some (.ref fa) ->
      s₁.heap.get? a=some {cls:=.type "list",data:=.seq vs.toArray}->IntsAre vs ns->ns.length<=n->s₁.gens=#[] ->
      codeAny (model l.prog w) callerA (.call (.ref fa) ⟨[.ref a],[]⟩) (fun r s'=>r=.ok (.ret (.bool true))/\OldK s₁.heap s'.heap/\s'.os=s₁.os/\AllBare s'.gens) s₁) :
    WalkO q loose XP YP l.row.toRowW d [] (fun f vs=>PySem.call f vs):=by
  intro w s₀ s₁ mg mb G Y fa o pm cd doc dV kV ho hd uB hD RX hg args RW as MT aeP hrd P8 UC;obtain rfl:dV=.none:=Dflts.none hD hdf;obtain rfl:kV=.none:=Dflts.noKw hD;obtain⟨a,vs,ns,rfl,rfl,Jn,Jo,dm⟩:=FX hn MT P8;refine enter_call (mf (call w s₀ s₁ mg mb fa o pm cd doc a vs ns G Y ho (fd_plain hd) uB RX Jn Jo dm hg) fun r s' hq=>?_)
  obtain⟨rfl,h2,h3,h4⟩:=hq;exact⟨.inl ⟨.bool true,.bool true,[],rfl,fun _=>rfl,.bool true,FY l _,fun _=>⟨List.Pairwise.nil,fun _ hm=>(nomatch hm)⟩⟩,h2,h3,h4⟩
end Att
namespace L2
open PySem PySem.Spec PyProof.Rows
theorem uU:∀{vs:cb} {ns:List Int},IntsAre vs ns->Vals (ns.map V.int) vs
  | _,_,.nil=>.nil
  | _,_,.cons n t h=>.cons ⟨t,rfl⟩ (uU h)
theorem FZ{P:bJ}{w:aW}{K:ak}{mg mb:dM}{CX:DR}{k:Nat}{fa a:ae}{fd:dQ}{x:Str}{sp:Sp}{s₁:aw}{vs:cb}{ns:List Int}{tabs:List (ae×Str)}
    (KX:K.In s₁.heap) (F6:s₁.heap.Ns mainGlobals mg) (hb:s₁.heap.Ns builtinsNs mb) (hbb:∀x:Str,x≠"__name__"->mb x=bootBuiltins x) (Jp:s₁.heap.NoLimit) (hg:s₁.gens=#[])
    (hT:∀b q,tabs.lookup b=some q->s₁.heap.get? b=some {cls:=.none,data:=.fields #[]}/\isCodeTable s₁.heap b/\K.lookup b=none) (hTI:∀H:Hp,(∀b q,tabs.lookup b=some q->H b=some (.yu q))->rl K H)
    (ha:s₁.heap.get? a=some {cls:=.type "list",data:=.seq vs.toArray}) (hi:IntsAre vs ns) (hl:ns.length<=sizeLine) (hr:eI k callerA)
    (F:∀base:Heap,K.In base->base.Ns mainGlobals mg->FnOk P w K mg base CX k fa fd [x] sp) (VJ:∀(s:aw) (u:aj),BindsTo s fd ⟨[u],[]⟩ [(x,u)])
    (m6:∀H:Hp,qj K H a (ns.map V.int)->sp [.ref a] H (fun v _=>v=.bl true) fun _ _ _=>False) (hCX:∀H e s',CX [] H s₁ (fun _ _ _=>False) e s'->False) :
    codeAny (model P w) callerA (.call (.ref fa) ⟨[.ref a],[]⟩) (fun r s'=>r=.ok (.ret (.bool true))/\OldK s₁.heap s'.heap/\s'.os=s₁.os/\AllBare s'.gens) s₁:=by
  have rv:=uU hi;have cX:=hi.length
  let oa:Obj:={cls:=.type "list",data:=.seq vs.toArray}
  let H:Hp:=fun b=>if b=a/\K.lookup a=none then some (.lF oa (.au (ns.map V.int)))else(tabs.lookup b).map HO.yu
  have RY:∀b,H b=if b=a/\K.lookup a=none then some (.lF oa (.au (ns.map V.int)))else(tabs.lookup b).map HO.yu:=fun _=>rfl
  have hHt:∀b q,tabs.lookup b=some q->H b=some (.yu q):=fun b q e=>by
    have hne:b≠a:=fun z=>by
      subst z;have h1:=(hT b q e).1;rw[ha]at h1;cases h1
    rw[RY,if_neg (fun z=>hne z.1),e]
    rfl
  have hH:∀b u,H b=some u->(b=a/\K.lookup a=none/\u=.lF oa (.au (ns.map V.int)))\/∃q,tabs.lookup b=some q/\u=.yu q:=fun b u e=>by
    rw[RY]at e;by_cases h:b=a/\K.lookup a=none
    · rw[if_pos h]at e
      cases e;exact .inl ⟨h.1,h.2,rfl⟩
    · rw[if_neg h]at e
      cases z:tabs.lookup b with
      | none=>rw[z]at e;cases e
      | some q=>rw[z]at e;cases e;exact .inr ⟨q,rfl,rfl⟩
  have hS:qj K H a (ns.map V.int):=by
    cases hk:K.lookup a with
    | some o =>
      have e:=KX a o hk;rw[ha]at e;cases e;exact .inr ⟨vs,_,hk,by rw[cX];exact hl,rv⟩
    | none=>exact .inl (.inr ⟨oa,by rw[RY,if_pos ⟨rfl,hk⟩]⟩)
  have hok:nZ P w H s₁.heap:=fun b u e=>by
    rcases hH b u e with⟨rfl,_,rfl⟩ | ⟨q,hq,rfl⟩
    · exact⟨ha,by rw[aC];exact hl,vs,_,rv,ha⟩
    · exact⟨#[],(hT b q hq).1,trivial,fun pos cv z=>by cases z⟩
  have noD:∀{b:ae} {o:Obj} {es:Array DictEntry} {ep:Nat},s₁.heap.get? b=some o->o.data=.dict es ep->H b=none:=fun {b o es ep} e d=>by
    cases q:H b with
    | none=>rfl
    | some u =>
      rcases hH b u q with⟨rfl,_,_⟩ | ⟨t,ht,_⟩
      · rw[ha]at e;cases e;cases d
      · have h1:=(hT b t ht).1
        rw[h1]at e;cases e;cases d
  have YJ:∀{b:ae} {m:dM},s₁.heap.Ns b m->(yQ s₁.heap H).Ns b m:=fun {b m} ⟨o,es,ep,e,d,r⟩=>⟨o,es,ep,hidT_get e (noD e d),d,r⟩
  have hKb:K.In (yQ s₁.heap H):=fun b o e=>hidT_get (KX b o e) (by
    cases q:H b with
    | none=>rfl
    | some u =>
      rcases hH b u q with⟨rfl,z,_⟩ | ⟨t,ht,_⟩
      · rw[z]at e;cases e
      · rw[(hT b t ht).2.2]at e;cases e)
  have hM:Mod K mg (yQ s₁.heap H):=⟨hKb,YJ F6,⟨mb,YJ hb,hbb⟩,let ⟨mc,h1,h2⟩:=Jp;⟨mc,YJ h1,h2⟩⟩
  have e0:Cf P w K mg (yQ s₁.heap H) callerA [] s₁ H:=⟨rfl,hM,fun b o e=>of_hidT e,ov (FK _ _),trivial,fun b hb=>absurd (show b∈([]:List ae)from hb) (by simp),hok,.of_eq hg,hTI H hHt⟩
  refine mf ((F _ hKb (YJ F6)).run callerA [] s₁ H ⟨[.ref a],[]⟩ [.ref a] [.ref a] _ _ hr e0 (VJ s₁ (.ref a)) (.cons rfl .nil) (m6 H hS)) fun r s' h=>?_
  cases r with
  | error e=>exact(hCX H e s' h).elim
  | ok fl =>
    cases fl with
    | next=>exact False.elim h
    | brk=>exact False.elim h
    | cont=>exact False.elim h
    | ret u =>
      obtain⟨v,H',os,bare,un,VL,r',q⟩:=h;have q':v=.bl true:=q;subst q';obtain rfl:u=Value.bool true:=r';have noF:∀b:ae,b∉Bj ([]:List Env):=fun b z=>absurd (show b∈([]:List ae)from z) (by simp)
      refine⟨rfl,⟨fun b o e=>?_,fun b o e=>un.there b o e (by simp)⟩,os,bare⟩
      cases q:H b with
      | none=>exact .inl (un.keep b o e q (noF b) (by simp))
      | some u =>
        rcases hH b u q with⟨rfl,_,rfl⟩ | ⟨t,ht,rfl⟩
        · obtain⟨e2,_⟩:=VL b _ (un.frzs b _ _ q)
          rw[ha]at e;cases e;exact .inl e2
        · obtain⟨h1,h2,_⟩:=hT b t ht
          obtain⟨ps,e2,_⟩:=(show fg P w H' s'.heap b (.yu t)from VL b _ (un.tbls b _ q))
          rw[h1]at e;cases e;exact .inr (.inl ⟨h2,rfl,#[],ps,rfl,by rw[e2];simp⟩)
abbrev E0:XK:=fun _ _ _=>False
theorem VM{A:bY}{k:Nat}(hr:eI k A):A.units+1<cLine:=jJ (Nat.add_le_add_left (by decide:1<=64) _) hr.units
section
variable {X:Cx}
theorem pv(i:Nat){x:Str}{pos:Pos}(hN:X.N[i]?=some x:=by rfl)(hv:Uy X.env.scope x:=by first | exact Or.inl rfl | exact Or.inr (Or.inl rfl) | exact Or.inr (Or.inr rfl))(hd:(x==("__debug__":Str))=false:=by decide)
    (uB:(x==("__classdict__":Str))=false:=by decide):PE X (.Name x pos) (mj i):=pe_var hN hv hd uB
end
theorem VN{A B:Prop}(h:B):if false=true then A else B:=by
  rw[if_neg iu];exact h
theorem VO{A B:Prop}(h:A):if true=true then A else B:=by
  rw[if_pos rfl];exact h
def Same(H H':Hp):Prop:=∀b o,H b=some o->H' b=some o
theorem Same.refl(H:Hp):Same H H:=fun _ _ h=>h
theorem Same.trans{H H1 H2:Hp}(a:Same H H1)(b:Same H1 H2):Same H H2:=fun c o h=>b c o (a c o h)
theorem Same.free{H H':Hp}(e:Same H H'){l:ae}(h:H' l=Option.none):H l=Option.none:=by
  cases q:H l with
  | none=>rfl
  | some o =>
    rw[e l o q]at h;cases h
theorem Same.seq{K:ak}{H H':Hp}{a:ae}{xs:List V}(e:Same H H')(h:lu K H a xs):lu K H' a xs:=by
  rcases h with(h | ⟨o,h⟩) | h
  · exact .inl (.inl (e _ _ h))
  · exact .inl (.inr ⟨o,e _ _ h⟩)
  · exact .inr h
section
variable {κ:Type} [DecidableEq κ]
def lz(kvs:List (κ×V))(k:κ):Option V:=(kvs.find? fun kv=>decide (kv.1=k)).map (·.2)
def MU(kvs:List (κ×V))(k:κ)(v:V):List (κ×V) :=
 if(kvs.any fun kv=>decide (kv.1=k))=true then kvs.map (fun kv=>if kv.1=k then(kv.1,v)else kv)else kvs++[(k,v)]
theorem rG{p:κ×V}{r:List (κ×V)}{k:κ}(e:p.1=k):lz (p::r) k=some p.2:=by simp[lz,kh,e]
theorem rH{p:κ×V}{r:List (κ×V)}{k:κ}(e:¬p.1=k):lz (p::r) k=lz r k:=by simp[lz,kh,e]
theorem y0(k:κ):∀kvs:List (κ×V),(kvs.any fun kv=>decide (kv.1=k))=(lz kvs k).isSome
 | []=>rfl
 | p::r=>by
  rw[l9];by_cases e:p.1=k
  ·simp only[rG e,fQ e,Bool.true_or,Option.isSome_some]
  ·rw[rH e,eG e,Bool.false_or];exact y0 k r
theorem Jq{kvs:List (κ×V)}{k:κ}(v:V)(h:lz kvs k=none):MU kvs k v=kvs++[(k,v)]:=by
 unfold MU;rw[y0,h];exact if_neg (by decide)
theorem FJ.getD{o:Option V}{u:mi}{d:V}{d':aj}(r:FJ o u)(rd:RelV d d'):RelV (o.getD d) (u.getD d'):=by
 cases o with
 | none=>cases u with
  | none=>exact rd
  | some _=>exact(show False from r).elim
 | some _=>cases u with
  | none=>exact(show False from r).elim
  | some _=>exact r
theorem KV.val{kvs:List (κ×V)}{vs:List (κ×aj)}(r:KV kvs vs)(k:κ):FJ (lz kvs k) (valueAt vs k):=by
 unfold KV at r;induction r with
 | nil=>exact True.intro
 | @cons p q ps qs h t ih =>
  obtain⟨h1,h2⟩:=h;by_cases e:p.1=k
  ·have e':q.1=k:=h1.symm.trans e;have b:valueAt (q::qs) k=some q.2:=by simp[valueAt,kh,e']
   rw[rG e,b];exact h2
  ·have e':¬q.1=k:=fun z=>e (h1.trans z)
   have b:valueAt (q::qs) k=valueAt qs k:=by simp[valueAt,kh,e']
   rw[rH e,b];exact ih
theorem KV.any{kvs:List (κ×V)}{vs:List (κ×aj)}(r:KV kvs vs)(k:κ):(kvs.any fun kv=>decide (kv.1=k))=vs.any fun kv=>decide (kv.1=k):=by
 unfold KV at r;induction r with
 | nil=>rfl
 | cons h t ih=>rw[l9,l9,ih,h.1]
theorem KV.aaZ{kvs:List (κ×V)}{vs:List (κ×aj)}(r:KV kvs vs)(k:κ){y:V}{u:aj}(ry:RelV y u) :
  KV (kvs.map fun kv=>if kv.1=k then(kv.1,y)else kv) (vs.map fun kv=>if kv.1=k then(kv.1,u)else kv):=by
 unfold KV at r ⊢;induction r with
 | nil=>exact .nil
 | @cons p q ps qs h t ih =>
  rw[bR,bR];refine .cons ?_ ih;obtain⟨h1,h2⟩:=h;by_cases e:p.1=k
  ·rw[if_pos e,if_pos (h1.symm.trans e)];exact⟨h1,ry⟩
  ·rw[if_neg e,if_neg (fun z=>e (h1.trans z))];exact⟨h1,h2⟩
theorem KV.put{kvs:List (κ×V)}{vs:List (κ×aj)}(r:KV kvs vs)(k:κ){y:V}{u:aj}(ry:RelV y u):KV (MU kvs k y) (stored vs k u):=by
 unfold MU stored;rw[r.any k];by_cases e:(vs.any fun kv=>decide (kv.1=k))=true
 ·rw[if_pos e,if_pos e];exact r.aaZ k ry
 ·rw[if_neg e,if_neg e];exact Paired.snoc r ⟨rfl,ry⟩
theorem KV.length{kvs:List (κ×V)}{vs:List (κ×aj)}(r:KV kvs vs):kvs.length=vs.length:=vW r
end
theorem Jr{P:bJ}{w:aW}{k:cy}{u:aj}(r:RelV (kV k) u):(fJ P w).is k u=true:=by
 cases k with
 | inl i=>obtain⟨t,e⟩:=(show ∃t,u=Value.int i t from r);subst e;exact yN P w i t
 | inr x=>obtain⟨t,e⟩:=(show ∃t,u=Value.str x t from r);subst e;exact yO P w x t
theorem uV{P:bJ}{w:aW}:∀{ks:List cy} {us:cb},Vals (ks.map kV) us->ItemsAre (fJ P w) ks us
 | [],_,r=>by rw[qR]at r;cases r;exact .nil
 | k::ks,_,r=>by
  rw[bR]at r;cases r with
  | cons h t=>exact .cons (Jr h) (uV t)
section
variable {P:bJ} {w:aW} {H:Hp} {h:Heap} {a:ae}
theorem P9{u:HO}(ok:nZ P w H h)(e:Rd H a u):fg P w H h a u:=e.ok ok
theorem Qa{kvs:List (cy×V)}(ok:nZ P w H h)(e:Rd H a (.dK kvs)):kvs.length<=sizeLine/\(a==sysModules)=false/\∃vs,KV kvs vs/\h.DictOf (fJ P w) a vs :=
 show fg P w H h a (.dK kvs)from P9 ok e
theorem VP{kvs:List (cy×V)}(ok:nZ P w H h)(e:H a=some (.dK kvs)):kvs.length<=sizeLine/\(a==sysModules)=false/\∃vs,KV kvs vs/\h.DictOf (fJ P w) a vs:=Qa ok (.inl e)
end
section
variable {X:Cx} {ag:List (ae×Obj)} {σ:St} {H:Hp} {s:aw} {a b:ae} {k:List cy} {v:V} {r:aj} {A:bY} {E:cS} {xs:List (List cy×ae×aj)}
def oI(K:ak)(H:Hp)(xs:List (List cy×ae×aj)):Prop:=∀x∈xs,jm K H x.2.1 (x.1.map kV)
theorem key_is(I:Inv X ag σ H s)(e:jm X.K H a (k.map kV)):(tupleKind (fJ X.prog X.w)).is s.heap k a:=by
 obtain⟨aY,r,⟨o,h1,h2,n,h3⟩,_⟩:=I.tuple e;exact⟨o,aY.toArray,n,h1,h2,h3,by simpa using uV r⟩
theorem Qb(I:Inv X ag σ H s)(e:Rd H a (.dT xs))(hk:oI X.K H xs):xs.length<=sizeLine/\(a==sysModules)=false/\s.heap.DictOfH (tupleKind (fJ X.prog X.w)) a xs:=by
 obtain⟨z,y,o,es,ep,h1,h2,h3,h4,h5⟩:=(show fg X.prog X.w H s.heap a (.dT xs)from P9 I.hok e)
 exact⟨z,y,o,es,ep,h1,h2,h3,h4,fun x hx=>key_is I (hk x hx),h5⟩
theorem VQ{Q:cS}(hu:A.units+1<cLine)(I:Inv X ag σ H s)(e:Rd H a (.dT xs))(hk:oI X.K H xs)(eb:jm X.K H b (k.map kV)) (h:∀s',Inv X ag σ H s'->Q (.bool (!(atKey xs k).isSome)) s') :
  wpAny (model X.prog X.w) A (compareOp .NotIn (.ref b) (.ref a)) Q E s:=by
 obtain⟨_,hd,dd⟩:=Qb I e hk;exact wpAny_notIn_heap (tupleKind_room_in1 hu) (key_is I eb) hd dd (h _ (I.tok _))
theorem Cm{κ:Type} [DecidableEq κ] (xs:List (κ×ae×aj)) (k:κ) (a:ae) (v:aj):(storedH xs k a v).length<=xs.length+1:=by
 unfold storedH;split
 ·rw[aC];lia
 ·rw[bK];exact bh _
theorem RZ{Q:Unit->aw->Prop}(hu:A.units+1<cLine)(I:Inv X ag σ H s)(e:H a=some (.dT xs))(hk:oI X.K H xs)(eb:jm X.K H b (k.map kV))(hl:xs.length<sizeLine)
  (h:∀s',Inv X ag σ (dX H a (.dT (storedH xs k b r))) s'->Q () s'):wpAny (model X.prog X.w) A (setItem (.ref a) (.ref b) r) Q E s:=by
 obtain⟨_,hd,dd⟩:=Qb I (.inl e) hk;refine wpAny_setItem_heap (hsz:=me hl) (tupleKind_room_in1 hu) (key_is I eb) dd fun h' YK hs=>h _ ?_
 obtain⟨q,es,ep,hq,h2,h3,h4,_,h5⟩:=YK;have hz:(storedH xs k b r).length<=sizeLine:=by have:=Cm xs k b r;lia
 exact I.write (x:=a) (e:=a) (by rw[e];exact True.intro) (.inl rfl) (fun c q' hc z=>(hs.2 c hc).trans z) ⟨q,hq⟩ ⟨hz,hd,q,es,ep,hq,h2,h3,h4,h5⟩
theorem y1(I:Inv X ag σ H s):sysModules<s.heap.objs.size:=Nat.lt_trans (by decide) (show mainGlobals<s.heap.objs.size from(I.mod.glob.keeps I.bk).lt)
def Js(o:HO):TE:=fun _ H Q=>∀p,H p=none->Q (.ref p) (dX H p o)
theorem MV{pos:Pos}:PE X (.Dict [] [] pos) (Js (.dT [])):=fun ag s σ H Q I h =>
 wpAny_Dict_empty ⟨.ref s.heap.objs.size,_,I.laid (a:=s.heap.objs.size) (o:=.dT []) (t':=s.toks) (fun _ _ q=>cx _ q) (bh _)
  ⟨gn _,qH.mpr (er (cI (y1 I))),_,#[],0,dZ _ rfl,⟨rfl,rfl,rfl⟩,rfl,rfl,vV⟩,rfl,h _ (I.hok.fresh (bh _))⟩
theorem F7{κ:Type} [DecidableEq κ] (xs:List (κ×ae×aj)) (k:κ):(atKey xs k).isSome=(xs.map (·.1)).any fun j=>decide (j=k):=by
 unfold atKey;rw[BD,List.any_map,List.isSome_find?];rfl
end
def UD(CX:DR)(P:bJ)(w:aW)(K:ak)(mg:dM)(base:Heap)(N:List Str)(qual:Str)(scope:Scope)(f:ae)(cd:aj)(cl:List (Str×ae))(A:bY)(outer:List Env)(s:aw)(H:Hp)(E:XK):Cx where
 prog:=P
 w:=w
 K:=K
 mg:=mg
 base:=base
 A:=A.deeper (W.envX qual scope s.heap.objs.size f cd cl)
 N:=N
 s₀:=s
 H₀:=H
 env:=W.envX qual scope s.heap.objs.size f cd cl
 outer:=outer
 stack:=W.envX qual scope s.heap.objs.size f cd cl::outer
 ex:=[]
 calm:=true
 fn:=fun _=>false
 pn:=[]
 xe:=fun e s'=>wpAny (model P w) (A.deeper (W.envX qual scope s.heap.objs.size f cd cl)) (leaving (W.envX qual scope s.heap.objs.size f cd cl) e) (fun _ MK=>CX outer H s E e MK) (fun e' MK=>CX outer H s E e' MK) s'
structure ky (h:Heap) (H:Hp) (scope:Scope) (cl:List (Str×ae)) (N:List Str) (τ:St):Prop where
 inj:∀x y c,cl.lookup x=some c->cl.lookup y=some c->x=y
 has:∀x,scope.names.lookup x=some .free->∃c,cl.lookup x=some c
 cell:∀x c,cl.lookup x=some c->∃v,h.IsCell c v
 free:∀x c,cl.lookup x=some c->H c=none
 val:∀(i:Nat) (x:Str) (v:V),N[i]?=some x->τ[i]?=some (some v)->∃c u,scope.names.lookup x=some .free/\cl.lookup x=some c/\h.IsCell c (some u)/\RelV v u
 len:τ.length=N.length
theorem ky.un{h h':Heap}{H H':Hp}{scope:Scope}{cl:List (Str×ae)}{N:List Str}{τ:St}{fs:List ae}(C:ky h H scope cl N τ)(u:Un fs [] H H' h h'):ky h' H' scope cl N τ where
 inj:=C.inj
 has:=C.has
 cell:=fun x c e=>by
  obtain⟨v,o,ho,hd⟩:=C.cell x c e;obtain⟨sl,q⟩:=u.any ho (C.free x c e) (by simp)
  exact⟨v,_,q,hd⟩
 free:=fun x c e=>by
  obtain⟨v,o,ho,hd⟩:=C.cell x c e;exact u.free c o ho (C.free x c e) (by simp)
 val:=fun i x v e1 e2=>by
  obtain⟨c,w,k,e,⟨o,ho,hd⟩,r⟩:=C.val i x v e1 e2;obtain⟨sl,q⟩:=u.any ho (C.free x c e) (by simp)
  exact⟨c,w,k,e,⟨_,q,hd⟩,r⟩
 len:=C.len
theorem MW{CX:DR}{P:bJ}{w:aW}{K:ak}{mg:dM}{base:Heap}{N:List Str}{x qual:Str}{scope:Scope}{f:ae}{cd:aj}{cl:List (Str×ae)}{A:bY}{outer:List Env}{s:aw}{H:Hp}{E:XK}{u:aj}{v:V}{τ:St}{h1:Heap}{tk:Nat}
  (hk:scope.kind=.function) (hx:scope.names.lookup x=some .local) (nc:∀y∈scope.names,y.2≠.cell) (hd:A.handled=none) (e0:Cf P w K mg base A outer s H) (r:RelV v u) (C:ky s.heap H scope cl N τ)
  (F6:h1.Ns s.heap.objs.size fun y=>[(x,u)].reverse.lookup y) (YL:∀b o,s.heap.get? b=some o->h1.get? b=some o) :
  Inv (UD CX P w K mg base (x::N) qual scope f cd cl A outer s H E) [] (some v::τ) H {s with heap:=h1,toks:=tk}:=by
 have noA:∀b:ae,b∉(UD CX P w K mg base (x::N) qual scope f cd cl A outer s H E).ex:=fun b z=>absurd (show b∈([]:List ae)from z) (by simp)
 refine⟨⟨e0.mod,hk,rfl,rfl,bh _,C.inj,fun y hy=>?_,fun y c h _=>(by cases h),fun _=>hd,Around.frames_deeper e0.frames,.inr ⟨rfl,rfl⟩,fun b z=>absurd z (noA b),e0.bs,e0.bsz,fun b _ _=>noA b,fun b z=>absurd z (noA b),e0.funs,e0.frf,e0.tabs⟩,
  rfl,e0.bare,Un.kept YL,⟨_,F6,fun i y z h1 h2 h3=>?_⟩,fun y c h=>?_,e0.hok.fresh (bh _),fun y c h=>C.free y c h,fun p hp=>absurd (show p∈([]:List (ae×Obj))from hp) (by simp),e0.hok.kept YL,?_⟩
 ·have hy:scope.names.lookup y=some .cell\/scope.names.lookup y=some .free:=hy;rcases hy with hy | hy
  ·exact absurd rfl (nc _ (el hy))
  ·exact C.has y hy
 ·cases i with
  | zero =>
   have e1:x=y:=bD (show some x=some y from h1)
   have e2:v=z:=bD (bD (show some (some v)=some (some z)from h2))
   subst e1 e2;exact⟨u,r,.inl ⟨hx,by simp⟩⟩
  | succ i =>
   obtain⟨c,w',k,e,z',r'⟩:=C.val i y z (by simpa using (show(x::N)[i+1]?=some y from h1)) (by simpa using h2)
   exact⟨w',r',.inr ⟨.inr k,c,e,z'.keeps YL⟩⟩
 ·obtain⟨v,z⟩:=C.cell y c h;exact⟨v,z.keeps YL⟩
 ·show(some v::τ).length=(x::N).length;rw[bq,bq,C.len]
theorem MX{CX:DR}{P:bJ}{w:aW}{K:ak}{mg:dM}{base:Heap}{k:Nat}{N:List Str}{x name qual:Str}{params:Arguments}{body:aq}{scope:Scope}{f:ae}{pm dG F8:aj}{cl:List (Str×ae)}{A:bY}{outer:List Env}{s:aw}{H:Hp}{Q:VK}{E:XK}{u:aj}{v:V}{τ:St}{o:Obj}
  (ho:s.heap.get? f=some o) (hf:o.data=.func (W.kla_fn name qual params body scope cl pm dG F8)) (uB:s.heap.CodeRec dG qual) (hr:eI (k+1) A) (e0:Cf P w K mg base A outer s H)
  (hb:bindArgs (W.kla_fn name qual params body scope cl pm dG F8) ⟨[u],[]⟩=pure [(x,u)]) (r:RelV v u) (hk:scope.kind=.function) (VR:scope.isCoroutine=false) (R0:scope.isGenerator=false) (hx:scope.names.lookup x=some .local) (nc:∀y∈scope.names,y.2≠.cell)
  (C:ky s.heap H scope cl N τ) (hbody:∃t,PE (UD CX P w K mg base (x::N) qual scope f dG cl A outer s H E) body t/\t (some v::τ) H Q) :
  codeAny (model P w) A (.call (.ref f) ⟨[u],[]⟩) (CR CX outer P w H s Q E) s:=by
 have lim:s.heap.NoLimit:=e0.mod.nolimit.keeps fun b o e=>(e0.bs b o e).1
 refine W.kla_callFunE hr.depth ho hf VR R0 rfl uB ?_;rw[hb];refine aK (wpAny_newFunctionEnv nc (fun y hy=>?_) (fun F9 F6 hsb=>⟨lim.fresh _ hsb,?_⟩) hk)
 ·obtain rfl:y=(x,u):=by simpa using hy
  exact hx
 ·show codeAny _ _ (.expr body (W.envX qual scope s.heap.objs.size f dG cl)) _ _;obtain⟨t,ht,hq⟩:=hbody;have VS:∀b o,s.heap.get? b=some o->F9.get? b=some o:=fun b o e=>hsb.extBut b o (cI (bO e)) (cx _ e)
  have I:=MW (CX:=CX) (qual:=qual) (f:=f) (cd:=dG) (E:=E) (tk:=s.toks+1) hk hx nc hr.hd e0 r C F6 VS;refine W.kla_codeExpr (mh (ht [] _ _ H Q I hq) (fun u' s' hs=>?_) fun e s' hs=>hs)
  obtain⟨v',H',J,rv,q⟩:=hs;exact⟨v',H',J.os,J.bare,J.base,J.hok,rv,q⟩
theorem tZ{pos p:Pos}{c cv:aj}(l:cb)(h:TriplesOk l)(e:codeAmong p (l++[rawInt pos.line,rawInt pos.col,c])=some cv):codeAmong p l=some cv\/cv=c:=by
 fun_induction TriplesOk l with
 | case1 =>
  simp only[gE,codeAmong,rawInt]at e;split at e
  ·cases e;exact .inr rfl
  ·cases e
 | case2 a t b u x rest ih =>
  simp only[List.cons_append,codeAmong]at e ⊢;split at e
  ·rename_i hc;rw[if_pos hc];exact .inl e
  ·rename_i hc;rw[if_neg hc];exact ih h e
 | case3 l h1 h2=>exact h.elim
def wC:HO:=.ext fun _=>True
theorem Cn{P:bJ}{w:aW}{H:Hp}{h:Heap}{a:ae}{o:Obj}(e:h.get? a=some o):fg P w H h a (.lF o wC):=⟨e,trivial,⟨o,e⟩,fun _ _ _ _=>trivial⟩
def y2(mg:dM)(base:Heap):Prop:=∃bm o,mg "__builtins__"=some (.ref bm)/\bm≠builtinsNs/\bm≠mainGlobals/\base.get? bm=some o/\o.cls=.type "module"/\o.dict=some builtinsNs/\o.data=.plain
def Jt(H:Hp)(f:ae)(qual:Str)(params:Arguments)(body:aq)(scope:Scope)(cl:List (Str×ae)):Prop :=
 ∃o u pm dG F8 c oc uc vs t,H f=some (.lF o u)/\o.data=.func (W.kla_fn "<lambda>" qual params body scope cl pm dG F8)/\dG=.ref c/\H c=some (.lF oc uc)/\oc.data=.fields vs/\vs[1]?=some (.str qual t)
def aa0(qual:Str)(params:Arguments)(body:aq)(scope:Scope)(cl:List (Str×ae)):TE:=fun _ H Q=>∀f H',H f=none->Same H H'->(∀b o,H' b=some o->H b=some o\/H b=none)->Jt H' f qual params body scope cl->Q (.ref f) H'
section
variable {X:Cx} {x:Str} {params:Arguments} {body:aq} {scope:Scope} {lp:Pos} {cl:List (Str×ae)} {c T:ae}
theorem R6(hx:x∈d0)(ht:W.tabIn X.K x=some (c,T))(hC:W.codeHdIn X.K c T=true)(Qc:X.env.code=.ref c)(VT:X.env.qual++"<lambda>"=tV x)(hB:y2 X.mg X.base)
  (aa1:defaultsOf params X.env=([],[])) (hcl:closureFor scope X.env=pure cl):PE X (.Lambda params body scope lp) (aa0 (tV x) params body scope cl):=by
 intro ag s σ H Q I h;have hT:H T=some (.yu (tV x)):=I.tabs x hx c T ht;obtain⟨ps,hP,YM,Qd⟩:=(show fg X.prog X.w H s.heap T (.yu (tV x))from I.hok T _ hT)
 have C:W.CodeHd s.heap c T:=W.codeHd_of_K I.yo hC;have hg:s.heap.Ns mainGlobals X.mg:=I.mod.glob.keeps I.bk;obtain⟨bm,ob,b1,b2,b3,b4,b5⟩:=hB;have ne:∀{b:ae} {o:Obj},X.base.get? b=some o->b≠T:=fun {b o} e z=>by
  have:=(I.bs b o e).2;rw[z,hT]at this;cases this
 have hgT:mainGlobals≠T:=by
  obtain⟨o,es,ep,e,_⟩:=I.mod.glob;exact ne e
 refine W.kla_eval aa1 ?_;rw[VT];cases hc:codeAmong lp ps.toList with
 | some cv =>
  obtain⟨cc,oc,uc,vs,t,rfl,k1,k2,k3⟩:=Qd lp cv hc;refine W.kla_makeFunctionHit (mg:=X.mg) hcl I.ok.glob hg Qc C hP YM hc ⟨bm,ob,b1,b2,b3,ne b4,(I.bs _ _ b4).1,b5⟩ fun F8 h' tk hk hsz=>?_
  have hn:H h'.objs.size=none:=I.hok.fresh hsz;refine⟨.ref h'.objs.size,dX H h'.objs.size (.lF _ wC),I.laid (t':=tk) (fun b u e=>cx _ (hk b u e)) hsz (Cn (dZ _ rfl)),rfl,h _ _ hn (fun b u e=>by rw[aR (ne_of_none e hn)];exact e) (fun b o e=>?_) ?_⟩
  ·by_cases hb:b=h'.objs.size
   ·rw[hb];exact .inr hn
   ·rw[aR hb]at e;exact .inl e
  ·exact⟨_,_,_,_,_,cc,oc,uc,vs,t,aX,rfl,rfl,by rw[aR (ne_of_none k1 hn)];exact k1,k2,k3⟩
 | none =>
  refine W.kla_makeFunction (mg:=X.mg) hcl I.ok.glob hg Qc C hP YM hc hgT ⟨bm,ob,b1,b2,b3,ne b4,(I.bs _ _ b4).1,b5⟩ fun c' F8 h' tk Ga R7 eM aa2 htb=>?_
  obtain⟨aeX,oc,vs,t,e2,Yz,hd,hv⟩:=aa2;cases e2;have YN:H c'=none:=I.hok.fresh R7;have R8:H h'.objs.size=none:=I.hok.fresh (cF R7 (me eM));have nfc:h'.objs.size≠c':=qQ eM;have cT:c'≠T:=fun z=>by rw[z,hT]at YN;cases YN
  have fT:h'.objs.size≠T:=fun z=>by rw[z,hT]at R8;cases R8
  let o1:HO:=.lF oc wC
  let H1:Hp:=dX H c' o1
  have hn1:H1 h'.objs.size=none:=by show dX H c' o1 _=_;rw[aR nfc];exact R8
  let fo:Obj:=W.kla_obj "<lambda>" (tV x) params body scope cl ((X.mg "__name__").getD .none) c' F8
  let H2:Hp:=dX H1 h'.objs.size (.lF fo wC)
  have Qe:Same H H1:=fun b u e=>by show dX H c' o1 b=_;rw[aR (ne_of_none e YN)];exact e
  have s12:Same H1 H2:=fun b u e=>by show dX H1 _ _ b=_;rw[aR (ne_of_none e hn1)];exact e
  have keep:∀b o,b≠T->s.heap.get? b=some o->(h'.push fo).get? b=some o:=fun b o hb e=>cx _ (Ga b o hb e)
  have nT:∀b,H b=none->b≠T:=fun b n z=>by rw[z,hT]at n;cases n
  have lt:∀b o,s.heap.get? b=some o->b<s.heap.objs.size:=fun b o e=>bO e
  have hf2:∀b o,s.heap.get? b=some o->H b=none->H2 b=none:=fun b o e n=>by
   show dX (dX H c' o1) _ _ b=none;have l1:=lt b o e;rw[aR (cI (cQ l1 (cF R7 (me eM)))),aR (cI (cQ l1 R7))];exact n
  have un:Un X.fs [] H H2 s.heap (h'.push fo):=⟨fun b o e n _ _=>keep b o (nT b n) e,fun b o e n _ _=>⟨o.slots,keep b o (nT b n) e⟩,fun b o e n _=>hf2 b o e n,fun b o e _=>by
    by_cases hb:b=T
    ·subst hb;exact⟨_,cx _ htb⟩
    ·exact⟨o,keep b o hb e⟩,fun b xs e=>s12 _ _ (Qe _ _ e),fun b o u e=>s12 _ _ (Qe _ _ e),fun b q e=>s12 _ _ (Qe _ _ e)⟩
  have hok:nZ X.prog X.w H2 (h'.push fo):=fun b u e=>by
   by_cases Qf:b=h'.objs.size
   ·subst Qf;have e:dX H1 h'.objs.size (.lF fo wC) h'.objs.size=some u:=e;rw[aX]at e;cases e;exact Cn (dZ _ rfl)
   ·have e:dX H1 h'.objs.size (.lF fo wC) b=some u:=e;rw[aR Qf]at e;by_cases VU:b=c'
    ·subst VU;have e:dX H b o1 b=some u:=e;rw[aX]at e;cases e;exact Cn (cx _ Yz)
    ·have e:dX H c' o1 b=some u:=e;rw[aR VU]at e;by_cases hbT:b=T
     ·subst hbT;rw[hT]at e;cases e;refine⟨_,cx _ htb,?_,fun pos cv z=>?_⟩
      ·simpa using TriplesOk_snoc lp.line lp.col (.ref c') ps.toList YM
      ·rcases tZ (pos:=lp) ps.toList YM (by simpa using z)with z | z
       ·obtain⟨cc,oc',uc,R9,t',q1,q2,q3⟩:=Qd pos cv z;exact⟨cc,oc',uc,R9,t',q1,s12 _ _ (Qe _ _ q2),q3⟩
       ·exact⟨c',oc,wC,vs,t,z,s12 _ _ (by show dX H c' o1 c'=_;exact aX),hd,hv⟩
     ·refine(I.hok b u e).yP (fun d v yE q=>keep d v ?_ q) (fun d q=>s12 _ _ (Qe _ _ q)) (fun d xs q=>s12 _ _ (Qe _ _ q)) fun d ob' v q=>s12 _ _ (Qe _ _ q)
      rcases yE with rfl | yE
      ·exact hbT
      ·rintro rfl
       rw[hT]at yE;cases yE
  refine⟨.ref h'.objs.size,H2,I.un (t':=tk) un hok,rfl,h _ _ R8 (Qe.trans s12) (fun b o e=>?_) ?_⟩
  ·by_cases Qf:b=h'.objs.size
   ·rw[Qf];exact .inr R8
   ·have e:dX H1 h'.objs.size (.lF fo wC) b=some o:=e;rw[aR Qf]at e;by_cases VU:b=c'
    ·rw[VU];exact .inr YN
    ·have e:dX H c' o1 b=some o:=e;rw[aR VU]at e;exact .inl e
  ·exact⟨_,_,_,_,_,c',oc,wC,vs,t,(show dX H1 _ _ _=_ from aX),rfl,rfl,s12 _ _ (show dX H c' o1 c'=_ from aX),hd,hv⟩
end
theorem VV{CX:DR}{P:bJ}{w:aW}{K:ak}{mg:dM}{base:Heap}{k:Nat}{f:ae}{x qual:Str}{st:aE}{fd:dQ}{N ps:List Str}(Fn:BS K x qual st f fd)(S:dW N ps (aM st))
  {A:bY} {outer:List Env} {s:aw} {H:Hp} {args:Args} {us:cb} {vs:List V} {Q:VK} {E:XK} (hr:eI (k+1) A) (e0:Cf P w K mg base A outer s H) (hb:BindsTo s fd args (ps.zip us)) (r:Vals vs us) (hl:vs.length=ps.length)
  (hbody:∀dG:aj,∃t,oD (ly CX P w K mg base N qual (aM st) f dG A outer s H E) (dz st) t/\t {nx:=fun _ H'=>Q .cG H',rt:=Q} (start N vs) H) :
  codeAny (model P w) A (.call (.ref f) args) (CR CX outer P w H s Q E) s:=by
 obtain⟨oc,od,kV,doc,pm,an,dG,ct,tQ,rfl,lk,uB⟩:=Fn.ex;have old:∀b o,base.get? b=some o->s.heap.get? b=some o:=fun b o e=>(e0.bs b o e).1
 have KX:K.In s.heap:=e0.mod.kin.keeps old;have VW:∀y∈ps.zip us,(aM st).names.lookup y.1=some .local\/((aM st).names.lookup y.1=some .cell/\((cellsFrom (s.heap.objs.size+1) (aM st).names []).lookup y.1).isSome=true):=fun y hy=>by
  rcases S.par y.1 (vT (a:=y.1) (b:=y.2) hy).1 with q | q
  ·exact .inl q
  ·exact .inr ⟨q,W.cellsFrom_some _ _ _ (.inl q)⟩
 refine codeAny_call_function hr.depth (KX _ _ lk) rfl S.co S.gen rfl (W.codeRec_of KX uB) (hb _ _ _ _ (Ie S.kind VW fun env he s1 ic=>?_))
 subst he;refine⟨(e0.mod.nolimit.keeps old).keeps ic.toInCall.keep,codeAny_func ?_⟩;obtain⟨t,ht,hq⟩:=hbody dG;have I:Inv (ly CX P w K mg base N qual (aM st) f dG A outer s H E) [] (start N vs) H s1:=uS S hr.hd e0 hl r ic;refine mh (ht [] s1 (start N vs) H _ I hq) (fun fl s' hs=>?_) fun e s' hs=>hs
 have fin:∀{cn:St} {H':Hp} {v:V} {u:aj},Inv (ly CX P w K mg base N qual (aM st) f dG A outer s H E) [] cn H' s'->RelV v u->Q v H'->CE outer P w H s Q u s':=fun {_ H' v _} J rv q=>⟨v,H',J.os,J.bare,J.base,J.hok,rv,q⟩
 cases fl with
 | ret u=>obtain⟨v,cn,H',J,rv,q⟩:=hs;exact fin J rv q
 | next=>obtain⟨cn,H',J,q⟩:=hs;exact fin (v:=V.cG) (u:=Value.none) J rfl q
 | brk=>obtain⟨_,_,_,q⟩:=hs;exact False.elim q
 | cont=>obtain⟨_,_,_,q⟩:=hs;exact False.elim q
end L2
namespace L2.PL
open PySem PySem.Spec PyProof.Rows
section
variable {K:ak} {F F' H H':Hp}
theorem bA(e:Same H H'){a:ae}{xs:List V}(h:jm K H a xs):jm K H' a xs:=by
 rcases h with(h | ⟨o,h⟩) | h
 ·exact .inl (.inl (e _ _ h))
 ·exact .inl (.inr ⟨o,e _ _ h⟩)
 ·exact .inr h
theorem MY(e:Same H H'){a:ae}{u:HO}(h:Rd H a u):Rd H' a u:=h.imp (e _ _) fun⟨o,q⟩=>⟨o,e _ _ q⟩
theorem b0(e:Same H H'){a:ae}{xs:List V}(h:qj K H a xs):qj K H' a xs:=h.imp (MY e) id
theorem _root_.L2.qj.of{a:ae}{xs:List V}(h:H a=some (.au xs)):qj K H a xs:=.inl (.inl h)
mutual
theorem c9.mono(e:Same F F'):∀{p:PV} {v:V},c9 K F p v->c9 K F' p v
 | .cG,_,h=>by simp only[c9]at h ⊢;exact h
 | .bl _,_,h=>by simp only[c9]at h ⊢;exact h
 | .int _,_,h=>by simp only[c9]at h ⊢;exact h
 | .str _,_,h=>by simp only[c9]at h ⊢;exact h
 | .aB ps,_,h=>by
  simp only[c9]at h ⊢;obtain⟨a,vs,rfl,hs,hb⟩:=h;exact⟨a,vs,rfl,bA e hs,bt.mono e hb⟩
 | .au ps,_,h=>by
  simp only[c9]at h ⊢;obtain⟨a,vs,rfl,hs,hb⟩:=h;exact⟨a,vs,rfl,b0 e hs,bt.mono e hb⟩
theorem bt.mono(e:Same F F'):∀{ps:List PV} {vs:List V},bt K F ps vs->bt K F' ps vs
 | [],_,h=>by simp only[bt]at h ⊢;exact h
 | p::ps,_,h=>by
  simp only[bt]at h ⊢;obtain⟨v,r,rfl,h1,h2⟩:=h;exact⟨v,r,rfl,c9.mono e h1,bt.mono e h2⟩
end
theorem bt.ck{p:PV}{ps:List PV}{vs:List V}(h:bt K F (p::ps) vs):∃v r,vs=v::r/\c9 K F p v/\bt K F ps r:=by
 simpa only[bt]using h
theorem bt.cf{vs:List V}(h:bt K F [] vs):vs=[]:=by simpa only[bt]using h
theorem bt.length:∀{ps:List PV} {vs:List V},bt K F ps vs->ps.length=vs.length
 | [],_,h=>by rw[h.cf];rfl
 | _::_,_,h=>by
  obtain⟨v,r,rfl,_,t⟩:=h.ck;rw[bq,bq,bt.length t]
theorem bt.append:∀{ps qs:List PV} {vs ws:List V},bt K F ps vs->bt K F qs ws->bt K F (ps++qs) (vs++ws)
 | [],_,_,_,h,h'=>by rw[h.cf];exact h'
 | _::_,_,_,_,h,h'=>by
  obtain⟨v,r,rfl,hv,t⟩:=h.ck;exact .cons hv (bt.append t h')
theorem bt.get:∀{ps:List PV} {vs:List V} {i:Nat} {p:PV},bt K F ps vs->ps[i]?=some p->∃v,vs[i]?=some v/\c9 K F p v
 | [],_,_,_,_,e=>by simp at e
 | _::_,_,0,_,h,e=>by
  obtain⟨v,r,rfl,hv,t⟩:=h.ck;simp at e;subst e;exact⟨v,rfl,hv⟩
 | _::_,_,i+1,p,h,e=>by
  obtain⟨v,r,rfl,hv,t⟩:=h.ck;obtain⟨w,h1,h2⟩:=bt.get (i:=i) (p:=p) t (by simpa using e)
  exact⟨w,by simpa using h1,h2⟩
theorem bt.VX:∀{ps:List PV} {vs:List V} {i:Nat} {v:V},bt K F ps vs->vs[i]?=some v->∃p,ps[i]?=some p/\c9 K F p v
 | [],_,_,_,h,e=>by rw[h.cf]at e;simp at e
 | p::_,_,0,_,h,e=>by
  obtain⟨v,r,rfl,hv,t⟩:=h.ck;simp at e;subst e;exact⟨p,rfl,hv⟩
 | _::_,_,i+1,w,h,e=>by
  obtain⟨v,r,rfl,hv,t⟩:=h.ck;obtain⟨p,h1,h2⟩:=bt.VX (i:=i) (v:=w) t (by simpa using e)
  exact⟨p,by simpa using h1,h2⟩
theorem bt.take:∀{ps:List PV} {vs:List V} (n:Nat),bt K F ps vs->bt K F (ps.take n) (vs.take n)
 | _,_,0,_=>by simp only[List.take_zero];exact .nil
 | [],_,_+1,h=>by rw[h.cf];exact .nil
 | _::_,_,n+1,h=>by
  obtain⟨v,r,rfl,hv,t⟩:=h.ck;exact .cons hv (bt.take n t)
theorem bt.drop:∀{ps:List PV} {vs:List V} (n:Nat),bt K F ps vs->bt K F (ps.drop n) (vs.drop n)
 | _,_,0,h=>h
 | [],_,_+1,h=>by rw[h.cf];exact .nil
 | _::_,_,n+1,h=>by
  obtain⟨v,r,rfl,hv,t⟩:=h.ck;exact bt.drop n t
theorem bt.reverse:∀{ps:List PV} {vs:List V},bt K F ps vs->bt K F ps.reverse vs.reverse
 | [],_,h=>by rw[h.cf];exact .nil
 | _::_,_,h=>by
  obtain⟨v,r',rfl,hv,t⟩:=h.ck;rw[vP,vP];exact(bt.reverse t).append (.cons hv .nil)
theorem bB{ps:List PV}{v:V}:c9 K F (.au ps) v↔∃a vs,v=.ref a/\qj K F a vs/\bt K F ps vs:=by simp only[c9]
end
inductive Dk where
 | t (kvs:List (List cy×PV)) | k (kvs:List (cy×PV))
section
variable (K:ak) (F H:Hp)
def MZ:List (List cy×PV)->List (List cy×ae×aj)->Prop:=Paired fun p q=>p.1=q.1/\jm K F q.2.1 (p.1.map kV)/\∃v,c9 K F p.2 v/\RelV v q.2.2
def y3:List (cy×PV)->List (cy×V)->Prop:=Paired fun p q=>p.1=q.1/\c9 K F p.2 q.2
def ng(a:ae):Dk->Prop
 | .t kvs=>∃xs,H a=some (.dT xs)/\MZ K F kvs xs
 | .k kvs=>∃vs,H a=some (.dK vs)/\y3 K F kvs vs
end
section
variable {K:ak} {F F' H H':Hp}
theorem MZ.mono(e:Same F F'){kvs:List (List cy×PV)}{xs:List (List cy×ae×aj)}(h:MZ K F kvs xs):MZ K F' kvs xs:=Paired.Ra h fun _ _ ⟨h1,h2,v,h3,h4⟩=>⟨h1,bA e h2,v,h3.mono e,h4⟩
theorem y3.mono(e:Same F F'){kvs:List (cy×PV)}{xs:List (cy×V)}(h:y3 K F kvs xs):y3 K F' kvs xs:=Paired.Ra h fun _ _ ⟨h1,h2⟩=>⟨h1,h2.mono e⟩
theorem ng.to{a:ae}{m:Dk}(h:ng K F H a m)(e:Same F F')(k:H' a=H a):ng K F' H' a m:=by
 cases m with
 | t kvs=>obtain⟨xs,h1,h2⟩:=h;exact⟨xs,k.trans h1,h2.mono e⟩
 | k kvs=>obtain⟨xs,h1,h2⟩:=h;exact⟨xs,k.trans h1,h2.mono e⟩
theorem ng.obj{a:ae}{m:Dk}(h:ng K F H a m):∃o,H a=some o/\(∀xs,o≠.au xs):=by
 cases m with
 | t kvs=>obtain⟨xs,h1,h2⟩:=h;exact⟨_,h1,fun _ z=>nomatch z⟩
 | k kvs=>obtain⟨xs,h1,h2⟩:=h;exact⟨_,h1,fun _ z=>nomatch z⟩
theorem ng.mono{a:ae}{m:Dk}(h:ng K F H a m)(e:Same F F')(k:Same H H'):ng K F' H' a m:=by
 obtain⟨o,h1,_⟩:=h.obj;exact h.to e ((k _ _ h1).trans h1.symm)
end
inductive Fd where
 | pv (p:PV) | dc (es:List (Str×PV))
inductive Ob where
 | rcd (fs:List (Str×Fd)) | fn (x:Str) | HR (m:Dk)
section
variable (K:ak) (F:Hp)
def Gb:List (Str×PV)->List (cy×V)->Prop
 | [],vs=>vs=[]
 | (k,p)::es,vs=>∃v r,vs=(Sum.inr k,v)::r/\c9 K F p v/\Gb es r
def M0:Fd->V->Prop
 | .pv p,v=>c9 K F p v
 | .dc es,v=>∃d vs,v=.ref d/\F d=some (.dK vs)/\Gb K F es vs
def Co:List (Str×Fd)->List (Str×V)->Prop
 | [],vs=>vs=[]
 | (f,d)::es,vs=>∃v r,vs=(f,v)::r/\M0 K F d v/\Co es r
def za:Ob->ae->Prop
 | .rcd fs,a=>∃C dx vs,Uw K C/\(∀f∈fs,oA K C f.1)/\F a=some (.QY C dx vs)/\Co K F fs vs
 | .fn x,a=>W.nsIn K mainGlobals x=some (some (.ref a))
 | .HR m,a=>ng K F F a m
end
section
variable {K:ak} {F F':Hp}
theorem Gb.mono(e:Same F F'):∀{es:List (Str×PV)} {vs:List (cy×V)},Gb K F es vs->Gb K F' es vs
 | [],_,h=>h
 | (_,_)::_,_,⟨v,r,h1,h2,h3⟩=>⟨v,r,h1,h2.mono e,Gb.mono e h3⟩
theorem M0.mono(e:Same F F'):∀{d:Fd} {v:V},M0 K F d v->M0 K F' d v
 | .pv _,_,h=>c9.mono e h
 | .dc _,_,⟨d,vs,h1,h2,h3⟩=>⟨d,vs,h1,e _ _ h2,h3.mono e⟩
theorem Co.mono(e:Same F F'):∀{es:List (Str×Fd)} {vs:List (Str×V)},Co K F es vs->Co K F' es vs
 | [],_,h=>h
 | (_,_)::_,_,⟨v,r,h1,h2,h3⟩=>⟨v,r,h1,h2.mono e,Co.mono e h3⟩
theorem za.mono(e:Same F F'):∀{o:Ob} {a:ae},za K F o a->za K F' o a
 | .rcd _,_,⟨C,dx,vs,h1,h2,h3,h4⟩=>⟨C,dx,vs,h1,h2,e _ _ h3,h4.mono e⟩
 | .fn _,_,h=>h
 | .HR _,_,h=>ng.mono h e e
end
inductive Ent where
 | un | val (p:PV) | own (ps:List PV) | ex (C:Str) | ob (o:Ob) | eW (m:Dk)
abbrev fV:=Str->List PV->Option Ent
abbrev bX:=List Ent->Option (List PV)
abbrev eX:=PV->List Ent->Option (List Ent)
abbrev eP:=List Ent->Option Bool
abbrev az:=List PV
abbrev aF:=List Ent
abbrev dA:=Option Ent
abbrev bU:=Option PV
structure da (K:ak) (H₀ ab F:Hp) (ρ:aF) (σ:St) (H:Hp):Prop where
 sub:Same F H
 keep:Same H₀ H
 base:Same ab F
 fresh:∀a o,F a=some o->ab a=some o\/H₀ a=none
 val:∀(i:Nat) (p:PV),ρ[i]?=some (.val p)->∃v,σ[i]?=some (some v)/\c9 K F p v
 own:∀(i:Nat) (ps:az),ρ[i]?=some (.own ps)->∃a vs,σ[i]?=some (some (.ref a))/\H a=some (.au vs)/\H₀ a=none/\F a=none/\bt K F ps vs
 apart:∀(i j:Nat) (ps qs:az) (a:ae),ρ[i]?=some (.own ps)->ρ[j]?=some (.own qs)->σ[i]?=some (some (.ref a))->σ[j]?=some (some (.ref a))->i=j
 obs:∀(i:Nat) (o:Ob),ρ[i]?=some (.ob o)->∃a,σ[i]?=some (some (.ref a))/\za K F o a
 eW:∀(i:Nat) (m:Dk),ρ[i]?=some (.eW m)->∃a,σ[i]?=some (some (.ref a))/\ng K F H a m/\H₀ a=none/\F a=none
 len:ρ.length=σ.length
section
variable {K:ak} {H₀ ab F F' H H':Hp} {ρ:aF} {σ:St}
theorem da.after(R:da K H₀ ab F ρ σ H)(h:Same H H')(f:Same F F')(s:Same F' H')(n:∀a o,F' a=some o->F a=some o\/H a=none):da K H₀ ab F' ρ σ H' where
 sub:=s
 keep:=R.keep.trans h
 base:=R.base.trans f
 fresh:=fun a o e=>by
  rcases n a o e with q | q
  ·exact R.fresh a o q
  ·exact .inr (R.keep.free q)
 val:=fun i p e=>let ⟨v,h1,h2⟩:=R.val i p e;⟨v,h1,h2.mono f⟩
 own:=fun i ps e=>by
  obtain⟨a,vs,h1,h2,h3,h4,h5⟩:=R.own i ps e;refine⟨a,vs,h1,h _ _ h2,h3,?_,h5.mono f⟩;cases q:F' a with
  | none=>rfl
  | some o =>
   rcases n a o q with z | z
   ·rw[h4]at z;cases z
   ·rw[h2]at z;cases z
 apart:=R.apart
 obs:=fun i o e=>let ⟨a,h1,h2⟩:=R.obs i o e;⟨a,h1,h2.mono f⟩
 eW:=fun i m e=>by
  obtain⟨a,h1,h2,h3,h4⟩:=R.eW i m e;refine⟨a,h1,h2.mono f h,h3,?_⟩;obtain⟨ob,h5,_⟩:=h2.obj;cases q:F' a with
  | none=>rfl
  | some o =>
   rcases n a o q with z | z
   ·rw[h4]at z;cases z
   ·rw[h5]at z;cases z
 len:=R.len
theorem dI{p:ae}{o:HO}(h:H p=none):Same H (dX H p o):=fun b u q=>by rw[aR (ne_of_none q h)];exact q
theorem da.laid(R:da K H₀ ab F ρ σ H){p:ae}(o:HO)(hp:H p=none):da K H₀ ab (dX F p o) ρ σ (dX H p o)/\Same F (dX F p o):=by
 have fp:F p=none:=R.sub.free hp;refine⟨R.after (dI hp) (dI fp) (fun b u q=>?_) (fun b u q=>?_),dI fp⟩
 ·by_cases hb:b=p
  ·subst hb;rw[aX]at q ⊢;exact q
  ·rw[aR hb]at q ⊢;exact R.sub _ _ q
 ·by_cases hb:b=p
  ·subst hb;exact .inr hp
  ·rw[aR hb]at q;exact .inl q
theorem da.Ju(R:da K H₀ ab F ρ σ H){p:ae}(o:HO)(hp:H p=none):da K H₀ ab F ρ σ (dX H p o) :=
 R.after (dI hp) (Same.refl F) (R.sub.trans (dI hp)) fun _ _ q=>.inl q
end
abbrev FE:=aF->bU
def tE(K:ak)(H₀ ab:Hp)(f:FE):TE:=fun σ H Q=>∃F ρ p,da K H₀ ab F ρ σ H/\f ρ=some p/\∀v H' F',da K H₀ ab F' ρ σ H'->Same F F'->c9 K F' p v->Q v H'
def tT(K:ak)(H₀ ab:Hp)(f:eP):TT:=fun σ H Q=>∃F ρ b,da K H₀ ab F ρ σ H/\f ρ=some b/\∀H' F',da K H₀ ab F' ρ σ H'->Same F F'->Q b H'
def tA(K:ak)(H₀ ab:Hp)(f:bX):TA:=fun σ H Q=>∃F ρ ps,da K H₀ ab F ρ σ H/\f ρ=some ps/\∀vs H' F',da K H₀ ab F' ρ σ H'->Same F F'->bt K F' ps vs->Q vs H'
def tF(K:ak)(H₀ ab:Hp)(f:bX):TE:=fun σ H Q=>∃F ρ ps,da K H₀ ab F ρ σ H/\f ρ=some ps /\
 ∀a vs H1 F',da K H₀ ab F' ρ σ H1->Same F F'->bt K F' ps vs->H1 a=none->Q (.ref a) (dX H1 a (.au vs))
theorem _root_.L2.PE.imp{X:Cx}{e:aq}{t t':TE}(h:PE X e t)(hi:∀σ H Q,t' σ H Q->t σ H Q):PE X e t':=fun ag s σ H Q I hw=>h ag s σ H Q I (hi _ _ _ hw)
theorem _root_.L2.PT.imp{X:Cx}{e:aq}{t t':TT}(h:PT X e t)(hi:∀σ H Q,t' σ H Q->t σ H Q):PT X e t':=fun ag s σ H Q I hw=>h ag s σ H Q I (hi _ _ _ hw)
theorem _root_.L2.PA.imp{X:Cx}{e:List aq}{t t':TA}(h:PA X e t)(hi:∀σ H Q,t' σ H Q->t σ H Q):PA X e t':=fun pos ag s σ H Q I hw=>h pos ag s σ H Q I (hi _ _ _ hw)
theorem _root_.L2.PS.imp{X:Cx}{st:aE}{t t':TS}(h:PS X st t)(hi:∀D σ H,t' D σ H->t D σ H):PS X st t':=fun ag s σ H D I hw=>h ag s σ H D I (hi _ _ _ hw)
theorem _root_.L2.oD.imp{X:Cx}{st:List aE}{t t':TS}(h:oD X st t)(hi:∀D σ H,t' D σ H->t D σ H):oD X st t':=fun ag s σ H D I hw=>h ag s σ H D I (hi _ _ _ hw)
section
variable {X:Cx} {H₀ ab:Hp} {a b e:aq} {fa fb:FE} {pos:Pos}
def bH(f:bX):FE:=fun ρ=>(f ρ).map .au
theorem uW{f:bX}{ρ:aF}{p:PV}(h:bH f ρ=some p):∃ps,f ρ=some ps/\p=.au ps:=by
 unfold bH at h;cases z:f ρ with
 | none=>rw[z]at h;cases h
 | some ps=>rw[z]at h;cases h;exact⟨ps,rfl,rfl⟩
theorem Eg{f:bX}(h:PE X e (tF X.K H₀ ab f)):PE X e (tE X.K H₀ ab (bH f)):=h.imp <| by
 rintro σ H Q ⟨F,ρ,p,R,hf,q⟩
 obtain⟨ps,z,rfl⟩:=uW hf;refine⟨F,ρ,ps,R,z,fun a vs H1 F1 R1 s1 b1 hn=>?_⟩
 obtain⟨R2,s2⟩:=R1.laid (.au vs) hn;exact q _ _ _ R2 (s1.trans s2) (bB.mpr ⟨a,vs,rfl,qj.of aX,b1.mono s2⟩)
def rd(i:Nat):FE:=fun ρ=>match ρ[i]? with | some (.val p)=>some p | _=>none
theorem pM(i:Nat){x:Str}{pos:Pos}(h:PE X (.Name x pos) (mj i)):PE X (.Name x pos) (tE X.K H₀ ab (rd i)):=h.imp <| by
 rintro σ H Q ⟨F,ρ,p,R,hf,q⟩
 unfold rd at hf;split at hf
 ·rename_i z;cases hf;obtain⟨v,h1,h2⟩:=R.val i p z;exact⟨v,h1,q v H F R (Same.refl F) h2⟩
 ·cases hf
theorem zb{p:PV}{v:V}(h:PE X e (tC v))(hb:∀F,c9 X.K F p v):PE X e (tE X.K H₀ ab fun _=>some p):=h.imp <| by
 rintro σ H Q ⟨F,ρ,p',R,hf,q⟩
 cases hf;exact q v H F R (Same.refl F) (hb F)
theorem Qg{i:Int}{j pos}:PE X (.Constant (.int i) j pos) (tE X.K H₀ ab fun _=>some (.int i)):=zb v9 fun _=>aI.mpr rfl
theorem aa3{i:Bool}{j pos}:PE X (.Constant (.bool i) j pos) (tE X.K H₀ ab fun _=>some (.bl i)):=zb PU fun _=>bZ.mpr rfl
theorem VY{j pos}:PE X (.Constant .none j pos) (tE X.K H₀ ab fun _=>some .cG):=zb Rg fun _=>dE.mpr rfl
theorem VZ{i:Str}{j pos}:PE X (.Constant (.str i) j pos) (tE X.K H₀ ab fun _=>some (.str i)):=zb Rh fun _=>cD.mpr rfl
def M1(K:ak)(r:R2)(g:PV->PV->bU):Prop:=∀(H₀ ab F:Hp) (ρ:aF) (σ:St) (H:Hp) (pa pb p:PV) (x y:V) (Q:VK),g pa pb=some p->da K H₀ ab F ρ σ H->c9 K F pa x->c9 K F pb y ->
 (∀v H' F',da K H₀ ab F' ρ σ H'->Same F F'->c9 K F' p v->Q v H')->r x y H Q
def af(fa fb:FE)(g:PV->PV->bU):FE:=fun ρ=>(fa ρ).bind fun x=>(fb ρ).bind fun y=>g x y
theorem Gd{fa fb:FE}{g:PV->PV->bU}{ρ:aF}{p:PV}(h:af fa fb g ρ=some p):∃x y,fa ρ=some x/\fb ρ=some y/\g x y=some p:=by
 unfold af at h;cases h1:fa ρ with
 | none=>rw[h1]at h;cases h
 | some x =>
  cases h2:fb ρ with
  | none=>rw[h1,h2]at h;cases h
  | some y=>rw[h1,h2]at h;exact⟨x,y,rfl,rfl,h⟩
theorem qp{K:ak}{r:R2}{g:PV->PV->bU}(hg:M1 K r g){σ:St}{H:Hp}{Q:VK}(h:tE K H₀ ab (af fa fb g) σ H Q):UA r (tE K H₀ ab fa) (tE K H₀ ab fb) σ H Q:=by
 obtain⟨F,ρ,p,R,hf,q⟩:=h;obtain⟨x,y,h1,h2,h3⟩:=Gd hf;exact⟨F,ρ,x,R,h1,fun v H1 F1 R1 s1 b1=>⟨F1,ρ,y,R1,h2,fun w H2 F2 R2 s2 b2 =>
  hg H₀ ab F2 ρ σ H2 x y p v w Q h3 R2 (b1.mono s2) b2 fun u H3 F3 R3 s3 b3=>q u H3 F3 R3 (s1.trans (s2.trans s3)) b3⟩⟩
theorem V0{op:Operator}{r:R2}{g:PV->PV->bU}(ho:OpR X (binaryOp op) r)(hg:M1 X.K r g)(ha:PE X a (tE X.K H₀ ab fa))(hb:PE X b (tE X.K H₀ ab fb)) :
  PE X (.BinOp a op b pos) (tE X.K H₀ ab (af fa fb g)):=(PY ho ha hb).imp fun _ _ _ h=>qp hg h
theorem V1{op:CmpOp}{r:R2}{g:PV->PV->bU}(ho:OpR X (compareOp op) r)(hg:M1 X.K r g)(ha:PE X a (tE X.K H₀ ab fa))(hb:PE X b (tE X.K H₀ ab fb))(hm:behindInMarks op b=false) :
  PE X (.Compare a [op] [b] pos) (tE X.K H₀ ab (af fa fb g)):=(MJ ho ha hb hm).imp fun _ _ _ h=>qp hg h
def toB(f:FE):eP:=fun ρ=>(f ρ).bind fun p=>match p with | .bl b=>some b | _=>none
theorem toB_some{f:FE}{ρ:aF}{b:Bool}(h:toB f ρ=some b):f ρ=some (.bl b):=by
 unfold toB at h;cases z:f ρ with
 | none=>rw[z]at h;cases h
 | some p =>
  rw[z]at h;cases p<;>first | (cases h;rfl) | cases h
theorem V2{op:CmpOp}{r:R2}{g:PV->PV->bU}(ho:OpR X (compareOp op) r)(hg:M1 X.K r g)(ha:PE X a (tE X.K H₀ ab fa))(hb:PE X b (tE X.K H₀ ab fb))(hm:behindInMarks op b=false) :
  PT X (.Compare a [op] [b] pos) (tT X.K H₀ ab (toB (af fa fb g))):=(we ho ha hb hm).imp fun σ H Q ⟨F,ρ,p,R,hf,q⟩ =>
 qp hg ⟨F,ρ,.bl p,R,toB_some hf,fun v H' F' R' s' b'=>⟨p,bZ.mp b',q H' F' R' s'⟩⟩
theorem V3{f:FE}(h:PE X e (tE X.K H₀ ab f))(he:∀iS,isTrue e X.env iS=(do let v <-iS;standAt e.pos;holding [v] (truthy v)):=by intro _;rfl):PT X e (tT X.K H₀ ab (toB f)) :=
 (Ri h he).imp fun σ H Q ⟨F,ρ,p,R,hf,q⟩=>⟨F,ρ,.bl p,R,toB_some hf,fun v H' F' R' s' b'=>⟨p,bZ.mp b',q H' F' R' s'⟩⟩
def chain(fa fb fc:FE)(g g':PV->PV->bU):FE:=fun ρ=>(fa ρ).bind fun x=>(fb ρ).bind fun y=>(g x y).bind fun z=>match z with
 | .bl true=>(fc ρ).bind fun w=>g' y w
 | .bl false=>some (.bl false)
 | _=>none
end
section
variable {X:Cx} {ag:List (ae×Obj)} {σ:St} {H:Hp} {s:aw}
theorem _root_.L2.Inv.rJ{a:ae}{xs:List V}(I:Inv X ag σ H s)(h:qj X.K H a xs):∃(aY:cb) (n:Nat),Vals xs aY/\s.heap.get? a=some {cls:=.type "list",data:=.seq aY.toArray n}/\xs.length<=sizeLine:=by
 rcases h with h | ⟨aY,n,e,z,r⟩
 ·obtain⟨z,aY,n,r,e⟩:=h.ok I.hok;exact⟨aY,n,r,e,z⟩
 ·exact⟨aY,n,r,I.yo a _ e,by rw[r.length];exact z⟩
end
section
variable {X:Cx} {H₀ ab:Hp} {a b c e:aq} {es:List aq} {fa fb fc:FE} {ga gb:eP} {ts:bX} {pos:Pos} {rest:List aq}
def gA(f g:eP):eP:=fun ρ=>(f ρ).bind fun x=>if x=true then g ρ else some false
def zc(f g:eP):eP:=fun ρ=>(f ρ).bind fun x=>if x=true then some true else g ρ
def j3(f:eP):eP:=fun ρ=>(f ρ).map fun x=>!x
theorem ay{α β:Type}{o:Option α}{f:α->Option β}{b:β}(h:o.bind f=some b):∃a,o=some a/\f a=some b:=by
 cases o with
 | none=>cases h
 | some a=>exact⟨a,rfl,h⟩
theorem _root_.L2.PW.imp{X:Cx}{e:aq}{t t':TT}(h:PW X e t)(hi:∀σ H Q,t' σ H Q->t σ H Q):PW X e t':=fun iS ag s σ H Q I hw=>h iS ag s σ H Q I (hi _ _ _ hw)
theorem Sa(ha:PT X a (tT X.K H₀ ab ga)):PW X (.BoolOp .And [a] pos) (tT X.K H₀ ab ga):=MB ha
theorem V4(ha:PT X a (tT X.K H₀ ab ga)):PW X (.BoolOp .Or [a] pos) (tT X.K H₀ ab ga):=Rj ha
theorem V5(ha:PT X a (tT X.K H₀ ab ga))(hb:PW X (.BoolOp .And (b::rest) pos) (tT X.K H₀ ab gb)):PW X (.BoolOp .And (a::b::rest) pos) (tT X.K H₀ ab (gA ga gb)) :=
 (Rl ha hb).imp <| by
  rintro σ H Q ⟨F,ρ,p,R,hf,q⟩
  obtain⟨x,h1,h2⟩:=ay hf;refine⟨F,ρ,x,R,h1,fun H1 F1 R1 s1=>?_⟩
  cases x with
  | true=>exact⟨F1,ρ,p,R1,h2,fun H2 F2 R2 s2=>q H2 F2 R2 (s1.trans s2)⟩
  | false =>
   have e:p=false:=(bD h2).symm;subst e;exact q H1 F1 R1 s1
theorem aa4(ha:PT X a (tT X.K H₀ ab ga))(hb:PW X (.BoolOp .Or (b::rest) pos) (tT X.K H₀ ab gb)):PW X (.BoolOp .Or (a::b::rest) pos) (tT X.K H₀ ab (zc ga gb)) :=
 (Vj ha hb).imp <| by
  rintro σ H Q ⟨F,ρ,p,R,hf,q⟩
  obtain⟨x,h1,h2⟩:=ay hf;refine⟨F,ρ,x,R,h1,fun H1 F1 R1 s1=>?_⟩
  cases x with
  | false=>exact⟨F1,ρ,p,R1,h2,fun H2 F2 R2 s2=>q H2 F2 R2 (s1.trans s2)⟩
  | true =>
   have e:p=true:=(bD h2).symm;subst e;exact q H1 F1 R1 s1
theorem V6(ha:PT X a (tT X.K H₀ ab ga)):PT X (.UnaryOp .Not a pos) (tT X.K H₀ ab (j3 ga)):=(Rm ha).imp <| by
 rintro σ H Q ⟨F,ρ,p,R,hf,q⟩
 unfold j3 at hf;cases z:ga ρ with
 | none=>rw[z]at hf;cases hf
 | some x=>rw[z]at hf;cases hf;exact⟨F,ρ,x,R,z,fun H1 F1 R1 s1=>q H1 F1 R1 s1⟩
def zd(fa fb:FE):FE:=fun ρ=>(toB fa ρ).bind fun x=>if x=true then fb ρ else some (.bl false)
theorem V7(ha:PE X a (tE X.K H₀ ab fa))(hb:PE X (.BoolOp .And (b::rest) pos) (tE X.K H₀ ab fb)):PE X (.BoolOp .And (a::b::rest) pos) (tE X.K H₀ ab (zd fa fb)) :=
 (Ro ha hb).imp <| by
  rintro σ H Q ⟨F,ρ,p,R,hf,q⟩
  obtain⟨x,h1,h2⟩:=ay hf;refine⟨F,ρ,_,R,toB_some h1,fun v H1 F1 R1 s1 b1=>⟨x,bZ.mp b1,?_⟩⟩
  cases x with
  | true=>exact⟨F1,ρ,p,R1,h2,fun v H2 F2 R2 s2 b2=>q v H2 F2 R2 (s1.trans s2) b2⟩
  | false =>
   have e:p=.bl false:=(bD h2).symm;subst e;exact q _ H1 F1 R1 s1 (bZ.mpr rfl)
def Ge(fa:FE):FE:=fun ρ=>(toB fa ρ).map fun x=>.bl (!x)
theorem V8(ha:PE X a (tE X.K H₀ ab fa)):PE X (.UnaryOp .Not a pos) (tE X.K H₀ ab (Ge fa)):=(Rq ha).imp <| by
 rintro σ H Q ⟨F,ρ,p,R,hf,q⟩
 unfold Ge at hf;cases z:toB fa ρ with
 | none=>rw[z]at hf;cases hf
 | some x =>
  rw[z]at hf;cases hf;exact⟨F,ρ,_,R,toB_some z,fun v H1 F1 R1 s1 b1=>⟨x,bZ.mp b1,q _ H1 F1 R1 s1 (bZ.mpr rfl)⟩⟩
def t6(gc:eP)(fa fb:FE):FE:=fun ρ=>(gc ρ).bind fun x=>if x=true then fa ρ else fb ρ
theorem aa5(hc:PT X c (tT X.K H₀ ab ga))(ha:PE X a (tE X.K H₀ ab fa))(hb:PE X b (tE X.K H₀ ab fb)):PE X (.IfExp c a b pos) (tE X.K H₀ ab (t6 ga fa fb)) :=
 (IL hc ha hb).imp <| by
  rintro σ H Q ⟨F,ρ,p,R,hf,q⟩
  obtain⟨x,h1,h2⟩:=ay hf;refine⟨F,ρ,x,R,h1,fun H1 F1 R1 s1=>?_⟩
  cases x with
  | true=>exact⟨F1,ρ,p,R1,h2,fun v H2 F2 R2 s2 b2=>q v H2 F2 R2 (s1.trans s2) b2⟩
  | false=>exact⟨F1,ρ,p,R1,h2,fun v H2 F2 R2 s2 b2=>q v H2 F2 R2 (s1.trans s2) b2⟩
theorem M3{op wj:CmpOp}{r r':R2}{g g':PV->PV->bU}(ho:OpR X (compareOp op) r)(hg:M1 X.K r g)(yR:OpR X (compareOp wj) r')(hg':M1 X.K r' g')(ha:PE X a (tE X.K H₀ ab fa))(hb:PE X b (tE X.K H₀ ab fb))(hc:PE X c (tE X.K H₀ ab fc))
  (hm:lastMarks [op,wj] [b,c]=false:=by with_unfolding_all rfl):PE X (.Compare a [op,wj] [b,c] pos) (tE X.K H₀ ab (chain fa fb fc g g')):=(Jb ho yR ha hb hc hm).imp <| by
 rintro σ H Q ⟨F,ρ,p,R,hf,q⟩
 obtain⟨x,h1,hf⟩:=ay hf;obtain⟨y,h2,hf⟩:=ay hf;obtain⟨z,h3,hf⟩:=ay hf;refine⟨F,ρ,x,R,h1,fun v H1 F1 R1 s1 b1=>⟨F1,ρ,y,R1,h2,fun w H2 F2 R2 s2 b2=>?_⟩⟩
 refine hg H₀ ab F2 ρ σ H2 x y z v w _ h3 R2 (b1.mono s2) b2 fun u H3 F3 R3 s3 b3=>?_
 cases z with
 | bl k =>
  refine⟨k,bZ.mp b3,?_⟩;cases k with
  | true =>
   obtain⟨t,h4,h5⟩:=ay hf;refine⟨F3,ρ,t,R3,h4,fun o H4 F4 R4 s4 b4=>?_⟩
   exact hg' H₀ ab F4 ρ σ H4 y t p w o _ h5 R4 (b2.mono (s3.trans s4)) b4 fun u5 H5 F5 R5 s5 b5=>q u5 H5 F5 R5 (s1.trans (s2.trans (s3.trans (s4.trans s5)))) b5
  | false =>
   have e:p=.bl false:=(bD hf).symm;subst e;exact q _ H3 F3 R3 (s1.trans (s2.trans s3)) (bZ.mpr rfl)
 | _=>cases hf
theorem M4{op wj:CmpOp}{r r':R2}{g g':PV->PV->bU}(ho:OpR X (compareOp op) r)(hg:M1 X.K r g)(yR:OpR X (compareOp wj) r')(hg':M1 X.K r' g')(ha:PE X a (tE X.K H₀ ab fa))(hb:PE X b (tE X.K H₀ ab fb))(hc:PE X c (tE X.K H₀ ab fc))
  (hm:lastMarks [op,wj] [b,c]=false:=by with_unfolding_all rfl):PT X (.Compare a [op,wj] [b,c] pos) (tT X.K H₀ ab (toB (chain fa fb fc g g'))):=(Jc ho yR ha hb hc hm).imp <| by
 rintro σ H Q ⟨F,ρ,p,R,hf,q⟩
 have hf:=toB_some hf;obtain⟨x,h1,hf⟩:=ay hf;obtain⟨y,h2,hf⟩:=ay hf;obtain⟨z,h3,hf⟩:=ay hf;refine⟨F,ρ,x,R,h1,fun v H1 F1 R1 s1 b1=>⟨F1,ρ,y,R1,h2,fun w H2 F2 R2 s2 b2=>?_⟩⟩
 refine hg H₀ ab F2 ρ σ H2 x y z v w _ h3 R2 (b1.mono s2) b2 fun u H3 F3 R3 s3 b3=>?_
 cases z with
 | bl k =>
  refine⟨k,bZ.mp b3,?_⟩;cases k with
  | true =>
   obtain⟨t,h4,h5⟩:=ay hf;refine⟨F3,ρ,t,R3,h4,fun o H4 F4 R4 s4 b4=>?_⟩
   exact hg' H₀ ab F4 ρ σ H4 y t (.bl p) w o _ h5 R4 (b2.mono (s3.trans s4)) b4 fun u5 H5 F5 R5 s5 b5=>⟨p,bZ.mp b5,q H5 F5 R5 (s1.trans (s2.trans (s3.trans (s4.trans s5))))⟩
  | false =>
   have e:PV.bl p=.bl false:=(bD hf).symm;cases e;exact⟨false,rfl,q H3 F3 R3 (s1.trans (s2.trans s3))⟩
 | _=>cases hf
def ai:bX:=fun _=>some []
def aa(f:FE)(g:bX):bX:=fun ρ=>(f ρ).bind fun x=>(g ρ).map fun xs=>x::xs
theorem Cp{f:FE}{g:bX}{ρ:aF}{ps:az}(h:aa f g ρ=some ps):∃x xs,f ρ=some x/\g ρ=some xs/\ps=x::xs:=by
 obtain⟨x,h1,h2⟩:=ay h;cases z:g ρ with
 | none=>rw[z]at h2;cases h2
 | some xs=>rw[z]at h2;cases h2;exact⟨x,xs,h1,rfl,rfl⟩
theorem ze:PA X [] (tA X.K H₀ ab ai):=iz.imp <| by
 rintro σ H Q ⟨F,ρ,p,R,hf,q⟩
 cases hf;exact q [] H F R (Same.refl F) .nil
theorem rK(ha:PE X e (tE X.K H₀ ab fa))(hr:PA X es (tA X.K H₀ ab ts))(hs:starEach (e::es) X.env=(false,eval e X.env)::starEach es X.env:=by rfl):PA X (e::es) (tA X.K H₀ ab (aa fa ts)) :=
 (dF ha hr hs).imp <| by
  rintro σ H Q ⟨F,ρ,p,R,hf,q⟩
  obtain⟨x,xs,h1,h2,rfl⟩:=Cp hf;exact⟨F,ρ,x,R,h1,fun v H1 F1 R1 s1 b1=>⟨F1,ρ,xs,R1,h2,fun vs H2 F2 R2 s2 b2=>q _ H2 F2 R2 (s1.trans s2) (.cons (b1.mono s2) b2)⟩⟩
def gB:Nat:=100000
theorem fx{n:Nat}(h:n<=gB):n<=sizeLine:=cF h (by decide)
def aZ(ts:bX):FE:=fun ρ=>(ts ρ).bind fun ps=>if ps.length<=gB then some (.aB ps)else none
def cw(ts:bX):bX:=fun ρ=>(ts ρ).bind fun ps=>if ps.length<=gB then some ps else none
theorem aN{α:Type}{c:Prop} [Decidable c] {x y:α} (h:(if c then some x else none)=some y):c/\x=y:=by
 by_cases hc:c
 ·rw[if_pos hc]at h;exact⟨hc,bD h⟩
 ·rw[if_neg hc]at h;cases h
theorem Qh{x1}(h:PA X es (tA X.K H₀ ab ts)):PE X (.Tuple es x1 pos) (tE X.K H₀ ab (aZ ts)):=(RK h).imp <| by
 rintro σ H Q ⟨F,ρ,p,R,hf,q⟩
 obtain⟨ps,h1,h2⟩:=ay hf;obtain⟨hl,rfl⟩:=aN h2;refine⟨F,ρ,ps,R,h1,fun vs H1 F1 R1 s1 b1=>⟨fx (by rw[<-b1.length];exact hl),fun a hn=>?_⟩⟩
 obtain⟨R2,s2⟩:=R1.laid (.aB vs) hn;exact q _ _ _ R2 (s1.trans s2) (bM.mpr ⟨a,vs,rfl,jm.of aX,b1.mono s2⟩)
theorem Eh(h:PA X es (tA X.K H₀ ab ts)):PE X (.List es pos) (tF X.K H₀ ab (cw ts)):=(Je h).imp <| by
 rintro σ H Q ⟨F,ρ,p,R,hf,q⟩
 obtain⟨ps,h1,h2⟩:=ay hf;obtain⟨hl,rfl⟩:=aN h2;exact⟨F,ρ,ps,R,h1,fun vs H1 F1 R1 s1 b1=>⟨fx (by rw[<-b1.length];exact hl),fun a hn=>q a vs H1 F1 R1 s1 b1 hn⟩⟩
end
structure Gf (K:ak) (H₀ ab F H:Hp):Prop where
 sub:Same F H
 keep:Same H₀ H
 base:Same ab F
 fresh:∀a o,F a=some o->ab a=some o\/H₀ a=none
theorem da.post{K:ak}{H₀ ab F H:Hp}{ρ:aF}{σ:St}(R:da K H₀ ab F ρ σ H):Gf K H₀ ab F H:=⟨R.sub,R.keep,R.base,R.fresh⟩
def wD(K:ak)(H₀ ab F:Hp)(Q:VK):Ent->Prop
 | .val p=>∀v F' H',Gf K H₀ ab F' H'->Same F F'->c9 K F' p v->Q v H'
 | .own ps=>∀a vs F' H',Gf K H₀ ab F' H'->Same F F'->H' a=some (.au vs)->H₀ a=none->F' a=none->bt K F' ps vs->Q (.ref a) H'
 | .eW m=>∀a F' H',Gf K H₀ ab F' H'->Same F F'->ng K F' H' a m->H₀ a=none->F' a=none->Q (.ref a) H'
 | .un=>False
 | .ex _=>False
 | .ob _=>False
theorem wD.mono{K:ak}{H₀ ab F F1:Hp}{Q:VK}{e:Ent}(h:wD K H₀ ab F Q e)(s:Same F F1):wD K H₀ ab F1 Q e:=by
 cases e with
 | un=>exact h
 | ex C=>exact h
 | ob _=>exact h
 | eW m=>exact fun a F' H' R z=>h a F' H' R (s.trans z)
 | val p=>exact fun v F' H' R z=>h v F' H' R (s.trans z)
 | own ps=>exact fun a vs F' H' R z=>h a vs F' H' R (s.trans z)
def Qi(K:ak)(H F:Hp)(Q:VK)(E:XK):Ent->Prop
 | .ex C=>∀cls F' H',Gf K H F F' H'->Same F F'->ClsAt K C cls->E cls none H'
 | .val p=>wD K H F F Q (.val p)
 | .own ps=>wD K H F F Q (.own ps)
 | .eW m=>wD K H F F Q (.eW m)
 | .ob _=>False
 | .un=>False
def lK(P:bJ)(w:aW):DR:=fun outer H s E e s'=>∃a cls a0 B H',e=.ref a/\s'.os=s.os/\AllBare s'.gens/\Un (Bj outer) [] H H' s.heap s'.heap/\nZ P w H' s'.heap/\Same H H'/\E cls none H' /\
 Heap.FlyingW B outer a cls a0 s'.heap/\(∀b o,H' b=some o->∃ob,B.get? b=some ob)/\∀b ob,s.heap.get? b=some ob->H b=none->b∉Bj outer->B.get? b=some ob
theorem rM{X:Cx}{P:bJ}{w:aW}:Cg (lK P w) X E0:=fun _ _ _ _ _ _ _ ⟨_,_,_,_,_,_,_,_,_,_,_,h,_⟩=>h.elim
def Cq(K:ak)(n:Nat)(f:az->dA):Sp:=fun vs H Q E=>∃F ps e,Same F H/\bt K F ps vs/\ps.length=n/\f ps=some e/\Qi K H F Q E e
section
variable {X:Cx} {H₀ ab:Hp} {e:aq} {es:List aq} {ts:bX} {pos p:Pos} {k n:Nat} {f:ae} {fd:dQ} {ps:List Str} {x:Str} {g:az->dA}
def qa:Ent->bU
 | .val p=>some p
 | .own ps=>some (.au ps)
 | .un=>none
 | .ex _=>none
 | .ob _=>none
 | .eW _=>none
def M5:Ent->Option az
 | .own ps=>some ps
 | _=>none
def aD(g:az->dA)(ts:bX):FE:=fun ρ=>(ts ρ).bind fun as=>(g as).bind qa
def pN(g:az->dA)(ts:bX):bX:=fun ρ=>(ts ρ).bind fun as=>(g as).bind M5
def aP(n:Nat)(g:az->dA):az->dA:=fun ps=>if ps.length=n then g ps else none
theorem uX{n:Nat}{g:az->dA}{ps:az}{p:Ent}(h:aP n g ps=some p):ps.length=n/\g ps=some p:=by
 unfold aP at h;by_cases hc:ps.length=n
 ·rw[if_pos hc]at h;exact⟨hc,h⟩
 ·rw[if_neg hc]at h;cases h
theorem Jv{K:ak}{H F F' H':Hp}{a:ae}{vs:List V}(P:Gf K H F F' H')(ha:H' a=some (.au vs))(hn:H a=none)(fn:F' a=none) :
  Same F (dX F' a (.au vs))/\Same F' (dX F' a (.au vs))/\Same (dX F' a (.au vs)) H'/\∀b o,dX F' a (.au vs) b=some o->F b=some o\/H b=none:=by
 refine⟨P.base.trans (dI fn),dI fn,fun b o e=>?_,fun b o e=>?_⟩
 ·by_cases hb:b=a
  ·subst hb;rw[aX]at e;cases e;exact ha
  ·rw[aR hb]at e;exact P.sub _ _ e
 ·by_cases hb:b=a
  ·subst hb;exact .inr hn
  ·rw[aR hb]at e;exact P.fresh _ _ e
theorem rN{σ:St}{H:Hp}{Q:VK}{E:XK}{K:ak}(h:tE K H₀ ab (aD (aP n g) ts) σ H Q):Eb (Cq K n g) [] E (tA K H₀ ab ts) σ H Q:=by
 obtain⟨F,ρ,p,R,hf,q⟩:=h;obtain⟨as,h1,h2⟩:=ay hf;obtain⟨en,h2,h4⟩:=ay h2;obtain⟨hl,h3⟩:=uX h2;refine⟨F,ρ,as,R,h1,fun vs H1 F1 R1 s1 b1=>?_⟩
 show Cq K n g (vs++[]) H1 Q E;rw[gX];refine⟨F1,as,en,R1.sub,b1,hl,h3,?_⟩;cases en with
 | un=>cases h4
 | ex C=>cases h4
 | ob _=>cases h4
 | eW _=>cases h4
 | val p' =>
  cases h4;exact fun v F2 H2 P ff b2=>q v H2 F2 (R1.after P.keep P.base P.sub P.fresh) (s1.trans ff) b2
 | own ps =>
  cases h4;intro a vs2 F2 H2 P ff ha hn fn b2;obtain⟨z1,z2,z3,z4⟩:=Jv P ha hn fn;exact q _ H2 _ (R1.after P.keep z1 z3 z4) (s1.trans z1) (bB.mpr ⟨a,vs2,rfl,qj.of aX,b2.mono z2⟩)
def Sb(H:Hp)(a:ae):Hp:=fun b=>if b=a then none else H b
theorem Jw{H:Hp}{a:ae}:Sb H a a=none:=by unfold Sb;rw[if_pos rfl]
theorem Jx{H:Hp}{a b:ae}(h:b≠a):Sb H a b=H b:=by unfold Sb;rw[if_neg h]
theorem M6{H:Hp}{a:ae}{o:HO}(h:H a=some o):dX (Sb H a) a o=H:=by
 funext b
 by_cases hb:b=a
 ·subst hb;rw[aX,h]
 ·rw[aR hb,Jx hb]
theorem zf{F H:Hp}{a:ae}(s:Same F H)(hn:F a=none):Same F (Sb H a):=fun b o e=>by
 have:b≠a:=fun z=>by subst z;rw[hn]at e;cases e
 rw[Jx this];exact s _ _ e
theorem Gg{σ:St}{H:Hp}{Q:VK}{E:XK}{K:ak}(h:tF K H₀ ab (pN (aP n g) ts) σ H Q):Eb (Cq K n g) [] E (tA K H₀ ab ts) σ H Q:=by
 obtain⟨F,ρ,p,R,hf,q⟩:=h;obtain⟨as,h1,h2⟩:=ay hf;obtain⟨en,h2,h4⟩:=ay h2;obtain⟨hl,h3⟩:=uX h2;refine⟨F,ρ,as,R,h1,fun vs H1 F1 R1 s1 b1=>?_⟩
 show Cq K n g (vs++[]) H1 Q E;rw[gX];refine⟨F1,as,en,R1.sub,b1,hl,h3,?_⟩;cases en with
 | un=>cases h4
 | ex C=>cases h4
 | ob _=>cases h4
 | eW _=>cases h4
 | val p'=>cases h4
 | own ps =>
  cases h4;intro a vs2 F2 H2 P ff ha hn fn b2;have:=q a vs2 (Sb H2 a) F2 (R1.after (zf P.keep hn) P.base (zf P.sub fn) P.fresh) (s1.trans ff) b2 Jw;rw[M6 ha]at this;exact this
theorem Sd(F:FnOk X.prog X.w X.K X.mg X.base (lK X.prog X.w) k f fd ps (Cq X.K n g))(hr:eI k X.A)(hg:Gl X x)(hm:X.mg x=some (.ref f))(hk:W.keepIn X.K (.ref f)=true)(hb:f9 X.K fd ps [])
  (ha:PA X (e::es) (tA X.K H₀ ab ts)) (FV:(x==("__debug__":Str))=false:=by decide) (he:starEach (e::es) X.env=(false,eval e X.env)::starEach es X.env:=by rfl) (oG:(backTo pos (starEach es X.env)).any (·.1)=false:=by rfl) :
  PE X (.Call (.Name x p) (e::es) [] pos) (tE X.K H₀ ab (aD (aP n g) ts)):=(ql F hr hg hm hk hb .nil rM ha FV he oG).imp fun _ _ _ h=>rN h
end
inductive n4 where
 | nx (ρ:aF) | rt (p:Ent) | bk (ρ:aF) | ct (ρ:aF) | ex (made:Bool) (C:Str) (ρ:aF)
abbrev FS:=aF->Option n4
def Gh(X:Cx)(H₀ ab F:Hp)(C:Str)(ρ:aF):Bool->Prop
 | true=>∀F' cn H' ag s h1 a cls vs,da X.K H₀ ab F' ρ cn H'->Same F F'->Inv X ag cn H' s->ClsAt X.K C cls->Heap.MadeExcOf s.heap h1 a cls vs->X.xe (.ref a) {s with heap:=h1}
 | false=>∀cn ag H1 s1 e s',Inv X ag cn H1 s1->lK X.prog X.w X.stack H1 s1 (fun cls _ H2=>ClsAt X.K C cls/\∃F',da X.K H₀ ab F' ρ cn H2/\Same F F') e s'->X.xe e s'
theorem Gh.mono{X:Cx}{H₀ ab F F1:Hp}{C:Str}{ρ:aF}{m:Bool}(h:Gh X H₀ ab F C ρ m)(s:Same F F1):Gh X H₀ ab F1 C ρ m:=by
 cases m with
 | true=>exact fun F' cn H' ag s1 h1 a cls vs R z=>h F' cn H' ag s1 h1 a cls vs R (s.trans z)
 | false =>
  intro cn ag H1 s1 e s' I ⟨a,cls,a0,B,H',h1,h2,h3,h4,h5,h6,⟨c,F',R,z⟩,h8⟩;exact h cn ag H1 s1 e s' I ⟨a,cls,a0,B,H',h1,h2,h3,h4,h5,h6,⟨c,F',R,s.trans z⟩,h8⟩
def zg(X:Cx)(H₀ ab F:Hp)(D:j2):n4->Prop
 | .nx ρ=>∀F' cn H',da X.K H₀ ab F' ρ cn H'->Same F F'->D.nx cn H'
 | .bk ρ=>∀F' cn H',da X.K H₀ ab F' ρ cn H'->Same F F'->D.bk cn H'
 | .ct ρ=>∀F' cn H',da X.K H₀ ab F' ρ cn H'->Same F F'->D.ct cn H'
 | .rt p=>wD X.K H₀ ab F D.rt p
 | .ex m C ρ=>Gh X H₀ ab F C ρ m
def tS(X:Cx)(H₀ ab:Hp)(f:FS):TS:=fun D σ H=>∃F ρ o,da X.K H₀ ab F ρ σ H/\f ρ=some o/\zg X H₀ ab F D o
theorem zg.mono{X:Cx}{H₀ ab F F1:Hp}{D:j2}{o:n4}(h:zg X H₀ ab F D o)(s:Same F F1):zg X H₀ ab F1 D o:=by
 cases o with
 | nx ρ=>exact fun F' cn H' R z=>h F' cn H' R (s.trans z)
 | bk ρ=>exact fun F' cn H' R z=>h F' cn H' R (s.trans z)
 | ct ρ=>exact fun F' cn H' R z=>h F' cn H' R (s.trans z)
 | rt p=>exact wD.mono h s
 | ex m C ρ=>exact Gh.mono h s
section
variable {X:Cx} {H₀ ab:Hp} {a b c e tg iter:aq} {es:List aq} {fe:FE} {gc:eP} {pos:Pos} {st:aE} {Jy body:List aE} {f g:FS}
def aH(f g:FS):FS:=fun ρ=>(f ρ).bind fun o=>match o with | .nx fj=>g fj | o=>some o
theorem Se:oD X [] (tS X H₀ ab fun ρ=>some (.nx ρ)):=D7.imp <| by
 rintro D σ H ⟨F,ρ,o,R,hf,q⟩
 cases hf;exact q F σ H R (Same.refl F)
theorem Ei(h1:PS X st (tS X H₀ ab f))(h2:oD X Jy (tS X H₀ ab g)):oD X (st::Jy) (tS X H₀ ab (aH f g)):=(fB h1 h2).imp <| by
 rintro D σ H ⟨F,ρ,o,R,hf,q⟩
 obtain⟨o1,e1,e2⟩:=ay hf;refine⟨F,ρ,o1,R,e1,?_⟩;cases o1 with
 | nx eu=>exact fun F1 gW H1 R1 s1=>⟨F1,eu,o,R1,e2,q.mono s1⟩
 | bk eu=>cases e2;exact q
 | ct eu=>cases e2;exact q
 | rt p=>cases e2;exact q
 | ex m C eu=>cases e2;exact q
theorem Sf(h1:PS X st (tS X H₀ ab f)):oD X [st] (tS X H₀ ab f):=iU h1
def bz(fe:FE):FS:=fun ρ=>(fe ρ).map fun p=>.rt (.val p)
theorem Qj(he:PE X e (tE X.K H₀ ab fe)):PS X (.Return (some e) pos) (tS X H₀ ab (bz fe)):=(B7 he).imp <| by
 rintro D σ H ⟨F,ρ,o,R,hf,q⟩
 unfold bz at hf;cases z:fe ρ with
 | none=>rw[z]at hf;cases hf
 | some p =>
  rw[z]at hf;cases hf;exact⟨F,ρ,p,R,z,fun v H1 F1 R1 s1 b1=>q v F1 H1 R1.post s1 b1⟩
def ni(i:Nat):FS:=fun ρ=>match ρ[i]? with
 | some (.own ps)=>some (.rt (.own ps))
 | some (.val p)=>some (.rt (.val p))
 | _=>none
theorem Gi(i:Nat){x:Str}{p:Pos}(h:PE X (.Name x p) (mj i)):PS X (.Return (some (.Name x p)) pos) (tS X H₀ ab (ni i)):=(B7 h).imp <| by
 rintro D σ H ⟨F,ρ,o,R,hf,q⟩
 unfold ni at hf;split at hf
 ·rename_i ps z;cases hf;obtain⟨a,vs,h1,h2,h3,h4,h5⟩:=R.own i ps z;exact⟨_,h1,q a vs F H R.post (Same.refl F) h2 h3 h4 h5⟩
 ·rename_i p z;cases hf;obtain⟨v,h1,h2⟩:=R.val i p z;exact⟨_,h1,q v F H R.post (Same.refl F) h2⟩
 ·cases hf
theorem Sg:PS X (.Return none pos) (tS X H₀ ab fun _=>some (.rt (.val .cG))):=MC.imp <| by
 rintro D σ H ⟨F,ρ,o,R,hf,q⟩
 cases hf;exact q _ F H R.post (Same.refl F) (dE.mpr rfl)
def gk(gc:eP)(f g:FS):FS:=fun ρ=>(gc ρ).bind fun x=>if x=true then f ρ else g ρ
theorem aa8{p:List aE}{r:List aE}(hc:PT X c (tT X.K H₀ ab gc))(ha:oD X p (tS X H₀ ab f))(hb:oD X r (tS X H₀ ab g)):PS X (.If c p r pos) (tS X H₀ ab (gk gc f g)) :=
 (PX hc ha hb).imp <| by
  rintro D σ H ⟨F,ρ,o,R,hf,q⟩
  obtain⟨x,h1,h2⟩:=ay hf;refine⟨F,ρ,x,R,h1,fun H1 F1 R1 s1=>?_⟩
  cases x with
  | true=>exact⟨F1,ρ,o,R1,h2,q.mono s1⟩
  | false=>exact⟨F1,ρ,o,R1,h2,q.mono s1⟩
def pO(fe:FE):FS:=fun ρ=>(fe ρ).map fun _=>.nx ρ
theorem Si(he:PE X e (tE X.K H₀ ab fe))(hs:swapsWith e none pos.line X.env=pure false:=by rfl):PS X (.Expr e pos) (tS X H₀ ab (pO fe)):=(gM he hs).imp <| by
 rintro D σ H ⟨F,ρ,o,R,hf,q⟩
 unfold pO at hf;cases z:fe ρ with
 | none=>rw[z]at hf;cases hf
 | some p =>
  rw[z]at hf;cases hf;exact⟨F,ρ,p,R,z,fun v H1 F1 R1 s1 b1=>q F1 σ H1 R1 s1⟩
def tG(K:ak)(H₀ ab:Hp)(g:eX):TG:=fun v σ H Q=>∃F ρ p fj,da K H₀ ab F ρ σ H/\c9 K F p v/\g p ρ=some fj/\∀cn H' F',da K H₀ ab F' fj cn H'->Same F F'->Q cn H'
def ao(i:Nat)(p:PV)(ρ:aF):Option aF:=if i<ρ.length then some (ρ.set i (.val p))else none
theorem da.set{K:ak}{F H:Hp}{ρ:aF}{σ:St}(R:da K H₀ ab F ρ σ H){i:Nat}(hi:i<ρ.length){p:PV}{v:V}(hb:c9 K F p v):da K H₀ ab F (ρ.set i (.val p)) (σ.set i (some v)) H where
 sub:=R.sub
 keep:=R.keep
 base:=R.base
 fresh:=R.fresh
 val:=fun j q e=>by
  by_cases h:i=j
  ·subst h;rw[bP hi]at e;cases e;exact⟨v,bP (by rw[<-R.len];exact hi),hb⟩
  ·rw[bx h]at e;rw[bx h];exact R.val j q e
 own:=fun j ps e=>by
  by_cases h:i=j
  ·subst h;rw[bP hi]at e;cases e
  ·rw[bx h]at e;rw[bx h];exact R.own j ps e
 apart:=fun j k ps qs a h1 h2 h3 h4=>by
  by_cases hj:i=j
  ·subst hj;rw[bP hi]at h1;cases h1
  ·by_cases hk:i=k
   ·subst hk;rw[bP hi]at h2;cases h2
   ·rw[bx hj]at h1 h3;rw[bx hk]at h2 h4;exact R.apart j k ps qs a h1 h2 h3 h4
 obs:=fun j ps e=>by
  by_cases h:i=j
  ·subst h;rw[bP hi]at e;cases e
  ·rw[bx h]at e;rw[bx h];exact R.obs j ps e
 eW:=fun j ps e=>by
  by_cases h:i=j
  ·subst h;rw[bP hi]at e;cases e
  ·rw[bx h]at e;rw[bx h];exact R.eW j ps e
 len:=by rw[dw,dw];exact R.len
theorem _root_.L2.PG.imp{X:Cx}{e:aq}{t t':TG}(h:PG X e t)(hi:∀v σ H Q,t' v σ H Q->t v σ H Q):PG X e t':=fun ag s σ H v u Q I r hw=>h ag s σ H v u Q I r (hi _ _ _ _ hw)
theorem _root_.L2.HQ.imp{X:Cx}{e:List aq}{t t':MD}(h:HQ X e t)(hi:∀v σ H Q,t' v σ H Q->t v σ H Q):HQ X e t':=fun ag s σ H v u Q I r hw=>h ag s σ H v u Q I r (hi _ _ _ _ hw)
theorem Sj(i:Nat){x:Str}(h:PG X (.Name x pos) (gName i)):PG X (.Name x pos) (tG X.K H₀ ab (ao i)):=h.imp <| by
 rintro v σ H Q ⟨F,ρ,p,fj,R,hb,hf,q⟩
 obtain⟨hi,rfl⟩:=aN hf;exact q _ _ _ (R.set hi hb) (Same.refl F)
def V9(K:ak)(H₀ ab:Hp)(g:az->aF->Option aF):MD:=fun vs σ H Q=>∃F ρ ps fj,da K H₀ ab F ρ σ H/\bt K F ps vs/\g ps ρ=some fj/\∀cn H' F',da K H₀ ab F' fj cn H'->Same F F'->Q cn H'
def cB:az->aF->Option aF:=fun ps ρ=>match ps with | []=>some ρ | _=>none
def ax(g:eX)(r:az->aF->Option aF):az->aF->Option aF:=fun ps ρ=>match ps with | p::ps=>(g p ρ).bind fun fj=>r ps fj | []=>none
theorem Sk:HQ X [] (V9 X.K H₀ ab cB):=D8.imp <| by
 rintro vs σ H Q ⟨F,ρ,ps,fj,R,hb,hf,q⟩
 cases ps with
 | nil=>cases hf;exact⟨hb.cf,q _ _ _ R (Same.refl F)⟩
 | cons _ _=>cases hf
theorem M7{t:eX}{u:az->aF->Option aF}(h1:PG X e (tG X.K H₀ ab t))(h2:HQ X es (V9 X.K H₀ ab u))
  (hs:(assignEach (e::es) X.env).map (·.2)=assign e X.env::(assignEach es X.env).map (·.2):=by rfl):HQ X (e::es) (V9 X.K H₀ ab (ax t u)):=(rz h1 h2 hs).imp <| by
 rintro vs σ H Q ⟨F,ρ,ps,fj,R,hb,hf,q⟩
 cases ps with
 | nil=>cases hf
 | cons p ps =>
  obtain⟨v,r,rfl,b1,b2⟩:=hb.ck;obtain⟨eu,e1,e2⟩:=ay hf;exact⟨v,r,rfl,F,ρ,p,eu,R,b1,e1,fun gW H1 F1 R1 s1=>⟨F1,eu,ps,fj,R1,b2.mono s1,e2,fun uM H2 F2 R2 s2=>q uM H2 F2 R2 (s1.trans s2)⟩⟩
def cC(n:Nat)(t:az->aF->Option aF):eX:=fun p ρ=>match p with | .aB ps=>if ps.length=n then t ps ρ else none | _=>none
theorem Wa{k:Nat}{t:az->aF->Option aF}{n:Nat}(hc:X.calm=true)(h:HQ X es (V9 X.K H₀ ab t))
  (hn:(assignEach es X.env).length=n:=by rfl) (FL:(assignEach es X.env).findIdx? (·.1)=none:=by rfl):PG X (.Tuple es k pos) (tG X.K H₀ ab (cC n t)):=(IQ hc h hn FL).imp <| by
 rintro v σ H Q ⟨F,ρ,p,fj,R,hb,hf,q⟩
 cases p with
 | aB ps =>
  have hf:(if ps.length=n then t ps ρ else none)=some fj:=hf
  by_cases hl:ps.length=n
  ·rw[if_pos hl]at hf;obtain⟨a,vs,rfl,hs,Ej⟩:=bM.mp hb;exact⟨a,vs,rfl,bA R.sub hs,by rw[<-Ej.length];exact hl,F,ρ,ps,fj,R,Ej,hf,q⟩
  ·rw[if_neg hl]at hf;cases hf
 | _=>cases hf
def bg(fe:FE)(g:eX):FS:=fun ρ=>(fe ρ).bind fun p=>(g p ρ).map .nx
theorem Ek{fe:FE}{g:eX}{D:j2}{σ:St}{H:Hp}(h:tS X H₀ ab (bg fe g) D σ H):mZ (tE X.K H₀ ab fe) (tG X.K H₀ ab g) D σ H:=by
 obtain⟨F,ρ,o,R,hf,q⟩:=h;obtain⟨p,h1,h2⟩:=ay hf;cases z:g p ρ with
 | none=>rw[z]at h2;cases h2
 | some fj =>
  rw[z]at h2;cases h2;exact⟨F,ρ,p,R,h1,fun v H1 F1 R1 s1 b1=>⟨F1,ρ,p,fj,R1,b1,z,fun uM H2 F2 R2 s2=>q F2 uM H2 R2 (s1.trans s2)⟩⟩
theorem Wb{g:eX}(he:PE X e (tE X.K H₀ ab fe))(hg:PG X tg (tG X.K H₀ ab g))(hs:swapsWithSole [tg] e pos.line X.env=pure false:=by rfl)(hw:swappedStores [tg] e X.env=pure none:=by rfl)
  (h1:(assignEach [tg] X.env).map (·.2)=[assign tg X.env]:=by rfl):PS X (.Assign [tg] e pos) (tS X H₀ ab (bg fe g)):=(Rv he hg hs hw h1).imp fun _ _ _ h=>Ek h
theorem Qk(i:Nat){x:Str}{gO:Pos}(h:PS X (.Assign [.Name x gO] e pos) (mZ (tE X.K H₀ ab fe) (gName i))):PS X (.Assign [.Name x gO] e pos) (tS X H₀ ab (bg fe (ao i))):=h.imp fun D σ H h=>by
 obtain⟨F,ρ,p,R,h1,q⟩:=Ek h;exact⟨F,ρ,p,R,h1,fun v H1 F1 R1 s1 b1=>by
  obtain⟨F',fj,p',ae0,R',b',hf,q'⟩:=q v H1 F1 R1 s1 b1;obtain⟨hi,rfl⟩:=aN hf;exact q' _ _ _ (R'.set hi b') (Same.refl F')⟩
def Jz(K:ak)(J:It)(F:Hp)(ps:az):Prop:=∀(H₀ ab F':Hp) (ρ:aF) (σ:St) (H:Hp),da K H₀ ab F' ρ σ H->Same F F'->∀i:Nat,
 (∀p,ps[i]?=some p->J.go i H/\∀x H',J.yld i H x H'->∃F'',da K H₀ ab F'' ρ σ H'/\Same F' F''/\c9 K F'' p x)/\(ps[i]?=none->J.stop i H)
def tI(K:ak)(H₀ ab:Hp)(fi:bX):TI:=fun σ H R=>∃F ρ ps,da K H₀ ab F ρ σ H/\fi ρ=some ps/\∀J H' F',da K H₀ ab F' ρ σ H'->Same F F'->Jz K J F' ps->R J H'
theorem _root_.L2.PI.imp{X:Cx}{tg e:aq}{t t':TI}(h:PI X tg e t)(hi:∀σ H Q,t' σ H Q->t σ H Q):PI X tg e t':=fun ag s σ H R I hw=>h ag s σ H R I (hi _ _ _ hw)
def fy(set:eX)(body:FS):az->aF->Option n4
 | [],ρ=>some (.nx ρ)
 | p::ps,ρ=>(set p ρ).bind fun eu=>(body eu).bind fun o=>match o with
  | .nx tN=>fy set body ps tN
  | .ct tN=>fy set body ps tN
  | .bk tN=>some (.nx tN)
  | .rt p=>some (.rt p)
  | .ex m C tN=>some (.ex m C tN)
def gZ(fi:bX)(set:eX)(body:FS):FS:=fun ρ=>(fi ρ).bind fun ps=>fy set body ps ρ
theorem Wc{fi:bX}{g:eX}{fb:FS}(hp:PassesOwn (model X.prog X.w) X.A X.env X.xe)(hc:X.calm=true)(hi:PI X tg iter (tI X.K H₀ ab fi))(hg:PG X tg (tG X.K H₀ ab g))(hb:oD X body (tS X H₀ ab fb))
  (hs:∀x,foldedSetIterable iter X.env x=pure x:=by intro _;rfl):PS X (.For tg iter body [] pos) (tS X H₀ ab (gZ fi g fb)):=(ps_for hp hc hi hg hb hs).imp <| by
 rintro D σ H ⟨F,ρ,o,R,hf,q⟩
 obtain⟨ps,h1,h2⟩:=ay hf;refine⟨F,ρ,ps,R,h1,fun J H1 F1 R1 s1 wk=>?_⟩
 refine⟨fun i m cn H'=>m=ps.length-i/\i<=ps.length/\∃F' fj,da X.K H₀ ab F' fj cn H'/\Same F1 F'/\fy g fb (ps.drop i) fj=some o,⟨ps.length,by simp,gn _,F1,ρ,R1,Same.refl _,h2⟩,?_⟩
 rintro i m cn H' ⟨rfl,hi,F',fj,R',s',hr⟩
 obtain⟨wg,M8⟩:=wk H₀ ab F' fj cn H' R' s' i;by_cases eM:i<ps.length
 ·have hd:ps.drop i=ps[i]::ps.drop (i+1):=vI eM;obtain⟨go,wy⟩:=wg ps[i] (du eM);rw[hd]at hr;obtain⟨eu,e1,hr⟩:=ay hr;obtain⟨o1,e2,hr⟩:=ay hr;refine .inr ⟨go,fun uM H2=>∃F2 tN,da X.K H₀ ab F2 tN uM H2/\Same F1 F2/\fy g fb (ps.drop (i+1)) tN=some o,fun uM H2 n2=>⟨ps.length-(i+1),by lia,rfl,eM,n2⟩,fun x H2 y=>?_⟩
  obtain⟨F2,R2,s2,b2⟩:=wy x H2 y;refine⟨F2,fj,ps[i],eu,R2,b2,e1,fun lx H3 F3 R3 s3=>⟨F3,eu,o1,R3,e2,?_⟩⟩
  have up:Same F1 F3:=s'.trans (s2.trans s3);cases o1 with
  | nx tN=>exact fun F4 Mf H4 R4 s4=>⟨F4,tN,R4,up.trans s4,hr⟩
  | ct tN=>exact fun F4 Mf H4 R4 s4=>⟨F4,tN,R4,up.trans s4,hr⟩
  | bk tN =>
   cases hr;exact fun F4 Mf H4 R4 s4=>q F4 Mf H4 R4 (s1.trans (up.trans s4))
  | rt p =>
   cases hr;exact wD.mono q (s1.trans up)
  | ex m C tN =>
   cases hr;exact Gh.mono q (s1.trans up)
 ·have e:i=ps.length:=by lia
  subst e;rw[BH]at hr;cases hr;exact .inl ⟨M8 (l0 (bh _)),q F' cn H' R' (s1.trans s')⟩
theorem Gj{K:ak}{F:Hp}{a:ae}{vs:List V}{ps:az}(hs:lu K F a vs)(hb:bt K F ps vs):Jz K (Uz K a) F ps:=by
 intro H₀ ab F' ρ σ H R s i;have hq:lu K H a vs:=(s.trans R.sub).seq hs;refine⟨fun p e=>?_,fun e=>?_⟩
 ·obtain⟨v,e1,b1⟩:=hb.get e;refine⟨⟨vs,v,hq,e1⟩,fun x H' ⟨hH,y⟩=>?_⟩
  subst hH;have:=y vs hq;rw[e1]at this;cases this;exact⟨F',R,Same.refl _,b1.mono s⟩
 ·refine⟨vs,hq,?_⟩;rw[<-hb.length];exact lY.mp e
theorem JA{K:ak}{F:Hp}{a:ae}{vs:List V}{ps:az}(hs:jm K F a vs)(hb:bt K F ps vs):Jz K (Itt K a) F ps:=by
 intro H₀ ab F' ρ σ H R s i;have hq:jm K H a vs:=bA (s.trans R.sub) hs;refine⟨fun p e=>?_,fun e=>?_⟩
 ·obtain⟨v,e1,b1⟩:=hb.get e;refine⟨⟨vs,v,hq,e1⟩,fun x H' ⟨hH,y⟩=>?_⟩
  subst hH;have:=y vs hq;rw[e1]at this;cases this;exact⟨F',R,Same.refl _,b1.mono s⟩
 ·refine⟨vs,hq,?_⟩;rw[<-hb.length];exact lY.mp e
theorem Cr{K:ak}{F:Hp}(lo:Int)(n:Nat):Jz K (YB lo n) F ((List.range n).map fun(i:Nat)=>.int (lo+i)):=by
 intro H₀ ab F' ρ σ H R s i;refine⟨fun p e=>?_,fun e=>?_⟩
 ·rw[cu]at e;by_cases hi:i<n
  ·rw[qI hi]at e;cases e;exact⟨hi,fun x H' ⟨hH,y⟩=>by subst hH y;exact⟨F',R,Same.refl _,aI.mpr rfl⟩⟩
  ·rw[l0 (by simpa using hi)]at e;cases e
 ·rw[cu]at e;by_cases hi:i<n
  ·rw[qI hi]at e;cases e
  ·exact BL hi
def cJ(fe:FE):bX:=fun ρ=>(fe ρ).bind fun p=>match p with | .aB ps=>some ps | .au ps=>some ps | _=>none
theorem El(he:PE X e (tE X.K H₀ ab fe)):PI X tg e (tI X.K H₀ ab (cJ fe)):=by
 intro ag s σ H R I h;obtain⟨F,ρ,ps,Rp,hf,q⟩:=h;obtain⟨p,h1,h2⟩:=ay hf;cases p with
 | aB qs =>
  cases h2;refine Ry he ag s σ H R I ⟨F,ρ,_,Rp,h1,fun v H1 F1 R1 s1 b1=>?_⟩
  obtain⟨a,vs,rfl,hs,hb⟩:=bM.mp b1;exact⟨a,rfl,⟨vs,bA R1.sub hs⟩,q _ H1 F1 R1 s1 (JA hs hb)⟩
 | au qs =>
  cases h2;refine D9 he ag s σ H R I ⟨F,ρ,_,Rp,h1,fun v H1 F1 R1 s1 b1=>?_⟩
  obtain⟨a,vs,rfl,hs,hb⟩:=bB.mp b1;exact⟨a,rfl,⟨vs,(b0 R1.sub hs).sq⟩,q _ H1 F1 R1 s1 (Gj hs.sq hb)⟩
 | _=>cases h2
def gG(ts:bX):bX:=fun ρ=>(ts ρ).bind fun ps=>match ps with | [.int j]=>if -(2^62)<=j/\j<2^62 then some ((List.range j.toNat).map fun(i:Nat)=>.int (0+i))else none | _=>none
theorem M9{p:Pos}{ts:bX}(hg:Gl X "range")(hm:X.mg "range"=none)(ha:PA X [a] (tA X.K H₀ ab ts))(hs:starEach [a] X.env=[(false,eval a X.env)]:=by rfl):PI X tg (.Call (.Name "range" p) [a] [] pos) (tI X.K H₀ ab (gG ts)) :=
 (FQ hg hm ha hs).imp <| by
  rintro σ H Rr ⟨F,ρ,ps,R,hf,q⟩
  obtain⟨as,h1,h2⟩:=ay hf;refine⟨F,ρ,as,R,h1,fun vs H1 F1 R1 s1 b1=>?_⟩
  match as,h2 with
  | [.int j],h2 =>
   obtain⟨hj,rfl⟩:=aN h2;obtain⟨v,r,rfl,bv,br⟩:=b1.ck;rw[br.cf,aI.mp bv];exact⟨j,rfl,hj.1,hj.2,q _ H1 F1 R1 s1 (Cr 0 j.toNat)⟩
end
section
variable {prog:bJ} {w:aW} {A:bY} {R:Result->aw->Prop} {s:aw}
abbrev nb(prog:bJ)(w:aW)(A:bY)(env:Env)(R:Result->aw->Prop):cS:=notedBy (model prog w) A env fun e s'=>R (.error e) s'
abbrev Em(ifs:List aq)(env:Env):Sem Bool:=forIn ifs true fun c r=>if r=true then do let ok <-isTrue c env (eval c env);pure (ForInStep.yield ok)else pure (ForInStep.yield r)
theorem Gk{elt tg iter:aq}{ifs:List aq}{scope:Scope}{pos:Pos}{it acc:aj}{env:Env}(I:Nat->aw->Prop)
  (tW:∀n s,I n s->wpAny (model prog w) A (pyNext it) (fun r s1=>match r with
   | none=>R (.ok .next) s1
   | some v=>wpAny (model prog w) A (letOwnedTupleGo tg it v) (fun _ UE=>wpAny (model prog w) A (assign tg env v) (fun _ s2=>wpAny (model prog w) A (Em ifs env) (fun ok s3 =>
      if ok=true then wpAny (model prog w) A (eval elt env) (fun x s4=>wpAny (model prog w) A (call (.builtin "list.append") [acc,x]) (fun _ s5=>∃m,m<n/\I m s5) (nb prog w A env R) s4) (nb prog w A env R) s3
      else ∃m,m<n/\I m s3) (nb prog w A env R) s2) (nb prog w A env R) UE) (nb prog w A env R) s1) (nb prog w A env R) s)
  (n:Nat) (h:I n s):codeAny (model prog w) A (.compLoop (.ListComp elt [⟨tg,iter,ifs,0⟩] scope pos) 0 it acc env) R s:=by
 refine codeAny_loop rfl I (fun n s hI=>?_) n h
 show wpAny _ A ((compTurn (.ListComp elt [⟨tg,iter,ifs,0⟩] scope pos) 0 it acc env).onRaise (fun x=>do noteFrame x env;theTreesLotGoes x)) _ _ s
 refine wpAny_noted ?_;rw[compTurn_list];refine av (wpAny_standAt (av (thn (tW n s hI) fun r s1 h1=>?_)))
 cases r with
 | none=>exact aK h1
 | some v =>
  refine av (thn h1 fun _ UE Wd=>av (thn Wd fun _ s2 h2=>av (thn h2 fun ok s3 h3=>?_)))
  cases ok with
  | false=>exact aK ⟨rfl,h3⟩
  | true=>exact av (av (thn h3 fun x s4 h4=>av (thn h4 fun _ s5 h5=>aK (aK ⟨rfl,h5⟩))))
end
def j4(env:Env):List (Str×NameKind)->List (Str×ae)->List (Str×ae)
 | [],cs=>cs
 | (n,k)::r,cs=>j4 env r (if k==.free then(match env.cells.lookup n with | some c=>(n,c)::cs | none=>cs)else cs)
theorem rO{env:Env}{scope:Scope}(h:∀y∈scope.names,y.2=.free->∃c,env.cells.lookup y.1=some c):closureFor scope env=pure (j4 env scope.names []):=by
 have all:∀(l:List (Str×NameKind)) (cs:List (Str×ae)),(∀y∈l,y.2=.free->∃c,env.cells.lookup y.1=some c) ->
   (forIn l cs fun x r=>(match x with | (name,kind)=>if(kind==NameKind.free)=true then do let a <-cellOf env name;pure (ForInStep.yield ((name,a)::r))else pure (ForInStep.yield r):Sem (ForInStep (List (Str×ae)))))=pure (j4 env l cs):=by
  intro l;induction l with
  | nil=>intro cs _;rfl
  | cons y l ih =>
   intro cs hl;obtain⟨n,k⟩:=y;rw[List.forIn_cons];by_cases hk:k=.free
   ·subst hk;obtain⟨c,hc⟩:=hl (n,.free) b6 rfl;have D5:env.cells.lookup n=some c:=hc;have e1:cellOf env n=pure c:=by unfold cellOf;rw[D5]
    simp only[vQ,ko,e1,pure_bind,j4,D5];exact ih _ fun y hy=>hl y (bQ _ hy)
   ·have hb:(k==NameKind.free)=false:=by simpa using hk
    simp only[hb,Bool.false_eq_true,oz,pure_bind,j4];exact ih _ fun y hy=>hl y (bQ _ hy)
 unfold closureFor;have:=all scope.names [] h;simp only[bind_pure]at this ⊢;exact this
theorem zh{env:Env}:∀(l:List (Str×NameKind)) (cs:List (Str×ae)) (p:Str×ae),p∈j4 env l cs->p∈cs\/env.cells.lookup p.1=some p.2
 | [],_,_,h=>.inl h
 | (n,k)::r,cs,p,h=>by
  unfold j4 at h;rcases zh r _ p h with q | q
  ·split at q
   ·split at q
    ·rename_i c hc;rcases bc.mp q with z | z
     ·subst z;exact .inr hc
     ·exact .inl z
    ·exact .inl q
   ·exact .inl q
  ·exact .inr q
theorem cM{env:Env}{l:List (Str×NameKind)}{x:Str}{c:ae}(h:(j4 env l []).lookup x=some c):env.cells.lookup x=some c:=by
 rcases zh l [] (x,c) (el h)with q | q
 ·cases q
 ·exact q
theorem uY{env:Env}{x:Str}:∀(l:List (Str×NameKind)) (cs:List (Str×ae)),(∃c,(x,c)∈cs)->∃c,(x,c)∈j4 env l cs
 | [],_,h=>h
 | (n,k)::r,cs,⟨c,h⟩=>by
  unfold j4;refine uY r _ ⟨c,?_⟩;split
  ·split
   ·exact bQ _ h
   ·exact h
  ·exact h
theorem kz{env:Env}{x:Str}:∀(l:List (Str×NameKind)) (cs:List (Str×ae)),(x,NameKind.free)∈l->(∃c,env.cells.lookup x=some c)->∃c,(x,c)∈j4 env l cs
 | [],_,h,_=>by cases h
 | (n,k)::r,cs,h,hc=>by
  unfold j4;rcases bc.mp h with z | z
  ·cases z;obtain⟨c,e⟩:=hc;refine uY r _ ⟨c,?_⟩;simp[e]
  ·exact kz r _ z hc
theorem jn{x:Str}{c:ae}:∀{l:List (Str×ae)},(x,c)∈l->∃c',l.lookup x=some c'
 | [],h=>by cases h
 | (n,d)::r,h=>by
  rw[jh];cases hx:x==n with
  | true=>exact⟨d,rfl⟩
  | false =>
   rcases bc.mp h with z | z
   ·cases z;simp at hx
   ·exact jn z
def cU(X:Cx)(N:List Str)(scope:Scope)(C:ae)(s:aw)(H:Hp)(fp:List ae):Cx where
 prog:=X.prog
 w:=X.w
 K:=X.K
 mg:=X.mg
 base:=X.base
 A:=X.A
 N:=N
 s₀:=s
 H₀:=H
 env:=compEnvC scope (j4 X.env scope.names []) C X.env
 outer:=X.stack
 stack:=X.stack
 ex:=fp
 fn:=fun _=>false
 calm:=X.calm
 pn:=[]
 xe:=fun _ _=>False
theorem iA{env:Env}:∀(names:List (Str×NameKind)) (x:Str),(names.map fun(n,k)=>if(k==NameKind.free&&env.scope.kind==.function&&env.kindOf n==some .cell)then(n,NameKind.cell)else(n,k)).lookup x =
  (names.lookup x).map fun k=>if(k==NameKind.free&&env.scope.kind==.function&&env.kindOf x==some .cell)then NameKind.cell else k
 | [],_=>rfl
 | (n,j)::r,x=>by
  have e:(if(j==NameKind.free&&env.scope.kind==.function&&env.kindOf n==some .cell)=true then(n,NameKind.cell)else(n,j))=(n,if(j==NameKind.free&&env.scope.kind==.function&&env.kindOf n==some .cell)=true then NameKind.cell else j):=by split<;>rfl
  show List.lookup x ((if(j==NameKind.free&&env.scope.kind==.function&&env.kindOf n==some .cell)=true then(n,NameKind.cell)else(n,j))::_)=_
  rw[e,jh,jh];cases hx:x==n with
  | true =>
   have Ga:x=n:=bE hx;subst Ga;rfl
  | false=>exact iA r x
theorem nj{env:Env}{names:List (Str×NameKind)}{x:Str}{k:NameKind}(h:(names.map fun(n,k)=>if(k==NameKind.free&&env.scope.kind==.function&&env.kindOf n==some .cell)then(n,NameKind.cell)else(n,k)).lookup x=some k) :
  names.lookup x=some k\/(k=.cell/\names.lookup x=some .free):=by
 rw[iA]at h;cases z:names.lookup x with
 | none=>rw[z]at h;cases h
 | some j =>
  rw[z]at h;have h:(if(j==NameKind.free&&env.scope.kind==.function&&env.kindOf x==some .cell)=true then NameKind.cell else j)=k:=bD h
  split at h
  ·rename_i hc;simp only[aQ]at hc;have hj:j=.free:=bE hc.1.1;exact .inr ⟨h.symm,by rw[hj]⟩
  ·exact .inl (by rw[h])
theorem wF{env:Env}{names:List (Str×NameKind)}{x:Str}(h:names.lookup x=some .free) :
  (names.map fun(n,k)=>if(k==NameKind.free&&env.scope.kind==.function&&env.kindOf n==some .cell)then(n,NameKind.cell)else(n,k)).lookup x=some .cell \/
  (names.map fun(n,k)=>if(k==NameKind.free&&env.scope.kind==.function&&env.kindOf n==some .cell)then(n,NameKind.cell)else(n,k)).lookup x=some .free:=by
 rw[iA,h];show some (if _ then _ else _)=_\/some (if _ then _ else _)=_
 split
 ·exact .inl rfl
 ·exact .inr rfl
structure gH (X:Cx) (N:List Str) (link:List (Option Nat)) (scope:Scope):Prop where
 kind:scope.kind=.function
 cell:∀y∈scope.names,y.2≠.cell
 names:∀y∈scope.names,y.2=.local->scope.names.lookup y.1=some .local
 free:∀y∈scope.names,y.2=.free->(X.env.kindOf y.1=some .cell\/X.env.kindOf y.1=some .free)
 len:link.length=N.length
 link:∀(i j:Nat) (x:Str),link[i]?=some (some j)->N[i]?=some x->X.N[j]?=some x/\scope.names.lookup x=some .free
def inner(link:List (Option Nat))(σ:St):St:=link.map fun o=>o.bind fun j=>(σ[j]?).join
section
variable {X:Cx} {ag:List (ae×Obj)} {σ:St} {H:Hp} {s:aw}
theorem Inv.adopt{D:ae}{o:HO}(I:Inv X ag σ H s)(hn:H D=none)(h1:X.s₀.heap.objs.size<=D)(h2:D≠X.env.locals)(h3:∀x c,X.env.cells.lookup x=some c->c≠D)(h4:∀p∈X.pn++ag,p.1≠D)
  (ho:fg X.prog X.w (dX H D o) s.heap D o):Inv X ag σ (dX H D o) s:=by
 have ne:∀b u,H b=some u->b≠D:=fun b u e z=>by rw[z,hn]at e;cases e
 refine I.step (h':=s.heap) (g':=s.gens) (t':=s.toks) (d':=s.drawn) (ch:=[D]) (fun b hb=>?_) (fun b u _ _ _ e _=>e) (fun b u _ _ _ e _=>⟨u.slots,e⟩) (fun b u hc _ n=>?_) (fun b u _ e=>⟨u,e⟩)
  (fun b xs e=>by rw[aR (ne b _ e)];exact e) (fun b u xs e=>by rw[aR (ne b _ e)];exact e) (fun b ps e=>by rw[aR (ne b _ e)];exact e) (fun m hm=>hm) (fun b u e=>?_) I.bare
 ·have e:b=D:=by simpa using hb
  subst e;exact⟨.inr h1,h2,h3,h4⟩
 ·rw[aR (fun z=>hc (by simp[z]))];exact n
 ·by_cases hb:b=D
  ·subst hb;rw[aX]at e;cases e;exact ho
  ·rw[aR hb]at e;exact(I.hok b u e).yP (fun _ _ _ q=>q) (fun c q=>by rw[aR (ne c _ q)];exact q) (fun c xs q=>by rw[aR (ne c _ q)];exact q) fun c ob v q=>by rw[aR (ne c _ q)];exact q
theorem Cs{N:List Str}{link:List (Option Nat)}{scope:Scope}{fp:List ae}{C:ae}{h:Heap}{tk:Nat}(S:gH X N link scope)(I:Inv X ag σ H s)(YO:∀b∈fp,wc X ag H b)
  (hC:s.heap.objs.size<=C) (ns:h.Ns C fun _=>none) (hk:∀b o,s.heap.get? b=some o->h.get? b=some o) (hex:∀b∈fp,∃o,s.heap.get? b=some o) :
  Inv (cU X N scope C s H fp) [] (inner link σ) H {s with heap:=h,toks:=tk}:=by
 have rm:∀y∈scope.names,y.2=.free->∃c,X.env.cells.lookup y.1=some c:=fun y hy hf=>I.ok.has y.1 (S.free y hy hf)
 have abb:∀x c,X.env.cells.lookup x=some c->c<s.heap.objs.size:=fun x c e=>let ⟨v,o,ho,_⟩:=I.cell x c e;bO ho
 refine⟨⟨I.ok.mod,S.kind,I.ok.glob,I.ok.blt,hC,fun x y c h1 h2=>I.ok.inj x y c (cM h1) (cM h2),fun x hx=>?_,fun x c hx=>(by cases hx),I.ok.hd,I.ok.frames,.inl rfl,fun b hb=>⟨?_,fun x c e=>(YO b hb).2.2.2.2.1 x c (cM e)⟩,I.bs,cF I.ok.bsz I.sz,
  fun b o e hb=>?_,fun b hb z=>?_,I.stack,I.D3,I.tabs⟩,rfl,I.bare,Un.kept hk,⟨_,ns,fun i x v e1 e2 e3=>?_⟩,fun x c e=>?_,I.hok.fresh hC,fun x c e=>I.freeC x c (cM e),fun p hp=>(by cases hp),I.hok.kept hk,by unfold inner;rw[aC];exact S.len⟩
 ·-- PM cells are there
  have Ga:(scope.names.map fun(n,k)=>if(k==NameKind.free&&X.env.scope.kind==.function&&X.env.kindOf n==some .cell)then(n,NameKind.cell)else(n,k)).lookup x=some .cell\/(scope.names.map fun(n,k)=>if(k==NameKind.free&&X.env.scope.kind==.function&&X.env.kindOf n==some .cell)then(n,NameKind.cell)else(n,k)).lookup x=some .free:=hx
  have hf:scope.names.lookup x=some .free:=by
   rcases Ga with h1 | h1
   ·rcases nj h1 with q | ⟨_,q⟩
    ·exact absurd rfl (S.cell _ (el q))
    ·exact q
   ·rcases nj h1 with q | ⟨z,_⟩
    ·exact q
    ·cases z
  have hm:=el hf;obtain⟨c,hc⟩:=kz scope.names [] hm (rm _ hm rfl);exact jn hc
 ·intro z;obtain⟨o,ho⟩:=hex b hb;exact absurd (cQ (bO ho) (cF hC (ov z.symm))) (jl _)
 ·rcases(YO b hb).2.2.2.1 with z | z
  ·exact I.ok.noex b o e z
  ·exact absurd (cQ (bO e) (cF I.ok.bsz z)) (jl _)
 ·rcases bc.mp (I.B6 b z)with q | q
  ·exact(YO b hb).2.1 q
  ·exact(YO b hb).2.2.1 q
 ·-- a slot: adj ae1 from PM abd
  have hi:i<link.length:=by
   have:=(cP.mp e2).1;unfold inner at this
   rwa [aC]at this
  unfold inner at e2;rw[cu,du hi]at e2;have e2:(link[i].bind fun j=>(σ[j]?).join)=some v:=bD e2
  cases z:link[i]with
  | none=>rw[z]at e2;cases e2
  | some j =>
   rw[z]at e2;have e2:(σ[j]?).join=some v:=e2;have e4:σ[j]?=some (some v):=by
    cases q:σ[j]? with
    | none=>rw[q]at e2;cases e2
    | some q'=>rw[q]at e2;cases q' with
     | none=>cases e2
     | some v'=>cases e2;rfl
   obtain⟨hX,hf⟩:=S.link i j x (by rw[du hi,z]) e1
   have hm:=el hf;have YQ:=S.free _ hm rfl;obtain⟨m,hn,hl⟩:=I.loc;obtain⟨u,r,l⟩:=hl j x v hX e4 (by rcases YQ with q | q;exact .inr (.inl q);exact .inr (.inr q))
   refine⟨u,r,.inr ⟨wF hf,?_⟩⟩;obtain⟨c,hc⟩:=kz (env:=X.env) scope.names [] hm (rm _ hm rfl);obtain⟨c',D5⟩:=jn hc;refine⟨c',D5,?_⟩;rcases l with⟨lk,_⟩ | ⟨_,d,hd,ku⟩
   ·rcases YQ with q | q<;>(rw[show X.env.kindOf x=some .local from lk]at q;cases q)
   ·have:=cM D5;rw[hd]at this;cases this;exact ku.keeps hk
 ·obtain⟨v,o,ho,hd⟩:=I.cell x c (cM e);exact⟨v,o,hk _ _ ho,hd⟩
end
abbrev TB:=V->St->Hp->(Option V->St->Hp->Prop)->Prop
def PB(X:Cx)(tg:aq)(ifs:List aq)(elt:aq)(tb:TB):Prop :=
 ∀(ag:List (ae×Obj)) (s:aw) (σ:St) (H:Hp) (v:V) (u:aj) (Q:Option V->St->Hp->Prop),Inv X ag σ H s->RelV v u->tb v σ H Q ->
  wpAny (model X.prog X.w) X.A (assign tg X.env u) (fun _ s2=>wpAny (model X.prog X.w) X.A (Em ifs X.env) (fun ok s3 =>
   if ok=true then wpAny (model X.prog X.w) X.A (eval elt X.env) (fun y s4=>∃v' cn H',Inv X ag cn H' s4/\RelV v' y/\Q (some v') cn H') X.xe s3
   else ∃cn H',Inv X ag cn H' s3/\Q none cn H') X.xe s2) X.xe s
theorem rP{X:Cx}{tg elt:aq}{g:TG}{te:TE}(hg:PG X tg g)(he:PE X elt te):PB X tg [] elt (fun v σ H Q=>g v σ H fun gW H1=>te gW H1 fun y H2=>Q (some y) gW H2):=by
 intro ag s σ H v u Q I r h;refine thn (hg ag s σ H v u _ I r h) fun _ s2 ⟨gW,H1,I1,q1⟩=>aK ?_
 rw[if_pos rfl];exact thn (he ag s2 gW H1 _ I1 q1) fun y s4 ⟨v',H2,I2,r2,q2⟩=>⟨v',gW,H2,I2,r2,q2⟩
theorem En{X:Cx}{tg elt c:aq}{g:TG}{te:TE}{tc:TT}(hg:PG X tg g)(hc:PT X c tc)(he:PE X elt te) :
  PB X tg [c] elt (fun v σ H Q=>g v σ H fun gW H1=>tc gW H1 fun b H2=>if b=true then te gW H2 fun y H3=>Q (some y) gW H3 else Q none gW H2):=by
 intro ag s σ H v u Q I r h;refine thn (hg ag s σ H v u _ I r h) fun _ s2 ⟨gW,H1,I1,q1⟩=>?_
 refine wpAny_tests_one (thn (hc ag s2 gW H1 _ I1 q1) fun b s3 ⟨H2,I2,q2⟩=>?_)
 cases b with
 | true =>
  rw[if_pos rfl]at q2 ⊢;exact thn (he ag s3 gW H2 _ I2 q2) fun y s4 ⟨v',H3,I3,r3,q3⟩=>⟨v',gW,H3,I3,r3,q3⟩
 | false =>
  rw[if_neg iu]at q2 ⊢;exact⟨gW,H2,I2,q2⟩
def lM(link:List (Option Nat))(wi:TI)(tb:TB):TE:=fun σ H Q=>wi σ H fun J H1=>∃W:Nat->Nat->List V->St->Hp->Prop,(∃m,W 0 m [] (inner link σ) H1)/\∀i m acc cn H',W i m acc cn H' ->
 (J.stop i H'/\acc.length<=sizeLine/\∀D,H' D=none->Q (.ref D) (dX H' D (.au acc))) \/
 (J.go i H'/\acc.length<sizeLine/\∀x H2,J.yld i H' x H2->tb x cn H2 fun o lx H3=>∃m',m'<m/\W (i+1) m' (acc++o.toList) lx H3)
structure abe (X:Cx) (ag:List (ae×Obj)) (H:Hp) (C:ae):Prop where
 free:H C=none
 above:X.s₀.heap.objs.size<=C
 loc:C≠X.env.locals
 cell:∀x c,X.env.cells.lookup x=some c->c≠C
 pin:∀p∈X.pn++ag,p.1≠C
theorem uZ{X:Cx}{N:List Str}{link:List (Option Nat)}{scope:Scope}{tg iter elt:aq}{ifs:List aq}{pos gO:Pos}{wi:TI}{tb:TB}{use:Option (aj->Sem Unit)}{Q':cS}{ag:List (ae×Obj)}{s:aw}{σ:St}{H:Hp}{Q:VK}(hc:X.calm=true)(S:gH X N link scope)(hi:PI X tg iter wi)
  (hb:∀(C:ae) (s:aw) (H:Hp) (fp:List ae),PB (cU X N scope C s H fp) tg ifs elt tb) (hs:∀x,foldedSetIterable iter X.env x=pure x) (I:Inv X ag σ H s) (h:lM link wi tb σ H Q)
  (abf:∀(s5:aw) (D C:ae) (H5:Hp) (m:dM),Inv X ag σ H5 s5->Q (.ref D) H5->s5.heap.Ns C m->abe X ag H5 C->compPost (model X.prog X.w) X.A X.xe use Q' (.ref D) C (.ok .next) s5) :
  wpAny (model X.prog X.w) X.A (comprehension (.ListComp elt [⟨tg,iter,ifs,0⟩] scope pos) scope X.env gO (newList []) false (eval iter X.env) use) Q' X.xe s:=by
 have rm:∀y∈scope.names,y.2=.free->∃c,X.env.cells.lookup y.1=some c:=fun y hy hf=>I.ok.has y.1 (S.free y hy hf)
 refine wpAny_comprehension_free (use:=use) rfl hs (rO rm) S.kind S.names (thn (hi ag s σ H _ I h) fun v s1 h1=>thn h1 fun itv s2 h2=>?_)
 obtain⟨it,fp,tn,J,H2,rfl,I2,T,Ea,f2,W,⟨m0,w0⟩,tW⟩:=h2;refine je (wpAny_newFunctionEnv S.cell (by intro y hy;simp at hy) (fun F9 ns sb=>?_) S.kind)
 dsimp only at ns sb ⊢
 generalize hD:s2.heap.push {cls:=.type "list",dict:=none,data:=.seq ([]:cb).toArray}=HD at ns sb ⊢
 have hC:HD.objs.size=s2.heap.objs.size+1:=by rw[<-hD,qP]
 have YR:s2.heap.objs.size≠HD.objs.size:=by rw[hC];exact cI (BO _)
 have JB:s2.heap.objs.size<=HD.objs.size:=by rw[hC];exact Nat.le_succ _
 have old:∀b o,s2.heap.get? b=some o->F9.get? b=some o:=fun b o e=>by
  have eM:=bO e;exact sb.extBut b o (cI (cQ eM JB)) (cx _ (by rw[<-hD];exact cx _ e))
 have abg:F9.get? s2.heap.objs.size=some {cls:=.type "list",data:=.seq ([]:cb).toArray} :=
  sb.extBut _ _ YR (cx _ (by rw[<-hD];exact dZ _ rfl))
 generalize eD:s2.heap.objs.size=D at *
 generalize eC:HD.objs.size=C at *
 have exO:∀b∈fp,∃o,s2.heap.get? b=some o:=fun b lN=>let ⟨o,e,_⟩:=T.obj _ _ Ea b lN;⟨o,e⟩
 have I3:∀tk,Inv (cU X N scope C s2 H2 fp) [] (inner link σ) H2 {s2 with heap:=F9,toks:=tk}:=fun tk =>
  Cs S I2 f2 (by rw[eD];exact JB) ns old exO
 have fpD:∀b∈fp,b≠D:=fun b lN z=>by
  obtain⟨o,e⟩:=exO b lN;have:=bO e;rw[z,<-eD]at this;exact jl _ this
 have Cb:∀{H':Hp} {pl:List (ae×Obj)},(∀b∈fp,H' b=none)->(∀p∈pl,p.1=D)->∀b∈fp,wc (cU X N scope C s2 H2 fp) pl H' b:=fun {H' pl} hn hp b lN=>by
  have K0:=(I3 0).ok.exf b lN;exact⟨hn b lN,K0.1,(I3 0).ok.exfs b lN,.inl lN,K0.2,fun p Ct z=>fpD b lN (z▸hp p (by simpa[cU]using Ct))⟩
 have We:∀x c,(cU X N scope C s2 H2 fp).env.cells.lookup x=some c->c≠D:=fun x c e z=>by
  obtain⟨v,o,ho,_⟩:=I2.cell x c (cM e);have:=bO ho;rw[z,<-eD]at this;exact jl _ this
 have fsD:D∉(cU X N scope C s2 H2 fp).fs:=fun z=>by
  obtain⟨_,o,ho,_⟩:=I2.stack.mem z;have:=bO ho;rw[<-eD]at this;exact jl _ this
 have loop:∀s3:aw,s3={s2 with heap:=F9,toks:=s2.toks+([]:List (Str×aj)).length} ->
   codeAny (model X.prog X.w) X.A (.compLoop (.ListComp elt [⟨tg,iter,ifs,0⟩] scope pos) 0 (.ref it) (.ref D) (cU X N scope C s2 H2 fp).env) (compPost (model X.prog X.w) X.A X.xe use Q' (.ref D) C) s3:=by
  rintro s3 rfl
  refine Gk (fun n s'=>∃i acc cn H' aY nn,Inv (cU X N scope C s2 H2 fp) [] cn H' s'/\tn i s'.heap/\(∀b∈fp,H' b=none)/\H' D=none/\s'.heap.get? D=some {cls:=.type "list",data:=.seq (aY:cb).toArray nn}/\Vals acc aY/\W i n acc cn H') ?_ m0
   ⟨0,[],_,H2,[],0,I3 _,T.keep _ _ _ Ea fun b lN o e=>old b o e,fun b lN=>(f2 b lN).1,I2.hok.fresh (ov eD),abg,.nil,w0⟩
  rintro n s4 ⟨i,acc,Mf,H4,aY,nn,I4,st4,fr4,hD4,Jn,hv,w4⟩
  have Wf:Inv (cU X N scope C s2 H2 fp) [(D,{cls:=.type "list",data:=.seq aY.toArray nn})] Mf H4 s4:=I4.mY fun p hp=>by
   have e:p=(D,{cls:=.type "list",data:=.seq aY.toArray nn}):=by simpa using hp
   subst e;exact⟨Jn,hD4,YR,fsD,fun v=>by simp⟩
  have JC:∀p∈[(D,({cls:=.type "list",data:=.seq aY.toArray nn}:Obj))],p.1=D:=fun p hp=>by
   have e:p=(D,{cls:=.type "list",data:=.seq aY.toArray nn}):=by simpa using hp
   rw[e]
  rcases tW i n acc Mf H4 w4 with⟨stop,hz,q⟩ | ⟨go,hz,step⟩
  ·refine thn (T.done (cU X N scope C s2 H2 fp) rfl rfl rfl hc i _ s4 Mf H4 _ Wf (Cb fr4 JC) st4 stop) fun r s5 ⟨hr,I5⟩=>?_
   subst hr;obtain⟨m,hn,_⟩:=I5.loc;have pD:=I5.pin (D,{cls:=.type "list",data:=.seq aY.toArray nn}) (dC _ (cq.mpr rfl))
   have YS:∀b o,s2.heap.get? b=some o->b≠D/\b≠C:=fun b o e=>by
    have:=bO e;rw[eD]at this;exact⟨cI this,cI (cQ this JB)⟩
   have Ql:X.env.locals≠D/\X.env.locals≠C:=by
    have:=I2.lt;rw[eD]at this;exact⟨cI this,cI (cQ this JB)⟩
   have I6:Inv X ag σ H4 s5:=I2.Vi I5.os I5.base I5.hok I5.bare fun b lN=>⟨(f2 b lN).2.2.2.1,(f2 b lN).2.1,(f2 b lN).2.2.2.2.1,(f2 b lN).2.2.2.2.2⟩
   have I7:=Inv.adopt (D:=D) (o:=.au acc) I6 pD.2.1 (cF I2.sz (ov eD)) (er Ql.1) (fun x c e=>let ⟨v,o,ho,_⟩:=I2.cell x c e;(YS c o ho).1)
    (fun p hp=>(YS p.1 p.2 (I2.pin p hp).1).1) ⟨hz,aY,nn,hv,pD.1⟩
   exact abf s5 D C _ m I7 (q D pD.2.1) hn ⟨by rw[aR (er YR)];exact I5.free,cF (cF I2.sz (ov eD)) JB,er Ql.2,fun x c e=>let ⟨v,o,ho,_⟩:=I2.cell x c e;(YS c o ho).2,fun p hp=>(YS p.1 p.2 (I2.pin p hp).1).2⟩
  ·refine thn (T.item (cU X N scope C s2 H2 fp) rfl rfl rfl hc i _ s4 Mf H4 _ Wf (Cb fr4 JC) st4 go) fun r s5 ⟨u,hr,h5⟩=>?_
   subst hr;refine thn h5 fun _ s5' ⟨x,H5,I5,r5,y5,RA,fr5⟩=>?_
   have I5':=I5.pinned (Cb fr5 JC) (T.obj _ _ RA);have fin:∀{o:Option V} {YC:St} {H6:Hp} {s6:aw},Inv (cU X N scope C s2 H2 fp) ([(D,{cls:=.type "list",data:=.seq aY.toArray nn})]++rA fp s5'.heap) YC H6 s6 ->
     tn (i+1) s6.heap/\(∀b∈fp,H6 b=none)/\H6 D=none/\s6.heap.get? D=some {cls:=.type "list",data:=.seq aY.toArray nn}:=fun {o YC H6 s6} I6=>by
    have pD:=I6.pin (D,_) (dC _ (ir _ (cq.mpr rfl)));refine⟨T.keep _ _ _ RA fun b lN o e=>(I6.pin (b,o) (dC _ (dC _ (jM lN e)))).1,fun b lN=>?_,pD.2.1,pD.1⟩
    obtain⟨o,e,d⟩:=T.obj _ _ RA b lN;exact(I6.pin (b,o) (dC _ (dC _ (jM lN e)))).2.1
   refine mh (hb C s2 H2 fp _ s5' Mf H5 x u _ I5' r5 (step x H5 y5)) (fun _ s6 h6=>mh h6 (fun ok s7 h7=>?_) fun _ _ z=>False.elim z) fun _ _ z=>False.elim z
   cases ok with
   | false =>
    rw[if_neg iu]at h7 ⊢;obtain⟨YT,H8,I8,m',hm',w8⟩:=h7;obtain⟨a1,a2,a3,a4⟩:=fin (o:=none) I8;exact⟨m',hm',i+1,_,YT,H8,aY,nn,I8.mY (fun p hp=>by cases hp),a1,a2,a3,a4,by simpa using hv,w8⟩
   | true =>
    rw[if_pos rfl]at h7 ⊢;refine mh h7 (fun y s8 ⟨v8,YT,H8,I8,r8,m',hm',w8⟩=>?_) fun _ _ z=>False.elim z
    obtain⟨a1,a2,a3,a4⟩:=fin (o:=some v8) I8;have hl:=hv.length;refine oy F.slot_list_append ⟨_,a4,rfl⟩ F.entry_list_append (F.args_list_append_2 _ _) (PySem.list_append D aY.toArray nn y (by rw[bF];lia)) ⟨a4,?_⟩
    have I9:Inv (cU X N scope C s2 H2 fp) [] YT H8 s8:=I8.mY (fun p hp=>by cases hp)
    have qq:=PySem.IsL.update a4 fun z=>z.push y
    have hp:aY.toArray.push y=(aY++[y]).toArray:=by simp
    rw[hp]at qq;refine⟨m',hm',i+1,_,YT,H8,aY++[y],_,I9.turned (it:=D) (fun b o hne e=>(Bw _ _ (er hne)).trans e) a3 YR (.inr (ov eD)) We (fun p hp=>by simp[cU]at hp),T.keep _ _ _ a1 fun b lN o e=>(Bw _ _ (er (fpD b lN))).trans e,a2,a3,qq,hv.append (.cons r8 .nil),w8⟩
 exact codeAny_compStart_list (loop _ rfl) (T.self _ 0 _ _ _ (T.keep _ _ _ Ea fun b lN o e=>old b o e) (loop _ rfl))
theorem wG{X:Cx}{N:List Str}{link:List (Option Nat)}{scope:Scope}{tg iter elt:aq}{ifs:List aq}{pos:Pos}{wi:TI}{tb:TB}(hc:X.calm=true)(S:gH X N link scope)(hi:PI X tg iter wi)
  (hb:∀(C:ae) (s:aw) (H:Hp) (fp:List ae),PB (cU X N scope C s H fp) tg ifs elt tb) (hs:∀x,foldedSetIterable iter X.env x=pure x:=by intro _;rfl) :
  PE X (.ListComp elt [⟨tg,iter,ifs,0⟩] scope pos) (lM link wi tb):=by
 intro ag s σ H Q I h;rw[eval_ListComp];refine uZ hc S hi hb hs I h fun s5 D C H5 m I5 q hn L=>⟨m,hn,fun h' sb=>?_⟩
 exact⟨.ref D,H5,I5.turned (t':=s5.toks) (it:=C) (fun b o hne e=>(sb.2 b hne).trans e) L.free L.loc (.inr L.above) L.cell L.pin,rfl,q⟩
theorem wH{X:Cx}{N:List Str}{link:List (Option Nat)}{scope:Scope}{tg iter elt:aq}{ifs:List aq}{pos gO t7:Pos}{wi:TI}{tb:TB}{i:Nat}{x:Str}(hc:X.calm=true)(hN:X.N.Nodup)(hx:X.N[i]?=some x)(hl:X.env.scope.names.lookup x=some .local)(S:gH X N link scope)(hi:PI X tg iter wi)
  (hb:∀(C:ae) (s:aw) (H:Hp) (fp:List ae),PB (cU X N scope C s H fp) tg ifs elt tb) (hw:swapsWith (.ListComp elt [⟨tg,iter,ifs,0⟩] scope pos) (some (.Name x gO)) t7.line X.env=pure true) (hs:∀x,foldedSetIterable iter X.env x=pure x:=by intro _;rfl) :
  PS X (.Assign [.Name x gO] (.ListComp elt [⟨tg,iter,ifs,0⟩] scope pos) t7) (mZ (lM link wi tb) (gName i)):=by
 intro ag s σ H D I h;rw[exec_Assign_Name_used _ _ _ _ hw];refine av (wpAny_standAt (av ?_));show wpAny _ X.A (do let _ <-comprehension (.ListComp elt [⟨tg,iter,ifs,0⟩] scope pos) scope X.env _ (newList []) false (eval iter X.env) (some (assign (.Name x gO) X.env))) _ _ s
 refine av (thn (uZ (use:=some (assign (.Name x gO) X.env)) (Q':=fun _ s'=>SP X ag D .next s') hc S hi hb hs I h fun s5 a C H5 m I5 q hn L=>?_) fun _ s' q=>aK (aK q))
 show wpAny _ X.A (assign (.Name x gO) X.env (.ref a)) _ _ s5;refine wpAny_assign_Name (store_ok2 (v:=.ref a) I5 hN hx (.inl hl) rfl (fun s6 I6 k=>?_) (.inr hl))
 refine⟨m,?_,fun h' sb=>?_⟩
 ·obtain⟨o,es,ep,ho,r⟩:=hn;obtain⟨b,sb1,YU⟩:=k;have ne:C≠b:=fun z=>by
   rcases YU with w | w
   ·exact L.loc (z.trans w)
   ·exact L.cell x b w z.symm
  exact⟨o,es,ep,(sb1.2 C ne).trans ho,r⟩
 ·exact⟨_,H5,I6.turned (t':=s6.toks) (it:=C) (fun b o hne e=>(sb.2 b hne).trans e) L.free L.loc (.inr L.above) L.cell L.pin,q⟩
def kA(bd:PV->Option bU):az->Option az
 | []=>some []
 | p::ps=>(bd p).bind fun o=>(kA bd ps).map fun r=>o.toList++r
def iB{α β:Type}(f:α->Option β):List α->Option (List β)
 | []=>some []
 | p::ps=>(f p).bind fun o=>(iB f ps).map fun r=>o::r
def bj(link:List (Option Nat))(ρ:aF):aF:=link.map fun o=>match o with
 | none=>.un
 | some j=>match ρ[j]? with | some (.val p)=>.val p | some (.ob o)=>.ob o | _=>.un
def KG(L:List Nat)(g:eX):Prop:=∀p ρ eu,g p ρ=some eu->eu.length=ρ.length/\∀j:Nat,j∉L->eu[j]?=ρ[j]?
def Wg(L:List Nat)(g:az->aF->Option aF):Prop:=∀p ρ eu,g p ρ=some eu->eu.length=ρ.length/\∀j:Nat,j∉L->eu[j]?=ρ[j]?
theorem Na(i:Nat):KG [i] (ao i):=fun p ρ eu h=>by
 obtain⟨_,rfl⟩:=aN h;exact⟨dw,fun j hj=>bx (fun z=>hj (by simp[z]))⟩
theorem Nb:Wg [] cB:=fun p ρ eu h=>by
 cases p with
 | nil=>cases h;exact⟨rfl,fun _ _=>rfl⟩
 | cons _ _=>cases h
theorem JD{L M:List Nat}{g:eX}{r:az->aF->Option aF}(h1:KG L g)(h2:Wg M r):Wg (L++M) (ax g r):=fun p ρ eu h=>by
 cases p with
 | nil=>cases h
 | cons p ps =>
  obtain⟨tN,e1,e2⟩:=ay h;obtain⟨l1,k1⟩:=h1 p ρ tN e1;obtain⟨l2,k2⟩:=h2 ps tN eu e2;exact⟨l2.trans l1,fun j hj=>(k2 j fun z=>hj (dC _ z)).trans (k1 j fun z=>hj (ir _ z))⟩
theorem Sl{L:List Nat}{n:Nat}{r:az->aF->Option aF}(h:Wg L r):KG L (cC n r):=fun p ρ eu e=>by
 cases p with
 | aB ps =>
  have e:(if ps.length=n then r ps ρ else none)=some eu:=e
  by_cases hl:ps.length=n
  ·rw[if_pos hl]at e;exact h ps ρ eu e
  ·rw[if_neg hl]at e;cases e
 | _=>cases e
section
variable {K:ak} {H₀ ab F H:Hp} {ρ:aF} {σ:St}
theorem dq{link:List (Option Nat)}{i:Nat}{e:Ent}(h:(bj link ρ)[i]?=some e):e=.un\/(∃j p,link[i]?=some (some j)/\ρ[j]?=some (.val p)/\e=.val p)\/∃j o,link[i]?=some (some j)/\ρ[j]?=some (.ob o)/\e=.ob o:=by
 unfold bj at h;rw[cu]at h;cases z:link[i]? with
 | none=>rw[z]at h;cases h
 | some o =>
  rw[z]at h;cases o with
  | none=>cases h;exact .inl rfl
  | some j =>
   have h:(match ρ[j]? with | some (.val p)=>Ent.val p | some (.ob o)=>.ob o | _=>.un)=e:=bD h
   cases q:ρ[j]? with
   | none=>rw[q]at h;exact .inl h.symm
   | some w =>
    rw[q]at h;cases w with
    | val p=>exact .inr (.inl ⟨j,p,rfl,q,h.symm⟩)
    | ob p=>exact .inr (.inr ⟨j,p,rfl,q,h.symm⟩)
    | un=>exact .inl h.symm
    | own _=>exact .inl h.symm
    | ex _=>exact .inl h.symm
    | eW _=>exact .inl h.symm
theorem da.inner(R:da K H₀ ab F ρ σ H)(link:List (Option Nat)):da K H F F (bj link ρ) (inner link σ) H where
 sub:=R.sub
 keep:=Same.refl _
 base:=Same.refl _
 fresh:=fun a o e=>.inl e
 val:=fun i p e=>by
  rcases dq e with z | ⟨j,q,h1,h2,h3⟩ | ⟨j,q,h1,h2,h3⟩
  ·cases z
  ·cases h3;obtain⟨v,e1,b1⟩:=R.val j _ h2;refine⟨v,?_,b1⟩;unfold L2.PL.inner;rw[cu,h1];show some ((σ[j]?).join)=_;rw[e1];rfl
  ·cases h3
 own:=fun i ps e=>by
  rcases dq e with z | ⟨j,q,h1,h2,h3⟩ | ⟨j,q,h1,h2,h3⟩
  ·cases z
  ·cases h3
  ·cases h3
 apart:=fun i j ps qs a e=>by
  rcases dq e with z | ⟨j,q,h1,h2,h3⟩ | ⟨j,q,h1,h2,h3⟩
  ·cases z
  ·cases h3
  ·cases h3
 obs:=fun i p e=>by
  rcases dq e with z | ⟨j,q,h1,h2,h3⟩ | ⟨j,q,h1,h2,h3⟩
  ·cases z
  ·cases h3
  ·cases h3;obtain⟨v,e1,b1⟩:=R.obs j _ h2;refine⟨v,?_,b1⟩;unfold L2.PL.inner;rw[cu,h1];show some ((σ[j]?).join)=_;rw[e1];rfl
 eW:=fun i ps e=>by
  rcases dq e with z | ⟨j,q,h1,h2,h3⟩ | ⟨j,q,h1,h2,h3⟩
  ·cases z
  ·cases h3
  ·cases h3
 len:=by unfold bj L2.PL.inner;rw[aC,aC]
theorem da.cE{link:List (Option Nat)}{eu:aF}{L:List Nat}(R:da K H₀ ab F eu σ H)(hl:eu.length=(bj link ρ).length)(hk:∀j:Nat,j∉L->eu[j]?=(bj link ρ)[j]?)(hL:∀i∈L,link[i]?=some none):da K H₀ ab F (bj link ρ) σ H where
 sub:=R.sub
 keep:=R.keep
 base:=R.base
 fresh:=R.fresh
 val:=fun i p e=>by
  have hi:i∉L:=fun z=>by
   rcases dq e with q | ⟨j,q,h1,h2,h3⟩ | ⟨j,q,h1,h2,h3⟩
   ·cases q
   ·rw[hL i z]at h1;cases h1
   ·rw[hL i z]at h1;cases h1
  exact R.val i p ((hk i hi).trans e)
 own:=fun i ps e=>by
  rcases dq e with z | ⟨j,q,h1,h2,h3⟩ | ⟨j,q,h1,h2,h3⟩
  ·cases z
  ·cases h3
  ·cases h3
 apart:=fun i j ps qs a e=>by
  rcases dq e with z | ⟨j,q,h1,h2,h3⟩ | ⟨j,q,h1,h2,h3⟩
  ·cases z
  ·cases h3
  ·cases h3
 obs:=fun i p e=>by
  have hi:i∉L:=fun z=>by
   rcases dq e with q | ⟨j,q,h1,h2,h3⟩ | ⟨j,q,h1,h2,h3⟩
   ·cases q
   ·rw[hL i z]at h1;cases h1
   ·rw[hL i z]at h1;cases h1
  exact R.obs i p ((hk i hi).trans e)
 eW:=fun i ps e=>by
  rcases dq e with z | ⟨j,q,h1,h2,h3⟩ | ⟨j,q,h1,h2,h3⟩
  ·cases z
  ·cases h3
  ·cases h3
 len:=hl.symm.trans R.len
end
def dD(link:List (Option Nat))(fi:bX)(g:eX)(fe:FE):bX:=fun ρ=>(fi ρ).bind fun ps=>if ps.length<=gB then iB (fun p=>(g p (bj link ρ)).bind fe) ps else none
def eQ(link:List (Option Nat))(fi:bX)(g:eX)(ft:eP)(fe:FE):bX:=fun ρ=>(fi ρ).bind fun ps=>if ps.length<=gB then
 kA (fun p=>(g p (bj link ρ)).bind fun eu=>(ft eu).bind fun b=>if b=true then(fe eu).map some else some none) ps else none
theorem u0(f:PV->bU):∀ps,kA (fun p=>(f p).map some) ps=iB f ps
 | []=>rfl
 | p::ps=>by
  unfold kA iB;rw[u0 f ps];cases f p<;>rfl
theorem aJ{α:Type}{c:Prop} [Decidable c] {x:Option α} {y:α} (h:(if c then x else none)=some y):c/\x=some y:=by
 by_cases hc:c
 ·rw[if_pos hc]at h;exact⟨hc,h⟩
 ·rw[if_neg hc]at h;cases h
section
variable {X:Cx} {H₀ ab:Hp} {N:List Str} {link:List (Option Nat)} {scope:Scope} {tg iter elt c:aq} {pos:Pos} {fi:bX} {g:eX} {fe:FE} {ft:eP} {L:List Nat}
theorem zi{tb:TB}{bd:aF->PV->Option bU}{σ:St}{H:Hp}{Q:VK}
  (hb:∀(H1 F1 F2:Hp) (ρ:aF) (p:PV) (o:bU) (x:V) (cn:St) (H2:Hp) (Q':Option V->St->Hp->Prop),bd ρ p=some o->da X.K H1 F1 F2 (bj link ρ) cn H2->c9 X.K F2 p x ->
   (∀o' lx H3 F3,da X.K H1 F1 F3 (bj link ρ) lx H3->Same F2 F3->bt X.K F3 o.toList (Option.toList o')->Q' o' lx H3)->tb x cn H2 Q')
  (h:tF X.K H₀ ab (fun ρ=>(fi ρ).bind fun ps=>if ps.length<=gB then kA (bd ρ) ps else none) σ H Q):lM link (tI X.K H₀ ab fi) tb σ H Q:=by
 obtain⟨F,ρ,rs,R,hf,q⟩:=h;obtain⟨ps,h1,h2⟩:=ay hf;obtain⟨dm,h3⟩:=aJ h2;refine⟨F,ρ,ps,R,h1,fun J H1 F1 R1 s1 wk=>?_⟩
 refine⟨fun i m acc cn H'=>m=ps.length-i/\i<=ps.length/\acc.length<=i/\∃F' done rest,da X.K H1 F1 F' (bj link ρ) cn H'/\kA (bd ρ) (ps.drop i)=some rest/\done++rest=rs/\bt X.K F' done acc,
  ⟨ps.length,rfl,gn _,bh _,F1,[],rs,R1.inner link,h3,rfl,.nil⟩,?_⟩
 rintro i m acc cn H' ⟨rfl,hi,ha,F',done,rest,R',hr,hd,Ej⟩
 obtain⟨wg,M8⟩:=wk H1 F1 F' (bj link ρ) cn H' R' R'.base i;by_cases eM:i<ps.length
 ·have Wh:ps.drop i=ps[i]::ps.drop (i+1):=vI eM;rw[Wh]at hr;obtain⟨o,e1,e2⟩:=ay hr;cases z:kA (bd ρ) (ps.drop (i+1))with
  | none=>rw[z]at e2;cases e2
  | some r2 =>
   rw[z]at e2;cases e2;obtain⟨go,wy⟩:=wg ps[i] (du eM);refine .inr ⟨go,jJ (cF ha hi) (jJ dm (by decide)),fun x H2 y=>?_⟩
   obtain⟨F2,R2,s2,b2⟩:=wy x H2 y;refine hb H1 F1 F2 ρ ps[i] o x cn H2 _ e1 R2 b2 fun o' lx H3 F3 R3 s3 b3=>⟨ps.length-(i+1),by lia,rfl,eM,?_,F3,done++o.toList,r2,R3,z,by rw[<-hd,iw],(Ej.mono (s2.trans s3)).append b3⟩
   rw[bK];cases o'<;>simp <;> lia
 ·have e:i=ps.length:=by lia
  subst e;rw[BH]at hr;cases hr;rw[gX]at hd;subst hd;refine .inl ⟨M8 (l0 (bh _)),cF ha (fx dm),fun D hn=>?_⟩
  exact q D acc H' F' (R1.after R'.keep R'.base R'.sub R'.fresh) (s1.trans R'.base) Ej hn
theorem rQ{α:Type}{tb:α->TB}{ifs:List aq}(h:∀b,PB X tg ifs elt (tb b)):PB X tg ifs elt (fun v σ H Q=>∃b,tb b v σ H Q):=fun ag s σ H v u Q I r ⟨b,hw⟩=>h b ag s σ H v u Q I r hw
theorem kB{σ:St}{H:Hp}{Q:VK}(hg:KG L g)(hL:∀i∈L,link[i]?=some none)(h:tF X.K H₀ ab (dD link fi g fe) σ H Q) :
  lM link (tI X.K H₀ ab fi) (fun v σ H Q=>∃b:Hp×Hp,tG X.K b.1 b.2 g v σ H fun gW H1=>tE X.K b.1 b.2 fe gW H1 fun y H2=>Q (some y) gW H2) σ H Q:=by
 refine zi (bd:=fun ρ p=>((g p (bj link ρ)).bind fe).map some) (fun H1 F1 F2 ρ p o x cn H2 Q' e R2 b2 k=>⟨(H1,F1),?_⟩) ?_
 ·cases z:(g p (bj link ρ)).bind fe with
  | none=>rw[z]at e;cases e
  | some r =>
   rw[z]at e;cases e;obtain⟨eu,e1,e2⟩:=ay z;obtain⟨l1,k1⟩:=hg _ _ _ e1;exact⟨F2,bj link ρ,p,eu,R2,b2,e1,fun lx H3 F3 R3 s3=>⟨F3,eu,r,R3,e2,fun v H4 F4 R4 s4 b4=>k (some v) lx H4 F4 (R4.cE l1 k1 hL) (s3.trans s4) (.cons b4 .nil)⟩⟩
 ·obtain⟨F,ρ,rs,R,hf,q⟩:=h;refine⟨F,ρ,rs,R,?_,q⟩;rw[<-hf];show((fi ρ).bind fun ps=>if ps.length<=gB then kA (fun p=>((g p (bj link ρ)).bind fe).map some) ps else none)=(fi ρ).bind fun ps=>if ps.length<=gB then iB (fun p=>(g p (bj link ρ)).bind fe) ps else none
  simp only[u0]
theorem Sm(hc:X.calm=true)(S:gH X N link scope)(hi:PI X tg iter (tI X.K H₀ ab fi))(hg:KG L g)(hL:∀i∈L,link[i]?=some none)
  (ht:∀(C:ae) (s:aw) (H:Hp) (fp:List ae) (H₀ ab:Hp),PG (cU X N scope C s H fp) tg (tG X.K H₀ ab g)) (he:∀(C:ae) (s:aw) (H:Hp) (fp:List ae) (H₀ ab:Hp),PE (cU X N scope C s H fp) elt (tE X.K H₀ ab fe))
  (hs:∀x,foldedSetIterable iter X.env x=pure x:=by intro _;rfl):PE X (.ListComp elt [⟨tg,iter,[],0⟩] scope pos) (tF X.K H₀ ab (dD link fi g fe)) :=
 (wG hc S hi (fun C s H fp=>rQ fun b:Hp×Hp=>rP (ht C s H fp b.1 b.2) (he C s H fp b.1 b.2)) hs).imp fun σ H Q h=>kB hg hL h
theorem lO{σ:St}{H:Hp}{Q:VK}(hg:KG L g)(hL:∀i∈L,link[i]?=some none)(h:tF X.K H₀ ab (eQ link fi g ft fe) σ H Q) :
  lM link (tI X.K H₀ ab fi) (fun v σ H Q=>∃b:Hp×Hp,tG X.K b.1 b.2 g v σ H fun gW H1=>tT X.K b.1 b.2 ft gW H1 fun t H2=>if t=true then tE X.K b.1 b.2 fe gW H2 fun y H3=>Q (some y) gW H3 else Q none gW H2) σ H Q:=by
 refine zi (bd:=fun ρ p=>(g p (bj link ρ)).bind fun eu=>(ft eu).bind fun b=>if b=true then(fe eu).map some else some none) (fun H1 F1 F2 ρ p o x cn H2 Q' e R2 b2 k=>⟨(H1,F1),?_⟩) h
 obtain⟨eu,e1,e2⟩:=ay e;obtain⟨b,e3,e4⟩:=ay e2;obtain⟨l1,k1⟩:=hg _ _ _ e1;refine⟨F2,bj link ρ,p,eu,R2,b2,e1,fun lx H3 F3 R3 s3=>⟨F3,eu,b,R3,e3,fun H4 F4 R4 s4=>?_⟩⟩
 cases b with
 | true =>
  rw[if_pos rfl]at e4 ⊢;cases z:fe eu with
  | none=>rw[z]at e4;cases e4
  | some r =>
   rw[z]at e4;cases e4;exact⟨F4,eu,r,R4,z,fun v H5 F5 R5 s5 b5=>k (some v) lx H5 F5 (R5.cE l1 k1 hL) (s3.trans (s4.trans s5)) (.cons b5 .nil)⟩
 | false =>
  rw[if_neg iu]at e4 ⊢;cases e4;exact k none lx H4 F4 (R4.cE l1 k1 hL) (s3.trans s4) .nil
theorem Nc(hc:X.calm=true)(S:gH X N link scope)(hi:PI X tg iter (tI X.K H₀ ab fi))(hg:KG L g)(hL:∀i∈L,link[i]?=some none)
  (ht:∀(C:ae) (s:aw) (H:Hp) (fp:List ae) (H₀ ab:Hp),PG (cU X N scope C s H fp) tg (tG X.K H₀ ab g)) (hw:∀(C:ae) (s:aw) (H:Hp) (fp:List ae) (H₀ ab:Hp),PT (cU X N scope C s H fp) c (tT X.K H₀ ab ft))
  (he:∀(C:ae) (s:aw) (H:Hp) (fp:List ae) (H₀ ab:Hp),PE (cU X N scope C s H fp) elt (tE X.K H₀ ab fe))
  (hs:∀x,foldedSetIterable iter X.env x=pure x:=by intro _;rfl):PE X (.ListComp elt [⟨tg,iter,[c],0⟩] scope pos) (tF X.K H₀ ab (eQ link fi g ft fe)) :=
 (wG hc S hi (fun C s H fp=>rQ fun b:Hp×Hp=>En (ht C s H fp b.1 b.2) (hw C s H fp b.1 b.2) (he C s H fp b.1 b.2)) hs).imp fun σ H Q h=>lO hg hL h
theorem rV{t:TE}{f:bX}{i:Nat}{st:aE}(ht:∀σ H Q,tF X.K H₀ ab f σ H Q->t σ H Q)(h:PS X st (mZ t (gName i))):PS X st (tS X H₀ ab (bg (bH f) (ao i))):=h.imp fun D σ H h=>by
 obtain⟨F,ρ,o,R,hf,q⟩:=h;obtain⟨p,h1,h2⟩:=ay hf;obtain⟨ps,z,rfl⟩:=uW h1;cases w:ao i (.au ps) ρ with
 | none=>rw[w]at h2;cases h2
 | some fj =>
  rw[w]at h2;cases h2;obtain⟨hi,rfl⟩:=aN w;refine ht _ _ _ ⟨F,ρ,ps,R,z,fun a vs H1 F1 R1 s1 b1 hn=>?_⟩
  obtain⟨R2,s2⟩:=R1.laid (.au vs) hn;exact q _ _ _ (R2.set hi (bB.mpr ⟨a,vs,rfl,qj.of aX,b1.mono s2⟩)) (s1.trans s2)
end
section
variable {K:ak} {H₀ ab F H:Hp} {ρ:aF} {σ:St}
theorem da.JE(R:da K H₀ ab F ρ σ H){i:Nat}(hi:i<ρ.length){a:ae}{ps:az}{vs:List V}(hn:H a=none)(hb:bt K F ps vs):da K H₀ ab F (ρ.set i (.own ps)) (σ.set i (some (.ref a))) (dX H a (.au vs)) where
 sub:=R.sub.trans (dI hn)
 keep:=R.keep.trans (dI hn)
 base:=R.base
 fresh:=R.fresh
 val:=fun j q e=>by
  by_cases h:i=j
  ·subst h;rw[bP hi]at e;cases e
  ·rw[bx h]at e;rw[bx h];exact R.val j q e
 own:=fun j qs e=>by
  by_cases h:i=j
  ·subst h;rw[bP hi]at e;cases e;exact⟨a,vs,bP (by rw[<-R.len];exact hi),aX,R.keep.free hn,R.sub.free hn,hb⟩
  ·rw[bx h]at e;rw[bx h];obtain⟨b,ws,h1,h2,h3⟩:=R.own j qs e;exact⟨b,ws,h1,by rw[aR (ne_of_none h2 hn)];exact h2,h3⟩
 apart:=fun j k qs rs b h1 h2 h3 h4=>by
  have old:∀(m:Nat) (l:az),i≠m->(ρ.set i (.own ps))[m]?=some (.own l)->(σ.set i (some (.ref a)))[m]?=some (some (.ref b))->b≠a:=fun m l hm e1 e2=>by
   rw[bx hm]at e1 e2;obtain⟨c,ws,q1,q2,_⟩:=R.own m l e1;rw[e2]at q1;cases q1;exact ne_of_none q2 hn
  have new:∀m:Nat,i=m->(σ.set i (some (.ref a)))[m]?=some (some (.ref b))->b=a:=fun m hm e2=>by
   subst hm;rw[bP (by rw[<-R.len];exact hi)]at e2
   cases e2;rfl
  by_cases hj:i=j
  ·by_cases hk:i=k
   ·exact hj.symm.trans hk
   ·exact absurd (new j hj h3) (old k rs hk h2 h4)
  ·by_cases hk:i=k
   ·exact absurd (new k hk h4) (old j qs hj h1 h3)
   ·rw[bx hj]at h1 h3;rw[bx hk]at h2 h4;exact R.apart j k qs rs b h1 h2 h3 h4
 obs:=fun j q e=>by
  by_cases h:i=j
  ·subst h;rw[bP hi]at e;cases e
  ·rw[bx h]at e;rw[bx h];exact R.obs j q e
 eW:=fun j m e=>by
  by_cases h:i=j
  ·subst h;rw[bP hi]at e;cases e
  ·rw[bx h]at e;rw[bx h];obtain⟨b,h1,h2,h3,h4⟩:=R.eW j m e;obtain⟨ob,h5,_⟩:=h2.obj;exact⟨b,h1,h2.to (Same.refl F) (aR (ne_of_none h5 hn)),h3,h4⟩
 len:=by rw[dw,dw];exact R.len
theorem da.mut(R:da K H₀ ab F ρ σ H){i:Nat}{a:ae}{ps qs:az}{ws:List V}(hi:ρ[i]?=some (.own ps))(ha:σ[i]?=some (some (.ref a)))(hb:bt K F qs ws):da K H₀ ab F (ρ.set i (.own qs)) σ (dX H a (.au ws)):=by
 obtain⟨a',vs,h1,h2,h3,h4,h5⟩:=R.own i ps hi;rw[ha]at h1;cases h1;have eM:i<ρ.length:=(cP.mp hi).1;have sub:∀{G:Hp},G a=none->Same G H->Same G (dX H a (.au ws)):=fun {G} hg s b o e=>by
  rw[aR (ne_of_none e hg)];exact s _ _ e
 have oth:∀(m:Nat) (l:az),i≠m->ρ[m]?=some (.own l)->∀b,σ[m]?=some (some (.ref b))->b≠a:=fun m l hm e1 b e2 z=>by
  subst z;exact hm (R.apart i m ps l b hi e1 ha e2)
 exact {
  sub:=sub h4 R.sub
  keep:=sub h3 R.keep
  base:=R.base
  fresh:=R.fresh
  val:=fun j q e=>by
   by_cases h:i=j
   ·subst h;rw[bP eM]at e;cases e
   ·rw[bx h]at e;exact R.val j q e
  own:=fun j ls e=>by
   by_cases h:i=j
   ·subst h;rw[bP eM]at e;cases e;exact⟨a,ws,ha,aX,h3,h4,hb⟩
   ·rw[bx h]at e;obtain⟨b,us,q1,q2,q3⟩:=R.own j ls e;exact⟨b,us,q1,by rw[aR (oth j ls h e b q1)];exact q2,q3⟩
  apart:=fun j k l1 l2 b e1 e2 e3 e4=>by
   have f:∀(m:Nat) (l:az),(ρ.set i (.own qs))[m]?=some (.own l)->∃l',ρ[m]?=some (.own l'):=fun m l e=>by
    by_cases h:i=m
    ·subst h;exact⟨_,hi⟩
    ·rw[bx h]at e;exact⟨_,e⟩
   obtain⟨m1,z1⟩:=f j l1 e1;obtain⟨m2,z2⟩:=f k l2 e2;exact R.apart j k m1 m2 b z1 z2 e3 e4
  obs:=fun j q e=>by
   by_cases h:i=j
   ·subst h;rw[bP eM]at e;cases e
   ·rw[bx h]at e;exact R.obs j q e
  eW:=fun j m e=>by
   by_cases h:i=j
   ·subst h;rw[bP eM]at e;cases e
   ·rw[bx h]at e;obtain⟨b,q1,q2,q3,q4⟩:=R.eW j m e;obtain⟨ob,q5,q6⟩:=q2.obj;exact⟨b,q1,q2.to (Same.refl F) (aR (IK q5 h2 (q6 _))),q3,q4⟩
  len:=by rw[dw];exact R.len}
def dN(L:Option (List Nat))(i:Nat)(e:Ent):Ent:=match e with
 | .own ps=>(match L with | none=>.val (.au ps) | some l=>if i∈l then .val (.au ps)else .own ps)
 | .eW m=>.ob (.HR m)
 | e=>e
def fK(L:Option (List Nat)):Nat->aF->aF
 | _,[]=>[]
 | i,e::r=>dN L i e::fK L (i+1) r
def eR(L:Option (List Nat))(ρ:aF):aF:=fK L 0 ρ
theorem pQ{L:Option (List Nat)}:∀(ρ:aF) (k i:Nat),(fK L k ρ)[i]?=(ρ[i]?).map (dN L (k+i))
 | [],_,_=>by simp[fK]
 | e::r,k,0=>by simp[fK]
 | e::r,k,i+1=>by
  simp only[fK,List.getElem?_cons_succ];rw[pQ r (k+1) i]
  congr 2
  lia
theorem JF{L:Option (List Nat)}{ρ:aF}{i:Nat}:(eR L ρ)[i]?=(ρ[i]?).map (dN L i):=by
 unfold eR;rw[pQ,jL]
theorem pS{L:Option (List Nat)}:∀(ρ:aF) (k:Nat),(fK L k ρ).length=ρ.length
 | [],_=>rfl
 | e::r,k=>by simp only[fK,bq,pS r]
theorem gI{L:Option (List Nat)}{i:Nat}{e:Ent}(h:dN L i e≠e):(∃ps,e=.own ps/\dN L i e=.val (.au ps))\/∃m,e=.eW m/\dN L i e=.ob (.HR m):=by
 cases e with
 | own ps =>
  left
  refine⟨ps,rfl,?_⟩;unfold dN at h ⊢;cases L with
  | none=>rfl
  | some l =>
   simp only at h ⊢;split
   ·rfl
   ·rename_i z;rw[if_neg z]at h;exact absurd rfl h
 | eW m=>exact .inr ⟨m,rfl,rfl⟩
 | _=>exact absurd rfl h
def Cu(L:Option (List Nat))(ρ:aF)(σ:St)(b:ae):Prop:=∃(i:Nat) (e:Ent),ρ[i]?=some e/\dN L i e≠e/\σ[i]?=some (some (.ref b))
open Classical in
noncomputable def u4 (L:Option (List Nat)) (ρ:aF) (σ:St) (F H:Hp):Hp:=fun b=>if Cu L ρ σ b then H b else F b
theorem nk{L:Option (List Nat)}{ρ:aF}{i:Nat}{e:Ent}(h:(eR L ρ)[i]?=some e):∃en,ρ[i]?=some en/\dN L i en=e:=by
 rw[JF]at h;cases z:ρ[i]? with
 | none=>rw[z]at h;cases h
 | some en=>rw[z]at h;exact⟨en,rfl,bD h⟩
theorem da.abi(R:da K H₀ ab F ρ σ H){L:Option (List Nat)}{b:ae}(h:Cu L ρ σ b):H₀ b=none/\F b=none/\∃o,H b=some o:=by
 obtain⟨i,e,h1,h2,h3⟩:=h;rcases gI h2 with⟨ps,rfl,_⟩ | ⟨m,rfl,_⟩
 ·obtain⟨a,vs,q1,q2,q3,q4,_⟩:=R.own i ps h1;rw[h3]at q1;cases q1;exact⟨q3,q4,_,q2⟩
 ·obtain⟨a,q1,q2,q3,q4⟩:=R.eW i m h1;rw[h3]at q1;cases q1;obtain⟨o,q5,_⟩:=q2.obj;exact⟨q3,q4,o,q5⟩
theorem da.lF(R:da K H₀ ab F ρ σ H)(L:Option (List Nat)):∃F',da K H₀ ab F' (eR L ρ) σ H/\Same F F'/\∀(i:Nat) (e:Ent) (a:ae) (o:HO),ρ[i]?=some e->dN L i e≠e->σ[i]?=some (some (.ref a))->H a=some o->F' a=some o:=by
 have pos:∀{b:ae},Cu L ρ σ b->u4 L ρ σ F H b=H b:=fun {b} h=>by unfold u4;rw[if_pos h]
 have neg:∀{b:ae},¬Cu L ρ σ b->u4 L ρ σ F H b=F b:=fun {b} h=>by unfold u4;rw[if_neg h]
 have sm:Same F (u4 L ρ σ F H):=fun b o e=>by
  by_cases h:Cu L ρ σ b
  ·rw[pos h];exact R.sub _ _ e
  ·rw[neg h];exact e
 refine⟨u4 L ρ σ F H,?_,sm,fun i e a o e1 e2 e3 e4=>by rw[pos ⟨i,e,e1,e2,e3⟩];exact e4⟩
 exact {
  sub:=fun b o e=>by
   by_cases h:Cu L ρ σ b
   ·rw[pos h]at e;exact e
   ·rw[neg h]at e;exact R.sub _ _ e
  keep:=R.keep
  base:=R.base.trans sm
  fresh:=fun b o e=>by
   by_cases h:Cu L ρ σ b
   ·exact .inr (R.abi h).1
   ·rw[neg h]at e;exact R.fresh _ _ e
  val:=fun i p e=>by
   obtain⟨en,z,e⟩:=nk e;by_cases hne:dN L i en≠en
   ·rcases gI hne with⟨ps,rfl,e2⟩ | ⟨m,rfl,e2⟩
    ·rw[e2]at e;cases e;obtain⟨a,vs,q1,q2,q3,q4,q5⟩:=R.own i ps z;refine⟨_,q1,bB.mpr ⟨a,vs,rfl,qj.of ?_,q5.mono sm⟩⟩;rw[pos ⟨i,_,z,hne,q1⟩];exact q2
    ·rw[e2]at e;cases e
   ·have hne:=qL.mp hne;rw[hne]at e;subst e;obtain⟨v,h1,h2⟩:=R.val i _ z;exact⟨v,h1,h2.mono sm⟩
  own:=fun i ps e=>by
   obtain⟨en,z,e⟩:=nk e;by_cases hne:dN L i en≠en
   ·rcases gI hne with⟨qs,rfl,e2⟩ | ⟨m,rfl,e2⟩
    ·rw[e2]at e;cases e
    ·rw[e2]at e;cases e
   ·have hne:=qL.mp hne;rw[hne]at e;subst e;obtain⟨a,vs,q1,q2,q3,q4,q5⟩:=R.own i ps z;refine⟨a,vs,q1,q2,q3,?_,q5.mono sm⟩;rw[neg]
    ·exact q4
    ·rintro⟨j,e',h1,h2,h3⟩
     rcases gI h2 with⟨rs,rfl,e2⟩ | ⟨m,rfl,e2⟩
     ·have:=R.apart i j ps rs a z h1 q1 h3;subst this;rw[z]at h1;cases h1;exact h2 hne
     ·obtain⟨b,r1,r2,_⟩:=R.eW j m h1;rw[h3]at r1;cases r1;obtain⟨o,r5,r6⟩:=r2.obj;rw[q2]at r5;exact r6 _ (bD r5).symm
  apart:=fun j k ps qs a e1 e2=>by
   have old:∀(m:Nat) (l:az),(eR L ρ)[m]?=some (.own l)->∃l',ρ[m]?=some (.own l'):=fun m l e=>by
    obtain⟨en,z,e⟩:=nk e;by_cases hne:dN L m en≠en
    ·rcases gI hne with⟨qs,rfl,e2⟩ | ⟨d,rfl,e2⟩
     ·exact⟨qs,z⟩
     ·rw[e2]at e;cases e
    ·rw[qL.mp hne]at e;subst e;exact⟨l,z⟩
   obtain⟨l1,z1⟩:=old j ps e1;obtain⟨l2,z2⟩:=old k qs e2;exact R.apart j k l1 l2 a z1 z2
  obs:=fun i o e=>by
   obtain⟨en,z,e⟩:=nk e;by_cases hne:dN L i en≠en
   ·rcases gI hne with⟨qs,rfl,e2⟩ | ⟨m,rfl,e2⟩
    ·rw[e2]at e;cases e
    ·rw[e2]at e;cases e;obtain⟨a,q1,q2,_⟩:=R.eW i m z;exact⟨a,q1,q2.to sm (pos ⟨i,_,z,hne,q1⟩)⟩
   ·rw[qL.mp hne]at e;subst e;obtain⟨a,h1,h2⟩:=R.obs i _ z;exact⟨a,h1,h2.mono sm⟩
  eW:=fun i m e=>by
   obtain⟨en,z,e⟩:=nk e;by_cases hne:dN L i en≠en
   ·rcases gI hne with⟨qs,rfl,e2⟩ | ⟨m,rfl,e2⟩
    ·rw[e2]at e;cases e
    ·rw[e2]at e;cases e
   ·rw[qL.mp hne]at e;subst e;exact absurd (fun q=>by cases q) hne
  len:=by unfold eR;rw[pS];exact R.len}
theorem da.Sn{F' H':Hp}(R:da K H₀ ab F ρ σ H){F1:Hp}(R1:da K H₀ ab F1 (eR none ρ) σ H)(s1:Same F F1)
  (hf:∀(i:Nat) (e:Ent) (a:ae) (o:HO),ρ[i]?=some e->dN none i e≠e->σ[i]?=some (some (.ref a))->H a=some o->F1 a=some o)
  (R2:da K H₀ ab F' (eR none ρ) σ H') (s2:Same F1 F'):da K H₀ ab F ρ σ H' where
 sub:=s1.trans (s2.trans R2.sub)
 keep:=R2.keep
 base:=R.base
 fresh:=R.fresh
 val:=R.val
 own:=fun i ps e=>by
  obtain⟨a,vs,h1,h2,h3,h4,h5⟩:=R.own i ps e;exact⟨a,vs,h1,R2.sub _ _ (s2 _ _ (hf i _ a _ e (fun z=>by cases z) h1 h2)),h3,h4,h5⟩
 apart:=R.apart
 obs:=R.obs
 eW:=fun i m e=>by
  obtain⟨a,h1,h2,h3,h4⟩:=R.eW i m e;obtain⟨o,h5,_⟩:=h2.obj;exact⟨a,h1,h2.to (Same.refl F) ((R2.sub _ _ (s2 _ _ (hf i _ a _ e (fun z=>by cases z) h1 h5))).trans h5.symm),h3,h4⟩
 len:=R.len
end
section
variable {X:Cx} {H₀ ab:Hp} {e:aq} {fe:FE} {gc:eP} {pos:Pos} {st:aE} {f:FS}
def iC(gc:eP):eP:=fun ρ=>gc (eR none ρ)
theorem Wi(h:PT X e (tT X.K H₀ ab gc)):PT X e (tT X.K H₀ ab (iC gc)):=h.imp <| by
 rintro σ H Q ⟨F,ρ,b,R,hf,q⟩
 obtain⟨F1,R1,s1,k1⟩:=R.lF none;exact⟨F1,eR none ρ,b,R1,hf,fun H' F' R2 s2=>q H' F (R.Sn R1 s1 k1 R2 s2) (Same.refl F)⟩
def rW:PV->Bool
 | .aB _=>false
 | .au _=>false
 | _=>true
theorem zj{K:ak}{F F':Hp}{p:PV}{v:V}(h:rW p=true)(b:c9 K F p v):c9 K F' p v:=by
 cases p with
 | cG=>exact dE.mpr (dE.mp b)
 | bl _=>exact bZ.mpr (bZ.mp b)
 | int _=>exact aI.mpr (aI.mp b)
 | str _=>exact cD.mpr (cD.mp b)
 | aB _=>cases h
 | au _=>cases h
def gP(fe:FE):FE:=fun ρ=>(fe (eR none ρ)).bind fun p=>if rW p=true then some p else none
theorem JG(h:PE X e (tE X.K H₀ ab fe)):PE X e (tE X.K H₀ ab (gP fe)):=h.imp <| by
 rintro σ H Q ⟨F,ρ,p,R,hf,q⟩
 obtain⟨p',h1,h2⟩:=ay hf;obtain⟨hp,rfl⟩:=aN h2;obtain⟨F1,R1,s1,k1⟩:=R.lF none;exact⟨F1,eR none ρ,p',R1,h1,fun v H' F' R2 s2 b2=>q v H' F (R.Sn R1 s1 k1 R2 s2) (Same.refl F) (zj hp b2)⟩
def lA(L:List Nat)(f:FS):FS:=fun ρ=>f (eR (some L) ρ)
theorem Wj(L:List Nat)(h:PS X st (tS X H₀ ab f)):PS X st (tS X H₀ ab (lA L f)):=h.imp <| by
 rintro D σ H ⟨F,ρ,o,R,hf,q⟩
 obtain⟨F1,R1,s1,k1⟩:=R.lF (some L);exact⟨F1,_,o,R1,hf,q.mono s1⟩
def iP(i:Nat)(fo:bX):FS:=fun ρ=>(fo ρ).bind fun ps=>if i<ρ.length then some (.nx (ρ.set i (.own ps)))else none
theorem rX{i:Nat}{fo:bX}{t:TE}{D:j2}{σ:St}{H:Hp}(ht:∀σ H Q,tF X.K H₀ ab fo σ H Q->t σ H Q)(h:tS X H₀ ab (iP i fo) D σ H):mZ t (gName i) D σ H:=by
 obtain⟨F,ρ,o,R,hf,q⟩:=h;obtain⟨ps,h1,h2⟩:=ay hf;obtain⟨hi,rfl⟩:=aN h2;refine ht _ _ _ ⟨F,ρ,ps,R,h1,fun a vs H1 F1 R1 s1 b1 hn=>?_⟩
 exact q F1 _ _ (R1.JE hi hn b1) s1
def gp(i:Nat)(ts:bX)(g:az->az->Option az):FS:=fun ρ=>match ρ[i]? with
 | some (.own ps)=>(ts ρ).bind fun as=>(g ps as).map fun qs=>.nx (ρ.set i (.own qs))
 | _=>none
def Nd(K:ak)(r:V->List V->Hp->VK->Prop)(g:az->az->Option az):Prop:=∀(H₀ ab F:Hp) (ρ:aF) (σ:St) (H:Hp) (a:ae) (ps as qs:az) (vs ws:List V) (Q:VK),g ps as=some qs->da K H₀ ab F ρ σ H->H a=some (.au vs)->bt K F ps vs->bt K F as ws ->
 (∀us,bt K F qs us->Q .cG (dX H a (.au us)))->r (.ref a) ws H Q
theorem wI{i:Nat}{ts:bX}{g:az->az->Option az}{r:V->List V->Hp->VK->Prop}{D:j2}{σ:St}{H:Hp}(hg:Nd X.K r g)(h:tS X H₀ ab (gp i ts g) D σ H) :
  tDrop (YH X.K "list" r (mj i) (tA X.K H₀ ab ts)) D σ H:=by
 obtain⟨F,ρ,o,R,hf,q⟩:=h;unfold gp at hf;split at hf
 ·rename_i ps z;obtain⟨as,h1,h2⟩:=ay hf;cases w:g ps as with
  | none=>rw[w]at h2;cases h2
  | some qs =>
   rw[w]at h2;cases h2;obtain⟨a,vs,e1,e2,_⟩:=R.own i ps z;refine⟨.ref a,e1,.inl ⟨rfl,vs,lu.of e2⟩,F,ρ,as,R,h1,fun ws H1 F1 R1 s1 b1=>?_⟩
   obtain⟨a',R9,e1',e2',_,_,e5⟩:=R1.own i ps z;rw[e1]at e1';cases e1';refine hg H₀ ab F1 ρ σ H1 a ps as qs R9 ws _ w R1 e2' e5 b1 fun us bu=>?_
   exact q F1 σ _ (R1.mut z e1 bu) s1
 ·cases hf
def ml:az->az->Option az:=fun ps as=>match as with | [p]=>if ps.length<gB then some (ps++[p])else none | _=>none
def qb:az->az->Option az:=fun ps as=>match as with
 | [.au qs]=>if ps.length+qs.length<=gB then some (ps++qs)else none
 | [.aB qs]=>if ps.length+qs.length<=gB then some (ps++qs)else none
 | _=>none
theorem Nf{K:ak}:Nd K wB ml:=by
 intro H₀ ab F ρ σ H a ps as qs vs ws Q hg R ha b1 b2 k;unfold ml at hg;split at hg
 ·rename_i p;obtain⟨hl,rfl⟩:=aN hg;obtain⟨w,r,rfl,bw,br⟩:=b2.ck;rw[br.cf];exact⟨a,vs,w,rfl,rfl,ha,by rw[<-b1.length];exact cQ hl (by decide),k _ (b1.append (.cons bw .nil))⟩
 ·cases hg
def Qm(K:ak)(r:V->List V->Hp->VK->Prop)(g:az->Option az):Prop:=∀(H₀ ab F:Hp) (ρ:aF) (σ:St) (H:Hp) (a:ae) (ps qs:az) (vs:List V) (Q:VK),g ps=some qs->da K H₀ ab F ρ σ H->H a=some (.au vs)->bt K F ps vs ->
 (∀us,bt K F qs us->Q .cG (dX H a (.au us)))->r (.ref a) [] H Q
def zm(i:Nat)(g:az->Option az):FS:=fun ρ=>match ρ[i]? with
 | some (.own ps)=>(g ps).map fun qs=>.nx (ρ.set i (.own qs))
 | _=>none
theorem JH{i:Nat}{g:az->Option az}{r:V->List V->Hp->VK->Prop}{D:j2}{σ:St}{H:Hp}(hg:Qm X.K r g)(h:tS X H₀ ab (zm i g) D σ H) :
  tDrop (VH X.K "list" r (mj i)) D σ H:=by
 obtain⟨F,ρ,o,R,hf,q⟩:=h;unfold zm at hf;split at hf
 ·rename_i ps z;cases w:g ps with
  | none=>rw[w]at hf;cases hf
  | some qs =>
   rw[w]at hf;cases hf;obtain⟨a,vs,e1,e2,_,_,e5⟩:=R.own i ps z;refine⟨.ref a,e1,.inl ⟨rfl,vs,lu.of e2⟩,?_⟩;exact hg H₀ ab F ρ σ H a ps qs vs _ w R e2 e5 fun us bu=>q F σ _ (R.mut z e1 bu) (Same.refl F)
 ·cases hf
def Wk(K:ak):V->List V->Hp->VK->Prop:=fun x vs H Q=>∃l b xs zs,x=.ref l/\vs=[.ref b]/\H l=some (.au xs)/\(qj K H b zs\/jm K H b zs)/\xs.length+zs.length<=sizeLine/\Q .cG (dX H l (.au (xs++zs)))
theorem wJ(l:ae)(aY:Array aj)(n:Nat)(b:ae)(more:Array aj)(n2:Nat)(dd:Option ae)(sl:Array mi)(h0:¬(!aY.isEmpty&&Builtin.List.listTooLong (aY.size+more.size))=true)(h1:aY.size<=sizeLine)(h2:aY.size+more.size<=sizeLine+1) :
  Meets (Builtin.«list.extend» ⟨[.ref l,.ref b],[]⟩) (fun _ R s=>s.heap.get? l=some {cls:=.type "list",dict:=none,data:=.seq aY n,slots:=#[]}/\s.heap.get? b=some {cls:=.type "tuple",dict:=dd,data:=.seq more n2,slots:=sl} /\
   R (.ok (.ret Value.none)) {s with heap:=s.heap.update l (Obj.mapSeq fun x=>x++more),toks:=s.toks}) :=
 .of_wp fun prog w A R s h=>by
  obtain⟨hp,g,d,tk,os⟩:=s;obtain⟨hl,hb,h⟩:=h;have f1:=AutoSeq1.idx_int;have f2:=AutoSeq1.sub_tuple_tuple;have f3:=AutoSeq1.sub_list_list;have f4:=AutoSeq1.sub_tuple_list;have f5:=AutoSeq1.sub_list_tuple;have hz':(aY++more).size<=sizeLine+1:=by rw[Array.size_append];exact h2
  wp_walk using (wpAny_updateSeq hl rfl (hz:=h1) (_hz':=hz')),ka hl,ka hb
  exact⟨_,rfl,h⟩
theorem So{X:Cx}:YI X "list.extend" (Wk X.K):=by
 intro ag s σ H x vs v us Q I rx rv h;obtain⟨l,b,xs,zs,rfl,rfl,hH,hB,hz,q⟩:=h;cases rx;obtain⟨u,rfl,ru⟩:=rv.one;cases ru;obtain⟨z,aY,n,r,hl,e⟩:=I.MS hH;have go:∀(iO:cb),Vals zs iO->(¬(!aY.toArray.isEmpty&&Builtin.List.listTooLong (aY.toArray.size+iO.toArray.size))=true/\aY.toArray.size<=sizeLine/\aY.toArray.size+iO.toArray.size<=sizeLine+1) /\
   EP X ag σ Q Value.none {s with heap:=s.heap.update l (Obj.mapSeq fun x=>x++iO.toArray),toks:=s.toks}:=fun iO r2=>by
  have Ng:=r2.length;have hsz:aY.toArray.size+iO.toArray.size<=sizeLine:=by rw[bF,bF];lia
  refine⟨⟨?_,by rw[bF];lia,by lia⟩,.cG,_,I.MR (its':=aY++iO) hH e (by simp) (r.append r2) (by rw[bK];lia),rfl,q⟩
  rw[Jm hsz,Bool.and_false];exact iu
 rcases hB with hB | hB
 ·obtain⟨iO,n2,r2,e2,_⟩:=I.rJ hB;obtain⟨⟨g1,g2,g3⟩,g4⟩:=go iO r2;exact oy F.slot_list_extend ⟨_,e,rfl⟩ F.entry_list_extend (F.args_list_extend_2 _ _) (AutoSeq1.list_extend_list_list_0 l aY.toArray n b iO.toArray n2 g1 g2 g3) ⟨e,e2,g4⟩
 ·obtain⟨iO,r2,⟨⟨cls,dd,dat,sl⟩,e2,hc,n2,hd⟩,_⟩:=I.tuple hB;simp only at hc hd;subst hc hd;obtain⟨⟨g1,g2,g3⟩,g4⟩:=go iO r2;exact oy F.slot_list_extend ⟨_,e,rfl⟩ F.entry_list_extend (F.args_list_extend_2 _ _) (wJ l aY.toArray n b iO.toArray n2 dd sl g1 g2 g3) ⟨e,e2,g4⟩
theorem Nh{K:ak}:Nd K (Wk K) qb:=by
 intro H₀ ab F ρ σ H a ps as qs vs ws Q hg R ha b1 b2 k;unfold qb at hg;split at hg
 ·rename_i rs;obtain⟨hl,rfl⟩:=aN hg;obtain⟨w,r,rfl,bw,br⟩:=b2.ck;rw[br.cf];obtain⟨b,zs,rfl,hs,hb⟩:=bB.mp bw;exact⟨a,b,vs,zs,rfl,rfl,ha,.inl (b0 R.sub hs),by rw[<-b1.length,<-hb.length];exact fx hl,k _ (b1.append hb)⟩
 ·rename_i rs;obtain⟨hl,rfl⟩:=aN hg;obtain⟨w,r,rfl,bw,br⟩:=b2.ck;rw[br.cf];obtain⟨b,zs,rfl,hs,hb⟩:=bM.mp bw;exact⟨a,b,vs,zs,rfl,rfl,ha,.inr (bA R.sub hs),by rw[<-b1.length,<-hb.length];exact fx hl,k _ (b1.append hb)⟩
 ·cases hg
end
def rT(K:ak)(g:PV->PV->bU):R2:=fun x y H Q=>∃H₀ ab F ρ τ pa pb p,g pa pb=some p/\da K H₀ ab F ρ τ H/\c9 K F pa x/\c9 K F pb y/\∀v H' F',da K H₀ ab F' ρ τ H'->Same F F'->c9 K F' p v->Q v H'
abbrev wK(X:Cx)(f:aj->aj->Sem aj)(g:PV->PV->bU):Prop:=OpR X f (rT X.K g)
theorem nq{K:ak}{g:PV->PV->bU}:M1 K (rT K g) g:=fun H₀ ab F ρ σ H pa pb p x y Q e R ba bb k=>⟨H₀,ab,F,ρ,σ,pa,pb,p,e,R,ba,bb,k⟩
def sizeOk(n:Nat)(p:PV):bU:=if n<=gB then some p else none
theorem kC{n:Nat}{p q:PV}(h:sizeOk n p=some q):n<=sizeLine/\p=q:=by
 obtain⟨h1,h2⟩:=aN h;exact⟨fx h1,h2⟩
def bW:PV->PV->bU
 | .int i,.int j=>some (.int (i+j))
 | .str x,.str y=>sizeOk (x.length+y.length) (.str (x++y))
 | .aB xs,.aB ys=>sizeOk (xs.length+ys.length) (.aB (xs++ys))
 | .au xs,.au ys=>sizeOk (xs.length+ys.length) (.au (xs++ys))
 | _,_=>none
def Ni:PV->PV->bU
 | .int i,.int j=>some (.int (i-j))
 | _,_=>none
def Nj:Int:=18446744073709551616
def jB:PV->PV->bU
 | .int i,.int j=>if(-Nj<i/\i<Nj)\/(-Nj<j/\j<Nj)then some (.int (i*j))else none
 | _,_=>none
def de:PV->PV->bU
 | .int i,.int j=>if 0<j/\j<1073741824 then some (.int (i/j))else none
 | _,_=>none
def b8:PV->PV->bU
 | .int i,.int j=>if 0<j then some (.int (i%j))else none
 | _,_=>none
def zq:PV->PV->bU
 | .int i,.int j=>if 0<=j/\j<=1000/\i.natAbs<1000 then some (.int (i^j.toNat))else none
 | _,_=>none
section
variable {X:Cx}
theorem JI{prog:bJ}{w:aW}{A:bY}{E:cS}{s:aw}{t b:ae}{ws:cb}{Q:cS}(ht:IsTup s.heap t ([]:cb).toArray)(hb:IsTup s.heap b ws.toArray)(h1:Q (.ref b) s):wpAny (model prog w) A (binaryOp .Add (.ref t) (.ref b)) Q E s:=by
 obtain⟨⟨cls,dd,data,sl⟩,ho,hc,n,hd⟩:=id ht;obtain⟨⟨aaQ,YE,VB,YF⟩,ho2,VC,n2,RM⟩:=id hb;simp only at hc hd VC RM;subst hc hd VC RM;exact concat_meets ⟨_,ho,rfl⟩ ⟨_,ho2,rfl⟩ BM seq_tuple_add Bv Bs (Bp _ _) (tuple_addW0 t b _ ws.toArray n n2 dd YE sl YF (by simp)) ⟨ho,ho2,h1⟩
theorem wL:wK X (binaryOp .Add) bW:=by
 intro ag s σ H x y v u Q I rx ry ⟨H₀,ab,F,ρ,τ,pa,pb,p,e,R,ba,bb,k⟩;unfold bW at e;split at e
 ·cases e;rw[aI.mp ba]at rx;rw[aI.mp bb]at ry;exact RD ag s σ H _ _ v u Q I rx ry ⟨_,_,rfl,rfl,k _ H F R (Same.refl F) (aI.mpr rfl)⟩
 ·obtain⟨hz,rfl⟩:=kC e;rw[cD.mp ba]at rx;rw[cD.mp bb]at ry;exact Ce ag s σ H _ _ v u Q I rx ry ⟨_,_,rfl,rfl,hz,k _ H F R (Same.refl F) (cD.mpr rfl)⟩
 ·rename_i xs ys;obtain⟨hz,rfl⟩:=kC e;obtain⟨a,vs,rfl,ha,gJ⟩:=bM.mp ba;obtain⟨b,ws,rfl,hb,Mg⟩:=bM.mp bb;have ha':=bA R.sub ha;have lN:=bA R.sub hb;cases xs with
  | nil =>
   rw[gJ.cf]at ha';cases rx;cases ry;obtain⟨aY,r1,p1,_⟩:=I.tuple ha';obtain⟨iO,r2,p2,_⟩:=I.tuple lN;cases r1;exact JI p1 p2 ⟨.ref b,H,I,rfl,k _ H F R (Same.refl F) (bM.mpr ⟨b,ws,rfl,hb,Mg⟩)⟩
  | cons x0 xr =>
   refine MP ag s σ H _ _ v u Q I rx ry ⟨a,b,vs,ws,rfl,rfl,ha',lN,?_,by rw[<-gJ.length,<-Mg.length];exact hz,fun z=>?_,fun z q hq=>?_⟩
   ·intro z;have:=gJ.length;rw[z]at this;cases this
   ·subst z;have hy:ys=[]:=by
     have:=Mg.length;exact HZ this
    subst hy;rw[gX]at k;exact k _ H F R (Same.refl F) (bM.mpr ⟨a,vs,rfl,ha,gJ⟩)
   ·obtain⟨R2,s2⟩:=R.laid (.aB (vs++ws)) hq;exact k _ _ _ R2 s2 (bM.mpr ⟨q,_,rfl,jm.of aX,(gJ.append Mg).mono s2⟩)
 ·rename_i xs ys;obtain⟨hz,rfl⟩:=kC e;obtain⟨a,vs,rfl,ha,gJ⟩:=bB.mp ba;obtain⟨b,ws,rfl,hb,Mg⟩:=bB.mp bb;cases rx;cases ry;obtain⟨aY,n,r,e1,z1⟩:=I.rJ (b0 R.sub ha);obtain⟨iO,n2,r2,e2,z2⟩:=I.rJ (b0 R.sub hb);have hl:=r.length;have Ng:=r2.length;have hz':vs.length+ws.length<=sizeLine:=by rw[<-gJ.length,<-Mg.length];exact hz
  refine PySem.P.add_list e1 e2 ?_ (by rw[bF,bF];lia)
  have ea:aY.toArray++iO.toArray=(aY++iO).toArray:=by simp
  rw[ea];obtain⟨R2,s2⟩:=R.laid (.au (vs++ws)) I.fresh;exact⟨.ref _,_,I.VI (t':=s.toks) (r.append r2) (by rw[bK];lia),rfl,k _ _ _ R2 s2 (bB.mpr ⟨_,_,rfl,qj.of aX,(gJ.append Mg).mono s2⟩)⟩
 ·cases e
theorem iW{f:aj->aj->Sem aj}{C:Int->Int->Prop}{h:Int->Int->V}{g:PV->PV->bU}(ho:OpR X f (rI C h))
  (hg:∀pa pb p,g pa pb=some p->∃i j,pa=.int i/\pb=.int j/\C i j/\∀F,c9 X.K F p (h i j)):wK X f g:=by
 intro ag s σ H x y v u Q I rx ry ⟨H₀,ab,F,ρ,τ,pa,pb,p,e,R,ba,bb,k⟩;obtain⟨i,j,rfl,rfl,hc,hp⟩:=hg pa pb p e;rw[aI.mp ba]at rx;rw[aI.mp bb]at ry;exact ho ag s σ H _ _ v u Q I rx ry ⟨i,j,rfl,rfl,hc,k _ H F R (Same.refl F) (hp F)⟩
theorem zr{f:aj->aj->Sem aj}{h:Int->Int->V}(ho:OpR X f (Cc h)):OpR X f (rI (fun _ _=>True) h):=by
 intro ag s σ H x y v u Q I rx ry ⟨i,j,h1,h2,_,q⟩;exact ho ag s σ H x y v u Q I rx ry ⟨i,j,h1,h2,q⟩
theorem Nk:wK X (binaryOp .Sub) Ni:=iW (zr RE) fun pa pb p e=>by
 unfold Ni at e;split at e
 ·cases e;exact⟨_,_,rfl,rfl,trivial,fun F=>aI.mpr rfl⟩
 ·cases e
theorem Nl:wK X (binaryOp .Mult) jB:=by
 intro ag s σ H x y v u Q I rx ry ⟨H₀,ab,F,ρ,τ,pa,pb,p,e,R,ba,bb,k⟩;unfold jB at e;split at e
 ·obtain⟨hc,rfl⟩:=aN e;rw[aI.mp ba]at rx;rw[aI.mp bb]at ry;exact RF ag s σ H _ _ v u Q I rx ry ⟨_,_,rfl,rfl,hc,k _ H F R (Same.refl F) (aI.mpr rfl)⟩
 ·cases e
theorem JJ:wK X (binaryOp .FloorDiv) de:=iW MG fun pa pb p e=>by
 unfold de at e;split at e
 ·obtain⟨hc,rfl⟩:=aN e;exact⟨_,_,rfl,rfl,hc,fun F=>aI.mpr rfl⟩
 ·cases e
theorem Nm:wK X (binaryOp .Mod) b8:=iW RG fun pa pb p e=>by
 unfold b8 at e;split at e
 ·obtain⟨hc,rfl⟩:=aN e;exact⟨_,_,rfl,rfl,hc,fun F=>aI.mpr rfl⟩
 ·cases e
theorem Nn:wK X (binaryOp .Pow) zq:=iW RH fun pa pb p e=>by
 unfold zq at e;split at e
 ·obtain⟨⟨h1,h2,h3⟩,rfl⟩:=aN e;exact⟨_,_,rfl,rfl,⟨h1,by lia,Nat.lt_trans h3 (by decide)⟩,fun F=>aI.mpr rfl⟩
 ·cases e
end
def Sq:Operator->Option (PV->PV->bU)
 | .Add=>some bW
 | .Sub=>some Ni
 | .Mult=>some jB
 | .FloorDiv=>some de
 | .Mod=>some b8
 | .Pow=>some zq
 | _=>none
theorem Np{X:Cx}{op:Operator}{g:PV->PV->bU}(h:Sq op=some g):wK X (binaryOp op) g:=by
 unfold Sq at h;split at h
 ·cases h;exact wL
 ·cases h;exact Nk
 ·cases h;exact Nl
 ·cases h;exact JJ
 ·cases h;exact Nm
 ·cases h;exact Nn
 ·cases h
mutual
def eqT:PV->PV->Bool
 | .cG,.cG=>true
 | .bl a,.bl b=>a==b
 | .bl a,.int b=>(if a then 1 else 0)==b
 | .int a,.bl b=>a==(if b then 1 else 0)
 | .int a,.int b=>a==b
 | .str a,.str b=>a==b
 | .aB xs,.aB ys=>j5 xs ys
 | .au xs,.au ys=>j5 xs ys
 | _,_=>false
def j5:az->az->Bool
 | [],[]=>true
 | x::xs,y::ys=>eqT x y&&j5 xs ys
 | _,_=>false
end
mutual
def iX:PV->Nat
 | .aB xs=>eA xs+1
 | .au xs=>eA xs+1
 | _=>0
def eA:az->Nat
 | []=>0
 | x::xs=>max (iX x) (eA xs)
end
mutual
theorem kD:∀p:PV,eqT p p=true
 | .cG=>by simp[eqT]
 | .bl _=>by simp[eqT]
 | .int _=>by simp[eqT]
 | .str _=>by simp[eqT]
 | .aB xs=>by simp only[eqT];exact oJ xs
 | .au xs=>by simp only[eqT];exact oJ xs
theorem oJ:∀ps:az,j5 ps ps=true
 | []=>by simp[j5]
 | x::xs=>by simp only[j5,kD x,oJ xs,Bool.and_self]
end
theorem nr:∀{xs ys:az},xs.length≠ys.length->j5 xs ys=false
 | [],[],h=>absurd rfl h
 | [],_::_,_=>by simp[j5]
 | _::_,[],_=>by simp[j5]
 | x::xs,y::ys,h=>by
  simp only[j5,nr (xs:=xs) (ys:=ys) (by simpa using h),Bool.and_false]
def kE(xs ys:az)(j:Nat):Bool:=match xs[j]?,ys[j]? with
 | some x,some y=>eqT x y
 | _,_=>true
theorem nu:∀{xs ys:az},xs.length=ys.length->(List.range xs.length).all (kE xs ys)=j5 xs ys
 | [],[],_=>by simp[j5]
 | [],_::_,h=>by cases h
 | _::_,[],h=>by cases h
 | x::xs,y::ys,h=>by
  have ih:=nu (xs:=xs) (ys:=ys) (by simpa using h)
  rw[bq,List.range_succ_eq_map,gY,List.all_map];have e0:kE (x::xs) (y::ys) 0=eqT x y:=rfl;have e1:(kE (x::xs) (y::ys) ∘ Nat.succ)=kE xs ys:=by
   funext j
   simp[kE,Function.comp]
  rw[e0,e1,ih];simp[j5]
section
variable {X:Cx} {ag:List (ae×Obj)} {σ:St} {H F:Hp} {s:aw}
theorem rY(I:Inv X ag σ H s)(hs:Same F H){a:ae}{vs ws:List V}(h1:qj X.K F a vs)(h2:jm X.K F a ws):False:=by
 obtain⟨aY,n,r,e,_⟩:=I.rJ (b0 hs h1);obtain⟨iO,r2,p2,_⟩:=I.tuple (bA hs h2);obtain⟨o,e2,hc,_⟩:=p2;rw[e]at e2;cases e2;simp at hc
mutual
theorem c9.inj(I:Inv X ag σ H s)(hs:Same F H):∀{p q:PV} {v:V},c9 X.K F p v->c9 X.K F q v->p=q
 | .cG,q,v,h,h'=>by
  have e:=dE.mp h;subst e;cases q with
  | cG=>rfl
  | bl _=>have:=bZ.mp h';cases this
  | int _=>have:=aI.mp h';cases this
  | str _=>have:=cD.mp h';cases this
  | aB _=>obtain⟨_,_,e,_⟩:=bM.mp h';cases e
  | au _=>obtain⟨_,_,e,_⟩:=bB.mp h';cases e
 | .bl b,q,v,h,h'=>by
  have e:=bZ.mp h;subst e;cases q with
  | cG=>have:=dE.mp h';cases this
  | bl _=>have:=bZ.mp h';cases this;rfl
  | int _=>have:=aI.mp h';cases this
  | str _=>have:=cD.mp h';cases this
  | aB _=>obtain⟨_,_,e,_⟩:=bM.mp h';cases e
  | au _=>obtain⟨_,_,e,_⟩:=bB.mp h';cases e
 | .int b,q,v,h,h'=>by
  have e:=aI.mp h;subst e;cases q with
  | cG=>have:=dE.mp h';cases this
  | bl _=>have:=bZ.mp h';cases this
  | int _=>have:=aI.mp h';cases this;rfl
  | str _=>have:=cD.mp h';cases this
  | aB _=>obtain⟨_,_,e,_⟩:=bM.mp h';cases e
  | au _=>obtain⟨_,_,e,_⟩:=bB.mp h';cases e
 | .str b,q,v,h,h'=>by
  have e:=cD.mp h;subst e;cases q with
  | cG=>have:=dE.mp h';cases this
  | bl _=>have:=bZ.mp h';cases this
  | int _=>have:=aI.mp h';cases this
  | str _=>have:=cD.mp h';cases this;rfl
  | aB _=>obtain⟨_,_,e,_⟩:=bM.mp h';cases e
  | au _=>obtain⟨_,_,e,_⟩:=bB.mp h';cases e
 | .aB xs,q,v,h,h'=>by
  obtain⟨a,vs,rfl,h1,h2⟩:=bM.mp h;cases q with
  | cG=>have:=dE.mp h';cases this
  | bl _=>have:=bZ.mp h';cases this
  | int _=>have:=aI.mp h';cases this
  | str _=>have:=cD.mp h';cases this
  | aB ys =>
   obtain⟨b,ws,e,g1,g2⟩:=bM.mp h';cases e;have:=I.oE (bA hs h1) (bA hs g1);subst this;rw[bt.inj I hs h2 g2]
  | au _ =>
   obtain⟨b,ws,e,g1,g2⟩:=bB.mp h';cases e;exact(rY I hs g1 h1).elim
 | .au xs,q,v,h,h'=>by
  obtain⟨a,vs,rfl,h1,h2⟩:=bB.mp h;cases q with
  | cG=>have:=dE.mp h';cases this
  | bl _=>have:=bZ.mp h';cases this
  | int _=>have:=aI.mp h';cases this
  | str _=>have:=cD.mp h';cases this
  | au ys =>
   obtain⟨b,ws,e,g1,g2⟩:=bB.mp h';cases e;have:=I.ro (b0 hs h1).sq (b0 hs g1).sq;subst this;rw[bt.inj I hs h2 g2]
  | aB _ =>
   obtain⟨b,ws,e,g1,g2⟩:=bM.mp h';cases e;exact(rY I hs h1 g1).elim
theorem bt.inj(I:Inv X ag σ H s)(hs:Same F H):∀{ps qs:az} {vs:List V},bt X.K F ps vs->bt X.K F qs vs->ps=qs
 | [],[],_,_,_=>rfl
 | [],_::_,vs,h,h'=>by
  rw[h.cf]at h';obtain⟨_,_,e,_⟩:=h'.ck;cases e
 | _::_,[],vs,h,h'=>by
  rw[h'.cf]at h;obtain⟨_,_,e,_⟩:=h.ck;cases e
 | p::ps,q::qs,vs,h,h'=>by
  obtain⟨v,r,rfl,h1,h2⟩:=h.ck;obtain⟨v',r',e,g1,g2⟩:=h'.ck;cases e;rw[c9.inj I hs h1 g1,bt.inj I hs h2 g2]
end
end
section
variable {A:bY} {s:aw}
theorem bo{u w:aj}{b c:Bool}(h:b=c)(r:SeqAt.RcAt A s u w b):SeqAt.RcAt A s u w c:=h▸r
theorem aO{u w:aj}{b c:Bool}(h:b = !c)(r:SeqAt.RcNeAt A s u w b):SeqAt.RcNeAt A s u w (!c):=h▸r
theorem Eo{u w:aj}{b:Bool}(hf:∀x t,u≠.float x t)(h:SeqAt.RcAt A s u w b)(hb:u=w->b=true):SeqAt.EqAt A s u w b:=fun prog v E Q hq=>by
 unfold eqBool;refine kj ?_;refine BR (fun z=>?_) (fun _=>?_)
 ·rw[hb (bE z)]at hq;exact av (qS (aK hq))
 ·cases u with
  | float x t=>exact absurd rfl (hf x t)
  | _=>exact av (h prog v E _ (jK hq))
theorem u6{K:ak}{F:Hp}{p:PV}{x:V}{u:aj}(b:c9 K F p x)(r:RelV x u):∀y t,u≠.float y t:=fun y t z=>by
 subst z;cases p with
 | cG=>rw[dE.mp b]at r;cases r
 | bl _=>rw[bZ.mp b]at r;cases r
 | int _=>rw[aI.mp b]at r;obtain⟨_,r⟩:=r;cases r
 | str _=>rw[cD.mp b]at r;obtain⟨_,r⟩:=r;cases r
 | aB _=>obtain⟨_,_,rfl,_⟩:=bM.mp b;cases r
 | au _=>obtain⟨_,_,rfl,_⟩:=bB.mp b;cases r
end
theorem Ep{xs ys:az}{m n:Nat}(h1:xs.length=m)(h2:ys.length=n):((List.range (min m n)).all (kE xs ys)&&(m==n))=j5 xs ys:=by
 subst h1 h2;by_cases h:xs.length=ys.length
 ·rw[<-h,Nat.min_self,nu h];simp
 ·rw[nr h];simp[h]
section
variable {X:Cx} {ag:List (ae×Obj)} {σ:St} {H F:Hp} {s:aw}
inductive KV (K:ak) (F:Hp) (s:aw):PV->aj->Prop
 | cG:KV K F s .cG .none
 | bl {b:Bool}:KV K F s (.bl b) (.bool b)
 | int {i:Int} {t:Tok}:KV K F s (.int i) (.int i t)
 | str {x:Str} {t:Tok}:KV K F s (.str x) (.str x t)
 | aB {ps:az} {a:ae} (vs:List V) (aY:cb) (h:bt K F ps vs) (r:Vals vs aY) (p:s.heap.IsTuple a aY.toArray):KV K F s (.aB ps) (.ref a)
 | au {ps:az} {a:ae} (vs:List V) (aY:cb) (h:bt K F ps vs) (r:Vals vs aY) (p:s.heap.IsList a aY.toArray):KV K F s (.au ps) (.ref a)
theorem pT(I:Inv X ag σ H s)(hs:Same F H){p:PV}{x:V}{u:aj}(b:c9 X.K F p x)(r:RelV x u):KV X.K F s p u:=by
 cases p with
 | cG=>rw[dE.mp b]at r;cases r;exact .cG
 | bl _=>rw[bZ.mp b]at r;cases r;exact .bl
 | int _=>rw[aI.mp b]at r;obtain⟨t,rfl⟩:=r;exact .int
 | str _=>rw[cD.mp b]at r;obtain⟨t,rfl⟩:=r;exact .str
 | aB _ =>
  obtain⟨a,vs,rfl,h,l⟩:=bM.mp b;cases r;obtain⟨aY,rr,p,_⟩:=I.tuple (bA hs h);exact .aB vs aY l rr p
 | au _ =>
  obtain⟨a,vs,rfl,h,l⟩:=bB.mp b;cases r;obtain⟨aY,rr,p,_⟩:=I.list (b0 hs h).sq;exact .au vs aY l rr p.isList
mutual
theorem Cv(I:Inv X ag σ H s)(hs:Same F H):∀(p q:PV) (A:bY) (u w:aj),KV X.K F s p u->KV X.K F s q w->A.units+iX p<cLine->SeqAt.RcAt A s u w (eqT p q)
 | .cG,q,A,u,w,ha,hb,hu=>by
  have gQ:A.units<cLine:=by lia
  cases ha;cases hb with
  | cG=>exact bo (by simp[eqT]) (SeqAt.RcAt.none_none)
  | bl=>exact bo (by simp[eqT]) (SeqAt.RcAt.none_bool _)
  | int=>exact bo (by simp[eqT]) (SeqAt.RcAt.none_int _ _)
  | str=>exact bo (by simp[eqT]) (SeqAt.RcAt.none_str _ _)
  | aB oK lB lR rR pR=>exact bo (by simp[eqT]) (SeqAt.RcAt.none_tuple pR gQ)
  | au oK lB lR rR pR=>exact bo (by simp[eqT]) (SeqAt.RcAt.none_list pR gQ)
 | .bl k,q,A,u,w,ha,hb,hu=>by
  have gQ:A.units<cLine:=by lia
  cases ha;cases hb with
  | cG=>exact bo (by simp[eqT]) (SeqAt.RcAt.bool_none _)
  | bl=>exact bo (by simp[eqT]) (SeqAt.RcAt.bool_bool _ _)
  | int=>exact bo (by simp[eqT]) (SeqAt.RcAt.bool_int _ _ _)
  | str=>exact bo (by simp[eqT]) (SeqAt.RcAt.bool_str _ _ _)
  | aB oK lB lR rR pR=>exact bo (by simp[eqT]) (SeqAt.RcAt.bool_tuple _ pR gQ)
  | au oK lB lR rR pR=>exact bo (by simp[eqT]) (SeqAt.RcAt.bool_list _ pR gQ)
 | .int k,q,A,u,w,ha,hb,hu=>by
  have gQ:A.units<cLine:=by lia
  cases ha;cases hb with
  | cG=>exact bo (by simp[eqT]) (SeqAt.RcAt.int_none _ _)
  | bl=>exact bo (by simp[eqT]) (SeqAt.RcAt.int_bool _ _ _)
  | int=>exact bo (by simp[eqT]) (SeqAt.RcAt.int_int _ _ _ _)
  | str=>exact bo (by simp[eqT]) (SeqAt.RcAt.int_str _ _ _ _)
  | aB oK lB lR rR pR=>exact bo (by simp[eqT]) (SeqAt.RcAt.int_tuple _ _ pR gQ)
  | au oK lB lR rR pR=>exact bo (by simp[eqT]) (SeqAt.RcAt.int_list _ _ pR gQ)
 | .str k,q,A,u,w,ha,hb,hu=>by
  have gQ:A.units<cLine:=by lia
  cases ha;cases hb with
  | cG=>exact bo (by simp[eqT]) (SeqAt.RcAt.str_none _ _)
  | bl=>exact bo (by simp[eqT]) (SeqAt.RcAt.str_bool _ _ _)
  | int=>exact bo (by simp[eqT]) (SeqAt.RcAt.str_int _ _ _ _)
  | str=>exact bo (by simp[eqT]) (SeqAt.RcAt.str_str _ _ _ _)
  | aB oK lB lR rR pR=>exact bo (by simp[eqT]) (SeqAt.RcAt.str_tuple _ _ pR gQ)
  | au oK lB lR rR pR=>exact bo (by simp[eqT]) (SeqAt.RcAt.str_list _ _ pR gQ)
 | .aB xs,q,A,u,w,ha,hb,hu=>by
  have gQ:A.units<cLine:=by lia
  cases ha with
  | aB Sr Cw lL rL pL =>
  cases hb with
  | cG=>exact bo (by simp[eqT]) (SeqAt.RcAt.tuple_none pL gQ)
  | bl=>exact bo (by simp[eqT]) (SeqAt.RcAt.tuple_bool _ pL gQ)
  | int=>exact bo (by simp[eqT]) (SeqAt.RcAt.tuple_int _ _ pL gQ)
  | str=>exact bo (by simp[eqT]) (SeqAt.RcAt.tuple_str _ _ pL gQ)
  | @aB ys _ oK lB lR rR pR =>
   have e1:xs.length=Cw.toArray.size:=by rw[bF,<-rL.length,<-lL.length]
   have e2:ys.length=lB.toArray.size:=by rw[bF,<-rR.length,<-lR.length]
   refine bo ?_ (SeqAt.RcAt.tuples (e:=kE xs ys) pL pR gQ fun j h1 h2=>?_)
   ·rw[Ep e1 e2];simp[eqT]
   ·exact nv I hs xs ys A.in1 Sr oK Cw lB lL lR rL rR (by rw[kf];simp only[iX]at hu;lia) j (by simpa using h1) (by simpa using h2)
  | au oK lB lR rR pR=>exact bo (by simp[eqT]) (SeqAt.RcAt.tuple_list pL pR gQ)
 | .au xs,q,A,u,w,ha,hb,hu=>by
  have gQ:A.units<cLine:=by lia
  cases ha with
  | au Sr Cw lL rL pL =>
  cases hb with
  | cG=>exact bo (by simp[eqT]) (SeqAt.RcAt.list_none pL gQ)
  | bl=>exact bo (by simp[eqT]) (SeqAt.RcAt.list_bool _ pL gQ)
  | int=>exact bo (by simp[eqT]) (SeqAt.RcAt.list_int _ _ pL gQ)
  | str=>exact bo (by simp[eqT]) (SeqAt.RcAt.list_str _ _ pL gQ)
  | aB oK lB lR rR pR=>exact bo (by simp[eqT]) (SeqAt.RcAt.list_tuple pL pR gQ)
  | @au ys _ oK lB lR rR pR =>
   by_cases hl:xs.length=ys.length
   ·have sz:Cw.toArray.size=lB.toArray.size:=by rw[bF,bF,<-rL.length,<-rR.length,<-lL.length,<-lR.length];exact hl
    have e0:Cw.toArray.size=xs.length:=by rw[bF,<-rL.length,<-lL.length]
    refine bo ?_ (SeqAt.RcAt.lists (e:=kE xs ys) pL pR sz gQ fun j h1 h2=>?_)
    ·rw[e0,nu hl];simp[eqT]
    ·exact nv I hs xs ys A.in1 Sr oK Cw lB lL lR rL rR (by rw[kf];simp only[iX]at hu;lia) j (by simpa using h1) (by simpa using h2)
   ·have sz:(Cw.toArray.size != lB.toArray.size)=true:=by rw[bF,bF,<-rL.length,<-rR.length,<-lL.length,<-lR.length];simpa using hl
    exact bo (by simp[eqT,nr hl]) (SeqAt.RcAt.lists_lengths pL pR sz gQ)
theorem nv(I:Inv X ag σ H s)(hs:Same F H):∀(ps qs:az) (A:bY) (vs ws:List V) (us zs:cb),bt X.K F ps vs->bt X.K F qs ws->Vals vs us->Vals ws zs->A.units+eA ps<cLine ->
  ∀(j:Nat) (h1:j<us.length) (h2:j<zs.length),SeqAt.EqAt A s us[j] zs[j] (kE ps qs j)
 | [],qs,A,vs,ws,us,zs,b1,b2,r1,r2,hu=>fun j h1 h2=>by
  rw[b1.cf]at r1;cases r1;cases h1
 | p::ps,qs,A,vs,ws,us,zs,b1,b2,r1,r2,hu=>fun j h1 h2=>by
  obtain⟨v,vr,rfl,c1,d1⟩:=b1.ck;cases qs with
  | nil =>
   rw[b2.cf]at r2;cases r2;cases h2
  | cons q qs =>
   obtain⟨w,wr,rfl,c2,d2⟩:=b2.ck;cases r1 with
   | cons ra rr =>
    cases r2 with
    | cons sa sr =>
     have hm:A.units+iX p<cLine/\A.units+eA ps<cLine:=by
      simp only[eA]at hu
      lia
     cases j with
     | zero =>
      refine Eo (u6 c1 ra) (Cv I hs p q A _ _ (pT I hs c1 ra) (pT I hs c2 sa) hm.1) fun z=>?_
      simp only[List.getElem_cons_zero]at z;rw[<-z]at sa;have e:=ra.inj sa;subst e;rw[c9.inj I hs c1 c2];exact kD q
     | succ j =>
      exact nv I hs ps qs A _ _ _ _ d1 d2 rr sr hm.2 j (by simpa using h1) (by simpa using h2)
end
theorem Ss(I:Inv X ag σ H s)(hs:Same F H){p q:PV}{A:bY}{x y:V}{u w:aj}(b1:c9 X.K F p x)(b2:c9 X.K F q y)(r1:RelV x u)(r2:RelV y w)(hu:A.units+iX p<cLine):SeqAt.EqAt A s u w (eqT p q):=by
 refine Eo (u6 b1 r1) (Cv I hs p q A _ _ (pT I hs b1 r1) (pT I hs b2 r2) hu) fun z=>?_
 rw[<-z]at r2;have e:=r1.inj r2;subst e;rw[c9.inj I hs b1 b2];exact kD q
theorem Su(I:Inv X ag σ H s)(hs:Same F H):∀(p q:PV) (A:bY) (u w:aj),KV X.K F s p u->KV X.K F s q w->A.units+iX p<cLine->SeqAt.RcNeAt A s u w (!(eqT p q))
 | .cG,q,A,u,w,ha,hb,hu=>by
  have gQ:A.units<cLine:=by lia
  cases ha;cases hb with
  | cG=>exact aO (by simp[eqT]) (SeqAt.RcNeAt.none_none)
  | bl=>exact aO (by simp[eqT]) (SeqAt.RcNeAt.none_bool _)
  | int=>exact aO (by simp[eqT]) (SeqAt.RcNeAt.none_int _ _)
  | str=>exact aO (by simp[eqT]) (SeqAt.RcNeAt.none_str _ _)
  | aB oK lB lR rR pR=>exact aO (by simp[eqT]) (SeqAt.RcNeAt.none_tuple pR gQ)
  | au oK lB lR rR pR=>exact aO (by simp[eqT]) (SeqAt.RcNeAt.none_list pR gQ)
 | .bl k,q,A,u,w,ha,hb,hu=>by
  have gQ:A.units<cLine:=by lia
  cases ha;cases hb with
  | cG=>exact aO (by simp[eqT]) (SeqAt.RcNeAt.bool_none _)
  | bl=>exact aO (by simp[eqT]) (SeqAt.RcNeAt.bool_bool _ _)
  | int=>exact aO (by simp[eqT]) (SeqAt.RcNeAt.bool_int _ _ _)
  | str=>exact aO (by simp[eqT]) (SeqAt.RcNeAt.bool_str _ _ _)
  | aB oK lB lR rR pR=>exact aO (by simp[eqT]) (SeqAt.RcNeAt.bool_tuple _ pR gQ)
  | au oK lB lR rR pR=>exact aO (by simp[eqT]) (SeqAt.RcNeAt.bool_list _ pR gQ)
 | .int k,q,A,u,w,ha,hb,hu=>by
  have gQ:A.units<cLine:=by lia
  cases ha;cases hb with
  | cG=>exact aO (by simp[eqT]) (SeqAt.RcNeAt.int_none _ _)
  | bl=>exact aO (by simp[eqT]) (SeqAt.RcNeAt.int_bool _ _ _)
  | int=>exact aO (by simp[eqT]) (SeqAt.RcNeAt.int_int _ _ _ _)
  | str=>exact aO (by simp[eqT]) (SeqAt.RcNeAt.int_str _ _ _ _)
  | aB oK lB lR rR pR=>exact aO (by simp[eqT]) (SeqAt.RcNeAt.int_tuple _ _ pR gQ)
  | au oK lB lR rR pR=>exact aO (by simp[eqT]) (SeqAt.RcNeAt.int_list _ _ pR gQ)
 | .str k,q,A,u,w,ha,hb,hu=>by
  have gQ:A.units<cLine:=by lia
  cases ha;cases hb with
  | cG=>exact aO (by simp[eqT]) (SeqAt.RcNeAt.str_none _ _)
  | bl=>exact aO (by simp[eqT]) (SeqAt.RcNeAt.str_bool _ _ _)
  | int=>exact aO (by simp[eqT]) (SeqAt.RcNeAt.str_int _ _ _ _)
  | str=>exact aO (by simp[eqT]) (SeqAt.RcNeAt.str_str _ _ _ _)
  | aB oK lB lR rR pR=>exact aO (by simp[eqT]) (SeqAt.RcNeAt.str_tuple _ _ pR gQ)
  | au oK lB lR rR pR=>exact aO (by simp[eqT]) (SeqAt.RcNeAt.str_list _ _ pR gQ)
 | .aB xs,q,A,u,w,ha,hb,hu=>by
  have gQ:A.units<cLine:=by lia
  cases ha with
  | aB Sr Cw lL rL pL =>
  cases hb with
  | cG=>exact aO (by simp[eqT]) (SeqAt.RcNeAt.tuple_none pL gQ)
  | bl=>exact aO (by simp[eqT]) (SeqAt.RcNeAt.tuple_bool _ pL gQ)
  | int=>exact aO (by simp[eqT]) (SeqAt.RcNeAt.tuple_int _ _ pL gQ)
  | str=>exact aO (by simp[eqT]) (SeqAt.RcNeAt.tuple_str _ _ pL gQ)
  | @aB ys _ oK lB lR rR pR =>
   have e1:xs.length=Cw.toArray.size:=by rw[bF,<-rL.length,<-lL.length]
   have e2:ys.length=lB.toArray.size:=by rw[bF,<-rR.length,<-lR.length]
   refine aO ?_ (SeqAt.RcNeAt.tuples (e:=kE xs ys) pL pR gQ fun j h1 h2=>?_)
   ·rw[Ep e1 e2];simp[eqT]
   ·exact nv I hs xs ys A.in1 Sr oK Cw lB lL lR rL rR (by rw[kf];simp only[iX]at hu;lia) j (by simpa using h1) (by simpa using h2)
  | au oK lB lR rR pR=>exact aO (by simp[eqT]) (SeqAt.RcNeAt.tuple_list pL pR gQ)
 | .au xs,q,A,u,w,ha,hb,hu=>by
  have gQ:A.units<cLine:=by lia
  cases ha with
  | au Sr Cw lL rL pL =>
  cases hb with
  | cG=>exact aO (by simp[eqT]) (SeqAt.RcNeAt.list_none pL gQ)
  | bl=>exact aO (by simp[eqT]) (SeqAt.RcNeAt.list_bool _ pL gQ)
  | int=>exact aO (by simp[eqT]) (SeqAt.RcNeAt.list_int _ _ pL gQ)
  | str=>exact aO (by simp[eqT]) (SeqAt.RcNeAt.list_str _ _ pL gQ)
  | aB oK lB lR rR pR=>exact aO (by simp[eqT]) (SeqAt.RcNeAt.list_tuple pL pR gQ)
  | @au ys _ oK lB lR rR pR =>
   by_cases hl:xs.length=ys.length
   ·have sz:Cw.toArray.size=lB.toArray.size:=by rw[bF,bF,<-rL.length,<-rR.length,<-lL.length,<-lR.length];exact hl
    have e0:Cw.toArray.size=xs.length:=by rw[bF,<-rL.length,<-lL.length]
    refine aO ?_ (SeqAt.RcNeAt.lists (e:=kE xs ys) pL pR sz gQ fun j h1 h2=>?_)
    ·rw[e0,nu hl];simp[eqT]
    ·exact nv I hs xs ys A.in1 Sr oK Cw lB lL lR rL rR (by rw[kf];simp only[iX]at hu;lia) j (by simpa using h1) (by simpa using h2)
   ·have sz:(Cw.toArray.size != lB.toArray.size)=true:=by rw[bF,bF,<-rL.length,<-rR.length,<-lL.length,<-lR.length];simpa using hl
    exact aO (by simp[eqT,nr hl]) (SeqAt.RcNeAt.lists_lengths pL pR sz gQ)
end
def hJ:Nat:=1000
def dU(p q:PV):bU:=if iX p<=hJ then some (.bl (eqT p q))else none
def t8(p q:PV):bU:=if iX p<=hJ then some (.bl (!eqT p q))else none
section
variable {X:Cx}
theorem Sv(hu:X.A.units+1150<cLine):wK X (compareOp .Eq) dU:=by
 intro ag s σ H x y v u Q I rx ry ⟨H₀,ab,F,ρ,τ,pa,pb,p,e,R,ba,bb,k⟩;obtain⟨hd,rfl⟩:=aN e;have yE:iX pa<=1000:=hd;exact Cv I R.sub pa pb X.A v u (pT I R.sub ba rx) (pT I R.sub bb ry) (by lia) X.prog X.w X.xe _ ⟨.bl _,H,I,rfl,k _ H F R (Same.refl F) (bZ.mpr rfl)⟩
theorem Sw(hu:X.A.units+1150<cLine):wK X (compareOp .NotEq) t8:=by
 intro ag s σ H x y v u Q I rx ry ⟨H₀,ab,F,ρ,τ,pa,pb,p,e,R,ba,bb,k⟩;obtain⟨hd,rfl⟩:=aN e;have yE:iX pa<=1000:=hd;exact Su I R.sub pa pb X.A v u (pT I R.sub ba rx) (pT I R.sub bb ry) (by lia) X.prog X.w X.xe _ ⟨.bl _,H,I,rfl,k _ H F R (Same.refl F) (bZ.mpr rfl)⟩
def Er:PV->PV->bU
 | .int i,.int j=>some (.bl (decide (i<j)))
 | _,_=>none
def Nq:PV->PV->bU
 | .int i,.int j=>some (.bl (decide (i<=j)))
 | _,_=>none
def YV:PV->PV->bU
 | .int i,.int j=>some (.bl (decide (j<i)))
 | _,_=>none
def Qn:PV->PV->bU
 | .int i,.int j=>some (.bl (decide (j<=i)))
 | _,_=>none
theorem Sx:wK X (compareOp .Lt) Er:=iW (zr P5) fun pa pb p e=>by
 unfold Er at e;split at e
 ·cases e;exact⟨_,_,rfl,rfl,trivial,fun F=>bZ.mpr rfl⟩
 ·cases e
theorem Sy:wK X (compareOp .LtE) Nq:=iW (zr Vu) fun pa pb p e=>by
 unfold Nq at e;split at e
 ·cases e;exact⟨_,_,rfl,rfl,trivial,fun F=>bZ.mpr rfl⟩
 ·cases e
theorem Sz:wK X (compareOp .Gt) YV:=iW (zr Vv) fun pa pb p e=>by
 unfold YV at e;split at e
 ·cases e;exact⟨_,_,rfl,rfl,trivial,fun F=>bZ.mpr rfl⟩
 ·cases e
theorem SA:wK X (compareOp .GtE) Qn:=iW (zr Vw) fun pa pb p e=>by
 unfold Qn at e;split at e
 ·cases e;exact⟨_,_,rfl,rfl,trivial,fun F=>bZ.mpr rfl⟩
 ·cases e
def JK:PV->Bool
 | .cG=>true
 | _=>false
def UG:PV->PV->bU
 | p,.cG=>some (.bl (JK p))
 | _,_=>none
def SD:PV->PV->bU
 | p,.cG=>some (.bl (!JK p))
 | _,_=>none
theorem Es{K:ak}{F:Hp}{p:PV}{x:V}(b:c9 K F p x):decide (x=.cG)=JK p:=by
 cases p with
 | cG=>rw[dE.mp b];rfl
 | bl _=>rw[bZ.mp b];rfl
 | int _=>rw[aI.mp b];rfl
 | str _=>rw[cD.mp b];rfl
 | aB _=>obtain⟨_,_,rfl,_⟩:=bM.mp b;rfl
 | au _=>obtain⟨_,_,rfl,_⟩:=bB.mp b;rfl
theorem SE:wK X (compareOp .Is) UG:=by
 intro ag s σ H x y v u Q I rx ry ⟨H₀,ab,F,ρ,τ,pa,pb,p,e,R,ba,bb,k⟩;unfold UG at e;split at e
 ·cases e;refine RI ag s σ H x y v u Q I rx ry ⟨dE.mp bb,k _ H F R (Same.refl F) (bZ.mpr ?_)⟩;rw[Es ba]
 ·cases e
theorem Nr:wK X (compareOp .IsNot) SD:=by
 intro ag s σ H x y v u Q I rx ry ⟨H₀,ab,F,ρ,τ,pa,pb,p,e,R,ba,bb,k⟩;unfold SD at e;split at e
 ·rename_i pa';cases e;refine MI ag s σ H x y v u Q I rx ry ⟨dE.mp bb,k _ H F R (Same.refl F) (bZ.mpr ?_)⟩;rw[Es ba]
 ·cases e
def Cy(p:PV)(ps:az):Bool:=ps.any fun q=>eqT q p
def pU(neg:Bool):PV->PV->bU
 | p,.au ps=>if eA ps<=hJ then some (.bl (if neg then !Cy p ps else Cy p ps))else none
 | p,.aB ps=>if eA ps<=hJ then some (.bl (if neg then !Cy p ps else Cy p ps))else none
 | _,_=>none
open Classical in
noncomputable def lC (K:ak) (F:Hp) (p:PV) (u:aj):Bool:=if h:∃q x,c9 K F q x/\RelV x u then eqT h.choose p else false
theorem Et{ag:List (ae×Obj)}{σ:St}{H F:Hp}{s:aw}(I:Inv X ag σ H s)(hs:Same F H){p q:PV}{x:V}{u:aj}(b:c9 X.K F q x)(r:RelV x u):lC X.K F p u=eqT q p:=by
 have h:∃q x,c9 X.K F q x/\RelV x u:=⟨q,x,b,r⟩
 unfold lC;rw[dif_pos h];obtain⟨y,b',r'⟩:=h.choose_spec;have e:=r.inj r';subst e;rw[c9.inj I hs b' b]
theorem nz{ag:List (ae×Obj)}{σ:St}{H F:Hp}{s:aw}(I:Inv X ag σ H s)(hs:Same F H){p:PV}:∀{ps:az} {vs:List V} {us:cb},bt X.K F ps vs->Vals vs us->us.any (lC X.K F p)=Cy p ps
 | [],_,_,b,r=>by
  rw[b.cf]at r;cases r;rfl
 | q::ps,_,_,b,r=>by
  obtain⟨v,vr,rfl,c1,d1⟩:=b.ck;cases r with
  | cons ra rr =>
   rw[l9,Et I hs c1 ra,nz I hs d1 rr];rfl
theorem nA{ag:List (ae×Obj)}{σ:St}{H F:Hp}{s:aw}{A:bY}(I:Inv X ag σ H s)(hs:Same F H){p:PV}{y:V}{w:aj}(bp:c9 X.K F p y)(rp:RelV y w) :
  ∀{ps:az} {vs:List V} {us:cb},bt X.K F ps vs->Vals vs us->A.units+eA ps<cLine->∀u∈us,SeqAt.EqAt A s u w (lC X.K F p u)
 | [],_,_,b,r,_=>fun u hu=>by
  rw[b.cf]at r;cases r;cases hu
 | q::ps,_,_,b,r,hz=>fun u hu=>by
  obtain⟨v,vr,rfl,c1,d1⟩:=b.ck;simp only[eA]at hz;cases r with
  | cons ra rr =>
   rcases bc.mp hu with rfl | hu
   ·rw[Et I hs c1 ra];exact Ss I hs c1 bp ra rp (by lia)
   ·exact nA I hs bp rp d1 rr (by lia) u hu
theorem SF(hu:X.A.units+1150<cLine):wK X (compareOp .In) (pU false):=by
 intro ag s σ H x y v u Q I rx ry ⟨H₀,ab,F,ρ,τ,pa,pb,p,e,R,ba,bb,k⟩;unfold pU at e;split at e
 ·obtain⟨hd,rfl⟩:=aN e;have yE:eA _<=1000:=hd;obtain⟨a,vs,rfl,ha,gJ⟩:=bB.mp bb;cases ry;obtain⟨aY,r,pl,_⟩:=I.list ((b0 R.sub ha).sq);refine SeqAt.in_listAt (lC X.K F pa) pl.isList (fun w hw=>nA I R.sub ba rx gJ r (by rw[kf];lia) w (by simpa using hw)) ⟨.bl _,H,I,rfl,k _ H F R (Same.refl F) (bZ.mpr ?_)⟩
  rw[show aY.toArray.any (lC X.K F pa)=aY.any (lC X.K F pa) by simp,nz I R.sub gJ r]
  rfl
 ·obtain⟨hd,rfl⟩:=aN e;have yE:eA _<=1000:=hd;obtain⟨a,vs,rfl,ha,gJ⟩:=bM.mp bb;cases ry;obtain⟨aY,r,pl,_⟩:=I.tuple (bA R.sub ha);refine SeqAt.in_tupleAt (lC X.K F pa) pl (fun w hw=>nA I R.sub ba rx gJ r (by rw[kf];lia) w (by simpa using hw)) ⟨.bl _,H,I,rfl,k _ H F R (Same.refl F) (bZ.mpr ?_)⟩
  rw[show aY.toArray.any (lC X.K F pa)=aY.any (lC X.K F pa) by simp,nz I R.sub gJ r]
  rfl
 ·cases e
theorem Gn(hu:X.A.units+1150<cLine):wK X (compareOp .NotIn) (pU true):=by
 intro ag s σ H x y v u Q I rx ry ⟨H₀,ab,F,ρ,τ,pa,pb,p,e,R,ba,bb,k⟩;unfold pU at e;split at e
 ·obtain⟨hd,rfl⟩:=aN e;have yE:eA _<=1000:=hd;obtain⟨a,vs,rfl,ha,gJ⟩:=bB.mp bb;cases ry;obtain⟨aY,r,pl,_⟩:=I.list ((b0 R.sub ha).sq);refine SeqAt.notIn_listAt (lC X.K F pa) pl.isList (fun w hw=>nA I R.sub ba rx gJ r (by rw[kf];lia) w (by simpa using hw)) ⟨.bl _,H,I,rfl,k _ H F R (Same.refl F) (bZ.mpr ?_)⟩
  rw[show aY.toArray.any (lC X.K F pa)=aY.any (lC X.K F pa) by simp,nz I R.sub gJ r]
  rfl
 ·obtain⟨hd,rfl⟩:=aN e;have yE:eA _<=1000:=hd;obtain⟨a,vs,rfl,ha,gJ⟩:=bM.mp bb;cases ry;obtain⟨aY,r,pl,_⟩:=I.tuple (bA R.sub ha);refine SeqAt.notIn_tupleAt (lC X.K F pa) pl (fun w hw=>nA I R.sub ba rx gJ r (by rw[kf];lia) w (by simpa using hw)) ⟨.bl _,H,I,rfl,k _ H F R (Same.refl F) (bZ.mpr ?_)⟩
  rw[show aY.toArray.any (lC X.K F pa)=aY.any (lC X.K F pa) by simp,nz I R.sub gJ r]
  rfl
 ·cases e
end
def Cz:CmpOp->Option (PV->PV->bU)
 | .Eq=>some dU
 | .NotEq=>some t8
 | .Lt=>some Er
 | .LtE=>some Nq
 | .Gt=>some YV
 | .GtE=>some Qn
 | .Is=>some UG
 | .IsNot=>some SD
 | .In=>some (pU false)
 | .NotIn=>some (pU true)
theorem k0{X:Cx}(hu:X.A.units+1150<cLine){op:CmpOp}{g:PV->PV->bU}(h:Cz op=some g):wK X (compareOp op) g:=by
 cases op<;>cases h
 ·exact Sv hu
 ·exact Sw hu
 ·exact Sx
 ·exact Sy
 ·exact Sz
 ·exact SA
 ·exact SE
 ·exact Nr
 ·exact SF hu
 ·exact Gn hu
section
variable {K:ak} {F:Hp}
theorem bt.atI{ps:az}{vs:List V}{i:Int}{p:PV}(h:bt K F ps vs)(e:L2.atI ps i=some p):∃v,L2.atI vs i=some v/\c9 K F p v:=by
 unfold L2.atI at e ⊢;rw[<-h.length];cases z:Ji ps.length i with
 | none=>rw[z]at e;cases e
 | some j =>
  rw[z]at e;exact h.get e
end
def aG:PV->PV->bU
 | .aB xs,.int i=>atI xs i
 | .au xs,.int i=>atI xs i
 | .str z,.int i=>if z.length<=gB then(atI z.cps.toList i).map fun c=>.str ⟨#[c]⟩else none
 | _,_=>none
section
variable {X:Cx} {H₀ ab:Hp} {a b e:aq} {fa fb:FE} {pos p2:Pos} {lo hi:Option aq}
theorem ixT:RQ X (rT X.K aG):=by
 intro value slice ag s σ H x y v u Q I rx ry ⟨H₀,ab,F,ρ,τ,pa,pb,p,e,R,ba,bb,k⟩ hs;unfold aG at e;split at e
 ·obtain⟨a,vs,rfl,ha,gJ⟩:=bM.mp ba;rw[aI.mp bb]at ry;obtain⟨w,hw,bw⟩:=gJ.atI e;exact RS value slice ag s σ H _ _ v u Q I rx ry ⟨a,vs,_,w,rfl,rfl,bA R.sub ha,hw,k _ H F R (Same.refl F) bw⟩ hs
 ·obtain⟨a,vs,rfl,ha,gJ⟩:=bB.mp ba;rw[aI.mp bb]at ry;obtain⟨w,hw,bw⟩:=gJ.atI e;exact wu value slice ag s σ H _ _ v u Q I rx ry ⟨a,vs,_,w,rfl,rfl,(b0 R.sub ha).sq,hw,k _ H F R (Same.refl F) bw⟩ hs
 ·rename_i z i;obtain⟨hz,e⟩:=aJ e;rw[cD.mp ba]at rx;rw[aI.mp bb]at ry;cases w:atI z.cps.toList i with
  | none=>rw[w]at e;cases e
  | some c =>
   rw[w]at e;cases e;exact RT value slice ag s σ H _ _ v u Q I rx ry ⟨z,i,c,rfl,rfl,fx hz,w,k _ H F R (Same.refl F) (cD.mpr rfl)⟩ hs
 ·cases e
theorem Wl(ha:PE X a (tE X.K H₀ ab fa))(hb:PE X b (tE X.K H₀ ab fb))(hs:kZ b):PE X (.Subscript a b pos) (tE X.K H₀ ab (af fa fb aG)):=(yX ixT ha hb hs).imp fun _ _ _ h=>qp nq h
def jo(xs:az)(lo hi:Option Int):az:=(xs.drop (HT.eV xs.length 0 lo)).take (HT.eV xs.length xs.length hi-HT.eV xs.length 0 lo)
theorem bt.cut{K:ak}{F:Hp}{ps:az}{vs:List V}(h:bt K F ps vs)(lo hi:Option Int):bt K F (jo ps lo hi) (tX vs lo hi):=by
 unfold jo tX;rw[h.length];exact(h.drop _).take _
theorem nC{prog:bJ}{w:aW}{A:bY}{E:cS}{s:aw}{t sl:ae}{aY:Array aj}{vl vu:aj}{lo hi:Option Int}{Q:cS}(ht:IsTup s.heap t aY)(hs:s.heap.IsSliceOf sl vl vu .none)(pl:IsPart vl lo)(pu:IsPart vu hi)
  (h0:HT.eV aY.size 0 lo=0) (h1:HT.eV aY.size aY.size hi=aY.size) (h:Q (.ref t) s):wpAny (model prog w) A (getItem (.ref t) (.ref sl)) Q E s:=by
 obtain⟨os,RO,UB,VD⟩:=id hs;have hT:s.TypeIs (.ref sl) "slice":=⟨os,RO,UB⟩;unfold getItem
 try with_reducible refine kj ?_
 first | refine av (aK ?_) | skip
 refine av (wpAny_sequenceKey ht.typeIs (by decide) ?_)
 refine av (lZ (name:=Str.ofString "__getitem__") ht.typeIs n6 (ji n6 ht.typeIs entry_tuple_getitem ?_ (args_tuple_getitem _ _)));show wpAny _ _ (Builtin.Tuple.tupleItemsOf (.ref t) >>= _) _ _ s;refine av (tupleItemsOf_ ht (av (vX hT ?_)));rw[if_pos (by decide)]
 refine av (HT.jA hs pl pu ?_);have hc:(((HT.eV aY.size 0 lo:Nat):Int)==0&&(1:Int)==1&&(HT.eV aY.size aY.size hi-HT.eV aY.size 0 lo)==aY.size)=true:=by
  rw[h0,h1];simp
 show wpAny _ _ (if(((HT.eV aY.size 0 lo:Nat):Int)==0&&(1:Int)==1&&(HT.eV aY.size aY.size hi-HT.eV aY.size 0 lo)==aY.size)=true then _ else _) _ _ s
 rw[if_pos hc];unfold Builtin.Tuple.tupleIsExact;refine av (av (vX ht.typeIs (aK ?_)));rw[if_pos (by decide)]
 exact av (qS (aK ⟨_,rfl,aK h⟩))
def Nt(lo hi:Option Int):PV->bU
 | .au ps=>some (.au (jo ps lo hi))
 | .aB ps=>some (.aB (jo ps lo hi))
 | _=>none
def rSl(K:ak):V->Option Int->Option Int->Hp->VK->Prop:=fun x lo hi H Q=>∃H₀ ab F ρ τ pa p,Nt lo hi pa=some p/\da K H₀ ab F ρ τ H/\c9 K F pa x/\∀v H' F',da K H₀ ab F' ρ τ H'->Same F F'->c9 K F' p v->Q v H'
theorem slT:YG X (rSl X.K):=by
 intro ag s σ H x v vl vu lo hi sl Q I rx hs pl pu ⟨H₀,ab,F,ρ,τ,pa,p,e,R,ba,k⟩;unfold Nt at e;split at e
 ·cases e;obtain⟨a,vs,rfl,ha,gJ⟩:=bB.mp ba;refine Ef ag s σ H _ v vl vu lo hi sl Q I rx hs pl pu ⟨a,vs,rfl,(b0 R.sub ha).sq,fun q hq=>?_⟩
  obtain⟨R2,s2⟩:=R.laid (.au (tX vs lo hi)) hq;exact k _ _ _ R2 s2 (bB.mpr ⟨q,_,rfl,qj.of aX,(gJ.cut lo hi).mono s2⟩)
 ·rename_i ps;cases e;obtain⟨a,vs,rfl,ha,gJ⟩:=bM.mp ba;by_cases hw:HT.eV vs.length 0 lo=0/\HT.eV vs.length vs.length hi=vs.length
  ·cases rx;obtain⟨aY,r,ht,hz⟩:=I.tuple (bA R.sub ha);have dm:aY.toArray.size=vs.length:=by rw[bF];exact r.length.symm
   refine⟨"tuple",_,n6.lookup,ht.typeIs,?_⟩;refine nC ht hs pl pu (by rw[dm];exact hw.1) (by rw[dm];exact hw.2) ⟨.ref a,H,I,rfl,k _ H F R (Same.refl F) ?_⟩
   have hc:jo ps lo hi=ps:=by
    unfold jo;rw[gJ.length,hw.1,hw.2,List.drop_zero,Nat.sub_zero,<-gJ.length,List.take_length]
   rw[hc];exact ba
  ·refine RP ag s σ H _ v vl vu lo hi sl Q I rx hs pl pu ⟨a,vs,rfl,bA R.sub ha,hw,fun q hq=>?_⟩
   obtain⟨R2,s2⟩:=R.laid (.aB (tX vs lo hi)) hq;exact k _ _ _ R2 s2 (bM.mpr ⟨q,_,rfl,jm.of aX,(gJ.cut lo hi).mono s2⟩)
 ·cases e
abbrev FO:=aF->Option (Option Int)
def zu(K:ak)(H₀ ab:Hp)(f:FO):TO:=fun σ H Q=>∃F ρ o,da K H₀ ab F ρ σ H/\f ρ=some o/\∀H' F',da K H₀ ab F' ρ σ H'->Same F F'->Q o H'
theorem _root_.L2.PO.imp{X:Cx}{e:Option aq}{t t':TO}(h:PO X e t)(hi:∀σ H Q,t' σ H Q->t σ H Q):PO X e t':=fun ag s σ H Q I hw=>h ag s σ H Q I (hi _ _ _ hw)
def Nu:FO:=fun _=>some none
def j0(fe:FE):FO:=fun ρ=>(fe ρ).bind fun p=>match p with | .int i=>some (some i) | _=>none
theorem JL:PO X none (zu X.K H₀ ab Nu):=MN.imp <| by
 rintro σ H Q ⟨F,ρ,o,R,hf,q⟩
 cases hf;exact q H F R (Same.refl F)
theorem JM(h:PE X e (tE X.K H₀ ab fa)):PO X (some e) (zu X.K H₀ ab (j0 fa)):=(MO h).imp <| by
 rintro σ H Q ⟨F,ρ,o,R,hf,q⟩
 obtain⟨p,h1,h2⟩:=ay hf;cases p with
 | int i =>
  cases h2;exact⟨F,ρ,_,R,h1,fun v H1 F1 R1 s1 b1=>⟨i,aI.mp b1,q H1 F1 R1 s1⟩⟩
 | _=>cases h2
def cutE(fa:FE)(fl fh:FO):FE:=fun ρ=>(fa ρ).bind fun p=>(fl ρ).bind fun l=>(fh ρ).bind fun h=>Nt l h p
theorem Qo{fl fh:FO}(ha:PE X e (tE X.K H₀ ab fa))(hl:PO X lo (zu X.K H₀ ab fl))(hh:PO X hi (zu X.K H₀ ab fh)):PE X (.Subscript e (.Slice lo hi none p2) pos) (tE X.K H₀ ab (cutE fa fl fh)):=(yW slT ha hl hh).imp <| by
 rintro σ H Q ⟨F,ρ,p,R,hf,q⟩
 obtain⟨pa,h1,hf⟩:=ay hf;obtain⟨l,h2,hf⟩:=ay hf;obtain⟨h,h3,h4⟩:=ay hf;exact⟨F,ρ,pa,R,h1,fun v H1 F1 R1 s1 b1=>⟨F1,ρ,l,R1,h2,fun H2 F2 R2 s2=>⟨F2,ρ,h,R2,h3,fun H3 F3 R3 s3 =>
  ⟨H₀,ab,F3,ρ,σ,pa,p,h4,R3,b1.mono (s2.trans s3),fun w H4 F4 R4 s4 b4=>q w H4 F4 R4 (s1.trans (s2.trans (s3.trans s4))) b4⟩⟩⟩⟩
end
def rC(K:ak)(g:az->bU):List V->Hp->VK->Prop:=fun xs H Q=>∃H₀ ab F ρ τ ps p,g ps=some p/\da K H₀ ab F ρ τ H/\bt K F ps xs/\∀v H' F',da K H₀ ab F' ρ τ H'->Same F F'->c9 K F' p v->Q v H'
abbrev Gp(X:Cx)(f:aj)(g:az->bU):Prop:=lI X f (rC X.K g)
def cg(g:az->bU)(ts:bX):FE:=fun ρ=>(ts ρ).bind g
theorem k8{H₀ ab:Hp}{K:ak}{g:az->bU}{ts:bX}{σ:St}{H:Hp}{Q:VK}(h:tE K H₀ ab (cg g ts) σ H Q):tCB (rC K g) (tA K H₀ ab ts) σ H Q:=by
 obtain⟨F,ρ,p,R,hf,q⟩:=h;obtain⟨ps,h1,h2⟩:=ay hf;exact⟨F,ρ,ps,R,h1,fun vs H1 F1 R1 s1 b1=>⟨H₀,ab,F1,ρ,σ,ps,p,h2,R1,b1,fun v H' F' R' s' b'=>q v H' F' R' (s1.trans s') b'⟩⟩
def cX:az->bU
 | [.aB ps]=>some (.int ps.length)
 | [.au ps]=>some (.int ps.length)
 | [.str z]=>if z.length<=gB then some (.int z.length)else none
 | _=>none
def lD:az->bU
 | [.au ps]=>some (.aB ps)
 | [.aB ps]=>some (.aB ps)
 | _=>none
def JN:az->bU
 | [.au ps]=>some (.au ps)
 | [.aB ps]=>some (.au ps)
 | _=>none
def wM:az->bU
 | [.int i]=>some (.int i)
 | [.bl b]=>some (.int (if b then 1 else 0))
 | _=>none
def iY:az->Option (List Int)
 | []=>some []
 | .int i::r=>(iY r).map fun ns=>i::ns
 | _::_=>none
def CB:az->bU
 | [.au ps]=>(iY ps).map fun ns=>.int ns.sum
 | _=>none
theorem rZ{K:ak}{F:Hp}:∀{ps:az} {ns:List Int} {vs:List V},iY ps=some ns->bt K F ps vs->vs=ns.map V.int
 | [],ns,vs,h,b=>by cases h;exact b.cf
 | .int i::r,ns,vs,h,b=>by
  unfold iY at h;cases z:iY r with
  | none=>rw[z]at h;cases h
  | some ms =>
   rw[z]at h;cases h;obtain⟨v,vr,rfl,c,d⟩:=b.ck;rw[aI.mp c,rZ z d];rfl
 | .cG::_,_,_,h,_=>by cases h
 | .bl _::_,_,_,h,_=>by cases h
 | .str _::_,_,_,h,_=>by cases h
 | .aB _::_,_,_,h,_=>by cases h
 | .au _::_,_,_,h,_=>by cases h
section
variable {X:Cx}
theorem eK{K:ak}{F:Hp}{p:PV}{vs:List V}(b:bt K F [p] vs):∃v,vs=[v]/\c9 K F p v:=by
 obtain⟨v,r,rfl,c,d⟩:=b.ck;rw[d.cf];exact⟨v,rfl,c⟩
theorem Eu{K:ak}{F:Hp}{p q:PV}{vs:List V}(b:bt K F [p,q] vs):∃v w,vs=[v,w]/\c9 K F p v/\c9 K F q w:=by
 obtain⟨v,r,rfl,c,d⟩:=b.ck;obtain⟨w,rfl,e⟩:=eK d;exact⟨v,w,rfl,c,e⟩
theorem Gq:Gp X (.builtin "len") cX:=by
 intro ag s σ H xs us Q I rs ⟨H₀,ab,F,ρ,τ,ps,p,e,R,bs,k⟩;unfold cX at e;split at e
 ·cases e;obtain⟨v,rfl,b⟩:=eK bs;obtain⟨a,vs,rfl,ha,gJ⟩:=bM.mp b;exact jN ag s σ H _ us Q I rs ⟨a,vs,rfl,.inr (bA R.sub ha),k _ H F R (Same.refl F) (aI.mpr (by rw[gJ.length]))⟩
 ·cases e;obtain⟨v,rfl,b⟩:=eK bs;obtain⟨a,vs,rfl,ha,gJ⟩:=bB.mp b;exact jN ag s σ H _ us Q I rs ⟨a,vs,rfl,.inl (b0 R.sub ha).sq,k _ H F R (Same.refl F) (aI.mpr (by rw[gJ.length]))⟩
 ·obtain⟨hz,rfl⟩:=aN e;obtain⟨v,rfl,b⟩:=eK bs;rw[cD.mp b]at rs;exact wz ag s σ H _ us Q I rs ⟨_,rfl,fx hz,k _ H F R (Same.refl F) (aI.mpr rfl)⟩
 ·cases e
theorem Gr:Gp X (.type "tuple") lD:=by
 intro ag s σ H xs us Q I rs ⟨H₀,ab,F,ρ,τ,ps,p,e,R,bs,k⟩;unfold lD at e;split at e
 ·cases e;obtain⟨v,rfl,b⟩:=eK bs;obtain⟨a,vs,rfl,ha,gJ⟩:=bB.mp b;refine lJ ag s σ H _ us Q I rs ⟨a,vs,rfl,.inl ⟨(b0 R.sub ha).sq,fun q hq=>?_⟩⟩
  obtain⟨R2,s2⟩:=R.laid (.aB vs) hq;exact k _ _ _ R2 s2 (bM.mpr ⟨q,_,rfl,jm.of aX,gJ.mono s2⟩)
 ·cases e;obtain⟨v,rfl,b⟩:=eK bs;obtain⟨a,vs,rfl,ha,gJ⟩:=bM.mp b;exact lJ ag s σ H _ us Q I rs ⟨a,vs,rfl,.inr ⟨bA R.sub ha,k _ H F R (Same.refl F) b⟩⟩
 ·cases e
theorem Gs:Gp X (.type "list") JN:=by
 intro ag s σ H xs us Q I rs ⟨H₀,ab,F,ρ,τ,ps,p,e,R,bs,k⟩;unfold JN at e;split at e
 ·cases e;obtain⟨v,rfl,b⟩:=eK bs;obtain⟨a,vs,rfl,ha,gJ⟩:=bB.mp b;refine jO ag s σ H _ us Q I rs ⟨a,vs,rfl,.inl (b0 R.sub ha).sq,fun q hq=>?_⟩
  obtain⟨R2,s2⟩:=R.laid (.au vs) hq;exact k _ _ _ R2 s2 (bB.mpr ⟨q,_,rfl,qj.of aX,gJ.mono s2⟩)
 ·cases e;obtain⟨v,rfl,b⟩:=eK bs;obtain⟨a,vs,rfl,ha,gJ⟩:=bM.mp b;refine jO ag s σ H _ us Q I rs ⟨a,vs,rfl,.inr (bA R.sub ha),fun q hq=>?_⟩
  obtain⟨R2,s2⟩:=R.laid (.au vs) hq;exact k _ _ _ R2 s2 (bB.mpr ⟨q,_,rfl,qj.of aX,gJ.mono s2⟩)
 ·cases e
theorem Gu:Gp X (.type "int") wM:=by
 intro ag s σ H xs us Q I rs ⟨H₀,ab,F,ρ,τ,ps,p,e,R,bs,k⟩;unfold wM at e;split at e
 ·cases e;obtain⟨v,rfl,b⟩:=eK bs;rw[aI.mp b]at rs;exact uN ag s σ H _ us Q I rs (.inl ⟨_,rfl,k _ H F R (Same.refl F) (aI.mpr rfl)⟩)
 ·cases e;obtain⟨v,rfl,b⟩:=eK bs;rw[bZ.mp b]at rs;exact uN ag s σ H _ us Q I rs (.inr ⟨_,rfl,k _ H F R (Same.refl F) (aI.mpr rfl)⟩)
 ·cases e
theorem Nv{ag:List (ae×Obj)}{σ:St}{H F:Hp}{s:aw}(I:Inv X ag σ H s)(hs:Same F H){ps:az}{ns:List Int}{v:V}(hn:iY ps=some ns)(b:c9 X.K F (.au ps) v) :
  ∃a,v=.ref a/\∃xs:Array (Int×Tok),s.heap.IsList a (intItems xs)/\ns=xs.toList.map (·.1):=by
 obtain⟨a,vs,rfl,ha,gJ⟩:=bB.mp b;obtain⟨aY,r,pl,_⟩:=I.list (b0 hs ha).sq;have ev:=rZ hn gJ;subst ev;have hi:=rF r;obtain⟨xs,ex⟩:=hi.allInts.items;refine⟨a,rfl,xs,?_,?_⟩
 ·rw[<-ex];exact pl.isList
 ·rw[<-hi.numsOf,<-nums_intItems,<-ex]
theorem Gv(hc:X.A.handled=none):Gp X (.builtin "sum") CB:=by
 intro ag s σ H xs us Q I rs ⟨H₀,ab,F,ρ,τ,ps,p,e,R,bs,k⟩;unfold CB at e;split at e
 ·rename_i ps;cases z:iY ps with
  | none=>rw[z]at e;cases e
  | some ns =>
   rw[z]at e;cases e;obtain⟨v,rfl,b⟩:=eK bs;obtain⟨a,rfl,xs,hl,hn⟩:=Nv I R.sub z b;obtain⟨u,rfl,ru⟩:=kx rs;cases ru;refine sum_intListG hc hl fun h' tk t' hk=>⟨.int ns.sum,H,I.kept (t':=tk) hk,⟨t',?_⟩,k _ H F R (Same.refl F) (aI.mpr rfl)⟩
   rw[preSum_eq,oh (by simp),hn]
 ·cases e
end
def Gw(fa:FE):FE:=fun ρ=>(fa ρ).bind fun p=>match p with | .int i=>some (.int (-i)) | _=>none
theorem Qp{X:Cx}{H₀ ab:Hp}{a:aq}{fa:FE}{pos:Pos}(ha:PE X a (tE X.K H₀ ab fa)):PE X (.UnaryOp .USub a pos) (tE X.K H₀ ab (Gw fa)):=(PZ IZ ha).imp <| by
 rintro σ H Q ⟨F,ρ,p,R,hf,q⟩
 obtain⟨x,h1,h2⟩:=ay hf;cases x with
 | int i =>
  cases h2;exact⟨F,ρ,_,R,h1,fun v H1 F1 R1 s1 b1=>⟨i,aI.mp b1,q _ H1 F1 R1 s1 (aI.mpr rfl)⟩⟩
 | _=>cases h2
inductive Ty where
 | int | str | bool | tuple | list
def Ty.nm:Ty->String
 | .int=>"int" | .str=>"str" | .bool=>"bool" | .tuple=>"tuple" | .list=>"list"
def gC:Ty->PV->Bool
 | .int,.int _=>true
 | .int,.bl _=>true
 | .bool,.bl _=>true
 | .str,.str _=>true
 | .tuple,.aB _=>true
 | .list,.au _=>true
 | _,_=>false
def Ew(x:Str):Option Ty :=
 if x==("int":Str)then some .int
 else if x==("str":Str)then some .str
 else if x==("bool":Str)then some .bool
 else if x==("tuple":Str)then some .tuple
 else if x==("list":Str)then some .list
 else none
def Qq(t:Ty)(fa:FE):FE:=fun ρ=>(fa ρ).map fun p=>.bl (gC t p)
def abm:PV->String
 | .cG=>"NoneType" | .bl _=>"bool" | .int _=>"int" | .str _=>"str" | .aB _=>"tuple" | .au _=>"list"
section
variable {K:ak}
theorem Nw(p:PV)(t:Ty):W.kitOne K (.type (abm p)) (.type t.nm)=some (gC t p):=by
 cases p<;>cases t<;>kernel_rfl
end
section
variable {X:Cx} {H₀ ab:Hp} {a:aq} {fa:FE} {pos p1 p2:Pos}
def rIs(K:ak)(t:Ty):List V->Hp->VK->Prop:=fun xs H Q=>∃H₀ ab F ρ τ p x,xs=[x,.ty t.nm]/\da K H₀ ab F ρ τ H/\c9 K F p x/\Q (.bl (gC t p)) H
theorem Nx(t:Ty):lI X (.builtin "isinstance") (rIs X.K t):=by
 intro ag s σ H xs us Q I rs ⟨H₀,ab,F,ρ,τ,p,x,ex,R,b,q⟩;subst ex;obtain⟨u,w,rfl,ru,RR⟩:=Jd rs;cases RR;have e:=Nw (K:=X.K) p t;have fin:∀tk,EP X ag σ Q (.bool (gC t p)) {s with toks:=tk}:=fun tk=>⟨.bl _,H,I.tok tk,rfl,q⟩
 cases p with
 | cG =>
  rw[dE.mp b]at ru;cases ru;exact W.kia_one W.kitx_none I.yo True.intro e (fun z=>nomatch z) fin
 | bl y =>
  rw[bZ.mp b]at ru;cases ru;exact W.kia_one W.kitx_bool I.yo True.intro e (fun z=>nomatch z) fin
 | int i =>
  rw[aI.mp b]at ru;obtain⟨tk,rfl⟩:=ru;exact W.kia_one W.kitx_int I.yo True.intro e (fun z=>nomatch z) fin
 | str y =>
  rw[cD.mp b]at ru;obtain⟨tk,rfl⟩:=ru;exact W.kia_one W.kitx_str I.yo True.intro e (fun z=>nomatch z) fin
 | aB ps =>
  obtain⟨ad,vs,rfl,ha,_⟩:=bM.mp b;cases ru;obtain⟨aY,_,⟨o,h1,h2,_⟩,_⟩:=I.tuple (bA R.sub ha);exact W.kia_one W.kitx_tuple I.yo ⟨o,h1,h2⟩ e (fun z=>nomatch z) fin
 | au ps =>
  obtain⟨ad,vs,rfl,ha,_⟩:=bB.mp b;cases ru;obtain⟨aY,n,_,h1,_⟩:=I.rJ (b0 R.sub ha);exact W.kia_one W.kitx_list I.yo ⟨_,h1,rfl⟩ e (fun z=>nomatch z) fin
theorem qc:bootBuiltins "isinstance"=some (.builtin "isinstance"):=by kernel_rfl
theorem jP(t:Ty):bootBuiltins (Str.ofString t.nm)=some (.type t.nm):=by cases t<;>kernel_rfl
theorem JO{x:Str}{t:Ty}(h:Ew x=some t):x=Str.ofString t.nm:=by
 unfold Ew at h;split at h
 ·rename_i e;cases h;exact bE e
 ·split at h
  ·rename_i e;cases h;exact bE e
  ·split at h
   ·rename_i e;cases h;exact bE e
   ·split at h
    ·rename_i e;cases h;exact bE e
    ·split at h
     ·rename_i e;cases h;exact bE e
     ·cases h
theorem abn{x:Str}{t:Ty}(ht:Ew x=some t)(hg:Gl X "isinstance")(hm:X.mg "isinstance"=none)(hg2:Gl X x)(hm2:X.mg x=none)(ha:PE X a (tE X.K H₀ ab fa))(hs:∀es,starEach (a::es) X.env=(false,eval a X.env)::starEach es X.env) :
  PE X (.Call (.Name "isinstance" p1) [a,.Name x p2] [] pos) (tE X.K H₀ ab (Qq t fa)):=by
 have hx:=JO ht;subst hx;have hn:(Str.ofString t.nm)≠"__name__":=by cases t<;>decide
 have FV:((Str.ofString t.nm)==("__debug__":Str))=false:=by cases t<;>decide
 refine(m7 (Nx t) hg hm qc (dF ha (dF (MA (v:=.ty t.nm) hg2 hm2 (jP t) rfl hn FV) iz rfl) (hs _)) (by decide) (by decide) (hs _)).imp fun σ H Q ⟨F,ρ,p,R,hf,q⟩=>?_
 unfold Qq at hf;cases z:fa ρ with
 | none=>rw[z]at hf;cases hf
 | some p' =>
  rw[z]at hf;cases hf;exact⟨F,ρ,p',R,z,fun v H1 F1 R1 s1 b1=>⟨H₀,ab,F1,ρ,σ,p',v,rfl,R1,b1,q _ H1 F1 R1 s1 (bZ.mpr rfl)⟩⟩
end
def SI(h:Heap)(it l:ae)(k:Nat)(xs:Array aj):Prop:=(h.IsListIter it l k/\h.IsList l xs)\/(h.IsTupleIter it l k/\h.IsTuple l xs)
theorem SI.at{h h':Heap}{it l:ae}{k:Nat}{xs:Array aj}(x:SI h it l k xs)(h1:∀o,h.get? it=some o->h'.get? it=some o)(h2:∀o,h.get? l=some o->h'.get? l=some o):SI h' it l k xs:=by
 rcases x with⟨⟨o,e,r⟩,⟨o',e',r'⟩⟩ | ⟨⟨o,e,r⟩,⟨o',e',r'⟩⟩
 ·exact .inl ⟨⟨o,h1 o e,r⟩,⟨o',h2 o' e',r'⟩⟩
 ·exact .inr ⟨⟨o,h1 o e,r⟩,⟨o',h2 o' e',r'⟩⟩
theorem SI.Qr{h:Heap}{it l:ae}{k:Nat}{xs:Array aj}(x:SI h it l k xs):∃o,h.get? it=some o/\∃vs,o.data=.fields vs:=by
 rcases x with⟨⟨o,e,_,d⟩,_⟩ | ⟨⟨o,e,_,d⟩,_⟩
 ·exact⟨o,e,_,d⟩
 ·exact⟨o,e,_,d⟩
theorem SI.sq{h:Heap}{it l:ae}{k:Nat}{xs:Array aj}(x:SI h it l k xs):∃o n,h.get? l=some o/\o.data=.seq xs n:=by
 rcases x with⟨_,⟨o,e,_,n,d⟩⟩ | ⟨_,⟨o,e,_,n,d⟩⟩
 ·exact⟨o,n,e,d⟩
 ·exact⟨o,n,e,d⟩
theorem SI.ne{h:Heap}{it l:ae}{k:Nat}{xs:Array aj}(x:SI h it l k xs):l≠it:=fun z=>by
 obtain⟨o,e,vs,d⟩:=x.Qr;obtain⟨o',n,e',d'⟩:=x.sq;subst z;rw[e]at e';cases e';rw[d]at d';cases d'
section
variable {prog:bJ} {w:aW} {A:bY} {E:cS} {s:aw}
theorem CD{it t:ae}{i:Nat}{aY:Array aj}{x:aj}{Q:cS}(r9:s.heap.IsTupleIter it t i)(ht:s.heap.IsTuple t aY)(hx:aY[i]?=some x)
  (hQ:∀h',h'.IsTupleIter it t (i+1)->Heap.SameBut it s.heap h'->Q x {s with heap:=h'}):wpAny (model prog w) A (Builtin.SmallTypes.nextOf (.ref it)) Q E s:=by
 obtain⟨o,ho,hc,hd⟩:=id r9;obtain⟨ol,UH,_,nl,Gx⟩:=ht;unfold Builtin.SmallTypes.nextOf;refine av (lZ (name:=Str.ofString "__next__") r9.typeIs vH (ji vH r9.typeIs Ib (by
  show wpAny _ _ (field (.ref it) 0 >>= _) _ _ s;refine av (kn ho hd (x:=.ref t) rfl ?_);show wpAny _ _ (if(Value.ref t==Value.none)=true then _ else _) _ _ s
  rw[if_neg (show ¬((Value.ref t==Value.none)=true)from iu)]
  show wpAny _ _ (field (.ref it) 1 >>= _) _ _ s;refine av (kn ho hd (x:=.int i 0) rfl ?_);show wpAny _ _ (seqItems? (.ref t) >>= _) _ _ s;refine av (wpAny_seqItems UH Gx ?_);simp only[fP,hx];refine av (qO ho hd (by simp) (aK ⟨x,rfl,aK (hQ _ ⟨_,vK _ ho (Bx (oj hd _)),(BG ..).trans hc,by rw[oj hd];simp[rawInt]⟩ (oi ..))⟩))) (H9 _)))
theorem CG{it t:ae}{i:Nat}{aY:Array aj}{Q:cS}(hh:A.handled=none)(r9:s.heap.IsTupleIter it t i)(ht:s.heap.IsTuple t aY)(hx:aY[i]?=none)
  (hE:∀h' e,Heap.ExtBut it s.heap h'->(∃o,h'.get? e=some o/\o.cls=.type "StopIteration")->E (.ref e) {s with heap:=h'}):wpAny (model prog w) A (Builtin.SmallTypes.nextOf (.ref it)) Q E s:=by
 obtain⟨o,ho,hc,hd⟩:=id r9;obtain⟨ol,UH,_,nl,Gx⟩:=ht;unfold Builtin.SmallTypes.nextOf;refine av (lZ (name:=Str.ofString "__next__") r9.typeIs vH (ji vH r9.typeIs Ib (by
  show wpAny _ _ (field (.ref it) 0 >>= _) _ _ s;refine av (kn ho hd (x:=.ref t) rfl ?_);show wpAny _ _ (if(Value.ref t==Value.none)=true then _ else _) _ _ s
  rw[if_neg (show ¬((Value.ref t==Value.none)=true)from iu)]
  show wpAny _ _ (field (.ref it) 1 >>= _) _ _ s;refine av (kn ho hd (x:=.int i 0) rfl ?_);show wpAny _ _ (seqItems? (.ref t) >>= _) _ _ s;refine av (wpAny_seqItems UH Gx ?_);simp only[fP,hx];refine av (qS (av (qO ho hd (by simp) ?_)))
  show wpAny _ _ (newExc (.type "StopIteration") [] >>= _) _ _ _;refine av ?_;simp only[newExc,newTuple];refine av (je ?_ (by size_fits))
  refine av (m:=firstArgMember _ _) (wpAny_of_eq (a:=Value.none) (by first | rfl | (simp only[firstArgMember];rfl)) ?_)
  refine je ?_ (by size_fits)
  simp only[raiseNew];refine av (wpAny_handled ?_)
  first | rw[show A.in1.handled=none from hh] | rw[hh]
  exact av (aK (wpAny_throw (hE _ _ (((oi ..).extBut.push _).push _) ⟨_,dZ _ rfl,rfl⟩)))) (H9 _)))
theorem SI.next{it l:ae}{k:Nat}{xs:Array aj}{x:aj}{Q:cS}(hi:SI s.heap it l k xs)(hx:xs[k]?=some x)(hQ:∀h',SI h' it l (k+1) xs->Heap.SameBut it s.heap h'->Q x {s with heap:=h'}) :
  wpAny (model prog w) A (Builtin.SmallTypes.nextOf (.ref it)) Q E s:=by
 have ne:=hi.ne;rcases hi with⟨h1,h2⟩ | ⟨h1,h2⟩
 ·exact wpAny_nextOf_list_item h1 h2 hx fun h' a b=>hQ h' (.inl ⟨a,h2.extBut b.extBut ne⟩) b
 ·exact CD h1 h2 hx fun h' a b=>hQ h' (.inr ⟨a,h2.extBut b.extBut ne⟩) b
theorem SI.stop{it l:ae}{k:Nat}{xs:Array aj}{Q:cS}(hh:A.handled=none)(hi:SI s.heap it l k xs)(hx:xs[k]?=none)
  (hE:∀h' e,Heap.ExtBut it s.heap h'->(∃o,h'.get? e=some o/\o.cls=.type "StopIteration")->E (.ref e) {s with heap:=h'}):wpAny (model prog w) A (Builtin.SmallTypes.nextOf (.ref it)) Q E s:=by
 rcases hi with⟨h1,h2⟩ | ⟨h1,h2⟩
 ·exact wpAny_nextOf_list_end hh h1 h2 hx hE
 ·exact CG hh h1 h2 hx hE
end
section
variable {prog:bJ} {w:aW} {A:bY} {E:cS} {s:aw} {z TI TO i1 i2 l1 l2:Nat} {k:Nat} {xs ys:Array aj}
def u7(h:Heap)(l:ae)(xs:Array aj)(c:String):Prop:=(c="list_iterator"/\h.IsList l xs)\/(c="tuple_iterator"/\h.IsTuple l xs)
theorem qr{l:ae}{xs:Array aj}{c:String}{Q:cS}(h:u7 s.heap l xs c)(hQ:Q (.ref s.heap.objs.size) {s with heap:=s.heap.push {cls:=.type c,data:=.fields #[.ref l,.int 0 0]}}):wpAny (model prog w) A (pyIter (.ref l)) Q E s:=by
 rcases h with⟨rfl,h⟩ | ⟨rfl,h⟩
 ·exact BF h hQ
 ·exact wpAny_pyIter_tuple h hQ
end
def Ex(K:ak)(H:Hp)(c:Bool)(l:ae)(vs:List V):Prop:=if c=true then lu K H l vs else jm K H l vs
def HS(h:Heap)(c:Bool)(it l:ae)(k:Nat):Prop:=if c=true then h.IsListIter it l k else h.IsTupleIter it l k
def Gy(c:Bool):String:=if c=true then "list_iterator" else "tuple_iterator"
section
variable {X:Cx} {ag:List (ae×Obj)} {σ:St} {H:Hp} {s:aw}
theorem Ex.get(I:Inv X ag σ H s){c:Bool}{l:ae}{vs:List V}(h:Ex X.K H c l vs):∃aY:cb,Vals vs aY/\u7 s.heap l aY.toArray (Gy c):=by
 unfold Ex at h;unfold Gy;cases c with
 | true =>
  obtain⟨aY,r,pl,_⟩:=I.list (show lu X.K H l vs from h)
  exact⟨aY,r,.inl ⟨rfl,pl.isList⟩⟩
 | false =>
  obtain⟨aY,r,pl,_⟩:=I.tuple (show jm X.K H l vs from h)
  exact⟨aY,r,.inr ⟨rfl,pl⟩⟩
theorem Ex.inj(I:Inv X ag σ H s){c:Bool}{l:ae}{vs ws:List V}(h:Ex X.K H c l vs)(h':Ex X.K H c l ws):vs=ws:=by
 unfold Ex at h h';cases c with
 | true=>exact I.ro h h'
 | false=>exact I.oE h h'
theorem Qs{h:Heap}{c:Bool}{it l:ae}{k:Nat}{xs:Array aj}(h1:HS h c it l k)(h2:u7 h l xs (Gy c)):SI h it l k xs:=by
 unfold HS at h1;cases c with
 | true =>
  rcases h2 with⟨_,q⟩ | ⟨q,_⟩
  ·exact .inl ⟨h1,q⟩
  ·exact absurd q (by decide)
 | false =>
  rcases h2 with⟨q,_⟩ | ⟨_,q⟩
  ·exact absurd q (by decide)
  ·exact .inr ⟨h1,q⟩
theorem Ny{h:Heap}{c:Bool}{it l:ae}{k k':Nat}{xs:Array aj}{h0:Heap}(h1:SI h it l k xs)(h2:u7 h0 l xs (Gy c))(kp:∀o,h0.get? l=some o->h.get? l=some o):HS h c it l k:=by
 unfold HS;cases c with
 | true =>
  rcases h2 with⟨_,⟨o,e,hc,_⟩⟩ | ⟨q,_⟩
  ·rcases h1 with⟨a,_⟩ | ⟨_,⟨o',e',D5,_⟩⟩
   ·exact a
   ·have e2:=kp o e;rw[e']at e2;cases e2;rw[hc]at D5;simp at D5
  ·exact absurd q (by decide)
 | false =>
  rcases h2 with⟨q,_⟩ | ⟨_,⟨o,e,hc,_⟩⟩
  ·exact absurd q (by decide)
  ·rcases h1 with⟨_,⟨o',e',D5,_⟩⟩ | ⟨a,_⟩
   ·have e2:=kp o e;rw[e']at e2;cases e2;rw[hc]at D5;simp at D5
   ·exact a
theorem Inv.turns{t':Nat}{h':Heap}{ch:List ae}(I:Inv X ag σ H s)(hf:∀b∈ch,wc X ag H b)(kp:∀b o,b∉ch->s.heap.get? b=some o->h'.get? b=some o):Inv X ag σ H {s with heap:=h',toks:=t'}:=by
 have Vd:∀b u,H b=some u->b∉ch:=fun b u e z=>by rw[(hf b z).1]at e;cases e
 refine I.step (g':=s.gens) (d':=s.drawn) (ch:=ch) (fun b hb=>⟨(hf b hb).2.2.2.1,(hf b hb).2.1,(hf b hb).2.2.2.2.1,(hf b hb).2.2.2.2.2⟩) (fun b o _ _ hc e _=>kp b o hc e) (fun b o _ _ hc e _=>⟨o.slots,kp b o hc e⟩) (fun _ _ _ _ n=>n)
  (fun b o hc e=>⟨o,kp b o hc e⟩) (fun _ _ e=>e) (fun _ _ _ e=>e) (fun _ _ e=>e) (fun m hm=>?_) (fun b u e=>?_) I.bare
 ·obtain⟨o,es,ep,ho,r⟩:=hm;exact⟨o,es,ep,kp _ o (fun z=>(hf _ z).2.1 rfl) ho,r⟩
 ·refine(I.hok b u e).yP (fun c v hc q=>kp c v ?_ q) (fun _ q=>q) (fun _ _ q=>q) fun _ _ _ q=>q
  rcases hc with z | z
  ·rw[z];exact Vd b u e
  ·exact Vd c _ z
end
theorem HS.at{h h':Heap}{c:Bool}{it l:ae}{k:Nat}(x:HS h c it l k)(h1:∀o,h.get? it=some o->h'.get? it=some o):HS h' c it l k:=by
 cases c with
 | true =>
  obtain⟨o,e,r⟩:=(show h.IsListIter it l k from x)
  exact(show h'.IsListIter it l k from⟨o,h1 o e,r⟩)
 | false =>
  obtain⟨o,e,r⟩:=(show h.IsTupleIter it l k from x)
  exact(show h'.IsTupleIter it l k from⟨o,h1 o e,r⟩)
theorem HS.obj{h:Heap}{c:Bool}{it l:ae}{k:Nat}(x:HS h c it l k):∃o,h.get? it=some o/\∀v,o.data≠.cell v:=by
 unfold HS at x;split at x
 ·obtain⟨o,e,_,d⟩:=x;exact⟨o,e,fun v=>by rw[d];simp⟩
 ·obtain⟨o,e,_,d⟩:=x;exact⟨o,e,fun v=>by rw[d];simp⟩
def Qt:aq->Bool
 | .Tuple _ _ _=>true
 | _=>false
def JP:PV->Option az
 | .aB ps=>some ps
 | .au ps=>some ps
 | _=>none
def zw(p q:PV):PV:=.aB [p,q]
theorem JQ{K:ak}{F:Hp}{p:PV}{ps:az}{x:V}(h:JP p=some ps)(b:c9 K F p x):∃c l vs,x=.ref l/\Ex K F c l vs/\bt K F ps vs/\∀F',Same F F'->Ex K F' c l vs:=by
 cases p with
 | aB qs =>
  cases h;obtain⟨l,vs,rfl,h1,h2⟩:=bM.mp b;exact⟨false,l,vs,rfl,h1,h2,fun F' s=>bA s h1⟩
 | au qs =>
  cases h;obtain⟨l,vs,rfl,h1,h2⟩:=bB.mp b;exact⟨true,l,vs,rfl,h1.sq,h2,fun F' s=>(b0 s h1).sq⟩
 | _=>cases h
theorem JR{prog:bJ}{w:aW}{A:bY}{it l:ae}{xs:Array aj}(hh:A.handled=none):Draws prog w A it [it,l] xs.size (fun i x=>xs[i]?=some x) (fun i h=>SI h it l i xs) where
 live:=fun i h st=>by
  obtain⟨o,e,_⟩:=st.Qr;exact⟨o,e⟩
 frame:=fun i h h' st k=>st.at (fun o e=>k it (by simp) o e) (fun o e=>k l (by simp) o e)
 item:=fun i s Q E hi st hQ=>SI.next st (Array.getElem?_eq_getElem hi) fun h' a b=>hQ _ h' s.toks (Array.getElem?_eq_getElem hi) a b
 done:=fun s Q E st hE=>SI.stop hh st (Array.getElem?_eq_none (bh _)) hE
set_option maxHeartbeats 2000000 in
theorem JS(l:ae)(xs:Array aj)(c:String)(part:Obj) :
  Meets (Builtin.«enumerate.__new__» ⟨[.type "enumerate",.ref l],[]⟩) (fun _ R s=>u7 s.heap l xs c/\s.heap.get? l=some part /\
   ∀h1 h2:Heap,h1=s.heap.push {cls:=.type c,data:=.fields #[.ref l,.int 0 0]}->h2=h1.push {cls:=.type "enumerate",data:=.fields #[.none,.bool false,.ref s.heap.objs.size,rawInt 0,.none,.none]}->R (.ok (.ret (.ref h1.objs.size))) {s with heap:=h2}) :=
 .of_wp fun prog w A R s h=>by
  obtain⟨hp,g,d,tk,os⟩:=s;obtain⟨hl,hpt,h⟩:=h;have hL:u7 (Shared.heap ⟨hp,g,d,tk,os⟩) l xs c:=hl;have JT:=sub_enumerate;rcases hl with⟨rfl,⟨o,e,hc,n,hd⟩⟩ | ⟨rfl,⟨o,e,hc,n,hd⟩⟩
  ·obtain⟨oc,od,odt,Vz⟩:=o;replace hc:oc=.type "list":=hc;replace hd:odt=.seq xs n:=hd;subst hc hd
   wp_walk using ka e
   refine wpAny_stack_any fun st=>aK ?_
   split
   ·rename_i c' _ _ _ _ _;cases(c'==Value.type "enumerate")<;>(wp_walk using ka e,qr hL)<;>exact⟨_,rfl,h _ _ rfl rfl⟩
   ·wp_walk using ka e,qr hL
    exact⟨_,rfl,h _ _ rfl rfl⟩
  ·obtain⟨oc,od,odt,Vz⟩:=o;replace hc:oc=.type "tuple":=hc;replace hd:odt=.seq xs n:=hd;subst hc hd
   wp_walk using ka e
   refine wpAny_stack_any fun st=>aK ?_
   split
   ·rename_i c' _ _ _ _ _;cases(c'==Value.type "enumerate")<;>(wp_walk using ka e,qr hL)<;>exact⟨_,rfl,h _ _ rfl rfl⟩
   ·wp_walk using ka e,qr hL
    exact⟨_,rfl,h _ _ rfl rfl⟩
theorem Nz{prog:bJ}{w:aW}{A:bY}{E:cS}{s:aw}{e it l:ae}{k:Nat}{i:Int}{xs:Array aj}{old:aj}{Q:mi->aw->Prop}(hh:A.handled=none)(a1:IsEnum s.heap e it i old)(st:SI s.heap it l k xs)(hx:xs[k]?=none)(hQ:∀h',Heap.ExtBut it s.heap h'->Q none {s with heap:=h'}):wpAny (model prog w) A (pyNext (.ref e)) Q E s:=by
 have ty:s.TypeIs (.ref e) "enumerate":=⟨_,a1,rfl⟩;unfold pyNext;refine av (wpAny_attempt (lZ (name:=Str.ofString "__next__") ty F.slot_enumerate_next (ji F.slot_enumerate_next ty F.entry_enumerate_next (by
  show wpAny _ _ (field (.ref e) 2 >>= _) _ _ _;refine av (kn a1 rfl (x:=.ref it) rfl (av (SI.stop hh st hx fun h' y sb ⟨o,ho,hc⟩=>?_)))
  exact av (BJ (T:="StopIteration") (b:=true) ⟨o,ho,hc⟩ isSubtype_stop (aK (hQ _ sb)))) (F.args_enumerate_next_1 _))))
def Ien(K:ak)(c:Bool)(l:ae):It where
 go:=fun i H=>∃vs v,Ex K H c l vs/\vs[i]?=some v
 yld:=fun i H x H'=>∃T v,H T=none/\x=.ref T/\H'=dX H T (.aB [.int i,v])/\∀vs,Ex K H c l vs->vs[i]?=some v
 stop:=fun i H=>∃vs,Ex K H c l vs/\vs.length<=i
def eTn(e it l:Nat)(c:Bool)(i:Nat)(h:Heap):Prop:=(∃old,IsEnum h e it i old)/\HS h c it l i
theorem NA{P:bJ}{w:aW}{K:ak}{elts:List aq}{x1:Nat}{NB:Pos}{e it l:Nat}{c:Bool}(ord:it<e)(o1:l<it) :
  Turn P w K (.Tuple elts x1 NB) (Ien K c l) [e,it] e (eTn e it l c) where
 mem:=b6
 obj:=by
  rintro i h ⟨⟨_,a1⟩,a2⟩ b hb
  simp only[bc,eF,eH]at hb;rcases hb with rfl | rfl
  ·exact⟨_,a1,fun v=>by simp⟩
  ·exact a2.obj
 keep:=fun i h h' ⟨⟨old,a1⟩,a2⟩ k=>⟨⟨old,k e (by simp) _ a1⟩,a2.at fun o x=>k it (by simp) o x⟩
 item:=by
  rintro X hP hw hK hc i ag s σ H E I hf ⟨⟨old,a1⟩,a2⟩ ⟨vs,v,hv,ev⟩
  subst hP hw hK;obtain⟨aY,r1,k1⟩:=hv.get I;obtain⟨x,ex,rx⟩:=r1.get ev;have eM:i<aY.toArray.size:=by
   have:=(cP.mp ex).1;simpa using this
  have ne:e≠it:=qQ ord;have nel:e≠l:=qQ (Nat.lt_trans o1 ord);have Gx:X.A.in1.handled=none:=I.ok.hd hc;refine wpAny_pyNext_enum_itemD (JR (xs:=aY.toArray) (l:=l) Gx) a1 (Qs a2 k1) eM ne (by simp[ne,nel]) fun x' h' tk Ga hO st hT hs' kp=>⟨_,rfl,?_⟩
  have xe:x'=x:=by
   have e1:aY.toArray[i]?=some x:=by simpa using ex
   rw[e1]at Ga;cases Ga;rfl
  subst xe;refine wpAny_letOwnedTupleGo_enum hO fun YW abq sb=>?_
  have big:∀b∈[e,it],b<s.heap.objs.size:=fun b hb=>by
   simp only[bc,eF,eH]at hb;have h1:e<s.heap.objs.size:=bO a1;rcases hb with rfl | rfl<;>lia
  have eT:e≠s.heap.objs.size:=cI (big e (by simp))
  have kp2:∀b o,b∉[e,it]->s.heap.get? b=some o->YW.get? b=some o:=fun b o hb z=>by
   simp only[bc,eF,eH,not_or]at hb;exact sb.extBut _ _ hb.1 (kp b o hb.1 hb.2 z)
  have I1:Inv X ag σ H {s with heap:=YW,toks:=tk+1}:=Inv.turns I hf kp2
  have hn:H s.heap.objs.size=none:=I.fresh;have YX:=I.IU (H':=H) (bh _) hn;have pr:YW.get? s.heap.objs.size=some {cls:=.type "tuple",data:=.seq #[.int i tk,x']}:=sb.extBut _ _ (er eT) hT
  have I2:=Inv.adopt (D:=s.heap.objs.size) (o:=.aB [.int i,v]) I1 hn (by
    rcases YX.2.2.2.1 with q | q
    ·exact I.sz
    ·exact q) YX.2.1 YX.2.2.2.2.1 YX.2.2.2.2.2 ⟨(by show 2<=sizeLine;decide),[.int i tk,x'],.cons ⟨tk,rfl⟩ (.cons rx .nil),⟨_,pr,rfl,0,rfl⟩⟩
  refine⟨.ref s.heap.objs.size,_,I2,rfl,⟨s.heap.objs.size,v,hn,rfl,rfl,fun R9 h1=>?_⟩,⟨⟨_,abq⟩,?_⟩,fun b hb=>?_⟩
  ·rw[<-Ex.inj I hv h1];exact ev
  ·have nli:l≠it:=cI o1;have q:=Ny (k':=i) st k1 fun o z=>kp l o (er nel) nli z
   exact q.at fun o z=>sb.extBut _ _ (er ne) z
  ·rw[aR (cI (big b hb))];exact(hf b hb).1
 done:=by
  rintro X hP hw hK hc i ag s σ H E I hf ⟨⟨old,a1⟩,a2⟩ ⟨vs,hv,he⟩
  subst hP hw hK;obtain⟨aY,r1,k1⟩:=hv.get I;have hz:aY.toArray[i]?=none:=Array.getElem?_eq_none (by rw[bF,<-r1.length];exact he)
  refine Nz (I.ok.hd hc) a1 (Qs a2 k1) hz fun h' sb=>⟨rfl,?_⟩
  exact Inv.turns (t':=s.toks) I hf fun b o hb z=>by
   simp only[bc,eF,eH,not_or]at hb;exact sb b o hb.2 z
 self:=fun A i s Q E ⟨⟨_,a1⟩,_⟩ q=>wpAny_pyIter_enum a1 q
def dR:Nat->az->az
 | _,[]=>[]
 | k,p::r=>zw (.int k) p::dR (k+1) r
theorem k9:∀(ps:az) (k i:Nat),(dR k ps)[i]?=ps[i]?.map fun p=>zw (.int ((k+i:Nat):Int)) p
 | [],k,i=>by simp[dR]
 | p::r,k,0=>by simp[dR]
 | p::r,k,i+1=>by
  simp only[dR,List.getElem?_cons_succ];rw[k9 r (k+1) i,show k+1+i=k+(i+1) by lia]
def jC(fa:FE):bX:=fun ρ=>(fa ρ).bind fun p=>(JP p).map fun ps=>dR 0 ps
theorem NC{K:ak}{F:Hp}{c:Bool}{l:ae}{ps:az}{vs:List V}(k1:∀F',Same F F'->Ex K F' c l vs)(b1:bt K F ps vs):Jz K (Ien K c l) F (dR 0 ps):=by
 intro H₀ ab F' ρ σ H R s i;have h1:=k1 H (s.trans R.sub);refine⟨fun p e=>?_,fun e=>?_⟩
 ·rw[k9]at e;cases z1:ps[i]? with
  | none=>rw[z1]at e;cases e
  | some p1 =>
   rw[z1]at e;cases e;obtain⟨v,e1,c1'⟩:=b1.get z1;refine⟨⟨vs,v,h1,e1⟩,fun x H' ⟨T,v',hn,hx,hH,m9⟩=>?_⟩
   have g1:=m9 vs h1;rw[e1]at g1;cases g1;subst hx hH;obtain⟨R2,s2⟩:=R.laid (.aB [.int i,v]) hn;refine⟨_,R2,s2,bM.mpr ⟨T,[.int i,v],rfl,jm.of aX,.cons ?_ (.cons (c1'.mono (s.trans s2)) .nil)⟩⟩;rw[jL];exact aI.mpr rfl
 ·refine⟨vs,h1,?_⟩;rw[k9]at e;cases z1:ps[i]? with
  | none =>
   have:=lY.mp z1;rw[b1.length]at this;exact this
  | some p1=>rw[z1]at e;cases e
section
variable {X:Cx} {H₀ ab:Hp} {a tg:aq} {fa:FE} {pos p:Pos}
theorem Wm(ht:Qt tg=true)(hg:Gl X "enumerate")(hm:X.mg "enumerate"=none)(ha:PE X a (tE X.K H₀ ab fa))(hs:starEach [a] X.env=[(false,eval a X.env)]) :
  PI X tg (.Call (.Name "enumerate" p) [a] [] pos) (tI X.K H₀ ab (jC fa)):=by
 intro ag s σ H R I ⟨F,ρ,zs,Rp,hf,q⟩;obtain⟨pa,f1,hf⟩:=ay hf;cases f3:JP pa with
 | none=>rw[f3]at hf;cases hf
 | some ps =>
  rw[f3]at hf;cases hf;have hA:=dF ha iz hs pos ag s σ H (fun vs H'=>∃F' x,vs=[x]/\da X.K H₀ ab F' ρ σ H'/\Same F F'/\c9 X.K F' pa x) I
   ⟨F,ρ,pa,Rp,f1,fun v H1 F1 R1 s1 b1=>⟨F1,v,rfl,R1,s1,b1⟩⟩
  refine Call_ (ld_blt I hg hm boot_enumerate (oe (thn hA fun us s1 ⟨vs,H1,I1,r1,F1,x,ev,R1,UE,b1⟩=>?_) hs rfl))
  subst ev;obtain⟨u1,rfl,Wn⟩:=kx r1;obtain⟨c1,l1,vs1,rfl,q1,bl1,k1⟩:=JQ f3 b1;cases Wn;obtain⟨aY,v1,kk1⟩:=(k1 H1 R1.sub).get I1;obtain⟨part,Qu⟩:∃o,s1.heap.get? l1=some o:=by
   rcases kk1 with⟨_,⟨o,e,_⟩⟩ | ⟨_,⟨o,e,_⟩⟩
   ·exact⟨o,e⟩
   ·exact⟨o,e⟩
  have lt1:l1<s1.heap.objs.size:=bO Qu;refine callType_new PySem.F.called_enumerate (by decide) (PySem.F.typeCall_enumerate_1 _) (PySem.F.newCall_enumerate_1 _) (fun obj=>PySem.F.args_object_init_2 obj _) PySem.F.entry_enumerate_new (JS l1 aY.toArray (Gy c1) part) ⟨kk1,Qu,fun h1 h2 e1 e2=>?_⟩
  have z1:h1.objs.size=s1.heap.objs.size+1:=by rw[e1];exact qP ..
  have p1:∀b o,s1.heap.get? b=some o->h1.get? b=some o:=fun b o e=>by rw[e1];exact cx _ e
  have p2:∀b o,h1.get? b=some o->h2.get? b=some o:=fun b o e=>by rw[e2];exact cx _ e
  have g2:IsEnum h2 h1.objs.size s1.heap.objs.size 0 .none:=by rw[e2];exact dZ _ rfl
  have g1:h2.get? s1.heap.objs.size=some {cls:=.type (Gy c1),data:=.fields #[.ref l1,.int 0 0]}:=p2 _ _ (by rw[e1];exact dZ _ rfl)
  have itc:HS h2 c1 s1.heap.objs.size l1 0:=by
   cases c1 with
   | true=>exact(show h2.IsListIter s1.heap.objs.size l1 0 from⟨_,g1,rfl,rfl⟩)
   | false=>exact(show h2.IsTupleIter s1.heap.objs.size l1 0 from⟨_,g1,rfl,rfl⟩)
  have I2:Inv X ag σ H1 {s1 with heap:=h2,toks:=s1.toks}:=I1.kept fun b o e=>p2 _ _ (p1 _ _ e)
  have Bj:∀b,s1.heap.objs.size<=b->H1 b=none:=fun b hb=>I1.hok.fresh hb
  refine⟨⟨_,g2,rfl⟩,?_⟩;show wpAny _ _ (pyIter (.ref h1.objs.size)) _ _ {s1 with heap:=h2,toks:=s1.toks}
  refine wpAny_pyIter_enum g2 ?_;cases tg with
  | Tuple elts x1 NB =>
   refine⟨h1.objs.size,[h1.objs.size,s1.heap.objs.size],_,_,H1,rfl,I2,NA (it:=s1.heap.objs.size) (l:=l1) (c:=c1) (by lia) lt1,⟨⟨_,g2⟩,itc⟩,fun b hb=>?_,q _ H1 F1 R1 UE (NC k1 bl1)⟩
   simp only[bc,eF,eH]at hb;have R7:s1.heap.objs.size<=b:=by rcases hb with rfl | rfl<;>lia
   exact I1.IU (H':=H1) R7 (Bj b R7)
  | _=>cases ht
end
theorem ND{P:bJ}{w:aW}{K:ak}{mg:dM}{base:Heap}{x qual:Str}{st:aE}{f:ae}{fd:dQ}{N ps:List Str}{k:Nat}{sp:Sp}(F:BS K x qual st f fd)(S:dW N ps (aM st))(len:∀vs H Q E,sp vs H Q E->vs.length=ps.length)
  (hbody:∀(dG:aj) (A:bY) (outer:List Env) (s:aw) (H:Hp) (vs:List V) (Q:VK) (E:XK),eI k (A.deeper (envOfC qual (aM st) s.heap.objs.size f dG))->sp vs H Q E ->
   ∃t,oD (ly (lK P w) P w K mg base N qual (aM st) f dG A outer s H E) (dz st) t/\t {nx:=fun _ H'=>Q .cG H',rt:=Q} (start N vs) H):FnOk P w K mg base (lK P w) (k+1) f fd ps sp:=by
 obtain⟨oc,od,kV,doc,pm,an,dG,ct,tQ,rfl,lk,uB⟩:=F.ex;exact Ec lk uB S len fun A outer s H vs Q E hr m6=>hbody dG A outer s H vs Q E hr m6
def NF(mg:dM)(D:Str)(dv:aj):Prop:=mg D=some dv\/(mg D=none/\bootBuiltins D=some dv/\D≠"__name__")
def JU(K:ak)(mg:dM)(C D:Str)(b:Bool):Prop:=∃cls dv,ClsAt K C cls/\NF mg D dv/\((∃Da,dv=.ref Da)\/∃T,dv=.type T)/\W.exmOne K cls dv=some b/\W.kitOne K cls dv=some b
def Ey(K:ak)(mg:dM)(P:Params)(T:Str)(b7:List (Str×Str)):Prop :=
 ∃a es n,mg T=some (.ref a)/\K.lookup a=some ⟨.type "dict",none,.dict es n,#[]⟩/\W.KeysLit P es.toList/\∀k fn,b7.lookup k=some fn->∃f,W.nsIn K a k=some (some (.ref f))/\mg fn=some (.ref f)/\W.nsIn K mainGlobals fn=some (some (.ref f))
section
variable {X:Cx} {H₀ ab:Hp} {e ke:aq} {es:List aq} {fk:FE} {ts:bX} {pos p sp:Pos}
def abt(K:ak)(a:ae):R2:=fun x y H Q=>∃k f,x=.ref a/\y=.str k/\W.nsIn K a k=some (some (.ref f))/\Q (.ref f) H
theorem SG{a:ae}{es:Array DictEntry}{n:Nat}(hl:X.K.lookup a=some ⟨.type "dict",none,.dict es n,#[]⟩)(hk:W.KeysLit X.w.params es.toList):RQ X (abt X.K a):=by
 intro value slice ag s σ H x y v u Q I rx ry ⟨k,f,ex,ey,e,q⟩ hs;subst ex ey;cases rx;obtain⟨t,rfl⟩:=ry;have hm:=W.mapOf_K (prog:=X.prog) I.yo hl hk;exact tail_any hm.typeIs slot_dict_getitem.lookup (wpAny_getItem_of (strKind_is X.prog X.w k t) hm (W.find_K hl e) ⟨.ref f,H,I.tok _,rfl,q⟩) hs
theorem wN(v k:aq)(sp:Pos)(args:List aq)(pos:Pos)(env:Env):eval (.Call (.Subscript v k sp) args [] pos) env=(do callWith pos (<-eval (.Subscript v k sp) env) [] (backTo pos (starEach args env)) (backToKw pos (keywordEach [] env))):=rfl
def SH(b7:List (Str×Str))(fns:List (Str×Nat))(call:fV)(ts:bX)(ρ:aF):PV->bU
 | .str k=>(b7.lookup k).bind fun fn=>(fns.lookup fn).bind fun m=>aD (aP m (call fn)) ts ρ
 | _=>none
def Gz(b7:List (Str×Str))(fns:List (Str×Nat))(call:fV)(fk:FE)(ts:bX):FE:=fun ρ=>(fk ρ).bind (SH b7 fns call ts ρ)
theorem Wo{T:Str}{b7:List (Str×Str)}{fns:List (Str×Nat)}{call:fV}(ht:Ey X.K X.mg X.w.params T b7)
  (Vh:∀x n,fns.lookup x=some n->∃k f fd ps,FnOk X.prog X.w X.K X.mg X.base (lK X.prog X.w) k f fd ps (Cq X.K n (call x))/\eI k X.A/\X.mg x=some (.ref f)/\W.keepIn X.K (.ref f)=true/\f9 X.K fd ps [])
  (hg:Gl X T) (hk:PE X ke (tE X.K H₀ ab fk)) (hs:kZ ke) (ha:PA X (e::es) (tA X.K H₀ ab ts)) (FV:(T==("__debug__":Str))=false) (he:starEach (e::es) X.env=(false,eval e X.env)::starEach es X.env) (oG:(backTo pos (starEach es X.env)).any (·.1)=false) :
  PE X (.Call (.Subscript (.Name T p) ke sp) (e::es) [] pos) (tE X.K H₀ ab (Gz b7 fns call fk ts)):=by
 intro ag s σ H Q I ⟨F,ρ,pr,R,hf,q⟩;obtain⟨pk,h1,h2⟩:=ay hf;cases pk with
 | str k =>
  obtain⟨fn,h3,h2⟩:=ay (show(b7.lookup k).bind (fun fn=>(fns.lookup fn).bind fun m=>aD (aP m (call fn)) ts ρ)=some pr from h2)
  obtain⟨m,h4,h2⟩:=ay h2;obtain⟨a,Vc,n,t1,t2,t3,t4⟩:=ht;obtain⟨f,n1,n2,_⟩:=t4 k fn h3;obtain⟨j,f',fd,ps,G,hr,m1,m2,m3⟩:=Vh fn m h4;have:=bD (n2.symm.trans m1);cases this;rw[wN];refine av (thn (yX (SG t2 t3) (D6 (v:=.ref a) hg t1 rfl FV) hk hs ag s σ H (fun v H1=>v=.ref f/\∃F1,da X.K H₀ ab F1 ρ σ H1/\Same F F1) I ?_) fun u s1 ⟨x,H1,I1,rx,ex,F1,R1,m1'⟩=>?_)
  ·exact⟨F,ρ,_,R,h1,fun v H1 F1 R1 s1 b1=>⟨k,f,rfl,cD.mp b1,n1,rfl,F1,R1,s1⟩⟩
  ·subst ex;cases rx;refine W.callWith_K (h₀:=X.base) I.ok.mod.kin m2 (thn (ha pos ag s1 σ H1 _ I1 (rN (n:=m) (g:=call fn) (E:=E0) (Q:=Q) ⟨F1,ρ,pr,R1,h2,fun v H2 F2 R2 s2 b2=>q v H2 F2 R2 (m1'.trans s2) b2⟩)) fun us s2 ⟨vs,H2,I2,r,q2⟩=>⟨I2.yo,?_⟩) he oG
   exact Jf G hr m3 .nil rM I2 r q2
 | _=>cases h2
end
section
variable {X:Cx} {H₀ ab:Hp} {a b e:aq} {es:List aq} {fa fb:FE} {ts:bX} {pos p:Pos} {k n:Nat} {f:ae} {fd:dQ} {ps:List Str} {x:Str} {g:az->dA}
def Wq(K:ak)(H₀ ab F:Hp)(ρ:aF)(σ:St)(Q:VK):Ent->Prop
 | .val p=>∀v H' F',da K H₀ ab F' ρ σ H'->Same F F'->c9 K F' p v->Q v H'
 | .own ps=>∀a vs H1 F',da K H₀ ab F' ρ σ H1->Same F F'->bt K F' ps vs->H1 a=none->Q (.ref a) (dX H1 a (.au vs))
 | _=>False
def tR(K:ak)(H₀ ab:Hp)(f:aF->dA):TE:=fun σ H Q=>∃F ρ e,da K H₀ ab F ρ σ H/\f ρ=some e/\Wq K H₀ ab F ρ σ Q e
def CH(f:FE):aF->dA:=fun ρ=>(f ρ).map .val
theorem Wr(h:PE X e (tE X.K H₀ ab fa)):PE X e (tR X.K H₀ ab (CH fa)):=h.imp <| by
 rintro σ H Q ⟨F,ρ,en,R,hf,q⟩
 cases z:fa ρ with
 | none=>unfold CH at hf;rw[z]at hf;cases hf
 | some p =>
  unfold CH at hf;rw[z]at hf;cases hf;exact⟨F,ρ,p,R,z,q⟩
def zx(g:az->dA)(ts:bX):aF->dA:=fun ρ=>(ts ρ).bind g
theorem GA{σ:St}{H:Hp}{Q:VK}{E:XK}{K:ak}(h:tR K H₀ ab (zx (aP n g) ts) σ H Q):Eb (Cq K n g) [] E (tA K H₀ ab ts) σ H Q:=by
 obtain⟨F,ρ,en,R,hf,q⟩:=h;obtain⟨as,h1,h2⟩:=ay hf;cases en with
 | un=>exact q.elim
 | ex C=>exact q.elim
 | ob _=>exact q.elim
 | eW _=>exact q.elim
 | val p=>exact rN ⟨F,ρ,p,R,by unfold aD;rw[h1];show(aP n g as).bind qa=_;rw[h2];rfl,q⟩
 | own ps=>exact Gg ⟨F,ρ,ps,R,by unfold pN;rw[h1];show(aP n g as).bind M5=_;rw[h2];rfl,q⟩
theorem CI(F:FnOk X.prog X.w X.K X.mg X.base (lK X.prog X.w) k f fd ps (Cq X.K n g))(hr:eI k X.A)(hg:Gl X x)(hm:X.mg x=some (.ref f))(hk:W.keepIn X.K (.ref f)=true)(hb:f9 X.K fd ps [])
  (ha:PA X (e::es) (tA X.K H₀ ab ts)) (FV:(x==("__debug__":Str))=false:=by decide) (he:starEach (e::es) X.env=(false,eval e X.env)::starEach es X.env:=by rfl) (oG:(backTo pos (starEach es X.env)).any (·.1)=false:=by rfl) :
  PE X (.Call (.Name x p) (e::es) [] pos) (tR X.K H₀ ab (zx (aP n g) ts)):=(ql F hr hg hm hk hb .nil rM ha FV he oG).imp fun _ _ _ h=>GA h
def GB:PV->PV->dA
 | .au xs,.au ys=>if xs.length+ys.length<=gB then some (.own (xs++ys))else none
 | x,y=>(bW x y).map .val
def NG(fa fb:FE):aF->dA:=fun ρ=>(fa ρ).bind fun x=>(fb ρ).bind fun y=>GB x y
def Ws(K:ak):R2:=fun x y H Q=>∃H₀ ab F ρ τ pa pb en,GB pa pb=some en/\da K H₀ ab F ρ τ H/\c9 K F pa x/\c9 K F pb y/\Wq K H₀ ab F ρ τ Q en
theorem zy{pa pb:PV}{en:Ent}(h:GB pa pb=some en):(∃xs ys,pa=.au xs/\pb=.au ys/\xs.length+ys.length<=gB/\en=.own (xs++ys))\/∃p,bW pa pb=some p/\en=.val p:=by
 unfold GB at h;split at h
 ·obtain⟨h1,h2⟩:=aN h;exact .inl ⟨_,_,rfl,rfl,h1,h2.symm⟩
 ·cases z:bW pa pb with
  | none=>rw[z]at h;cases h
  | some p=>rw[z]at h;cases h;exact .inr ⟨p,rfl,rfl⟩
theorem NH:OpR X (binaryOp .Add) (Ws X.K):=by
 intro ag s σ H x y v u Q I rx ry ⟨H₀,ab,F,ρ,τ,pa,pb,en,e,R,ba,bb,k⟩;rcases zy e with⟨xs,ys,rfl,rfl,hz,rfl⟩ | ⟨p,hp,rfl⟩
 ·obtain⟨a,vs,rfl,ha,gJ⟩:=bB.mp ba;obtain⟨b,ws,rfl,hb,Mg⟩:=bB.mp bb;cases rx;cases ry;obtain⟨aY,n,r,e1,z1⟩:=I.rJ (b0 R.sub ha);obtain⟨iO,n2,r2,e2,z2⟩:=I.rJ (b0 R.sub hb);have hl:=r.length;have Ng:=r2.length;have hz':vs.length+ws.length<=sizeLine:=by rw[<-gJ.length,<-Mg.length];exact fx hz
  refine PySem.P.add_list e1 e2 ?_ (by rw[bF,bF];lia)
  have ea:aY.toArray++iO.toArray=(aY++iO).toArray:=by simp
  rw[ea];exact⟨.ref _,_,I.VI (t':=s.toks) (r.append r2) (by rw[bK];lia),rfl,k _ _ _ _ R (Same.refl F) (gJ.append Mg) I.fresh⟩
 ·exact wL ag s σ H x y v u Q I rx ry ⟨H₀,ab,F,ρ,τ,pa,pb,p,hp,R,ba,bb,k⟩
theorem Wt(ha:PE X a (tE X.K H₀ ab fa))(hb:PE X b (tE X.K H₀ ab fb)):PE X (.BinOp a .Add b pos) (tR X.K H₀ ab (NG fa fb)):=(PY NH ha hb).imp <| by
 rintro σ H Q ⟨F,ρ,en,R,hf,q⟩
 obtain⟨x,h1,hf⟩:=ay hf;obtain⟨y,h2,hf⟩:=ay hf;refine⟨F,ρ,x,R,h1,fun v H1 F1 R1 s1 b1=>⟨F1,ρ,y,R1,h2,fun w H2 F2 R2 s2 b2=>⟨H₀,ab,F2,ρ,σ,x,y,en,hf,R2,b1.mono s2,b2,?_⟩⟩⟩
 cases en with
 | un=>exact q.elim
 | ex C=>exact q.elim
 | ob _=>exact q.elim
 | eW _=>exact q.elim
 | val p=>exact fun v H' F' R' s' b'=>q v H' F' R' (s1.trans (s2.trans s')) b'
 | own ps=>exact fun a vs H' F' R' s' b' hn=>q a vs H' F' R' (s1.trans (s2.trans s')) b' hn
def SJ(i:Nat)(f:aF->dA):FS:=fun ρ=>(f ρ).bind fun e=>if i<ρ.length then some (.nx (ρ.set i e))else none
theorem JV{i:Nat}{f:aF->dA}{t:TE}{D:j2}{σ:St}{H:Hp}(hv:∀ρ e,f ρ=some e->(∃p,e=.val p)\/∃ps,e=.own ps)(ht:∀σ H Q,tR X.K H₀ ab f σ H Q->t σ H Q)(h:tS X H₀ ab (SJ i f) D σ H):mZ t (gName i) D σ H:=by
 obtain⟨F,ρ,o,R,hf,q⟩:=h;obtain⟨en,h1,h2⟩:=ay hf;obtain⟨hi,rfl⟩:=aN h2;refine ht _ _ _ ⟨F,ρ,en,R,h1,?_⟩;rcases hv ρ en h1 with⟨p,rfl⟩ | ⟨ps,rfl⟩
 ·exact fun v H1 F1 R1 s1 b1=>q F1 _ _ (R1.set hi b1) s1
 ·exact fun a vs H1 F1 R1 s1 b1 hn=>q F1 _ _ (R1.JE hi hn b1) s1
theorem NI(f:FE)(ρ:aF)(e:Ent)(h:CH f ρ=some e):(∃p,e=.val p)\/∃ps,e=.own ps:=by
 unfold CH at h;cases z:f ρ with
 | none=>rw[z]at h;cases h
 | some p=>rw[z]at h;cases h;exact .inl ⟨p,rfl⟩
theorem NJ(fa fb:FE)(ρ:aF)(e:Ent)(h:NG fa fb ρ=some e):(∃p,e=.val p)\/∃ps,e=.own ps:=by
 obtain⟨x,h1,h⟩:=ay h;obtain⟨y,h2,h⟩:=ay h;rcases zy h with⟨xs,ys,_,_,_,rfl⟩ | ⟨p,_,rfl⟩
 ·exact .inr ⟨_,rfl⟩
 ·exact .inl ⟨_,rfl⟩
def GC:Ent->dA
 | .val p=>some (.val p)
 | .own ps=>some (.own ps)
 | _=>none
def zA(g:az->dA)(ts:bX):aF->dA:=fun ρ=>(ts ρ).bind fun as=>(g as).bind GC
theorem u9{e e':Ent}(h:GC e=some e'):e'=e/\((∃p,e=.val p)\/∃ps,e=.own ps):=by
 unfold GC at h;split at h
 ·cases h;exact⟨rfl,.inl ⟨_,rfl⟩⟩
 ·cases h;exact⟨rfl,.inr ⟨_,rfl⟩⟩
 ·cases h
theorem JW(g:az->dA)(ts:bX)(ρ:aF)(e:Ent)(h:zA g ts ρ=some e):(∃p,e=.val p)\/∃ps,e=.own ps:=by
 obtain⟨as,h1,h⟩:=ay h;obtain⟨en,h2,h⟩:=ay h;obtain⟨rfl,h3⟩:=u9 h;exact h3
theorem NK{g:az->dA}{ts:bX}{ρ:aF}{e:Ent}(h:zA g ts ρ=some e):zx g ts ρ=some e:=by
 obtain⟨as,h1,h⟩:=ay h;obtain⟨en,h2,h⟩:=ay h;obtain⟨rfl,h3⟩:=u9 h;unfold zx;rw[h1];exact h2
theorem NL{e:aq}{g:az->dA}{ts:bX}(h:PE X e (tR X.K H₀ ab (zx g ts))):PE X e (tR X.K H₀ ab (zA g ts)):=h.imp fun σ H Q ⟨F,ρ,en,R,hf,q⟩=>⟨F,ρ,en,R,NK hf,q⟩
end
def zB:az->bU
 | [.int i]=>if 0<=i/\i<1000 then some (.str (toString i))else none
 | _=>none
theorem GD{X:Cx}:Gp X (.type "str") zB:=by
 intro ag s σ H xs us Q I rs ⟨H₀,ab,F,ρ,τ,ps,p,e,R,bs,k⟩;unfold zB at e;split at e
 ·rename_i i;obtain⟨⟨h0,h1⟩,rfl⟩:=aN e;obtain⟨v,rfl,b⟩:=eK bs;rw[aI.mp b]at rs;have hz:i.natAbs.log2<1920:=by
   by_cases h:i.natAbs=0
   ·rw[h];decide
   ·exact jJ (Nat.log2_le_self _) (by lia)
  exact wm ag s σ H _ us Q I rs ⟨i,rfl,hz,k _ H F R (Same.refl F) (cD.mpr rfl)⟩
 ·cases e
def GF(w:bU):PV->bU
 | .bl b=>if b=true then some (.bl true)else w
 | .au ps=>if ps.isEmpty=true then w else some (.au ps)
 | .aB ps=>if ps.isEmpty=true then w else some (.aB ps)
 | _=>none
def Wu(fa fb:FE):FE:=fun ρ=>(fa ρ).bind (GF (fb ρ))
theorem JX{K:ak}{w:bU}{x p:PV}{F H:Hp}{v:V}(h:GF w x=some p)(b:c9 K F x v)(s:Same F H):∃k,Vx K v H k/\(if k=true then p=x else w=some p):=by
 cases x with
 | bl c =>
  rw[bZ.mp b];refine⟨c,rfl,?_⟩;cases c with
  | true=>exact(bD h).symm
  | false=>exact h
 | au ps =>
  obtain⟨a,vs,rfl,h1,h2⟩:=bB.mp b;refine⟨!vs.isEmpty,.inl ⟨vs,(b0 s h1).sq,rfl⟩,?_⟩;cases ps with
  | nil=>rw[h2.cf];exact h
  | cons q r =>
   obtain⟨v0,vr,rfl,_,_⟩:=h2.ck;exact(bD h).symm
 | aB ps =>
  obtain⟨a,vs,rfl,h1,h2⟩:=bM.mp b;refine⟨!vs.isEmpty,.inr (.inl ⟨vs,bA s h1,rfl⟩),?_⟩;cases ps with
  | nil=>rw[h2.cf];exact h
  | cons q r =>
   obtain⟨v0,vr,rfl,_,_⟩:=h2.ck;exact(bD h).symm
 | _=>cases h
theorem Wv{X:Cx}{H₀ ab:Hp}{a b:aq}{rest:List aq}{fa fb:FE}{pos:Pos}(ha:PE X a (tE X.K H₀ ab fa))(hb:PE X (.BoolOp .Or (b::rest) pos) (tE X.K H₀ ab fb)):PE X (.BoolOp .Or (a::b::rest) pos) (tE X.K H₀ ab (Wu fa fb)):=by
 intro ag s σ H Q I ⟨F,ρ,p,R,hf,q⟩;obtain⟨x,h1,h2⟩:=ay hf;refine BoolOp_or (thn (ha ag s σ H (fun v H1=>∃F1,da X.K H₀ ab F1 ρ σ H1/\Same F F1/\c9 X.K F1 x v) I ⟨F,ρ,x,R,h1,fun v H1 F1 R1 s1 b1=>⟨F1,R1,s1,b1⟩⟩) fun v s1 ⟨xv,H1,I1,r1,F1,R1,m1,b1⟩=>?_)
 obtain⟨k,ht,hk⟩:=JX h2 b1 R1.sub;refine thn (RJ ag s1 σ H1 xv v (fun k' H'=>k'=k/\H'=H1) I1 r1 ⟨k,ht,rfl,rfl⟩) fun c s2 ⟨H2,I2,ec,eh⟩=>?_
 subst ec eh;cases c with
 | false=>exact hb ag s2 σ H2 Q I2 ⟨F1,ρ,p,R1,hk,fun v' H3 F3 R3 s3 b3=>q v' H3 F3 R3 (m1.trans s3) b3⟩
 | true =>
  have hk:p=x:=hk;subst hk;exact⟨xv,H2,I2,r1,q xv H2 F1 R1 m1 b1⟩
section
variable {X:Cx} {H₀ ab:Hp} {a b:aq} {fa fb:FE} {pos p GG zp:Pos}
theorem JY{e:aq}{X:Cx}(h:starEach [e] X.env=(false,eval e X.env)::starEach [] X.env){pos:Pos}{Q:cb->aw->Prop}{E:cS}{s:aw}{M:Model}{A:bY}(hq:wpAny M A (eval e X.env) (fun v s1=>Q [v] s1) E s):wpAny M A (spliced (backTo pos (starEach [e] X.env))) Q E s:=by
 rw[h];show wpAny _ _ (spliced ((false,eval e X.env)::backTo pos (starEach [] X.env))) _ _ s;exact Calls.spliced_cons (thn hq fun v s1 q=>Calls.spliced_nil q)
end
def insI(x:Int):List Int->List Int
 | []=>[x]
 | y::r=>if x<=y then x::y::r else y::insI x r
def nE:List Int->List Int
 | []=>[]
 | x::r=>insI x (nE r)
theorem oM(x:Int):∀l:List Int,(insI x l).Perm (x::l)
 | []=>.refl _
 | y::r=>by
  unfold insI;split
  ·exact .refl _
  ·exact((oM x r).cons y).trans (.swap x y r)
theorem mn:∀l:List Int,(nE l).Perm l
 | []=>.refl _
 | x::r=>(oM x (nE r)).trans ((mn r).cons x)
theorem Ez(x:Int):∀l:List Int,l.Pairwise (· <= ·)->(insI x l).Pairwise (· <= ·)
 | [],_=>List.pairwise_singleton _ _
 | y::r,h=>by
  obtain⟨h1,h2⟩:=BB.mp h;unfold insI;split
  ·rename_i hx;refine BB.mpr ⟨fun z hz=>?_,h⟩
   rcases bc.mp hz with rfl | hz
   ·exact hx
   ·exact Int.le_trans hx (h1 z hz)
  ·rename_i hx;refine BB.mpr ⟨fun z hz=>?_,Ez x r h2⟩
   rcases bc.mp ((oM x r).mem_iff.mp hz)with rfl | hz
   ·lia
   ·exact h1 z hz
theorem zC:∀l:List Int,(nE l).Pairwise (· <= ·)
 | []=>.nil
 | x::r=>Ez x _ (zC r)
theorem CJ:∀{us:cb} {ns:List Int},IntsAre us ns->Vals (ns.map V.int) us:=by
 intro us ns h;induction h with
 | nil=>exact .nil
 | cons a t _ ih=>exact .cons ⟨t,rfl⟩ ih
theorem oN{K:ak}{F:Hp}:∀ns:List Int,bt K F (ns.map .int) (ns.map V.int)
 | []=>.nil
 | n::r=>.cons (aI.mpr rfl) (oN r)
section
variable {X:Cx} {H₀ ab:Hp} {e:aq} {lo hi:Option aq} {fa:FE} {fl fh:FO} {pos p2:Pos}
def SK:PV->Option az
 | .au xs=>some xs
 | _=>none
def NO(fa:FE)(fl fh:FO):aF->dA:=fun ρ=>(fa ρ).bind fun p=>(fl ρ).bind fun l=>(fh ρ).bind fun h=>(SK p).map fun xs=>.own (jo xs l h)
theorem Ww(ha:PE X e (tE X.K H₀ ab fa))(hl:PO X lo (zu X.K H₀ ab fl))(hh:PO X hi (zu X.K H₀ ab fh)):PE X (.Subscript e (.Slice lo hi none p2) pos) (tR X.K H₀ ab (NO fa fl fh)):=(yW Ef ha hl hh).imp <| by
 rintro σ H Q ⟨F,ρ,en,R,hf,q⟩
 obtain⟨pa,h1,hf⟩:=ay hf;obtain⟨l,h2,hf⟩:=ay hf;obtain⟨h,h3,h4⟩:=ay hf;cases pa with
 | au xs =>
  cases h4;refine⟨F,ρ,_,R,h1,fun v H1 F1 R1 s1 b1=>⟨F1,ρ,l,R1,h2,fun H2 F2 R2 s2=>⟨F2,ρ,h,R2,h3,fun H3 F3 R3 s3=>?_⟩⟩⟩
  obtain⟨a,vs,rfl,ha,gJ⟩:=bB.mp (b1.mono (s2.trans s3));exact⟨a,vs,rfl,(b0 R3.sub ha).sq,fun q' hq=>q q' _ H3 F3 R3 (s1.trans (s2.trans s3)) (gJ.cut l h) hq⟩
 | _=>cases h4
theorem NP(fa:FE)(fl fh:FO)(ρ:aF)(e:Ent)(h:NO fa fl fh ρ=some e):(∃p,e=.val p)\/∃ps,e=.own ps:=by
 obtain⟨pa,h1,hf⟩:=ay h;obtain⟨l,h2,hf⟩:=ay hf;obtain⟨k,h3,h4⟩:=ay hf;cases pa with
 | au xs=>cases h4;exact .inr ⟨_,rfl⟩
 | _=>cases h4
end
theorem Wx{α β:Type}{o:Option α}{f:α->β}{b:β}(h:o.map f=some b):∃a,o=some a/\f a=b:=by
 cases o with
 | none=>cases h
 | some a=>exact⟨a,rfl,bD h⟩
section
variable {X:Cx} {H₀ ab:Hp} {e:aq} {fa:FE} {pos p:Pos} {x:Str}
def Wy:PV->Option az
 | .au xs=>some xs
 | .aB xs=>some xs
 | _=>none
def SM(fa:FE):aF->dA:=fun ρ=>(fa ρ).bind fun p=>(Wy p).map fun xs=>.own xs
theorem Wz(hg:Gl X "list")(hm:X.mg "list"=none)(ha:PE X e (tE X.K H₀ ab fa))(he:starEach [e] X.env=(false,eval e X.env)::starEach [] X.env):PE X (.Call (.Name "list" p) [e] [] pos) (tR X.K H₀ ab (SM fa)) :=
 (jz (T:="list") jO hg hm (jP .list) (rK ha ze he) (by decide) (by decide) he rfl).imp <| by
  rintro σ H Q ⟨F,ρ,en,R,hf,q⟩
  obtain⟨pa,h1,hf⟩:=ay hf;refine⟨F,ρ,[pa],R,?_,fun vs H1 F1 R1 s1 b1=>?_⟩
  ·show(fa ρ).bind _=_;rw[h1];rfl
  ·obtain⟨w,rfl,bw⟩:=eK b1;cases pa with
   | au xs =>
    cases hf;obtain⟨a,us,rfl,ha,gJ⟩:=bB.mp bw;exact⟨a,us,rfl,.inl (b0 R1.sub ha).sq,fun l hl=>q l us H1 F1 R1 s1 gJ hl⟩
   | aB xs =>
    cases hf;obtain⟨a,us,rfl,ha,gJ⟩:=bM.mp bw;exact⟨a,us,rfl,.inr (bA R1.sub ha),fun l hl=>q l us H1 F1 R1 s1 gJ hl⟩
   | _=>cases hf
theorem NQ(fa:FE)(ρ:aF)(e:Ent)(h:SM fa ρ=some e):(∃p,e=.val p)\/∃ps,e=.own ps:=by
 obtain⟨pa,h1,h2⟩:=ay h;cases z:Wy pa with
 | none=>rw[z]at h2;cases h2
 | some xs=>rw[z]at h2;cases h2;exact .inr ⟨_,rfl⟩
end
section
variable {X:Cx} {H₀ ab:Hp}
def Qv(fo:bX):bX:=fun ρ=>(fo (eR none ρ)).bind fun ps=>if ps.all rW=true then some ps else none
theorem vb{K:ak}{F F':Hp}:∀{ps:az} {vs:List V},ps.all rW=true->bt K F ps vs->bt K F' ps vs
 | [],_,_,b=>by rw[b.cf];exact .nil
 | p::ps,_,h,b=>by
  rw[gY,aQ]at h;obtain⟨v,vr,rfl,b1,b2⟩:=b.ck;exact .cons (zj h.1 b1) (vb h.2 b2)
theorem zD{K:ak}{fo:bX}{σ:St}{H:Hp}{Q:VK}(h:tF K H₀ ab (Qv fo) σ H Q):tF K H₀ ab fo σ H Q:=by
 obtain⟨F,ρ,ps,R,hf,q⟩:=h;obtain⟨ps',h1,h2⟩:=ay hf;obtain⟨hp,rfl⟩:=aN h2;obtain⟨F1,R1,s1,k1⟩:=R.lF none;exact⟨F1,eR none ρ,ps',R1,h1,fun a vs H1 F' R2 s2 b2 hn=>q a vs H1 F (R.Sn R1 s1 k1 R2 s2) (Same.refl F) (vb hp b2) hn⟩
end
end L2.PL
namespace PySem
open Sem (wp)
theorem qd:entryFor table "set.__iter__"=some Builtin.«frozenset.__iter__» := entryFor_alias (id':="frozenset.__iter__") (by kernel_rfl) rfl (by decide +kernel) (by kernel_rfl)
theorem eY:Slot "set_iterator" "__next__" "set_iterator.__next__" :=
 .of (owner:="set_iterator") (n:="__next__") (by rw[typeLookup_type,builtinLookup_eq_fast];kernel_rfl) (by decide +kernel) (by decide +kernel) (by decide +kernel)
  (by first | exact .inl (by decide +kernel) | exact .inr (by decide +kernel)) (by rw[isSubtype_type];kernel_rfl)
theorem lP:entryFor table "set_iterator.__next__"=some Builtin.«set_iterator.__next__» := entryFor_of_tree (by kernel_rfl)
theorem nF(a:aj):argsOk "set_iterator.__next__" ⟨[a],[]⟩:=by unfold argsOk;kernel_rfl
theorem nG:Slot "set_iterator" "__iter__" "set_iterator.__iter__" :=
 .of (owner:="set_iterator") (n:="__iter__") (by rw[typeLookup_type,builtinLookup_eq_fast];kernel_rfl) (by decide +kernel) (by decide +kernel) (by decide +kernel)
  (by first | exact .inl (by decide +kernel) | exact .inr (by decide +kernel)) (by rw[isSubtype_type];kernel_rfl)
theorem t9:entryFor table "set_iterator.__iter__"=some Builtin.«dict_keyiterator.__iter__» := entryFor_alias (id':="dict_keyiterator.__iter__") (by kernel_rfl) rfl (by decide +kernel) (by kernel_rfl)
theorem wO(a:aj):argsOk "set_iterator.__iter__" ⟨[a],[]⟩:=by unfold argsOk;kernel_rfl
def d8(es:Array (Int×aj))(ep:Nat)(t:SetTable):Obj:={cls:=.type "set",dict:=none,data:=.set es ep t,slots:=#[]}
abbrev BT(w:aW):Bool:=w.params.followText "set-order"
section
variable {prog:bJ} {w:aW} {A:bY} {E:cS} {s:aw} {a:ae} {es:Array (Int×aj)} {ep:Nat} {t:SetTable}
theorem mq{Q:Bool->aw->Prop}(h:Q (BT w) s):wpAny (model prog w) A setsByText Q E s:=by
 unfold setsByText;exact av (BP (aK h))
theorem wQ{Q:Bool->aw->Prop}(hS:s.heap.get? a=some (d8 es ep t))(hf:t.fits es.size=true)(hg:BT w=true\/t.plain=true)(h:Q false s):wpAny (model prog w) A (setDrawn a) Q E s:=by
 unfold setDrawn;refine av (kd hS rfl hf ?_);refine av (mq ?_);refine aK ?_;have e:(!BT w&&(!t.plain&&decide (es.size>1)))=false:=by
  rcases hg with g | g
  ·rw[g];rfl
  ·rw[g];cases BT w<;>rfl
 show Q (!BT w&&(!t.plain&&decide (es.size>1))) s;rw[e];exact h
theorem CK{Q:cS}(hS:s.heap.get? a=some (d8 es ep t))(hf:t.fits es.size=true)(hg:BT w=true\/t.plain=true)
  (hQ:Q (.ref s.heap.objs.size) {s with heap:=s.heap.push {cls:=.type "set_iterator",data:=.fields #[.int 0 0,.int 0 0,.ref a,.int es.size 0,.int ep 0]}}):wpAny (model prog w) A (pyIter (.ref a)) Q E s:=by
 have hT:s.TypeIs (.ref a) "set":=⟨_,hS,rfl⟩;refine wpAny_pyIter_slot hT F.slot_set_iter (ji F.slot_set_iter hT qd ?_ (F.args_set_iter_1 _));unfold Builtin.«frozenset.__iter__» Builtin.Frozenset.slot0;refine av (av (m:=slotArgs "__iter__" 0 _) (aK ?_));show wpAny _ _ (pure a) _ _ s;refine aK ?_;unfold Builtin.Frozenset.sizeOf setEntries;refine av (av (av (kd hS rfl hf (aK (aK ?_)))));refine av (wQ hS hf hg ?_);rw[if_neg iu];refine av (aK ?_);refine av (wpAny_setEpoch_of hS rfl hf ?_);unfold newFields;refine av (je (aK ⟨_,rfl,"set_iterator",_,⟨_,dZ _ rfl,rfl⟩,eY.lookup,?_⟩));simpa[rawInt]using hQ
end
section
variable {prog:bJ} {w:aW} {A:bY} {E:cS} {s:aw} {a:ae} {es:Array (Int×aj)} {ep:Nat} {t:SetTable}
def EA(t:SetTable):Nat->Nat
 | 0=>0
 | i+1=>t.place.getD i 0+1
def eS(w:aW)(t:SetTable)(i:Nat):Nat:=if BT w=true then 0 else EA t i
def kG(w:aW)(a:ae)(ep:Nat)(es:Array (Int×aj)):Array (Int×aj):=if BT w=true then pickOrder (w.params.setOrder a ep) es else es
structure gq (w:aW) (a:ae) (ep:Nat) (es:Array (Int×aj)) (t:SetTable):Prop where
 fits:t.fits es.size=true
 size:(kG w a ep es).size=es.size
 led:BT w=false->t.led=true/\t.plain=true/\∀i,i<=es.size->SetTable.below t.place (EA t i)=i
theorem gq.ok(g:gq w a ep es t):BT w=true\/t.plain=true:=by
 cases h:BT w with
 | true=>exact .inl rfl
 | false=>exact .inr (g.led h).2.1
theorem gq.place(g:gq w a ep es t):t.place.size=es.size:=by
 have:=g.fits;simp only[SetTable.fits,aQ,ox]at this;exact this.1
theorem zE(hS:s.heap.get? a=some (d8 es ep t))(g:gq w a ep es t)(i:Nat)(hi:i<=es.size){Q:Option (aj×Nat)->aw->Prop}
  (h:Q (((kG w a ep es)[i]?).map fun e=>(e.2,eS w t (i+1))) s):wpAny (model prog w) A (setNext a (eS w t i) i ep) Q E s:=by
 unfold setNext;refine av (kd hS rfl g.fits ?_);refine av (mq ?_);cases hb:BT w with
 | true =>
  rw[if_pos rfl];dsimp only
  rw[if_neg (by simp)]
  unfold setWalk;refine av (av (kd hS rfl g.fits ?_));refine av (mq ?_);rw[hb,if_pos rfl];refine av (BP ?_);refine aK (aK ?_);unfold kG eS at h;rw[hb]at h;simp only[ko]at h;unfold eS;rw[hb];exact h
 | false =>
  obtain⟨hl,hp,hw⟩:=g.led hb;rw[if_neg iu];refine av (aK ?_);show wpAny _ _ (if(!t.plain&&decide (es.size>1))=true then _ else _) _ _ s
  rw[hp];rw[if_neg (by simp)]
  refine av ?_;show wpAny _ _ (if(!t.led&&!es.isEmpty)=true then _ else _) _ _ s
  rw[hl,if_neg (by simp)]
  refine aK ?_;refine aK ?_;unfold kG eS at h;rw[hb]at h;simp only[Bool.false_eq_true,oz]at h;have e:SetTable.below t.place (eS w t i)=i:=by unfold eS;rw[hb,if_neg iu];exact hw i hi
  rw[e];have oG:=g.place;by_cases eM:i<es.size
  ·have h1:es[i]?=some es[i]:=by simp[eM]
   have h2:t.place[i]?=some (t.place[i]'(by lia)):=by simp[show i<t.place.size by lia]
   rw[h1,h2];rw[h1]at h;have h3:EA t (i+1)=t.place[i]'(by lia)+1:=by
    show t.place.getD i 0+1=_;simp[Array.getD,show i<t.place.size by lia]
   rw[h3]at h;exact h
  ·have h1:es[i]?=none:=by simp;lia
   rw[h1];rw[h1]at h;exact h
end
section
variable {prog:bJ} {w:aW} {A:bY} {E:cS} {s:aw} {a it:ae} {es:Array (Int×aj)} {ep:Nat} {t:SetTable}
def gf(h:Heap)(it a:ae)(sl i n ep:Nat):Prop:=∃o,h.get? it=some o/\o.cls=.type "set_iterator"/\o.data=.fields #[.int sl 0,.int i 0,.ref a,.int n 0,.int ep 0]
theorem gf.typeIs{sl i n:Nat}(x:gf s.heap it a sl i n ep):s.TypeIs (.ref it) "set_iterator":=let ⟨o,ho,hc,_⟩:=x;⟨o,ho,hc⟩
theorem JZ(r9:gf s.heap it a (eS w t i) i es.size ep)(hS:s.heap.get? a=some (d8 es ep t))(g:gq w a ep es t)(hi:i<es.size){Q:mi->aw->Prop}
  (hQ:∀v h',(∃e,(kG w a ep es)[i]?=some e/\v=e.2)->gf h' it a (eS w t (i+1)) (i+1) es.size ep->Heap.SameBut it s.heap h'->Q (some v) {s with heap:=h'}):wpAny (model prog w) A (pyNext (.ref it)) Q E s:=by
 obtain⟨o,ho,hc,hd⟩:=id r9;unfold pyNext;refine av (wpAny_attempt (lZ (name:=Str.ofString "__next__") r9.typeIs eY (ji eY r9.typeIs lP ?_ (nF _))));unfold Builtin.«set_iterator.__next__»;refine av (m:=slotArgs "__next__" 0 _) (aK ?_);refine av (wpAny_fieldsOf ho hd ?_);dsimp only
 unfold setEntries;refine av (av (kd hS rfl g.fits (aK ?_)));dsimp only
 rw[if_neg (by simp)]
 have h1:(kG w a ep es)[i]?=some ((kG w a ep es)[i]'(by rw[g.size];exact hi)):=by simp[g.size,hi]
 refine av ?_;rw[show((eS w t i:Nat):Int).toNat=eS w t i from fP _,show((i:Nat):Int).toNat=i from fP _,show((ep:Nat):Int).toNat=ep from fP _]
 refine zE hS g i (me hi) ?_;rw[h1];dsimp only[Option.map]
 show wpAny _ _ (setField (.ref it) 0 (rawInt (eS w t (i+1):Nat)) >>= _) _ _ s;refine av (qO ho hd (by simp) ?_)
 obtain⟨o1,g1,c1,d1⟩:∃o1,(s.heap.update it (Obj.mapFields (·.setIfInBounds 0 (rawInt (eS w t (i+1):Nat))))).get? it=some o1/\o1.cls=.type "set_iterator"/\o1.data=.fields #[.int (eS w t (i+1):Nat) 0,.int i 0,.ref a,.int es.size 0,.int ep 0] :=
  ⟨_,vK _ ho (Bx (oj hd _)),(BG ..).trans hc,by rw[oj hd];simp[rawInt]⟩
 have b1:Heap.SameBut it s.heap (s.heap.update it (Obj.mapFields (·.setIfInBounds 0 (rawInt (eS w t (i+1):Nat))))):=oi ..
 generalize (s.heap.update it (Obj.mapFields (·.setIfInBounds 0 (rawInt (eS w t (i+1):Nat)))))=H1 at g1 b1 ⊢
 refine av (qO (s:={s with heap:=H1}) g1 d1 (by simp) ?_)
 have SN:gf (H1.update it (Obj.mapFields (·.setIfInBounds 1 (rawInt ((i:Int)+1))))) it a (eS w t (i+1)) (i+1) es.size ep :=
  ⟨_,vK _ g1 (Bx (oj d1 _)),(BG ..).trans c1,by rw[oj d1];simp[rawInt]⟩
 exact aK ⟨_,rfl,aK (hQ _ _ ⟨_,h1,rfl⟩ SN (b1.trans (oi ..)))⟩
theorem NR(hh:A.handled=none)(r9:gf s.heap it a (eS w t es.size) es.size es.size ep)(hS:s.heap.get? a=some (d8 es ep t))(g:gq w a ep es t){Q:mi->aw->Prop}
  (hQ:∀h',Heap.ExtBut it s.heap h'->Q none {s with heap:=h'}):wpAny (model prog w) A (pyNext (.ref it)) Q E s:=by
 obtain⟨o,ho,hc,hd⟩:=id r9;unfold pyNext;refine av (wpAny_attempt (lZ (name:=Str.ofString "__next__") r9.typeIs eY (ji eY r9.typeIs lP ?_ (nF _))));unfold Builtin.«set_iterator.__next__»;refine av (m:=slotArgs "__next__" 0 _) (aK ?_);refine av (wpAny_fieldsOf ho hd ?_);dsimp only
 unfold setEntries;refine av (av (kd hS rfl g.fits (aK ?_)));dsimp only
 rw[if_neg (by simp)]
 have h1:(kG w a ep es)[es.size]?=none:=by simp[g.size]
 refine av ?_;rw[show((eS w t es.size:Nat):Int).toNat=eS w t es.size from fP _,show((es.size:Nat):Int).toNat=es.size from fP _,show((ep:Nat):Int).toNat=ep from fP _]
 refine zE hS g es.size (bh _) ?_;rw[h1];dsimp only[Option.map]
 show wpAny _ _ (setField (.ref it) 2 .none >>= _) _ _ s;refine av (qO ho hd (by simp) ?_)
 show wpAny _ _ (newExc (.type "StopIteration") [] >>= _) _ _ _;refine av ?_;simp only[newExc,newTuple];refine av (je ?_ (by size_fits))
 refine av (m:=firstArgMember _ _) (wpAny_of_eq (a:=Value.none) (by first | rfl | (simp only[firstArgMember];rfl)) ?_)
 refine je ?_ (by size_fits)
 simp only[raiseNew];refine av (wpAny_handled ?_);rw[show A.in1.handled=none from hh]
 refine av (aK (wpAny_throw ?_));refine av (BJ (T:="StopIteration") (b:=true) ⟨_,dZ _ rfl,rfl⟩ isSubtype_stop ?_);exact aK (hQ _ (((oi ..).extBut.push _).push _))
theorem J0{sl i n:Nat}{Q:cS}(r9:gf s.heap it a sl i n ep)(h:Q (.ref it) s):wpAny (model prog w) A (pyIter (.ref it)) Q E s:=by
 refine wpAny_pyIter_slot r9.typeIs nG (ji nG r9.typeIs t9 ?_ (wO _));show wpAny _ _ (ret (.ref it)) _ _ s;exact aK ⟨_,rfl,"set_iterator",_,r9.typeIs,eY.lookup,h⟩
theorem Walks.abu(hh:A.handled=none)(I a:ae)(hne:a≠I)(g:gq w a ep es t) :
  Walks prog w A I [I,a] [I] es.size (fun i v=>∃e,(kG w a ep es)[i]?=some e/\v=e.2) (fun i h=>gf h I a (eS w t i) i es.size ep/\h.get? a=some (d8 es ep t)) where
 sub:=fun b hb=>by simp at hb;simp[hb]
 frame:=fun _ _ _ st hk=>⟨let ⟨o,ho,r⟩:=st.1;⟨o,hk I (by simp) o ho,r⟩,hk a (by simp) _ st.2⟩
 item:=fun i s Q E hi st hQ=>JZ st.1 st.2 g hi fun v h' hv SN hs'=>hQ v h' s.toks hv ⟨SN,hs'.extBut a _ hne st.2⟩ fun b o hb e=>hs'.extBut b o (fun h=>hb (by simp[h])) e
 done:=fun s Q E st hQ=>NR hh st.1 st.2 g fun h' he'=>hQ h' s.toks fun b o hb e=>he' b o (fun h=>hb (by simp[h])) e
 self:=fun _ _ _ _ st hQ=>J0 st.1 hQ
theorem J1{r:ae}{Q:Bool->aw->Prop}(hT:s.TypeIs (.ref r) "set")(h:Q false s):wpAny (model prog w) A (Builtin.List.listLengthHint (.ref r)) Q E s:=by
 unfold Builtin.List.listLengthHint;refine av (wpAny_specialOf hT F.slot_set_len.lookup ?_)
 generalize hid:("set.__len__":String)=id0
 wp_delta
 rw[show splitId id0=some ("set","__len__")from by subst hid;decide +kernel]
 subst hid;refine av (BJ (T:="set") (b:=true) hT (by rw[isSubtype_type];kernel_rfl) ?_)
 refine BR (fun hab=>absurd hab (by decide)) (fun _=>?_)
 refine BR (fun _=>?_) (fun hab=>absurd (by decide +kernel) hab)
 refine av (vX hT ?_);exact aK h
theorem NS(g:gq w a ep es t):W.KdlSrc prog w "set" a a es.size (fun i v=>∃e,(kG w a ep es)[i]?=some e/\v=e.2) (fun h=>h.get? a=some (d8 es ep t)) where
 type:=fun _ hm=>⟨_,hm,rfl⟩
 there:=fun _ hm=>⟨bO hm,bO hm⟩
 keep:=fun _ _ hm hk=>hk a (.inl rfl) _ hm
 notList:=by decide
 notTuple:=by decide
 hint:=fun _ _ _ _ hm hq=>J1 ⟨_,hm,rfl⟩ hq
 iter:=fun A s hh hm=>⟨_,_,(fun _ _ hq=>CK hm g.fits g.ok hq),Walks.abu hh _ a (cI (bO hm)) g,⟨⟨_,dZ _ rfl,rfl,by
  have:eS w t 0=0:=by unfold eS EA;split<;>rfl
  rw[this];rfl⟩,cx _ hm⟩⟩
end
section
open PyProof.Rows
theorem sd{α:Type}:∀(l:List α) (i:Nat) (h:i<l.length),([l[i]]++l.eraseIdx i).Perm l
 | [],i,h=>absurd h (by simp)
 | x::l,0,_=>.refl _
 | x::l,i+1,h=>by
  have h':i<l.length:=by simpa using h
  have ih:=sd l i h';rw[List.getElem_cons_succ,List.eraseIdx_cons_succ];exact(List.Perm.swap x l[i] (l.eraseIdx i)).trans (ih.cons x)
theorem EB{α:Type}(nx:Nat->Nat):∀(NT k:Nat) (left:List α) (out:Array α),NT=left.length->(pickOrder.go nx NT k left out).toList.Perm (out.toList++left)
 | 0,k,left,out,h=>by
  have:left=[]:=HZ h.symm;subst this;rw[gX];exact .refl _
 | NT+1,k,left,out,h=>by
  have hl:nx k%left.length<left.length:=Nat.mod_lt _ (by lia)
  unfold pickOrder.go;rw[du hl];refine(EB nx NT (k+1) (left.eraseIdx (nx k%left.length)) (out.push left[nx k%left.length]) (by rw[List.length_eraseIdx_of_lt hl];lia)).trans ?_
  rw[Array.toList_push,iw];refine List.Perm.append_left _ ?_;exact sd left _ hl
theorem GH{α:Type}(nx:Nat->Nat)(xs:Array α):(pickOrder nx xs).toList.Perm xs.toList:=by
 unfold pickOrder;have:=EB nx xs.size 0 xs.toList #[] (by simp)
 simpa using this
theorem zF(w:aW)(a:ae)(ep:Nat)(es:Array (Int×aj)):(kG w a ep es).toList.Perm es.toList:=by
 unfold kG;split
 ·exact GH _ _
 ·exact .refl _
theorem J2(w:aW)(a:ae)(ep:Nat)(es:Array (Int×aj)):(kG w a ep es).size=es.size:=by
 have:=(zF w a ep es).length_eq;simpa using this
def intOf:aj->Int
 | .int n _=>n
 | _=>0
theorem zG:∀(l:List (Int×aj)),(∀e∈l,∃n t,e.2=.int n t)->IntsAre (l.map (·.2)) (l.map fun e=>intOf e.2)
 | [],_=>.nil
 | e::l,h=>by
  obtain⟨n,t,q⟩:=h e b6;have ih:=zG l fun x hx=>h x (bQ _ hx)
  rw[bR,bR,q];exact .cons n t ih
def jD(place:Array Nat)(led:Bool):SetTable:={mask:=7,place:=place,dummies:=#[],finger:=0,led:=led,moves:=0,plain:=true}
theorem CL:∀k:_root_.Fin 64,hashInt ((k:Nat):Int)=((k:Nat):Int):=by decide +kernel
theorem SO:∀(k:_root_.Fin 64) (led:Bool),(jD #[] led).freeSlot ((k:Nat):Int)=some ((k:Nat)%8,false):=by decide +kernel
theorem SQ:∀(p:_root_.Fin 8) (k:_root_.Fin 64) (led:Bool),∃q:_root_.Fin 8,(jD #[(p:Nat)] led).freeSlot ((k:Nat):Int)=some ((q:Nat),false)/\q≠p:=by decide +kernel
theorem NU:∀p:_root_.Fin 8,SetTable.below #[(p:Nat)] 0=0/\SetTable.below #[(p:Nat)] ((p:Nat)+1)=1:=by decide +kernel
theorem NV:∀p q:_root_.Fin 8,p<q->SetTable.below #[(p:Nat),(q:Nat)] 0=0/\SetTable.below #[(p:Nat),(q:Nat)] ((p:Nat)+1)=1/\SetTable.below #[(p:Nat),(q:Nat)] ((q:Nat)+1)=2:=by decide +kernel
theorem NW:∀p q:_root_.Fin 8,q≠p->SetTable.below #[(p:Nat)] (q:Nat)=if p<q then 1 else 0:=by decide +kernel
theorem WA(k:_root_.Fin 64)(led:Bool)(h:Int)(x:aj)(hh:h=((k:Nat):Int)):layNew (jD #[] led) #[] h x=(#[(h,x)],jD #[(k:Nat)%8] led,false,false):=by
 subst hh;unfold layNew;rw[SO k led];rfl
theorem WB(p:_root_.Fin 8)(k:_root_.Fin 64)(led:Bool)(h:Int)(x:aj)(hh:h=((k:Nat):Int))(e:Int×aj) :
  ∃q:_root_.Fin 8,q≠p/\layNew (jD #[(p:Nat)] led) #[e] h x=if p<q then(#[e,(h,x)],jD #[(p:Nat),(q:Nat)] led,false,false)else(#[(h,x),e],jD #[(q:Nat),(p:Nat)] led,false,false):=by
 subst hh;obtain⟨q,hq,hne⟩:=SQ p k led;refine⟨q,hne,?_⟩;have hb:=NW p q hne;unfold layNew;rw[hq];dsimp only
 unfold SetTable.put;show _=_;have lN:SetTable.below (jD #[(p:Nat)] led).place (q:Nat)=if p<q then 1 else 0:=hb
 rw[lN];by_cases eM:p<q
 ·rw[if_pos eM,if_pos eM];rfl
 ·rw[if_neg eM,if_neg eM];rfl
end
section
open PyProof.Rows
section
variable {prog:bJ} {w:aW} {A:bY} {E:cS} {s:aw} {a:ae} {es ua:Array (Int×aj)} {ep:Nat} {t t1:SetTable}
theorem zH(h:∀e∈es.toList,∃k tk,e.2=.int k tk/\e.1=hashInt k):ElemsOf (intKind prog w) es.toList:=fun e he=>by
 obtain⟨k,tk,h1,h2⟩:=h e he;exact⟨⟨k,by rw[h1];exact intKind_is _ _ _ _,h2⟩,by rw[h1];rfl⟩
theorem NX(hS:s.heap.get? a=some (d8 es ep t))(ua:Array (Int×aj))(t1:SetTable):(s.heap.update a (Obj.putSet ua t1)).get? a=some (d8 ua (ep+1) t1):=by
 have:=vK (Obj.putSet ua t1) hS (by rw[putSet_of ua t1 (show(d8 es ep t).data=_ from rfl)];rfl)
 rw[putSet_of ua t1 (show(d8 es ep t).data=_ from rfl)]at this
 exact this
theorem CM{k:Int}{tk:Tok}{Q:Bool->aw->Prop}(hS:s.heap.get? a=some (d8 es ep t))(hf:t.fits es.size=true)(Qw:∀e∈es.toList,∃k tk,e.2=.int k tk/\e.1=hashInt k)(hb:es.size+1<scanBound)
  (SR:es.toList.findIdx? (fun e=>(intKind prog w).is k e.2)=none) (hL:layNew t es (hashInt k) (.int k tk)=(ua,t1,false,false)) (hp:t1.plain=true) (R8:t1.tooFull=false) (hz:ua.size<=sizeLine)
  (h:Q true {s with heap:=s.heap.update a (Obj.putSet ua t1)}):wpAny (model prog w) A (setAddHashed a (.int k tk) (hashInt k)) Q E s:=by
 have hE:=zH (prog:=prog) (w:=w) Qw;unfold setAddHashed setAddHashedIn;refine kj (av (kd hS rfl hf ?_));dsimp only
 rw[byScan_of (x:=.int k tk) rfl (by lia) hE]
 simp only[↓reduceIte];unfold setAddByScan;refine av ?_;refine av (qS ?_);refine av (wpAny_setScan_of (knd:=intKind prog w) (k:=k) (intKind_is _ _ _ _) hS rfl hf hE ?_);rw[SR];dsimp only
 rw[hL];dsimp only
 refine av ?_;show wpAny _ _ (pure ()) _ _ s;refine aK ?_;rw[hp,if_pos rfl];refine av ?_;rw[hashByValue_scannable 8 (x:=.int k tk) rfl];refine aK ?_;have e:(if plainKind (Value.int k tk)=true then t1 else {t1 with plain:=false})=t1:=if_pos rfl
 rw[e];refine av (wpAny_storeSet_of hS rfl ?_ hz);rw[R8,if_neg (by simp)]
 exact aK (aK h)
theorem CN{k:Int}{tk:Tok}{j:Nat}{Q:Bool->aw->Prop}(hS:s.heap.get? a=some (d8 es ep t))(hf:t.fits es.size=true)(Qw:∀e∈es.toList,∃k tk,e.2=.int k tk/\e.1=hashInt k)(hb:es.size+1<scanBound)
  (hj:es.toList.findIdx? (fun e=>(intKind prog w).is k e.2)=some j) (h:Q false s):wpAny (model prog w) A (setAddHashed a (.int k tk) (hashInt k)) Q E s:=by
 have hE:=zH (prog:=prog) (w:=w) Qw;unfold setAddHashed setAddHashedIn;refine kj (av (kd hS rfl hf ?_));dsimp only
 rw[byScan_of (x:=.int k tk) rfl (by lia) hE]
 simp only[↓reduceIte];unfold setAddByScan;refine av ?_;refine av (qS ?_);refine av (wpAny_setScan_of (knd:=intKind prog w) (k:=k) (intKind_is _ _ _ _) hS rfl hf hE ?_);rw[hj];dsimp only
 exact aK (aK h)
end
def fW(led:Bool)(xs:List Int)(es:Array (Int×aj))(t:SetTable):Prop :=
 (∀e∈es.toList,∃k tk,e.2=.int k tk/\e.1=hashInt k)/\(es.toList.map fun e=>intOf e.2).Perm xs /\
 ((xs=[]/\es=#[]/\t=jD #[] led)\/(∃(p:_root_.Fin 8) (x:Int),xs=[x]/\t=jD #[(p:Nat)] led)\/∃(p q:_root_.Fin 8) (x y:Int),xs=[x,y]/\p<q/\t=jD #[(p:Nat),(q:Nat)] led)
theorem fW.fits{led:Bool}{xs:List Int}{es:Array (Int×aj)}{t:SetTable}(h:fW led xs es t):t.fits es.size=true/\es.size=xs.length/\es.size<=2:=by
 obtain⟨_,hp,hc⟩:=h;have hl:=hp.length_eq;simp at hl;rcases hc with⟨rfl,rfl,rfl⟩ | ⟨p,x,rfl,rfl⟩ | ⟨p,q,x,y,rfl,_,rfl⟩
 ·exact⟨rfl,hl,by decide⟩
 ·simp at hl;exact⟨by rw[hl];rfl,hl,by lia⟩
 ·simp at hl;exact⟨by rw[hl];rfl,hl,by lia⟩
theorem fW.good{w:aW}{a:ae}{ep:Nat}{xs:List Int}{es:Array (Int×aj)}{t:SetTable}(h:fW (!BT w) xs es t):gq w a ep es t:=by
 obtain⟨f1,f2,f3⟩:=h.fits;refine⟨f1,J2 w a ep es,fun hb=>?_⟩
 obtain⟨_,hp,hc⟩:=h;rw[hb]at hc;rcases hc with⟨rfl,rfl,rfl⟩ | ⟨p,x,rfl,rfl⟩ | ⟨p,q,x,y,rfl,eM,rfl⟩
 ·refine⟨rfl,rfl,fun i hi=>?_⟩
  have:i=0:=by simpa using hi
  subst this;rfl
 ·obtain⟨b1,b2⟩:=NU p;refine⟨rfl,rfl,fun i hi=>?_⟩
  have:es.size=1:=f2;have:i=0\/i=1:=by lia
  rcases this with rfl | rfl
  ·exact b1
  ·exact b2
 ·obtain⟨b1,b2,b3⟩:=NV p q eM;refine⟨rfl,rfl,fun i hi=>?_⟩
  have:es.size=2:=f2;have:i=0\/i=1\/i=2:=by lia
  rcases this with rfl | rfl | rfl
  ·exact b1
  ·exact b2
  ·exact b3
section
variable {prog:bJ} {w:aW} {A:bY} {E:cS} {s:aw} {a:ae} {es:Array (Int×aj)} {ep:Nat} {t:SetTable}
def lQ(xs:List Int)(k:Int):List Int:=if k∈xs then xs else xs++[k]
theorem CP{led:Bool}{xs:List Int}{k:Int}{tk:Tok}{Q:Bool->aw->Prop}(hS:s.heap.get? a=some (d8 es ep t))(h2:fW led xs es t)(hk:0<=k/\k<64)(hx:xs.length<=1)
  (h:∀b h' ua ep1 t1,Heap.SameBut a s.heap h'->h'.get? a=some (d8 ua ep1 t1)->fW led (lQ xs k) ua t1->Q b {s with heap:=h'}):wpAny (model prog w) A (setAddHashed a (.int k tk) (hashInt k)) Q E s:=by
 obtain⟨f1,f2,f3⟩:=h2.fits;obtain⟨Qw,hp,hc⟩:=id h2;have hb:es.size+1<scanBound:=by
  have:scanBound=4096:=rfl
  lia
 have J3:∀e∈es.toList,(intKind prog w).is k e.2=true↔intOf e.2=k:=fun e he=>by
  obtain⟨n,SS,q,_⟩:=Qw e he;rw[q];show Value.isInt k (.int n SS)=true↔n=k;simp[Value.isInt]
 cases hr:es.toList.findIdx? (fun e=>(intKind prog w).is k e.2)with
 | some j =>
  obtain⟨hj,hpj,_⟩:=HX.mp hr;have EC:k∈xs:=by
   have h1:=(J3 _ (vR hj)).mp hpj;exact hp.mem_iff.mp (bG.mpr ⟨_,vR hj,h1⟩)
  refine CN hS f1 Qw hb hr ?_;have:=h false s.heap es ep t (Heap.SameBut.refl a s.heap) hS (by unfold lQ;rw[if_pos EC];exact h2)
  exact this
 | none =>
  have SR:k∉xs:=fun EC=>by
   obtain⟨e,he,q⟩:=bG.mp (hp.mem_iff.mpr EC);have:=List.findIdx?_eq_none_iff.mp hr e he;rw[(J3 e he).mpr q]at this;cases this
  have hk':hashInt k=k:=by
   have:=CL ⟨k.toNat,by lia⟩
   rw[show(((⟨k.toNat,by lia⟩:_root_.Fin 64):Nat):Int)=k from vN hk.1]at this
   exact this
  have hkc:hashInt k=(((⟨k.toNat,by lia⟩:_root_.Fin 64):Nat):Int):=by
   rw[hk'];exact(vN hk.1).symm
  have fin:∀ua t1,layNew t es (hashInt k) (.int k tk)=(ua,t1,false,false)->t1.plain=true->t1.tooFull=false->ua.size<=2->fW led (lQ xs k) ua t1->wpAny (model prog w) A (setAddHashed a (.int k tk) (hashInt k)) Q E s:=fun ua t1 hL q1 q2 q3 q4 =>
   CM hS f1 Qw hb hr hL q1 q2 (cF q3 (by decide)) (h true _ ua (ep+1) t1 (oi ..) (NX hS ua t1) q4)
  have SU:lQ xs k=xs++[k]:=by unfold lQ;rw[if_neg SR]
  rcases hc with⟨rfl,rfl,rfl⟩ | ⟨p,x,rfl,rfl⟩ | ⟨p,q,x,y,rfl,eM,rfl⟩
  ·refine fin _ _ (WA ⟨k.toNat,by lia⟩ led _ _ hkc) rfl rfl (by simp) ?_
   rw[SU];refine⟨fun e he=>?_,.refl _,.inr (.inl ⟨⟨(⟨k.toNat,by lia⟩:_root_.Fin 64).val%8,Nat.mod_lt _ (by decide)⟩,k,rfl,rfl⟩)⟩
   have he:e∈[(hashInt k,Value.int k tk)]:=he;have he:=cq.mp he;subst he;exact⟨k,tk,rfl,rfl⟩
  ·have SV:es.size=1:=f2;obtain⟨e0,rfl⟩:∃e0,es=#[e0]:=Array.size_eq_one_iff.mp SV
   obtain⟨q,hne,hL⟩:=WB p ⟨k.toNat,by lia⟩ led (hashInt k) (.int k tk) hkc e0
   have hq:(intOf e0.2)=x:=by
    have hm:intOf e0.2∈[x]:=hp.mem_iff.mp (bG.mpr ⟨e0,by simp,rfl⟩)
    simpa using hm
   have h0:=Qw e0 (by simp)
   by_cases eM:p<q
   ·rw[if_pos eM]at hL;refine fin _ _ hL rfl rfl (by simp) ?_
    rw[SU];refine⟨fun e he=>?_,?_,.inr (.inr ⟨p,q,x,k,rfl,eM,rfl⟩)⟩
    ·have he:e∈[e0,(hashInt k,Value.int k tk)]:=he;simp only[bc,eF,eH]at he;rcases he with rfl | rfl
     ·exact h0
     ·exact⟨k,tk,rfl,rfl⟩
    ·show [intOf e0.2,k].Perm ([x]++[k]);rw[hq];exact .refl _
   ·rw[if_neg eM]at hL;refine fin _ _ hL rfl rfl (by simp) ?_
    rw[SU];refine⟨fun e he=>?_,?_,.inr (.inr ⟨q,p,x,k,rfl,?_,rfl⟩)⟩
    ·have he:e∈[(hashInt k,Value.int k tk),e0]:=he;simp only[bc,eF,eH]at he;rcases he with rfl | rfl
     ·exact⟨k,tk,rfl,rfl⟩
     ·exact h0
    ·show [k,intOf e0.2].Perm ([x]++[k]);rw[hq];exact .swap x k []
    ·have h3:(q:Nat)≠(p:Nat):=fun e=>hne (_root_.Fin.ext e)
     have h4:¬(p:Nat)<(q:Nat):=eM;show(q:Nat)<(p:Nat)
     lia
  ·simp at hx
end
end
end PySem
namespace PySem
open PyProof.Rows
def oO(val:Nat->Int):Nat->List Int
 | 0=>[]
 | i+1=>lQ (oO val i) (val i)
theorem se(val:Nat->Int):∀i,(oO val i).length<=i
 | 0=>bh _
 | i+1=>by
  have:=se val i;unfold oO lQ;split
  ·lia
  ·simp;lia
section
variable {prog:bJ} {w:aW} {A:bY} {R:Result->aw->Prop} {I:ae} {fp wr:List ae} {G:Array GenState->Array GenState->Prop} {n:Nat} {P:Nat->aj->Prop} {St:Nat->aw->Prop}
theorem zI(W:WalksS prog w A.in1 I fp wr G n P St)(S:ae)(hSf:S∉fp)(val:Nat->Int)(SW:∀i v,P i v->∃t,v=.int (val i) t)(WC:∀i,i<n->0<=val i/\val i<64)(hn:n<=2)(led:Bool) :
  ∀(k i:Nat) (s:aw),n-i=k->i<=n->St i s->(∃es ep t,s.heap.get? S=some (d8 es ep t)/\fW led (oO val i) es t) ->
   (∀s',Moved (S::wr) G s s'->(∃es ep t,s'.heap.get? S=some (d8 es ep t)/\fW led (oO val n) es t)->R (.ok (.ret .none)) s') ->
   codeAny (model prog w) A (.builtin "set.update.loop" ⟨[.ref S,.ref I],[]⟩) R s:=by
 have hSw:S∉wr:=fun h=>hSf (W.sub _ h)
 have JT:∀b∈wr,b∈S::wr:=fun b hb=>bQ _ hb
 intro k;induction k with
 | zero =>
  intro i s hk hi FL hS hR;have EC:i=n:=by lia
  subst EC;refine vS F.entry_set_update_loop ?_;rw[Bz Bt _];show wpAny _ A.in1 (pyNext (.ref I) >>= _) _ _ s;refine av (W.done s _ _ FL fun s' hm=>?_)
  show wpAny _ A.in1 (ret Value.none) _ _ s';exact aK (hR s' (hm.mono JT) (by
   obtain⟨es,ep,t,ho,rest⟩:=hS;exact⟨es,ep,t,hm.heap S _ hSw ho,rest⟩))
 | succ k ih =>
  intro i s hk hi FL hS hR;have eM:i<n:=by lia
  refine vS F.entry_set_update_loop ?_;rw[Bz Bt _];show wpAny _ A.in1 (pyNext (.ref I) >>= _) _ _ s;refine av (W.item i s _ _ eM FL fun v s' hP aby hm=>?_)
  obtain⟨t,rfl⟩:=SW i v hP;obtain⟨es,ep,tb,ho,h2⟩:=hS;have yR:=hm.heap S _ hSw ho;show wpAny _ A.in1 (holding [Value.int (val i) t] (setAdd S (.int (val i) t)) >>= _) _ _ s';refine av (kj ?_);unfold setAdd;refine kj ?_;refine av ((intKind prog w).pyHash (k:=val i) (intKind_is _ _ _ _) ?_);have hl1:=se val i;refine CP (s:={s' with toks:=s'.toks+1}) yR h2 (WC i eM) (by lia) fun b h' ua ep1 t1 hsb hS2 h2'=>?_
  refine aK ⟨plainId_quiet Bt _,ih (i+1) _ (by lia) eM (W.frame _ s' _ _ aby (Nat.le_succ _) fun b hb o e=>?_) ⟨ua,ep1,t1,hS2,h2'⟩ fun MK abA abB=>?_⟩
  ·rw[hsb.2 b (fun h:b=S=>hSf (by rw[<-h];exact hb))];exact e
  ·refine hR MK (Moved.trans W.gtrans ((hm.mono JT).then_heap (Nat.le_succ _) fun b o hb e=>?_) abA) abB
   rw[hsb.2 b (fun h:b=S=>hb (by rw[h];exact b6))];exact e
end
section
variable {prog:bJ} {w:aW} {A:bY} {E:cS} {s:aw}
theorem ub(a:aj){Q₁:cS}
  (h:Q₁ (.ref s.heap.objs.size) {s with heap:=s.heap.push {cls:=.type "set",dict:=none,data:=.set #[] 0 (.fresh 0 0 (!BT w))}}) :
  codeAny (model prog w) A (.call (.builtin "set.__new__") ⟨[.type "set",a],[]⟩) (wants Q₁ E) s:=by
 refine codeAny_of_tree ?_;show wpAny _ A.in1 (do checkBuiltinCall "set.__new__" ⟨[.type "set",a],[]⟩;again (.builtin "set.__new__" ⟨[.type "set",a],[]⟩)) _ _ s
 refine av (wpAny_of_eq (F.newCall_set_1 a) (aK ⟨plainId_quiet F.plain_set_new _,vS F.entry_set_new ?_⟩));rw[Bz F.plain_set_new _];unfold Builtin.«set.__new__» Builtin.Frozenset.newClass;have JT:=sub_set_self;obtain⟨hp,g,d,tk,os⟩:=s;dsimp only
 wp_walk
 refine BP (aK ?_);dsimp only
 simp only[newObj];refine av (wpAny_alloc (aK ?_));exact aK h
end
theorem fW.nil(led:Bool):fW led [] #[] (jD #[] led):=by
 refine⟨fun e he=>?_,List.Perm.refl _,.inl ⟨rfl,rfl,rfl⟩⟩
 cases he
section
variable {prog:bJ} {w:aW} {A:bY} {E:cS} {s:aw}
set_option maxHeartbeats 3200000 in
theorem zJ{l:ae}{items:Array aj}{ns:List Int}{Q:cS}(hh:A.handled=none)(hl:s.heap.IsList l items)(hi:IntsAre items.toList ns)(hb:items.size<=2)(WC:∀i,i<items.size->0<=ns.getD i 0/\ns.getD i 0<64)
  (h:∀(h':Heap) (tk:Nat) es ep t,h'.get? s.heap.objs.size=some (d8 es ep t)->fW (!BT w) (oO (fun i=>ns.getD i 0) items.size) es t->(∀b o,b<s.heap.objs.size->s.heap.get? b=some o->h'.get? b=some o)->Q (.ref s.heap.objs.size) {s with heap:=h',toks:=tk}) :
  wpAny (model prog w) A (call (.type "set") [.ref l]) Q E s:=by
 obtain⟨c,tl,afp⟩:=F.called_set.mro;have adA:=F.called_set.made;have JT:=F.called_set.sub;refine wpAny_call (codeAny_of_tree ?_);show wpAny _ _ (callAny (.type "set") _) _ _ _;refine aK ⟨Code.quiet_builtin _ (by decide +kernel),vS F.entry_type_call ?_⟩
 rw[Around.under_plain (weight_type_call_type "set" [.ref l] []) rfl];have h1:=F.called_set.notType;have h2:=F.called_set.canCreate;have hct:=F.typeCall_set_1 (.ref l)
 repeat (any_goals (first | assumption | wp_step))
 refine mf (ub (.ref l) (E:=E) (Q₁:=fun obj s₁=>obj=.ref s.heap.objs.size/\s₁={s with heap:=s.heap.push {cls:=.type "set",dict:=none,data:=.set #[] 0 (.fresh 0 0 (!BT w))}}) ⟨rfl,rfl⟩) fun r s₁ hr=>?_
 cases r with
 | error e=>exact hr
 | ok fl =>
  cases fl with
  | ret obj =>
   obtain⟨rfl,rfl⟩:=hr;obtain⟨led,WD⟩:∃led,led = !BT w:=⟨_,rfl⟩
   rw[<-WD];have hS:(s.heap.push {cls:=.type "set",dict:=none,data:=.set #[] 0 (.fresh 0 0 led)}).get? s.heap.objs.size=some {cls:=.type "set",dict:=none,data:=.set #[] 0 (.fresh 0 0 led)}:=dZ _ rfl
   have hT:Shared.TypeIs {s with heap:=s.heap.push {cls:=.type "set",dict:=none,data:=.set #[] 0 (.fresh 0 0 led)}} (.ref s.heap.objs.size) "set":=⟨_,hS,rfl⟩
   have hli:=F.called_set.init.lookup;have hbi:=F.called_set.init.bind (.ref s.heap.objs.size)
   repeat (any_goals (first | assumption | wp_step))
   refine mf (codeAny_call_builtin (R:=wants (fun r FN=>r=.none/\∃h' tk,FN={s with heap:=h',toks:=tk} /\
     (∃es ep t,h'.get? s.heap.objs.size=some (d8 es ep t)/\fW led (oO (fun i=>ns.getD i 0) items.size) es t) /\
     (∀b o,b<s.heap.objs.size->s.heap.get? b=some o->h'.get? b=some o)) E) F.called_set.init.plain F.entry_set_init (check_set_init_1 hT ?_)) fun abD FN J4=>?_
   ·obtain⟨ol,UH,hcl,nl,Gx⟩:=hl;obtain⟨afq,WE,adB,SX⟩:=ol;simp only at hcl Gx;subst hcl;subst Gx;have abE:(s.heap.push {cls:=.type "set",dict:=none,data:=.set #[] 0 (.fresh 0 0 led)}).get? l=some {cls:=.type "list",dict:=WE,data:=.seq items nl,slots:=SX}:=cx _ UH
    have afr:=F.sub_list_set;have afs:=F.sub_list_frozenset;have hne:(Value.type "list"==Value.type "dict")=false:=by decide
    have hl1:(s.heap.push {cls:=.type "set",dict:=none,data:=.set #[] 0 (.fresh 0 0 led)}).IsList l items:=⟨_,abE,rfl,nl,rfl⟩
    unfold Builtin.«set.__init__» noKeywords Builtin.Frozenset.updateFrom
    generalize hPI:pyIter=PI
    wp_walk
    subst hPI;refine BF hl1 ?_;refine av (wpAny_runValue ?_);have hlS:l<s.heap.objs.size:=bO UH;have hh3:A.in1.in1.in1.handled=none:=by simp[hh]
    have abF:l≠(s.heap.push {cls:=.type "set",dict:=none,data:=.set #[] 0 (.fresh 0 0 led)}).objs.size:=by
     rw[qP];exact cI (BC hlS)
    have hSf:s.heap.objs.size∉[(s.heap.push {cls:=.type "set",dict:=none,data:=.set #[] 0 (.fresh 0 0 led)}).objs.size,l]:=by
     rw[qP];simp only[bc,cq,eF,eH,not_or];exact⟨cI (BO _),qQ hlS⟩
    have SW:∀(i:Nat) (v:aj),items[i]?=some v->∃t,v=.int ((fun i=>ns.getD i 0) i) t:=fun i v hv =>
     PyProof.Rows.IntsAre.int_at hi i v (by rw[vL];exact hv)
    refine zI ((Walks.list hh3 _ l abF items).toS) s.heap.objs.size hSf (fun i=>ns.getD i 0) SW WC hb led (items.size-0) 0 _ (by lia) (gn _)
     ⟨⟨_,dZ _ rfl,rfl,rfl⟩,(hl1.push _)⟩ ?hS0 ?hR
    case hS0 =>
     exact⟨#[],0,jD #[] led,cx _ hS,fW.nil led⟩
    case hR =>
     intro s' hm hS';obtain⟨h',g',d',SS,Vz⟩:=s';have eg:g'=s.gens:=hm.gens;have ed:d'=s.drawn:=hm.drawn;have eo:Vz=s.os:=hm.os;subst eg;subst ed;subst eo;show wpAny _ _ _ _ _ _;refine aK ?_;show wpAny _ _ (ret Value.none) _ _ _;refine aK ⟨rfl,h',SS,rfl,hS',fun b o hb e=>?_⟩
     have hb1:b≠s.heap.objs.size:=cI hb;have hb2:b≠(s.heap.push {cls:=.type "set",dict:=none,data:=.set #[] 0 (.fresh 0 0 led)}).objs.size:=by
      rw[qP];exact cI (BC hb)
     exact hm.heap b o (by simp only[bc,cq,eF,eH,not_or];exact⟨hb1,hb2⟩) (cx _ (cx _ e))
   ·cases abD with
    | error e=>exact J4
    | ok WG =>
     cases WG with
     | ret r =>
      obtain⟨rfl,h',tk,rfl,⟨es,ep,t,hS',h2'⟩,hk'⟩:=J4
      repeat (any_goals (first | assumption | wp_step))
      exact h _ _ es ep t hS' (by rw[<-WD];exact h2') hk'
     | _=>exact J4.elim
  | _=>exact hr.elim
end
section
variable {prog:bJ} {w:aW} {A:bY} {E:cS} {s:aw} {a:ae} {es:Array (Int×aj)} {ep:Nat} {t:SetTable}
theorem ud{xs:List Int}{Q:cS}(hh:A.handled=none)(hS:s.heap.get? a=some (d8 es ep t))(h2:fW (!BT w) xs es t)
  (h:∀(h1 h':Heap) (tk:Nat) (D:ae) (out:Array aj) (SY:List Int) (e:Nat),(∀b o,s.heap.get? b=some o->h1.get? b=some o)->(∀b o,h1.get? b=some o->h'.get? b=some o)->h1.objs.size<=D->h'.get? D=some (seqObj "list" out e)->IntsAre out.toList SY->SY.Perm xs->SY.Pairwise (· <= ·)->Q (.ref D) {s with heap:=h',toks:=tk}) :
  wpAny (model prog w) A (call (.builtin "sorted") [.ref a]) Q E s:=by
 have g:gq w a ep es t:=h2.good;obtain⟨f1,f2,f3⟩:=h2.fits;refine Calls.call_function_entry kind_sorted plain_sorted entry_sorted (args_sorted1 _) ?_;unfold Builtin.«sorted»;refine av (m:=checkCount "sorted" 1 1 _) (aK ?_);refine av (W.kdu_collect (A:=A.in1) (NS (prog:=prog) g) (by simp[hh]) hS (cF f3 (by decide)) fun h' tk acc hk ue=>?_)
 have abH:acc.toList=(kG w a ep es).toList.map (·.2):=by
  refine List.ext_getElem? fun j=>?_
  rw[cu,vL,vL];by_cases hj:j<es.size
  ·have h1:j<acc.size:=by rw[ue.1];exact hj
   obtain⟨e,he,hv⟩:=ue.2 j acc[j] (by simp[h1])
   rw[he];simp[h1,hv]
  ·have h1:acc[j]?=none:=by
    have:=ue.1;simp;lia
   have h2:(kG w a ep es)[j]?=none:=by
    have:=g.size;simp;lia
   rw[h1,h2];rfl
 have hop:=zF w a ep es;have hI:IntsAre acc.toList ((kG w a ep es).toList.map fun e=>intOf e.2):=by
  rw[abH];exact zG _ fun e he=>by
   obtain⟨k,tk,q,_⟩:=h2.1 e (hop.mem_iff.mp he);exact⟨k,tk,q⟩
 have WH:((kG w a ep es).toList.map fun e=>intOf e.2).Perm xs:=(hop.map _).trans h2.2.1
 have dm:acc.toList.length<=2:=by
  rw[qF,ue.1];exact f3
 refine av (wpAny_newList ?_ (cF dm (by decide)))
 have Vg:(h'.push (seqObj "list" acc.toList.toArray 0)).get? h'.objs.size=some (seqObj "list" acc.toList.toArray 0):=dZ _ rfl;show wpAny _ _ _ _ _ {s with heap:=h'.push (seqObj "list" acc.toList.toArray 0),toks:=tk}
 refine av (kj (ji slot_list_sort ⟨_,Vg,rfl⟩ entry_list_sort (list_sort_tree (s:={s with heap:=h'.push (seqObj "list" acc.toList.toArray 0),toks:=tk}) Vg hI (by lia) fun out SY a1 a2 a3=>⟨_,rfl,?_⟩) (args_list_sort _)))
 obtain⟨e,uf⟩:=sortedHeap_at (out:=out) (vs:=acc.toList) Vg;refine aK ⟨_,rfl,h h' _ tk h'.objs.size out SY e hk (fun b o hb=>?_) (bh _) uf a1 (a2.trans WH) a3⟩
 have eM:b<h'.objs.size:=bO hb;rw[sortedHeap_old (cI eM) (by rw[size_push'];exact BC eM)]
 exact cx _ hb
end
end PySem
namespace L2.PL
open PySem PySem.Spec PyProof.Rows
def J5(ts:bX):FE:=fun ρ=>(ts ρ).bind fun ps=>(iY ps).bind fun ns=>if(ns.length<=2/\ns.all (fun n=>decide (0<=n/\n<64))=true)then some (.au ((nE (oO (fun i=>ns.getD i 0) ns.length)).map .int))else none
section
variable {X:Cx} {H₀ ab:Hp} {es:List aq} {ts:bX} {pos p GG zp lp:Pos}
theorem S0(hh:X.A.handled=none)(hgl:Gl X "sorted")(hml:X.mg "sorted"=none)(hg:Gl X "set")(hm:X.mg "set"=none)(ha:PA X es (tA X.K H₀ ab ts)) :
  PE X (.Call (.Name "sorted" p) [.Call (.Name "set" zp) [.List es lp] [] GG] [] pos) (tE X.K H₀ ab (J5 ts)):=by
 intro ag s σ H Q I ⟨F,ρ,z,Rp,hf,q⟩;obtain⟨ps,f1,hf⟩:=ay hf;obtain⟨ns,f2,hf⟩:=ay hf;obtain⟨⟨Ng,Mh⟩,e0⟩:=aN hf;clear hf;subst e0;have oG:ps.length<=2:=by
  have:∀{l:az} {m:List Int},iY l=some m->l.length=m.length:=fun {l}=>by
   induction l with
   | nil=>intro m h;cases h;rfl
   | cons a l ih =>
    intro m h;cases a with
    | int i =>
     obtain⟨m',h1,h2⟩:=Wx (show(iY l).map (fun ns=>i::ns)=some m from h)
     subst h2;rw[bq,bq,ih h1]
    | _=>cases h
  rw[this f2];exact Ng
 refine l7 (ld_blt I hgl hml boot_sorted ?_ (by decide) (by decide))
 refine HY (JY rfl ?_) rfl rfl;have hA:=Eh (pos:=lp) ha ag s σ H (fun v H'=>∃F' l vs,v=.ref l/\da X.K H₀ ab F' ρ σ H'/\Same F F'/\H' l=some (.au vs)/\bt X.K F' ps vs) I
  ⟨F,ρ,ps,Rp,(by show(ts ρ).bind _=_;rw[f1];exact if_pos (cF oG (by decide))),fun a vs H1 F' R1 s1 b1 hn=>⟨F',a,vs,rfl,R1.Ju (.au vs) hn,s1,aX,b1⟩⟩
 refine Call_ (ld_blt I hg hm boot_set (oe (JY rfl (thn hA fun u s1 ⟨v,H1,I1,r1,F1,l,vs,ev,R1,sm1,hl,b1⟩=>?_)) rfl rfl))
 subst ev;cases r1;obtain⟨aY,r,pl,_⟩:=I1.list (lu.of hl);have ev:=rZ f2 b1;subst ev;have hi:=rF r;have dm:aY.length=ns.length:=by rw[<-r.length,aC]
 have hsz:aY.toArray.size=ns.length:=by rw[bF];exact dm
 refine zJ (items:=aY.toArray) (ns:=ns) hh pl.isList hi (by lia) (fun i hi'=>?_) fun h' tk Vc ep t hS h2 hk=>?_
 ·have EC:i<ns.length:=by lia
  have:=fq.mp Mh _ (vR EC);rw[Bo,du EC];exact qK this
 ·rw[hsz]at h2;have I2:Inv X ag σ H1 {s1 with heap:=h',toks:=tk}:=I1.kept fun b o e=>hk b o (bO e) e
  refine ud (s:={s1 with heap:=h',toks:=tk}) hh hS h2 fun h1 YW SS D out SY e k1 k2 hD uf hI hp hu=>?_
  have I3:Inv X ag σ H1 {s1 with heap:=h1,toks:=SS}:=I2.kept (t':=SS) k1
  have e1:SY=nE (oO (fun i=>ns.getD i 0) ns.length):=W.ksm_same (hp.trans (mn _).symm) hu (zC _)
  subst e1;have hz:H1 D=none:=I3.hok.fresh hD;obtain⟨R2,s2⟩:=R1.laid (.au ((nE (oO (fun i=>ns.getD i 0) ns.length)).map V.int)) hz
  refine⟨.ref D,dX H1 D (.au ((nE (oO (fun i=>ns.getD i 0) ns.length)).map V.int)),I3.laid (t':=SS) k2 hD ⟨?_,out.toList,e,CJ hI,uf⟩,rfl,q _ _ _ R2 (sm1.trans s2) (bB.mpr ⟨_,_,rfl,qj.of aX,oN _⟩)⟩
  rw[aC,(mn _).length_eq];have:=se (fun i=>ns.getD i 0) ns.length
  exact cF this (cF Ng (by decide))
end
def S2:az->Option (List Int)
 | [.int n]=>if 0<=n/\n<=1000 then some (rangeInts 0 1 n.toNat)else none
 | [.int a,.int b]=>if 0<=a/\a<=b/\b<=1000 then some (rangeInts a 1 (b-a).toNat)else none
 | [.int a,.int b,.int c]=>if(-1000<=a/\a<=1000 /\ -1000<=b/\b<=a/\c = -1)then some (rangeInts a (-1) (a-b).toNat)else none
 | _=>none
def lrg(ts:bX):bX:=fun ρ=>(ts ρ).bind fun ps=>(S2 ps).map fun l=>l.map .int
section
variable {X:Cx} {H₀ ab:Hp} {e:aq} {es:List aq} {ts:bX} {pos p GG zp:Pos}
theorem CQ{a c:Int}{n:Nat}{acc:Array aj}(h:ItemsOf (fun(i:Nat) (v:aj)=>∃t:Tok,v=Value.int (a+i*c) t) acc n):Vals ((rangeInts a c n).map V.int) acc.toList:=by
 have:∀(l:cb) (k:Nat),(∀(j:Nat) (v:aj),l[j]?=some v->∃t:Tok,v=Value.int (a+((k+j:Nat):Int)*c) t)->Vals (((List.range' k l.length).map fun(i:Nat)=>a+(i:Int)*c).map V.int) l:=by
  intro l;induction l with
  | nil=>intro k _;exact .nil
  | cons x l ih =>
   intro k hx;obtain⟨t,ht⟩:=hx 0 x rfl;rw[bq,List.range'_succ,bR,bR];refine .cons ⟨t,by rw[ht];rfl⟩ (ih (k+1) fun j v hv=>?_)
   have:=hx (j+1) v (by simpa using hv)
   rw[show k+(j+1)=k+1+j by lia]at this
   exact this
 have h2:=this acc.toList 0 fun j v hv=>by
  rw[jL];exact h.2 j v (by rw[<-vL];exact hv)
 rw[qF,h.1,<-List.range_eq_range']at h2;exact h2
theorem WI(hh:X.A.handled=none)(hgl:Gl X "list")(hml:X.mg "list"=none)(hg:Gl X "range")(hm:X.mg "range"=none)(ha:PA X (e::es) (tA X.K H₀ ab ts))(hs:starEach (e::es) X.env=(false,eval e X.env)::starEach es X.env)(hs2:(backTo GG (starEach es X.env)).any (·.1)=false) :
  PE X (.Call (.Name "list" p) [.Call (.Name "range" zp) (e::es) [] GG] [] pos) (tF X.K H₀ ab (lrg ts)):=by
 intro ag s σ H Q I ⟨F,ρ,zs,Rp,hf,q⟩;obtain⟨ps,f1,hf⟩:=ay hf;obtain⟨ns,f2,e0⟩:=Wx hf;clear hf;subst e0;refine l7 (ld_blt I hgl hml (jP .list) ?_ (by decide) (by decide))
 refine oe (JY rfl ?_) rfl rfl;have hA:=ha GG ag s σ H (fun vs H'=>∃F',da X.K H₀ ab F' ρ σ H'/\Same F F'/\bt X.K F' ps vs) I ⟨F,ρ,ps,Rp,f1,fun vs H1 F1 R1 s1 b1=>⟨F1,R1,s1,b1⟩⟩
 refine Call_ (ld_blt I hg hm boot_range (oe (thn hA fun us s1 ⟨vs,H1,I1,r1,F1,R1,sm1,b1⟩=>?_) hs hs2))
 have fin:∀(r:ae) (h1:Heap) (WJ:Nat) (a b c:Int) (t u v:Tok) (n:Nat),(∀b o,s1.heap.get? b=some o->h1.get? b=some o)->IsRange h1 r a b c t u v->Builtin.Range.small a b c=true->Builtin.Range.rangeSize a b c=n->n<=3000->ns=rangeInts a c n ->
   wpAny (model X.prog X.w) X.A (call (.type "list") [.ref r]) (EP X ag σ Q) X.xe {s1 with heap:=h1,toks:=WJ}:=fun r h1 WJ a b c t u v n hk hr WC hn GI F6=>by
  refine call_list_range (s:={s1 with heap:=h1,toks:=WJ}) hh hr WC hn (by lia) fun h' tk acc c' YQ hS ue=>?_
  have I2:Inv X ag σ H1 {s1 with heap:=h1,toks:=WJ}:=I1.kept (t':=WJ) hk
  have hz:H1 h1.objs.size=none:=I2.hok.fresh (bh _);have hv:=CQ ue;rw[<-F6]at hv;refine⟨.ref h1.objs.size,dX H1 h1.objs.size (.au (ns.map V.int)),I2.laid (t':=tk) YQ (bh _) ⟨?_,acc.toList,c',hv,hS⟩,rfl,q _ _ H1 F1 R1 sm1 (oN ns) hz⟩;rw[aC,F6,rangeInts_length];exact cF GI (by decide)
 unfold S2 at f2;split at f2
 ·rename_i n _;obtain⟨⟨h0,h1⟩,e1⟩:=aN f2;obtain⟨v,rfl,bv⟩:=eK b1;rw[aI.mp bv]at r1;obtain⟨u,rfl,ru⟩:=kx r1;obtain⟨tk0,rfl⟩:=ru;refine call_range_1 ?_;refine fin _ _ _ 0 n 1 _ _ _ n.toNat (fun b o e=>cx _ e) (vZ ..) ?_ ?_ (by lia) e1.symm
  ·exact small_one (by decide) (by decide) (by lia) (by lia)
  ·unfold Builtin.Range.rangeSize;rw[if_pos (by decide)]
   split<;>lia
 ·rename_i a b _;obtain⟨⟨h0,h1,h2⟩,e1⟩:=aN f2;obtain⟨v1,v2,rfl,bv1,bv2⟩:=Eu b1;rw[aI.mp bv1,aI.mp bv2]at r1;obtain⟨u1,u2,rfl,Wn,ru2⟩:=Jd r1;obtain⟨k1,rfl⟩:=Wn;obtain⟨k2,rfl⟩:=ru2;refine call_range_2 ?_;refine fin _ _ _ a b 1 _ _ _ (b-a).toNat (fun b o e=>cx _ e) (vZ ..) (small_one (by lia) (by lia) (by lia) (by lia)) (rangeSize_nat a b) (by lia) e1.symm
 ·rename_i a b c _;obtain⟨⟨h0,h1,h2,h3,rfl⟩,e1⟩:=aN f2;obtain⟨v1,r,rfl,bv1,b1'⟩:=b1.ck;obtain⟨v2,v3,rfl,bv2,bv3⟩:=Eu b1';rw[aI.mp bv1,aI.mp bv2,aI.mp bv3]at r1;cases r1 with
  | cons Wn r1 =>
   obtain⟨u2,u3,rfl,ru2,ru3⟩:=Jd r1;obtain⟨k1,rfl⟩:=Wn;obtain⟨k2,rfl⟩:=ru2;obtain⟨k3,rfl⟩:=ru3;refine call_range_3 (by decide) ?_ (Or.inl (PyProof.noPylong_small (by lia)))
   refine fin _ _ _ a b (-1) _ _ _ (a-b).toNat (fun b o e=>cx _ e) (vZ ..) (W.small_down (by lia) (by lia) (by lia) (by lia)) (W.rangeSize_downNat a b) (by lia) e1.symm
 ·cases f2
end
abbrev YY:=aF->Option Ob
def tO(K:ak)(H₀ ab:Hp)(f:YY):TE:=fun σ H Q=>∃F ρ o,da K H₀ ab F ρ σ H/\f ρ=some o/\∀a H' F',da K H₀ ab F' ρ σ H'->Same F F'->za K F' o a->Q (.ref a) H'
section
variable {X:Cx} {H₀ ab:Hp} {e ke:aq} {es:List aq} {fo:YY} {fe fk:FE} {ts:bX} {pos p sp:Pos} {x:Str} {k n:Nat} {f:ae} {fd:dQ} {ps:List Str} {g:Ob->az->dA}
def spO(K:ak)(n:Nat)(g:Ob->az->dA):Sp:=fun vs H Q E=>∃F o ps e a us,vs=.ref a::us/\Same F H/\za K F o a/\bt K F ps us/\ps.length=n/\g o ps=some e/\Qi K H F Q E e
abbrev abR(X:Cx)(fns:List (Str×Nat))(call:Str->Ob->az->dA):Prop:=∀x n,fns.lookup x=some n->∃k f fd ps,FnOk X.prog X.w X.K X.mg X.base (lK X.prog X.w) k f fd ps (spO X.K n (call x))/\eI k X.A/\X.mg x=some (.ref f)/\W.keepIn X.K (.ref f)=true/\f9 X.K fd ps []
def CS(K:ak)(mg:dM)(P:Params)(T:Str)(b7:List (Str×PV)):Prop :=
 ∃a es n,mg T=some (.ref a)/\K.lookup a=some ⟨.type "dict",none,.dict es n,#[]⟩/\W.KeysLit P es.toList/\∀k p,b7.lookup k=some p->∃u v,W.nsIn K a k=some (some u)/\RelV v u/\∀F,c9 K F p v
def NY(i:Nat)(ρ:aF)(k:PV):bU:=match ρ[i]? with
 | some (.own ps)=>(match k with | .int n=>atI ps n | _=>none)
 | some (.val p)=>aG p k
 | _=>none
def WK(i:Nat)(fk:FE):FE:=fun ρ=>(fk ρ).bind (NY i ρ)
theorem J6{i:Nat}(hx:PE X (.Name x p) (mj i))(hk:PE X ke (tE X.K H₀ ab fk))(hs:kZ ke):PE X (.Subscript (.Name x p) ke sp) (tE X.K H₀ ab (WK i fk)):=by
 intro ag s σ H Q I ⟨F,ρ,pr,R,hf,q⟩;obtain⟨k,h1,h2⟩:=ay hf;unfold NY at h2;split at h2
 ·rename_i ps hp;split at h2
  ·rename_i n;obtain⟨a,vs,e1,e2,e3,e4,e5⟩:=R.own i ps hp;refine yX wu hx hk hs ag s σ H Q I ⟨.ref a,e1,F,ρ,.int n,R,h1,fun w H1 F1 R1 s1 b1=>?_⟩
   obtain⟨a',R9,g1,g2,g3,g4,g5⟩:=R1.own i ps hp;rw[e1]at g1;cases g1;obtain⟨v,hv,bv⟩:=g5.atI h2;exact⟨a,R9,n,v,rfl,aI.mp b1,lu.of g2,hv,q v H1 F1 R1 s1 bv⟩
  ·cases h2
 ·rename_i p' hp;refine Wl (pM (H₀:=H₀) (ab:=ab) i hx) hk hs ag s σ H Q I ⟨F,ρ,pr,R,?_,q⟩;have hr:rd i ρ=some p':=by unfold rd;rw[hp]
  show(rd i ρ).bind (fun a=>(fk ρ).bind fun b=>aG a b)=_
  rw[hr,aV,h1];exact h2
 ·cases h2
def spI(K:ak)(n:Nat)(mk:az->Option (List (Str×Fd))):Sp:=fun vs H Q _=>∃F C dx x us ps fs,vs=.ref x::us/\H x=some (.QY C dx [])/\Uw K C/\F x=none/\Same F H/\bt K F ps us/\ps.length=n/\mk ps=some fs/\(∀f∈fs,oA K C f.1)/\fs.length<=900 /\
 ∀F' H',(∃ws,F' x=some (.QY C dx ws)/\Co K F' fs ws)->Same F' H'->Same F F'->(∀b o,H b=some o->b≠x->H' b=some o)->(∀b o,F' b=some o->b≠x->F b=some o\/H b=none)->Q .cG H'
end
def mr:cy->PV
 | .inl i=>.int i
 | .inr x=>.str x
def GJ:PV->Option cy
 | .int i=>some (.inl i)
 | .str x=>some (.inr x)
 | _=>none
def GL:az->Option (List cy)
 | []=>some []
 | p::r=>(GJ p).bind fun k=>(GL r).map fun ks=>k::ks
def ED:PV->Option (List cy)
 | .aB ps=>if ps.length<1000 then GL ps else none
 | _=>none
def fz(ks:List cy):PV:=.aB (ks.map mr)
def factsOf:az->Option (List (List cy))
 | []=>some []
 | p::r=>(ED p).bind fun k=>(factsOf r).map fun ks=>k::ks
theorem wR{p:PV}{k:cy}(h:GJ p=some k):p=mr k:=by
 cases p<;>first | (cases h;rfl) | cases h
theorem EE:∀{ps:az} {ks:List cy},GL ps=some ks->ps=ks.map mr
 | [],_,h=>by cases h;rfl
 | p::r,ks,h=>by
  obtain⟨k,h1,h⟩:=ay h;obtain⟨l,h2,rfl⟩:=jI.mp h;rw[wR h1,EE h2];rfl
theorem J7{p:PV}{ks:List cy}(h:ED p=some ks):p=fz ks/\ks.length<1000:=by
 cases p with
 | aB ps =>
  obtain⟨hl,h⟩:=aJ (show(if ps.length<1000 then GL ps else none)=some ks from h)
  have e:=EE h;subst e;rw[aC]at hl;exact⟨rfl,hl⟩
 | _=>cases h
theorem mv:∀{ps:az} {ks:List (List cy)},factsOf ps=some ks->ps=ks.map fz/\∀k∈ks,k.length<1000
 | [],_,h=>by cases h;exact⟨rfl,fun _ z=>nomatch z⟩
 | p::r,ks,h=>by
  obtain⟨k,h1,h⟩:=ay h;obtain⟨l,h2,rfl⟩:=jI.mp h;obtain⟨e1,l1⟩:=J7 h1;obtain⟨e2,l2⟩:=mv h2;rw[e1,e2];exact⟨rfl,fun z hz=>(bc.mp hz).elim (fun q=>q▸l1) (l2 z)⟩
section
variable {K:ak} {F F' H H':Hp}
theorem sf{k:cy}{v:V}:c9 K F (mr k) v↔v=kV k:=by
 cases k with
 | inl i=>exact aI
 | inr x=>exact cD
theorem vc:∀{ks:List cy} {vs:List V},bt K F (ks.map mr) vs->vs=ks.map kV
 | [],_,h=>h.cf
 | k::ks,_,h=>by
  obtain⟨v,r,rfl,h1,h2⟩:=h.ck;rw[sf.mp h1,vc h2];rfl
theorem EF{ks:List cy}{v:V}(h:c9 K F (fz ks) v):∃a,v=.ref a/\jm K F a (ks.map kV):=by
 obtain⟨a,vs,rfl,h1,h2⟩:=bM.mp h;rw[vc h2]at h1;exact⟨a,rfl,h1⟩
end
abbrev gK:=List (List cy×Int)
def J8(ks:List (List cy))(k:List cy):Bool:=ks.any fun j=>decide (j=k)
def fm(told:gK)(c:Int)(f:List cy):gK:=if J8 (told.map (·.1)) f=true then told else told++[(f,c)]
def df(told:gK)(c:Int):List (List cy)->gK
 | []=>told
 | f::r=>df (fm told c f) c r
theorem vd(c:Int)(f:List cy):∀(l:List (List cy)) (told:gK),df told c (l++[f])=fm (df told c l) c f
 | [],_=>rfl
 | g::l,told=>vd c f l (fm told c g)
theorem GN(told:gK)(c:Int)(f:List cy):(fm told c f).length<=told.length+1:=by
 unfold fm;split
 ·lia
 ·rw[bK];exact bh _
theorem lb(c:Int):∀(l:List (List cy)) (told:gK),(df told c l).length<=told.length+l.length
 | [],_=>bh _
 | g::l,told=>by
  have h1:=lb c l (fm told c g);have h2:=GN told c g;show(df (fm told c g) c l).length<=_;rw[bq]
  lia
def toldP(t:List cy×Int):PV:=.aB (t.1.map mr++[.int t.2])
def fM(out:List cy->Option (List (List cy))):Nat->Nat->gK->Option gK
 | 0,_,_=>none
 | n+1,k,told=>match told[k]? with
  | none=>some told
  | some t=>(out t.1).bind fun fs=>if told.length+fs.length<gB then fM out n (k+1) (df told k fs)else none
theorem nH{K:ak}{F H:Hp}{ρ:aF}{σ:St}(hs:Same F H)(hn:∀e∈ρ,(∀ps,e≠.own ps)/\∀m,e≠.eW m)(hv:∀(i:Nat) (p:PV),ρ[i]?=some (.val p)->∃v,σ[i]?=some (some v)/\c9 K F p v)
  (ho:∀(i:Nat) (o:Ob),ρ[i]?=some (.ob o)->∃a,σ[i]?=some (some (.ref a))/\za K F o a) (hl:ρ.length=σ.length):da K H F F ρ σ H where
 sub:=hs
 keep:=Same.refl H
 base:=Same.refl F
 fresh:=fun _ _ e=>.inl e
 val:=hv
 own:=fun i ps e=>absurd rfl ((hn _ (cj e)).1 ps)
 apart:=fun i j ps qs a e=>absurd rfl ((hn _ (cj e)).1 ps)
 obs:=ho
 eW:=fun i m e=>absurd rfl ((hn _ (cj e)).2 m)
 len:=hl
def tEx(K:ak)(f:FE):TE:=fun σ H Q=>∃H₀ ab,tE K H₀ ab f σ H Q
theorem WL{X:Cx}{e:aq}{f:FE}(h:∀H₀ ab,PE X e (tE X.K H₀ ab f)):PE X e (tEx X.K f):=fun ag s σ H Q I ⟨H₀,ab,q⟩=>h H₀ ab ag s σ H Q I q
section
variable {X:Cx}
def rKn(K:ak):R2:=fun x y H Q=>∃b d xs k,x=.ref b/\y=.ref d/\Rd H d (.dT xs)/\oI K H xs/\jm K H b (k.map kV)/\Q (.bl (!(atKey xs k).isSome)) H
theorem WM(hu:X.A.units+1<cLine):OpR X (compareOp .NotIn) (rKn X.K):=by
 intro ag s σ H x y v u Q I rx ry ⟨b,d,xs,k,ex,ey,h1,h2,h3,q⟩;subst ex ey;cases rx;cases ry;exact VQ hu I h1 h2 h3 fun s' I'=>⟨.bl (!(atKey xs k).isSome),H,I',rfl,q⟩
def WN(K:ak)(td ty tv:TE):TS:=fun D σ H=>tv σ H fun v H1=>td σ H1 fun x H2=>ty σ H2 fun y H3=>∃a b xs k,x=.ref a/\y=.ref b/\H3 a=some (.dT xs)/\oI K H3 xs/\jm K H3 b (k.map kV)/\xs.length<sizeLine /\
 ∀r,RelV v r->D.nx σ (dX H3 a (.dT (storedH xs k b r)))
theorem NZ{o i value:aq}{td ty tv:TE}{pos gO:Pos}(hu:X.A.units+1<cLine)(ho:PE X o td)(hi:PE X i ty)(hv:PE X value tv)(hs:swapsWith value (some (.Subscript o i gO)) pos.line X.env=pure false) :
  PS X (.Assign [.Subscript o i gO] value pos) (WN X.K td ty tv):=by
 intro ag s σ H D I h;refine wpAny_Assign_Subscript (thn (hv ag s σ H _ I h) fun r s1 ⟨v,H1,I1,rv,q1⟩=>thn (ho ag s1 σ H1 _ I1 q1) fun u s2 ⟨x,H2,I2,rx,q2⟩=>thn (hi ag s2 σ H2 _ I2 q2) fun iv s3 ⟨y,H3,I3,ry,a,b,xs,k,ex,ey,e1,e2,e3,e4,q3⟩=>?_) hs
 subst ex ey;cases rx;cases ry;exact RZ hu I3 e1 e2 e3 e4 fun s4 I4=>⟨σ,_,I4,q3 r rv⟩
end
def sg(p:Nat->Pos):aE :=
 .FunctionDef (name:="tell_new")
  (args:={posonlyargs:=[],args:=[{arg:="told",annotation:=none,pos:=p 0},{arg:="known",annotation:=none,pos:=p 1},{arg:="facts",annotation:=none,pos:=p 2},{arg:="came",annotation:=none,pos:=p 3}],vararg:=none,kwonlyargs:=[],kw_defaults:=[],kwarg:=none,defaults:=[]})
  (body:=[.For (.Name "fact" (p 4)) (.Name "facts" (p 5)) [.If (.Compare (.Name "fact" (p 6)) [.NotIn] [.Name "known" (p 7)] (p 8))
   [.Assign [.Subscript (.Name "known" (p 9)) (.Name "fact" (p 10)) (p 11)] (.Constant (.bool true) 0 (p 12)) (p 13),
   .Expr (.Call (.Attribute (.Name "told" (p 14)) "append" (p 15)) [.BinOp (.Name "fact" (p 16)) .Add (.Tuple [.Name "came" (p 17)] 0 (p 18)) (p 19)] [] (p 20)) (p 21)] [] (p 22)] [] (p 23)])
  (decorator_list:=[]) (returns:=none) (type_params:=[])
  (scope:={kind:=.function,names:=[(Str.ofString "told",.local),(Str.ofString "known",.local),(Str.ofString "facts",.local),(Str.ofString "came",.local),(Str.ofString "fact",.local)],isGenerator:=false,isCoroutine:=false,more:=[]})
  (tscope:=none) (bind:="tell_new") (pos:=p 24)
def iD(p:Nat->Pos):aE :=
 .FunctionDef (name:="spread")
  (args:={posonlyargs:=[],args:=[{arg:="firsts",annotation:=none,pos:=p 0},{arg:="outcomes",annotation:=none,pos:=p 1}],vararg:=none,kwonlyargs:=[],kw_defaults:=[],kwarg:=none,defaults:=[]})
  (body:=[.Assign [.Name "told" (p 2)] (.List [] (p 3)) (p 4),.Assign [.Name "known" (p 5)] (.Dict [] [] (p 6)) (p 7),
   .Expr (.Call (.Name "tell_new" (p 8)) [.Name "told" (p 9),.Name "known" (p 10),.Name "firsts" (p 11),.UnaryOp .USub (.Constant (.int 1) 0 (p 12)) (p 13)] [] (p 14)) (p 15),
   .Assign [.Name "k" (p 16)] (.Constant (.int 0) 0 (p 17)) (p 18),
   .While (.Compare (.Name "k" (p 19)) [.Lt] [.Call (.Name "len" (p 20)) [.Name "told" (p 21)] [] (p 22)] (p 23))
    [.Expr (.Call (.Name "tell_new" (p 24)) [.Name "told" (p 25),.Name "known" (p 26),.Call (.Name "outcomes" (p 27)) [.Subscript (.Subscript (.Name "told" (p 28)) (.Name "k" (p 29)) (p 30)) (.Slice none (some (.UnaryOp .USub (.Constant (.int 1) 0 (p 31)) (p 32))) none (p 33)) (p 34)] [] (p 35),.Name "k" (p 36)] [] (p 37)) (p 38),
    .AugAssign (.Name "k" (p 39)) .Add (.Constant (.int 1) 0 (p 40)) (p 41)] [] (p 42),
   .Return (some (.Name "told" (p 43))) (p 44)])
  (decorator_list:=[]) (returns:=none) (type_params:=[])
  (scope:={kind:=.function,names:=[(Str.ofString "firsts",.local),(Str.ofString "outcomes",.local),(Str.ofString "told",.local),(Str.ofString "known",.local),(Str.ofString "k",.local),(Str.ofString "tell_new",.globalImplicit),(Str.ofString "len",.globalImplicit)],isGenerator:=false,isCoroutine:=false,more:=[]})
  (tscope:=none) (bind:="spread") (pos:=p 45)
abbrev Qx:List Str:=["told","known","facts","came","fact"]
abbrev qt:List Str:=["firsts","outcomes","told","known","k"]
structure zK (K:ak) (F H:Hp) (l d:ae) (told:gK) (ws:List V) (xs:List (List cy×ae×aj)):Prop where
 hl:H l=some (.au ws)
 b:bt K F (told.map toldP) ws
 hd:H d=some (.dT xs)
 ks:xs.map (·.1)=told.map (·.1)
 at_:oI K F xs
 fl:F l=none
 fd:F d=none
theorem zK.to{K:ak}{F H F' H':Hp}{l d:ae}{told:gK}{ws:List V}{xs:List (List cy×ae×aj)}(B:zK K F H l d told ws xs)(f:Same F F')(h:Same H H')(n:∀b o,F' b=some o->F b=some o\/H b=none):zK K F' H' l d told ws xs where
 hl:=h _ _ B.hl
 b:=B.b.mono f
 hd:=h _ _ B.hd
 ks:=B.ks
 at_:=fun x hx=>bA f (B.at_ x hx)
 fl:=by
  cases q:F' l with
  | none=>rfl
  | some o =>
   rcases n l o q with z | z
   ·rw[B.fl]at z;cases z
   ·rw[B.hl]at z;cases z
 fd:=by
  cases q:F' d with
  | none=>rfl
  | some o =>
   rcases n d o q with z | z
   ·rw[B.fd]at z;cases z
   ·rw[B.hd]at z;cases z
structure kH (ab H₀ F H:Hp) (l d:ae):Prop where
 f:Same ab F
 s:Same F H
 k:∀b o,b≠l->b≠d->H₀ b=some o->H b=some o
 n:∀b o,F b=some o->ab b=some o\/H₀ b=none
def EG(K:ak):Sp:=fun vs H Q _=>∃F l d va c told fk ws xs,vs=[.ref l,.ref d,va,.int c]/\Same F H/\zK K F H l d told ws xs/\c9 K F (.au (fk.map fz)) va/\(∀k∈fk,k.length<1000)/\told.length+fk.length<gB /\
 ∀F' H' ws' xs',kH F H F' H' l d->zK K F' H' l d (df told c fk) ws' xs'->Q .cG H'
theorem kH.refl{F H:Hp}{l d:ae}(h:Same F H):kH F H F H l d:=⟨Same.refl F,h,fun _ _ _ _ e=>e,fun _ _ e=>.inl e⟩
section
variable {prog:bJ} {w:aW} {K:ak} {mg:dM} {base:Heap} {p:Nat->Pos} {f:ae} {fd:dQ}
set_option maxHeartbeats 1000000 in
theorem N0(Fn:BS K "tell_new" "tell_new" (sg p) f fd)(S:dW Qx ["told","known","facts","came"] (aM (sg p)))(hp:((p 15).endLine==(p 20).line)=true)(k:Nat):FnOk prog w K mg base (lK prog w) (k+1) f fd ["told","known","facts","came"] (EG K):=by
 refine ND Fn S (fun vs H Q E ⟨F,l,d,va,c,told,fk,ws,xs,e,_⟩=>by rw[e];rfl) fun dG A outer s H vs Q E hr m6=>?_
 obtain⟨F0,l,d,va,c,told,fk,ws,xs,rfl,hs,B0,hfa,hsz,Jp,hq⟩:=m6;have hu:=VM hr;refine⟨_,iU (ps_for BE rfl (D9 (pv 2)) (wa (i:=4) S.nd rfl (Or.inl rfl)) (iU (PX (we (WM hu) (pv 4) (pv 1) rfl)
  (fB (NZ hu (pv 1) (pv 4) PU rfl) (iU (gM (uT og Bq Br oH (pv 0)
   (dF (WL fun H₀ ab=>V0 wL nq (pM 4 (pv 4)) (Qh (rK (pM 3 (pv 3)) ze rfl))) iz rfl) rfl rfl hp rfl rfl)))) D7))),?_⟩
 obtain⟨a,vs,rfl,ha,gJ⟩:=bB.mp hfa;refine⟨_,rfl,a,rfl,⟨vs,(b0 hs ha).sq⟩,IY (K:=K) (xs:=vs) (fun i σ H1=>∃F x ws xs,σ=[some (.ref l),some (.ref d),some (.ref a),some (.int c),x]/\kH F0 H F H1 l d/\zK K F H1 l d (df told c (fk.take i)) ws xs) ?_ ?_ ?_ ?_⟩
 ·exact⟨F0,none,ws,xs,rfl,kH.refl hs,B0⟩
 ·intro i σ H1 hi ⟨F,x,Mi,CU,_,Pa,B⟩;exact(b0 Pa.s (b0 Pa.f ha)).sq
 ·intro i x σ H1 hx ⟨F,y,Mi,CU,e,Pa,B⟩;subst e;obtain⟨pf,hpf,Qf⟩:=gJ.VX hx;rw[cu]at hpf;obtain⟨fc,hf,rfl⟩:=jI.mp hpf;obtain⟨b,rfl,hb⟩:=EF Qf;have tk:df told c (fk.take (i+1))=fm (df told c (fk.take i)) c fc:=by
   rw[List.take_add_one,hf];exact vd c fc _ _
  have hbF:jm K F b (fc.map kV):=bA Pa.f hb;refine⟨.ref b,rfl,.ref d,rfl,b,d,CU,fc,rfl,rfl,.inl B.hd,fun z hz=>bA Pa.s (B.at_ z hz),bA Pa.s hbF,_,rfl,?_⟩
  have zL:=F7 CU fc;rw[B.ks]at zL;by_cases hm:J8 ((df told c (fk.take i)).map (·.1)) fc=true
  ·have SV:(atKey CU fc).isSome=true:=zL.trans hm;rw[SV];refine VN ⟨F,some (.ref b),Mi,CU,rfl,Pa,?_⟩;rw[tk,fm,if_pos hm];exact B
  ·have SV:(atKey CU fc).isSome=false:=by
    rw[zL];exact Bool.eq_false_iff.mpr hm
   rw[SV];have FW:atKey CU fc=none:=by
    cases z:atKey CU fc with
    | none=>rfl
    | some q=>rw[z]at SV;cases SV
   have dm:(df told c (fk.take i)).length<=told.length+fk.length:=cF (lb c _ told) (by rw[oq];lia)
   have hxl:CU.length<sizeLine:=by
    have e1:CU.length=(df told c (fk.take i)).length:=by rw[<-aC (f:=(·.1)),B.ks,aC]
    rw[e1];exact cQ (jJ dm Jp) (fx (bh _))
   refine VO ⟨.ref d,rfl,.ref b,rfl,d,b,CU,fc,rfl,rfl,B.hd,fun z hz=>bA Pa.s (B.at_ z hz),bA Pa.s hbF,hxl,fun r YZ=>?_⟩
   rw[storedH_new FW];have Gx:l≠d:=IK B.hl B.hd (fun z=>nomatch z)
   have sF:Same F (dX H1 d (.dT (CU++[(fc,b,r)]))):=fun z o e=>by
    rw[aR (ne_of_none e B.fd)];exact Pa.s _ _ e
   refine⟨.ref l,rfl,.inl ⟨rfl,Mi,lu.of ((aR Gx).trans B.hl)⟩,_,F,F,[.un,.un,.un,.val (.int c),.val (fz fc)],.aB (fc.map mr++[.int c]),nH sF (fun e he=>?_) (fun j q e=>?_) (fun j o e=>?_) rfl,?_,fun v H2 F2 R2 s2 b2=>?_⟩
   ·simp only[bc,eF,eH]at he;rcases he with rfl | rfl | rfl | rfl | rfl<;>exact⟨(fun _ z=>by cases z),(fun _ z=>by cases z)⟩
   ·match j,e with
    | 3,e=>cases e;exact⟨_,rfl,aI.mpr rfl⟩
    | 4,e=>cases e;exact⟨_,rfl,Qf.mono Pa.f⟩
   ·exact absurd (cj e) (by simp)
   ·have Qy:=hsz fc (cj hf);have h1:bW (fz fc) (.aB [.int c])=some (.aB (fc.map mr++[.int c])):=by
     show sizeOk ((fc.map mr).length+1) _=_;unfold sizeOk;rw[if_pos (by rw[aC];exact cF Qy (by decide))]
    show(if(1:Nat)<=gB then some (PV.aB [.int c])else none).bind (fun y=>bW (fz fc) y)=_
    rw[if_pos (by decide)]
    exact h1
   ·have nl:F2 l=none:=by
     cases q:F2 l with
     | none=>rfl
     | some o =>
      rcases R2.fresh l o q with z | z
      ·rw[B.fl]at z;cases z
      ·rw[aR Gx,B.hl]at z;cases z
    have nd:F2 d=none:=by
     cases q:F2 d with
     | none=>rfl
     | some o =>
      rcases R2.fresh d o q with z | z
      ·rw[B.fd]at z;cases z
      ·rw[aX]at z;cases z
    have Ng:H2 l=some (.au Mi):=R2.keep _ _ ((aR Gx).trans B.hl);have P8:Mi.length<sizeLine:=by
     have e1:Mi.length=(df told c (fk.take i)).length:=by rw[<-B.b.length,aC]
     rw[e1];exact cQ (jJ dm Jp) (fx (bh _))
    refine⟨l,Mi,v,rfl,rfl,Ng,P8,F2,some (.ref b),Mi++[v],CU++[(fc,b,r)],rfl,⟨Pa.f.trans R2.base,fun z o e=>?_,fun z o h1 h2 e=>?_,fun z o e=>?_⟩,?_⟩
    ·rw[aR (ne_of_none e nl)];exact R2.sub _ _ e
    ·rw[aR h1];exact R2.keep _ _ (by rw[aR h2];exact Pa.k z o h1 h2 e)
    ·rcases R2.fresh z o e with q | q
     ·exact Pa.n z o q
     ·refine .inr ?_;cases hz:H z with
      | none=>rfl
      | some o' =>
       have h1:z≠l:=fun y=>by rw[y,nl]at e;cases e
       have h2:z≠d:=fun y=>by rw[y,nd]at e;cases e
       rw[aR h2,Pa.k z o' h1 h2 hz]at q;cases q
    ·rw[tk,fm,if_neg hm];refine⟨aX,?_,?_,?_,fun z hz=>?_,nl,nd⟩
     ·rw[cY];exact(B.b.mono R2.base).append (.cons b2 .nil)
     ·rw[aR (er Gx)];exact R2.keep _ _ aX
     ·rw[cY,cY,B.ks];rfl
     ·rcases cR.mp hz with hz | hz
      ·exact bA R2.base (B.at_ z hz)
      ·obtain rfl:z=(fc,b,r):=by simpa using hz
       exact bA R2.base hbF
 ·intro σ H1 ⟨F,x,Mi,CU,_,Pa,B⟩;refine hq F H1 Mi CU Pa ?_;have e1:vs.length=fk.length:=by rw[<-gJ.length,aC]
  rw[e1,List.take_length]at B;exact B
end
def J9(X:Cx)(fD:Hp)(fa:ae)(out:List cy->Option (List (List cy))):Prop:=∀(ag:List (ae×Obj)) (s:aw) (σ:St) (H F:Hp) (b:ae) (f:List cy) (fk:List (List cy)) (Q:VK),Inv X ag σ H s->Same fD F->Same F H->c9 X.K F (fz f) (.ref b)->out f=some fk ->
 (∀v H' F',Same H H'->Same F F'->Same F' H'->(∀a o,F' a=some o->F a=some o\/H a=none)->c9 X.K F' (.au (fk.map fz)) v->Q v H')->wpAny (model X.prog X.w) X.A (call (.ref fa) [.ref b]) (EP X ag σ Q) X.xe s
def WO(K:ak)(fD:Hp)(out:List cy->Option (List (List cy)))(Q:VK):List V->Hp->Prop
 | [v],H1=>∃F b f fk,v=.ref b/\Same fD F/\Same F H1/\c9 K F (fz f) (.ref b)/\out f=some fk /\
  ∀v' H' F',Same H1 H'->Same F F'->Same F' H'->(∀a o,F' a=some o->F a=some o\/H1 a=none)->c9 K F' (.au (fk.map fz)) v'->Q v' H'
 | _,_=>False
def abT(K:ak)(fD:Hp)(fa:ae)(out:List cy->Option (List (List cy)))(i:Nat)(te:TE):TE:=fun σ H Q=>σ[i]?=some (some (.ref fa))/\te σ H fun v H1=>WO K fD out Q [v] H1
theorem S3{X:Cx}{fD:Hp}{fa:ae}{out:List cy->Option (List (List cy))}{i:Nat}{y:Str}{p pos:Pos}{e:aq}{te:TE}{o:Obj}{u:HO}{S4:dQ}(hy:PE X (.Name y p) (mj i))(ha:PE X e te)(UI:X.H₀ fa=some (.lF o u))(hfd:o.data=.func S4)(L:J9 X fD fa out)
  (he:starEach [e] X.env=(false,eval e X.env)::starEach [] X.env:=by rfl):PE X (.Call (.Name y p) [e] [] pos) (abT X.K fD fa out i te):=by
 intro ag s σ H Q I ⟨e1,h⟩;refine l7 (thn (hy ag s σ H (fun v H1=>v=.ref fa/\H1=H) I ⟨_,e1,rfl,rfl⟩) fun v s1 ⟨z,H1,I1,rx,ex,eh⟩=>?_)
 subst ex eh;cases rx;have hP:∀{cn:St} {H':Hp} {s':aw},Inv X ag cn H' s'->s'.heap.get? fa=some o:=fun {cn H' s'} J=>(J.hok fa _ (J.base.frzs fa o u UI)).1
 have hk:∀h:Heap,h.get? fa=some o->∃k,(k=Keeper.frame\/k=Keeper.machine\/k=Keeper.boundFrame)/\W.Looks (model X.prog X.w) h (keeperOf (.ref fa)) k:=fun h ho=>by
  obtain⟨c1,c2,c3,c4⟩:=o;cases hfd;exact⟨.frame,.inl rfl,(W.Looks.ld (part:=none) ho).andThen .now⟩
 have Qz:wpAny (model X.prog X.w) X.A (spliced (backTo pos (starEach [e] X.env))) (fun us s2=>s2.heap.get? fa=some o/\wpAny (model X.prog X.w) X.A (call (.ref fa) ([]++us)) (EP X ag σ Q) X.xe s2) X.xe s1 :=
  thn ((dF ha iz he) pos ag s1 σ H1 (WO X.K fD out Q) I1 h) fun us s2 ⟨vs,H2,I2,r,q⟩=>⟨hP I2,by
   match vs,r,q with
   | [v],r,⟨F,b,f,fk,ev,q1,q2,q3,q4,q5⟩ =>
    subst ev;obtain⟨u2,rfl,ru⟩:=kx r;cases ru;exact L ag s2 σ H2 F b f fk Q I2 q1 q2 q3 q4 q5⟩
 rw[he]at Qz ⊢;exact W.callWith_of (P:=fun h=>h.get? fa=some o) rfl hk (PySem.Calls.evalArgs_plain Qz)
theorem kH.trans{F0 H0 F H F' H':Hp}{l d:ae}(P1:kH F0 H0 F H l d)(P2:kH F H F' H' l d)(nl:F' l=none)(nd:F' d=none):kH F0 H0 F' H' l d:=by
 refine⟨P1.f.trans P2.f,P2.s,fun b o h1 h2 e=>P2.k b o h1 h2 (P1.k b o h1 h2 e),fun b o e=>?_⟩
 rcases P2.n b o e with q | q
 ·exact P1.n b o q
 ·refine .inr ?_;cases hz:H0 b with
  | none=>rfl
  | some o' =>
   have h1:b≠l:=fun y=>by rw[y,nl]at e;cases e
   have h2:b≠d:=fun y=>by rw[y,nd]at e;cases e
   rw[P1.k b o' h1 h2 hz]at q;cases q
theorem kH.of{F H F' H':Hp}{l d:ae}(h1:Same H H')(h2:Same F F')(h3:Same F' H')(h4:∀b o,F' b=some o->F b=some o\/H b=none):kH F H F' H' l d:=⟨h2,h3,fun b o _ _ e=>h1 b o e,h4⟩
def N1(H:Hp)(l:ae):Hp:=fun b=>if b=l then none else H b
theorem wU{H:Hp}{l:ae}:N1 H l l=none:=if_pos rfl
theorem iZ{H:Hp}{l b:ae}(h:b≠l):N1 H l b=H b:=if_neg h
theorem Ka(ps:az)(c:PV):jo (ps++[c]) none (some (-1))=ps:=by
 have h0:HT.eV (ps++[c]).length 0 none=0:=by simp[HT.eV]
 have h1:HT.eV (ps++[c]).length (ps++[c]).length (some (-1))=ps.length:=by
  show(if(-1:Int)<0 then((-1:Int)+(((ps++[c]).length:Nat):Int)).toNat else min (-1:Int).toNat (ps++[c]).length)=_
  rw[if_pos (by decide),bK]
  show(-1+((ps.length+1:Nat):Int)).toNat=_
  lia
 unfold jo;rw[h0,h1,List.drop_zero,Nat.sub_zero,List.take_left]
section
variable {prog:bJ} {w:aW} {K:ak} {mg:dM} {base:Heap} {p:Nat->Pos} {f fT fa:ae} {EH:dQ} {dG:aj} {A:bY} {outer:List Env} {s:aw} {H:Hp} {E:XK} {k:Nat} {o:Obj} {u:HO} {S4:dQ} {fD:Hp} {out:List cy->Option (List (List cy))}
abbrev cxS(prog:bJ)(w:aW)(K:ak)(mg:dM)(base:Heap)(p:Nat->Pos)(f:ae)(dG:aj)(A:bY)(outer:List Env)(s:aw)(H:Hp)(E:XK):Cx:=ly (lK prog w) prog w K mg base qt "spread" (aM (iD p)) f dG A outer s H E
set_option maxHeartbeats 1000000 in
theorem zM(S:dW qt ["firsts","outcomes"] (aM (iD p)))(FT:FnOk prog w K mg base (lK prog w) k fT EH ["told","known","facts","came"] (EG K)) (hr:eI k (A.deeper (envOfC "spread" (aM (iD p)) s.heap.objs.size f dG))) (mT:mg "tell_new"=some (.ref fT)) (kT:W.keepIn K (.ref fT)=true)
  (bT:f9 K EH ["told","known","facts","came"] []) (mL:mg "len"=none) (UI:H fa=some (.lF o u)) (hfd:o.data=.func S4) (L:J9 (cxS prog w K mg base p f dG A outer s H E) fD fa out) (hsz:∀f fk,out f=some fk->∀x∈fk,x.length<1000)
  {va:V} {S5:List (List cy)} {n:Nat} {res:gK} {Q:VK} (h1:Same fD H) (h2:c9 K fD (.au (S5.map fz)) va) (h3:∀x∈S5,x.length<1000) (h4:S5.length<gB) (h5:fM out n 0 (df [] (-1) S5)=some res)
  (hq:∀l ws F' H',Same H H'->Same fD F'->Same F' H'->(∀b o,F' b=some o->fD b=some o\/H b=none)->H l=none->F' l=none->H' l=some (.au ws)->bt K F' (res.map toldP) ws->Q (.ref l) H') :
  ∃t,oD (cxS prog w K mg base p f dG A outer s H E) (dz (iD p)) t/\t {nx:=fun _ H'=>Q .cG H',rt:=Q} (start qt [va,.ref fa]) H:=by
 refine⟨_,fB (wb (i:=2) S.nd rfl (Or.inl rfl) (Je iz)) (fB (wb (i:=3) S.nd rfl (Or.inl rfl) MV)
  (fB (gM (ql FT hr rfl mT kT bT .nil rM (dF (pv 2) (dF (pv 3) (dF (pv 0) (dF (PZ IZ v9) iz))))))
  (fB (wb (i:=4) S.nd rfl (Or.inl rfl) v9)
  (fB (IT BE (we P5 (pv 4) (m7 jN rfl mL PySem.boot_len (dF (pv 2) iz)) rfl)
   (fB (gM (ql FT hr rfl mT kT bT .nil rM (dF (pv 2) (dF (pv 3) (dF (S3 (i:=1) (pv 1) (WL fun H₀ ab=>Qo (J6 (i:=2) (pv 2) (pM 4 (pv 4)) (fun _ _=>rfl)) JL (JM (Qp Qg))) UI hfd L) (dF (pv 4) iz))))))
    (iU (IS (i:=4) (ti:=Cc fun i j=>.int (i+j)) S.nd rfl (Or.inl rfl) v9 (fun ag s σ H x y v u Q I r1 r2 t=>iop_add ag s σ H x y v u Q I r1 r2 t)))))
  (iU (B7 (pv 2))))))),?_⟩
 refine⟨gn _,fun l hl=>?_⟩
 intro d hd;have Y0:l≠d:=fun z=>by rw[z,aX]at hd;cases hd
 have hHd:H d=none:=by rw[aR (er Y0)]at hd;exact hd
 have sH2:Same H (dX (dX H l (.au [])) d (.dT [])):=fun b ob e=>by rw[aR (ne_of_none e hHd),aR (ne_of_none e hl)];exact e
 have fl:fD l=none:=h1.free hl;have fdn:fD d=none:=h1.free hHd;refine⟨_,rfl,_,rfl,_,rfl,1,rfl,fD,l,d,va,-1,[],S5,[],[],rfl,h1.trans sH2,⟨?_,.nil,aX,rfl,(fun _ z=>by cases z),fl,fdn⟩,h2,h3,by rw[jk,jL];exact h4,fun F2 H2 ws2 xs2 Y1 B2=>?_⟩
 ·rw[aR Y0,aX]
 have P0:kH fD H F2 H2 l d:=⟨Y1.f,Y1.s,fun b ob e1 e2 e=>Y1.k b ob e1 e2 (sH2 _ _ e),fun b ob e=>by
  rcases Y1.n b ob e with q | q
  ·exact .inl q
  ·exact .inr (sH2.free q)⟩
 have hl0:(df [] (-1) S5).length<gB:=jJ (lb (-1) S5 []) (by rw[jk,jL];exact h4)
 refine⟨fun m σ H1=>∃(j:Nat) (told:gK) (F:Hp) (ws:List V) (xs:List (List cy×ae×aj)),σ=[some va,some (.ref fa),some (.ref l),some (.ref d),some (.int j)]/\fM out m j told=some res/\kH fD H F H1 l d/\zK K F H1 l d told ws xs/\told.length<gB,
  ⟨n,0,_,F2,ws2,xs2,rfl,h5,P0,B2,hl0⟩,?_⟩
 rintro m σ H1 ⟨j,told,F,ws,xs,rfl,m6,Pa,B,Jp⟩
 have P8:ws.length=told.length:=by rw[<-B.b.length,aC]
 refine⟨_,rfl,_,rfl,l,ws,rfl,.inl (lu.of B.hl),j,ws.length,rfl,rfl,_,rfl,?_⟩;cases m with
 | zero=>cases m6
 | succ m =>
  cases ht:told[j]? with
  | none =>
   have m6:(match told[j]? with | none=>some told | some t=>(out t.1).bind fun fs=>if told.length+fs.length<gB then fM out m (j+1) (df told j fs)else none)=some res:=m6
   rw[ht]at m6;cases m6;have Y2:res.length<=j:=lY.mp ht;rw[eG (by rw[P8];lia)]
   refine VN ⟨_,rfl,hq l ws F H1 (fun b ob e=>Pa.k b ob (fun z=>by rw[z,hl]at e;cases e) (fun z=>by rw[z,hHd]at e;cases e) e) Pa.f Pa.s Pa.n hl B.fl B.hl B.b⟩
  | some t =>
   have m6:(match told[j]? with | none=>some told | some t=>(out t.1).bind fun fs=>if told.length+fs.length<gB then fM out m (j+1) (df told j fs)else none)=some res:=m6
   rw[ht]at m6;obtain⟨fk,N2,m6⟩:=ay m6;obtain⟨QA,m6⟩:=aJ m6;have Y2:j<told.length:=(cP.mp ht).1;rw[fQ (by rw[P8];lia)]
   refine VO ⟨_,fun cn H' z=>⟨m,BO m,z⟩,?_⟩
   have S6:∀(i:Nat) (q:az),([.un,.un,.own (told.map toldP),.un,.val (.int j)]:aF)[i]?=some (.own q)->i=2/\q=told.map toldP:=fun i q e=>by
    match i,e with
    | 2,e=>cases e;exact⟨rfl,rfl⟩
    | i+3,e=>exact absurd (cj (show([.un,.val (.int j)]:aF)[i]?=some (.own q)from e)) (by simp)
   refine⟨_,rfl,_,rfl,rfl,N1 H1 l,F,F,[.un,.un,.own (told.map toldP),.un,.val (.int j)],fz t.1,?_,?_,fun v H3 F3 R3 s3 b3=>?_⟩
   ·exact {
     sub:=Pa.s
     keep:=fun b ob e=>by
      by_cases z:b=l
      ·subst z;rw[wU]at e;cases e
      ·rw[iZ z]at e;exact e
     base:=Same.refl F
     fresh:=fun _ _ e=>.inl e
     val:=fun i q e=>by
      match i,e with
      | 4,e=>cases e;exact⟨_,rfl,aI.mpr rfl⟩
     own:=fun i q e=>by
      obtain⟨rfl,rfl⟩:=S6 i q e;exact⟨l,ws,rfl,B.hl,wU,B.fl,B.b⟩
     apart:=fun i1 i2 q1 q2 a e1 e2 _ _=>by
      rw[(S6 i1 q1 e1).1,(S6 i2 q2 e2).1]
     obs:=fun i q e=>absurd (cj e) (by simp)
     eW:=fun i q e=>absurd (cj e) (by simp)
     len:=rfl}
   ·show((NY 2 [.un,.un,.own (told.map toldP),.un,.val (.int j)] (.int j)).bind fun q=>Nt none (some (-1)) q)=_
    have e1:NY 2 [.un,.un,.own (told.map toldP),.un,.val (.int j)] (.int j)=some (toldP t):=by
     show atI (told.map toldP) (j:Int)=_;exact dk (by rw[cu,ht];rfl)
    rw[e1];show some (PV.aB (jo (t.1.map mr++[.int t.2]) none (some (-1))))=_;rw[Ka];rfl
   ·obtain⟨b,rfl,hb⟩:=EF b3;obtain⟨l',ws3,g1,g2,_,g4,g5⟩:=R3.own 2 _ rfl;cases g1;have gd:H3 d=some (.dT xs):=R3.keep _ _ (by rw[iZ (er Y0)];exact B.hd)
    have nd3:F3 d=none:=by
     cases q:F3 d with
     | none=>rfl
     | some ob =>
      rcases R3.fresh d ob q with z | z
      ·rw[B.fd]at z;cases z
      ·rw[iZ (er Y0),B.hd]at z;cases z
    have B3:zK K F3 H3 l d told ws3 xs:=⟨g2,g5,gd,B.ks,fun x hx=>bA R3.base (B.at_ x hx),g4,nd3⟩
    have P3:kH F H1 F3 H3 l d:=⟨R3.base,R3.sub,fun b ob e1 _ e=>R3.keep _ _ (by rw[iZ e1];exact e),fun b ob e=>by
     rcases R3.fresh b ob e with q | q
     ·exact .inl q
     ·refine .inr ?_;have e1:b≠l:=fun y=>by rw[y,g4]at e;cases e
      rw[iZ e1]at q;exact q⟩
    refine⟨F3,b,t.1,fk,rfl,Pa.f.trans R3.base,R3.sub,b3,N2,fun v' H4 F4 z1 z2 z3 z4 z5=>?_⟩
    have B4:=B3.to z2 z1 z4;have P4:kH F3 H3 F4 H4 l d:=kH.of z1 z2 z3 z4;have Pa4:kH fD H F4 H4 l d:=(Pa.trans P3 g4 nd3).trans P4 B4.fl B4.fd;refine⟨_,rfl,F4,l,d,v',j,told,fk,ws3,xs,rfl,z3,B4,z5,hsz _ _ N2,QA,fun F5 H5 ws5 xs5 Pa5 B5=>?_⟩
    refine⟨_,rfl,j,1,rfl,rfl,j+1,df told j fk,F5,ws5,xs5,rfl,m6,Pa4.trans Pa5 B5.fl B5.fd,B5,jJ (lb j fk told) QA⟩
end
def zN(fb:FE)(wV:aF)(f:List cy):Option (List (List cy)):=(fb (.val (fz f)::wV)).bind fun q=>match q with
 | .au fs=>factsOf fs
 | _=>none
theorem ve{fb:FE}{wV:aF}{f:List cy}{fk:List (List cy)}(h:zN fb wV f=some fk):fb (.val (fz f)::wV)=some (.au (fk.map fz))/\∀x∈fk,x.length<1000:=by
 obtain⟨q,h1,h2⟩:=ay h;cases q with
 | au fs =>
  obtain⟨e,l⟩:=mv h2;rw[e]at h1;exact⟨h1,l⟩
 | _=>cases h2
structure N3 (K:ak) (F:Hp) (wV:aF) (τ:St):Prop where
 no:∀e∈wV,(∀ps,e≠.own ps)/\∀m,e≠.eW m
 val:∀(i:Nat) (p:PV),wV[i]?=some (.val p)->∃v,τ[i]?=some (some v)/\c9 K F p v
 obs:∀(i:Nat) (o:Ob),wV[i]?=some (.ob o)->∃a,τ[i]?=some (some (.ref a))/\za K F o a
 len:wV.length=τ.length
theorem N3.rep{K:ak}{fD F H:Hp}{wV:aF}{τ:St}(C:N3 K fD wV τ)(f:Same fD F)(h:Same F H){p:PV}{v:V}(b:c9 K F p v):da K H F F (.val p::wV) (some v::τ) H:=by
 refine nH h (fun e he=>?_) (fun i q e=>?_) (fun i q e=>?_) ?_
 ·rcases bc.mp he with rfl | he
  ·exact⟨(fun _ z=>by cases z),(fun _ z=>by cases z)⟩
  ·exact C.no e he
 ·cases i with
  | zero=>cases e;exact⟨v,rfl,b⟩
  | succ i =>
   obtain⟨x,h1,h2⟩:=C.val i q (by simpa using e)
   exact⟨x,by simpa using h1,h2.mono f⟩
 ·cases i with
  | zero=>cases e
  | succ i =>
   obtain⟨x,h1,h2⟩:=C.obs i q (by simpa using e)
   exact⟨x,by simpa using h1,h2.mono f⟩
 ·rw[bq,bq,C.len]
theorem S7{X:Cx}{fD:Hp}{fa:ae}{qual x:Str}{params:Arguments}{body:aq}{scope:Scope}{cl:List (Str×ae)}{N:List Str}{τ:St}{wV:aF}{fb:FE}{k:Nat}(hex:X.ex=[])(hL:Jt X.H₀ fa qual params body scope cl)(hC:ky X.s₀.heap X.H₀ scope cl N τ)(hF:N3 X.K fD wV τ)(hr:eI (k+1) X.A)
  (hb:∀(pm dG F8 u:aj),bindArgs (W.kla_fn "<lambda>" qual params body scope cl pm dG F8) ⟨[u],[]⟩=pure [(x,u)]) (hk:scope.kind=.function) (VR:scope.isCoroutine=false) (R0:scope.isGenerator=false) (hx:scope.names.lookup x=some .local) (nc:∀y∈scope.names,y.2≠.cell)
  (hbody:∀(dG:aj) (s:aw) (H H₀ ab:Hp),eI k (X.A.deeper (W.envX qual scope s.heap.objs.size fa dG cl))->PE (UD (lK X.prog X.w) X.prog X.w X.K X.mg X.base (x::N) qual scope fa dG cl X.A X.stack s H E0) body (tE X.K H₀ ab fb)):J9 X fD fa (zN fb wV):=by
 intro ag s σ H F b f fk Q I s1 s2 bf ho q;obtain⟨h1,h2⟩:=ve ho;obtain⟨o,u,pm,dG,F8,c,oc,uc,vs,t,k1,k2,rfl,k3,k4,k5⟩:=hL;have g1:s.heap.get? fa=some o:=(I.hok fa _ (I.base.frzs fa o u k1)).1;have g2:s.heap.get? c=some oc:=(I.hok c _ (I.base.frzs c oc uc k3)).1;have C:ky s.heap H scope cl N τ:=hC.un (by have:=I.base;rw[hex]at this;exact this)
 refine wpAny_call (mf (MX (CX:=lK X.prog X.w) (E:=E0) (x:=x) (N:=N) (τ:=τ) (v:=.ref b) g1 k2 ⟨c,oc,vs,t,rfl,g2,k4,k5⟩ hr I.RL (hb _ _ _ _) rfl hk VR R0 hx nc C ⟨_,hbody (.ref c) s H H F (hr.deeper _),F,.val (fz f)::wV,_,hF.rep s1 s2 bf,h1,fun v H' F' R' s' b'=>q v H' F' R'.keep s' R'.sub R'.fresh b'⟩) fun r s' hq=>?_)
 cases r with
 | error e=>exact rM ag σ H s e s' I hq
 | ok fl =>
  cases fl with
  | ret u=>exact I.after hq
  | next=>exact False.elim hq
  | brk=>exact False.elim hq
  | cont=>exact False.elim hq
def vg:Nat:=5000
def lg(fe fb:FE)(link:List (Option Nat)):bX:=fun ρ=>(fe ρ).bind fun q=>match q with
 | .au fs=>(factsOf fs).bind fun fk=>if fk.length<gB then(fM (zN fb (bj link ρ)) vg 0 (df [] (-1) fk)).map fun told=>told.map toldP else none
 | _=>none
theorem wW{fe fb:FE}{link:List (Option Nat)}{ρ:aF}{ps:az}(h:lg fe fb link ρ=some ps):∃fk told,fe ρ=some (.au (fk.map fz))/\(∀x∈fk,x.length<1000)/\fk.length<gB/\fM (zN fb (bj link ρ)) vg 0 (df [] (-1) fk)=some told/\ps=told.map toldP:=by
 obtain⟨q,h1,h⟩:=ay h;cases q with
 | au fs =>
  obtain⟨fk,h2,h⟩:=ay (show(factsOf fs).bind _=some ps from h)
  obtain⟨h3,h⟩:=aJ h;obtain⟨told,h4,rfl⟩:=jI.mp h;obtain⟨e,l⟩:=mv h2;rw[e]at h1;exact⟨fk,told,h1,l,h3,h4,rfl⟩
 | _=>cases h
theorem N4{K:ak}{H₀ ab F H:Hp}{ρ:aF}{σ:St}(R:da K H₀ ab F ρ σ H)(link:List (Option Nat)):N3 K F (bj link ρ) (inner link σ):=by
 have R':=R.inner link;refine⟨fun e he=>?_,R'.val,R'.obs,R'.len⟩
 obtain⟨i,hi⟩:=vM he;rcases dq hi with rfl | ⟨j,q,_,_,rfl⟩ | ⟨j,q,_,_,rfl⟩<;>exact⟨(fun _ z=>by cases z),(fun _ z=>by cases z)⟩
structure sh (X:Cx) (x:Str) (N:List Str) (link:List (Option Nat)) (scope:Scope):Prop where
 kind:scope.kind=.function
 co:scope.isCoroutine=false
 gen:scope.isGenerator=false
 par:scope.names.lookup x=some .local
 cell:∀y∈scope.names,y.2≠.cell
 free:∀y∈scope.names,y.2=.free->(X.env.kindOf y.1=some .cell\/X.env.kindOf y.1=some .free)
 len:link.length=N.length
 link:∀(i j:Nat) (y:Str),link[i]?=some (some j)->N[i]?=some y->X.N[j]?=some y/\scope.names.lookup y=some .free
theorem N5{X:Cx}{ag:List (ae×Obj)}{σ:St}{H:Hp}{s:aw}{x:Str}{N:List Str}{link:List (Option Nat)}{scope:Scope}(I:Inv X ag σ H s)(S:sh X x N link scope):ky s.heap H scope (j4 X.env scope.names []) N (inner link σ) where
 inj:=fun y z c h1 h2=>I.ok.inj y z c (cM h1) (cM h2)
 has:=fun y hy=>by
  have hm:=el hy;obtain⟨c,hc⟩:=I.ok.has y (S.free _ hm rfl);obtain⟨c',h'⟩:=kz (env:=X.env) scope.names [] hm ⟨c,hc⟩;cases z:(j4 X.env scope.names []).lookup y with
  | some c2=>exact⟨c2,rfl⟩
  | none=>exact absurd h' (by intro hh;have:=List.lookup_eq_none_iff.mp z (y,c') hh;simp at this)
 cell:=fun y c h=>I.cell y c (cM h)
 free:=fun y c h=>I.freeC y c (cM h)
 val:=fun i y v h1 h2=>by
  unfold L2.PL.inner at h2;rw[cu]at h2;cases z:link[i]? with
  | none=>rw[z]at h2;cases h2
  | some o =>
   rw[z]at h2;cases o with
   | none=>cases h2
   | some j =>
    have h2:(σ[j]?).join=some v:=bD h2;have h3:σ[j]?=some (some v):=by
     cases w:σ[j]? with
     | none=>rw[w]at h2;cases h2
     | some q=>rw[w]at h2;exact dy some h2
    obtain⟨g1,g2⟩:=S.link i j y z h1;have hm:=el g2;obtain⟨m,_,hl⟩:=I.loc;have hfk:X.env.kindOf y=some .cell\/X.env.kindOf y=some .free:=S.free _ hm rfl;obtain⟨u,ru,lk⟩:=hl j y v g1 h3 (by
     rcases hfk with q | q
     ·exact .inr (.inl q)
     ·exact .inr (.inr q))
    rcases lk with⟨q,_⟩ | ⟨_,c,hc,hi⟩
    ·rcases hfk with q' | q'<;>rw[q]at q'<;>cases q'
    ·obtain⟨c',h'⟩:=kz (env:=X.env) scope.names [] hm ⟨c,hc⟩;cases zz:(j4 X.env scope.names []).lookup y with
     | none=>exact absurd h' (by intro hh;have:=List.lookup_eq_none_iff.mp zz (y,c') hh;simp at this)
     | some c2 =>
      have:=cM zz;rw[hc]at this;cases this;exact⟨c,u,g2,rfl,hi,ru⟩
 len:=by unfold L2.PL.inner;rw[aC];exact S.len
structure Kb (K:ak) (mg:dM) (p q:Nat->Pos) (fs fT:ae) (Kc EH:dQ):Prop where
 S:BS K "spread" "spread" (iD p) fs Kc
 mS:mg "spread"=some (.ref fs)
 bS:f9 K Kc ["firsts","outcomes"] []
 scS:dW qt ["firsts","outcomes"] (aM (iD p))
 T:BS K "tell_new" "tell_new" (sg q) fT EH
 mT:mg "tell_new"=some (.ref fT)
 bT:f9 K EH ["told","known","facts","came"] []
 scT:dW Qx ["told","known","facts","came"] (aM (sg q))
 line:((q 15).endLine==(q 20).line)=true
 len:mg "len"=none
structure QB (X:Cx):Prop where
 ex:∃x c T,x∈d0/\W.tabIn X.K x=some (c,T)/\W.codeHdIn X.K c T=true/\X.env.code=.ref c/\X.env.qual++"<lambda>"=tV x
 blt:y2 X.mg X.base
def mw(x:Str)(ap:Pos):Arguments:={posonlyargs:=[],args:=[{arg:=x,annotation:=none,pos:=ap}],vararg:=none,kwonlyargs:=[],kw_defaults:=[],kwarg:=none,defaults:=[]}
theorem GO{x:Str}{ap:Pos}{qual:Str}{body:aq}{scope:Scope}{cl:List (Str×ae)}(pm dG F8 u:aj):bindArgs (W.kla_fn "<lambda>" qual (mw x ap) body scope cl pm dG F8) ⟨[u],[]⟩=pure [(x,u)]:=by
 have hs:seqItems? Value.none=pure none:=rfl;unfold bindArgs;simp only[mw,qR,bR,gE,bq,jk,List.zip_cons_cons,List.zip_nil_right,hs,pure_bind,List.forIn_nil,BN];simp[List.lookup]
section
variable {X:Cx} {H₀ ab:Hp} {e body:aq} {fe fb:FE} {scope:Scope} {x:Str} {ap lp p1 pos:Pos} {N:List Str} {link:List (Option Nat)} {p q:Nat->Pos} {fs fT:ae} {Kc EH:dQ} {k:Nat}
def abX(X:Cx)(H₀ ab F:Hp)(ρ:aF)(σ:St)(fk:List (List cy))(qual:Str)(params:Arguments)(body:aq)(scope:Scope)(cl:List (Str×ae)):List V->Hp->Prop
 | [va,vf],H1=>∃F1 fa,vf=.ref fa/\da X.K H₀ ab F1 ρ σ H1/\Same F F1/\c9 X.K F1 (.au (fk.map fz)) va/\Jt H1 fa qual params body scope cl
 | _,_=>False
theorem Ke(D:Kb X.K X.mg p q fs fT Kc EH)(L:QB X)(hg:Gl X "spread")(hr:eI (k+2) X.A)(he:PE X e (tE X.K H₀ ab fe))(oG:starEach [e,.Lambda (mw x ap) body scope lp] X.env=(false,eval e X.env)::starEach [.Lambda (mw x ap) body scope lp] X.env)(S:sh X x N link scope)
  (hbody:∀(qual:Str) (fa:ae) (dG:aj) (cl:List (Str×ae)) (A:bY) (stack:List Env) (s:aw) (H N6 fD:Hp),eI k (A.deeper (W.envX qual scope s.heap.objs.size fa dG cl))->PE (UD (lK X.prog X.w) X.prog X.w X.K X.mg X.base (x::N) qual scope fa dG cl A stack s H E0) body (tE X.K N6 fD fb)) :
  PE X (.Call (.Name "spread" p1) [e,.Lambda (mw x ap) body scope lp] [] pos) (tF X.K H₀ ab (lg fe fb link)):=by
 intro ag s σ H Q I ⟨F,ρ,ps,R,hf,hq⟩;obtain⟨fk,told,h1,h2,h3,h4,rfl⟩:=wW hf;obtain⟨⟨xn,c,T,l1,l2,l3,l4,l5⟩,hB⟩:=L;have hcl:closureFor scope X.env=pure (j4 X.env scope.names []):=rO fun y hy hy2=>I.ok.has y.1 (S.free y hy hy2)
 refine l7 (ld_glob I hg D.mS ?_ rfl);refine W.callWith_K (h₀:=X.base) I.ok.mod.kin D.S.kp (thn ((dF he (dF (R6 l1 l2 l3 l4 l5 hB rfl hcl) iz rfl) oG) pos ag s σ H (abX X H₀ ab F ρ σ fk (tV xn) (mw x ap) body scope (j4 X.env scope.names [])) I ?_) fun us s1 ⟨vs,H1,I1,r,q1⟩=>⟨I1.yo,?_⟩) oG rfl
 ·exact⟨F,ρ,_,R,h1,fun va H1 F1 R1 s1 b1 fa H2 hn sm fr hL=>⟨F1,fa,rfl,R1.after sm (Same.refl F1) (R1.sub.trans sm) (fun _ _ e=>.inl e),s1,b1,hL⟩⟩
 ·match vs,r,q1 with
  | [va,vf],r,⟨F1,fa,ev,R1,UE,b1,hL⟩ =>
   subst ev;obtain⟨o,u,pm,afR,F8,c',oc,uc,R9,t,k1,k2,k3⟩:=id hL;have FT:=N0 (prog:=X.prog) (w:=X.w) (mg:=X.mg) (base:=X.base) D.T D.scT D.line k;refine wpAny_call (mf (VV (CX:=lK X.prog X.w) (E:=E0) (Q:=Q) (k:=k+1) D.S D.scS hr I1.RL (args:=⟨us,[]⟩) (us:=us++[]) (D.bS s1 us I1.yo (by rw[gX,<-r.length];rfl)) (by rw[gX];exact r) rfl (fun dG =>
    zM D.scS FT (hr.deeper _) D.mT D.T.kp D.bT D.len k1 k2
     (S7 (x:=x) (N:=N) (τ:=inner link σ) (k:=k) rfl hL (N5 I1 S) (N4 R1 link) (hr.deeper _) GO S.kind S.co S.gen S.par S.cell (fun dG s H N6 fD YZ=>hbody _ _ _ _ _ _ _ _ _ _ YZ))
     (fun f fk' ho=>(ve ho).2) R1.sub b1 h2 h3 h4 (fun l ws F' H' g1 g2 g3 g4 g5 g6 g7 g8=>?_))) fun r s' Mj=>?_)
   ·have e1:dX (N1 H' l) l (.au ws)=H':=by
     funext b
     by_cases z:b=l
     ·subst z;rw[aX,g7]
     ·rw[aR z,iZ z]
    rw[<-e1];refine hq l ws _ F' (R1.after (fun b ob e=>?_) g2 (fun b ob e=>?_) g4) (UE.trans g2) g8 wU
    ·rw[iZ (ne_of_none e g5)];exact g1 _ _ e
    ·rw[iZ (ne_of_none e g6)];exact g3 _ _ e
   ·cases r with
    | error e=>exact rM ag σ H1 s1 e s' I1 Mj
    | ok fl =>
     cases fl with
     | ret u=>exact I1.after Mj
     | next=>exact False.elim Mj
     | brk=>exact False.elim Mj
     | cont=>exact False.elim Mj
end
end L2.PL
namespace L2
open PySem PySem.Spec PyProof.Rows
section
variable {X:Cx}
theorem Kf{pos:Pos}:PE X (.Dict [] [] pos) (Js (.dK [])):=fun ag s σ H Q I h =>
 wpAny_Dict_empty ⟨.ref s.heap.objs.size,_,I.laid (a:=s.heap.objs.size) (o:=.dK []) (t':=s.toks) (fun _ _ q=>cx _ q) (bh _)
  ⟨gn _,qH.mpr (er (cI (y1 I))),[],.nil,Heap.DictOf.new s.heap⟩,rfl,h _ (I.hok.fresh (bh _))⟩
theorem S8{v:V}{o:mi}(h:FJ (some v) o):∃u,o=some u/\RelV v u:=by
 cases o with
 | none=>exact h.elim
 | some u=>exact⟨u,rfl,h⟩
def abY:R2:=fun x y H Q=>∃a kvs k v,x=.ref a/\y=kV k/\Rd H a (.dK kvs)/\lz kvs k=some v/\Q v H
theorem WQ:RQ X abY:=by
 intro value slice ag s σ H x y v u Q I rx ry h hs;obtain⟨a,kvs,k,z,rfl,rfl,hr,hv,q⟩:=h;cases rx;obtain⟨_,hd,vs,UJ,dd⟩:=Qa I.hok hr;obtain⟨w',hw,RR⟩:=S8 (o:=valueAt vs k) (by rw[<-hv];exact UJ.val k)
 exact tail_any dd.typeIs PySem.F.slot_dict_getitem.lookup (wpAny_getItem_of (Jr ry) dd.mapOf hw ⟨z,H,I.tok _,RR,q⟩) hs
def WR:V->List V->Hp->VK->Prop:=fun x vs H Q=>∃a kvs k y,x=.ref a/\vs=[kV k,y]/\H a=some (.dK kvs)/\kvs.length<sizeLine/\(∀v,lz kvs k=some v->Q v H)/\(lz kvs k=none->Q y (dX H a (.dK (kvs++[(k,y)]))))
theorem S9:MtR X "dict.setdefault" WR:=by
 intro ag s σ H x xs v us Q I rx rv h;obtain⟨a,kvs,k,y,rfl,rfl,e,hl,h1,h2⟩:=h;cases rx;obtain⟨u1,u2,rfl,r1,r2⟩:=rv.two;obtain⟨z,hd,vs,UJ,dd⟩:=VP I.hok e;refine call_meetsIn Ia dd.typeIs PySem.F.entry_dict_setdefault (PySem.F.args_dict_setdefault_3 _ _ _) (kt_meets_setdefault (fJ X.prog X.w) a (Jr r1) hd u2) ⟨vs,dd,by rw[<-UJ.length];exact z,fun w hw=>?_,fun hn h' YK hs=>?_⟩
 ·have rk:=UJ.val k;rw[hw]at rk;cases hv:lz kvs k with
  | none=>rw[hv]at rk;exact rk.elim
  | some v0=>rw[hv]at rk;exact⟨v0,H,I.tok _,rk,h1 v0 hv⟩
 ·have rk:=UJ.val k;rw[hn]at rk;have hv:lz kvs k=none:=by
   cases hv:lz kvs k with
   | none=>rfl
   | some v0=>rw[hv]at rk;exact rk.elim
  have WS:=UJ.put k r2;rw[Jq y hv]at WS;have he:∃q,h'.get? a=some q:=let ⟨q,_,_,hq,_⟩:=YK;⟨q,hq⟩
  exact⟨y,_,I.write (x:=a) (e:=a) (o:=.dK (kvs++[(k,y)])) (by rw[e];exact True.intro) (.inl rfl) (fun c q' hc z=>(hs.2 c hc).trans z) he ⟨by rw[bK];exact hl,hd,_,WS,YK⟩,r2,h2 hv⟩
def EI:V->List V->Hp->VK->Prop:=fun x vs H Q=>∃(l:ae) (xs:List V) (i:Int) (y:V),x=.ref l/\vs=[.int i,y]/\H l=some (.au xs)/\xs.length<sizeLine/\0<=i/\i<=1000000/\Q .cG (dX H l (.au (xs.take i.toNat++y::xs.drop i.toNat)))
theorem Ta{i:Int}(h0:0<=i)(hi:i<=1000000):¬(!Builtin.List.listFitsIndex i)=true:=by
 unfold Builtin.List.listFitsIndex;have h1:decide (-(2^63:Int)<=i)=true:=fQ (Int.le_trans (by decide) h0)
 have h2:decide (i<2^63)=true:=fQ (Int.lt_of_le_of_lt hi (by decide))
 rw[h1,h2];simp
def Tb(i:Int)(u:aj):Array aj->Array aj:=fun xs=>have k:=if i<0 then(i+((xs.size:Nat):Int)).toNat else min i.toNat xs.size;(xs.extract 0 k).push u++xs.extract k
theorem N7{i:Int}(h0:0<=i)(aY:cb)(u:aj):Tb i u aY.toArray=(aY.take i.toNat++u::aY.drop i.toNat).toArray:=by
 unfold Tb;have h1:¬i<0:=by lia
 simp only[h1,oz,bF];apply Array.ext';simp only[Array.toList_append,Array.toList_push,Array.toList_extract,List.extract_eq_drop_take];by_cases hb:i.toNat<=aY.length
 ·rw[BQ hb];have h2:List.take (aY.length-i.toNat) (List.drop i.toNat aY)=List.drop i.toNat aY:=oh (by rw[qM];exact bh _)
  simp[h2]
 ·rw[BI (by lia)]
  have h1:aY.take i.toNat=aY:=oh (by lia)
  have h2:aY.drop i.toNat=[]:=List.drop_of_length_le (by lia)
  simp[h1,h2]
theorem GP:YI X "list.insert" EI:=by
 intro ag s σ H x vs v us Q I rx rv h;obtain⟨l,xs,i,y,rfl,rfl,hH,hz,h0,hi,q⟩:=h;cases rx;obtain⟨u1,u2,rfl,⟨t,rfl⟩,r2⟩:=rv.two;obtain⟨z,aY,n,r,hl,e⟩:=I.MS hH;have hsz:aY.toArray.size<=sizeLine:=by rw[bF];lia
 have GI:=r.length;have J:=I.MR (t':=s.toks) (f:=Tb i u2) (its':=aY.take i.toNat++u2::aY.drop i.toNat) hH e (N7 h0 aY u2) ((r.take i.toNat).append (.cons r2 (r.drop i.toNat))) (by rw[bK,bq,oq,qM];lia)
 exact oy F.slot_list_insert ⟨_,e,rfl⟩ F.entry_list_insert (F.args_list_insert_3 _ _ _) (@PySem.AutoListH.list_insert_list_int_val_1 l aY.toArray n i t u2 (Ta h0 hi) hsz) ⟨e,.cG,_,J,rfl,q⟩
end
end L2
namespace L2.PL
open PySem PySem.Spec PyProof.Rows
def N8:az->Option az:=fun ps=>some ps.reverse
theorem N9{K:ak}:Qm K yY N8:=by
 intro H₀ ab F ρ σ H a ps qs vs Q hg R ha b1 k;cases hg;exact⟨a,vs,rfl,rfl,ha,k _ b1.reverse⟩
def wX:az->az->Option az:=fun ps as=>match as with
 | [.int i,p]=>if(0<=i/\i<=1000000/\ps.length<gB)then some (ps.take i.toNat++p::ps.drop i.toNat)else none
 | _=>none
theorem Oa{K:ak}:Nd K EI wX:=by
 intro H₀ ab F ρ σ H a ps as qs vs ws Q hg R ha b1 b2 k;unfold wX at hg;split at hg
 ·rename_i i p;obtain⟨⟨h1,h2,h3⟩,rfl⟩:=aN hg;obtain⟨w1,r1,rfl,Y3,WT⟩:=b2.ck;obtain⟨w2,r2,rfl,bw2,WU⟩:=WT.ck;rw[WU.cf];rw[aI.mp Y3];exact⟨a,vs,i,w2,rfl,rfl,ha,cQ (by rw[<-b1.length];exact h3) (fx (bh _)),h1,h2,k _ ((b1.take _).append (.cons bw2 (b1.drop _)))⟩
 ·cases hg
def EJ:Ent->Bool
 | .eW _=>false
 | _=>true
def dS(kvs:List (cy×PV))(k:cy):bU:=(kvs.find? fun kv=>decide (kv.1=k)).map (·.2)
section
variable {K:ak} {H₀ ab F H:Hp} {ρ:aF} {σ:St}
theorem wY{kvs:List (cy×PV)}{vs:List (cy×V)}(h:y3 K F kvs vs)(k:cy):(∀p,dS kvs k=some p->∃v,lz vs k=some v/\c9 K F p v)/\(dS kvs k=none->lz vs k=none):=by
 unfold y3 at h;induction h with
 | nil=>exact⟨(fun p e=>by cases e),fun _=>rfl⟩
 | @cons p q ps qs hq t ih =>
  obtain⟨h1,h2⟩:=hq;by_cases e:p.1=k
  ·have l1:dS (p::ps) k=some p.2:=by simp[dS,kh,e]
   rw[l1,rG (h1.symm.trans e)];exact⟨(fun x z=>by cases z;exact⟨_,rfl,h2⟩),(fun z=>by cases z)⟩
  ·have l1:dS (p::ps) k=dS ps k:=by simp[dS,kh,e]
   rw[l1,rH (fun z=>e (h1.trans z))]
   exact ih
theorem da.Tc(R:da K H₀ ab F ρ σ H){i:Nat}(hi:i<ρ.length){a:ae}{m:Dk}(hm:ng K F H a m)(h0:H₀ a=none)(hF:F a=none):da K H₀ ab F (ρ.set i (.eW m)) (σ.set i (some (.ref a))) H where
 sub:=R.sub
 keep:=R.keep
 base:=R.base
 fresh:=R.fresh
 val:=fun j q e=>by
  by_cases h:i=j
  ·subst h;rw[bP hi]at e;cases e
  ·rw[bx h]at e ⊢;exact R.val j q e
 own:=fun j q e=>by
  by_cases h:i=j
  ·subst h;rw[bP hi]at e;cases e
  ·rw[bx h]at e ⊢;exact R.own j q e
 apart:=fun j k ps qs a h1 h2 h3 h4=>by
  by_cases hj:i=j
  ·subst hj;rw[bP hi]at h1;cases h1
  ·by_cases hk:i=k
   ·subst hk;rw[bP hi]at h2;cases h2
   ·rw[bx hj]at h1 h3;rw[bx hk]at h2 h4;exact R.apart j k ps qs a h1 h2 h3 h4
 obs:=fun j q e=>by
  by_cases h:i=j
  ·subst h;rw[bP hi]at e;cases e
  ·rw[bx h]at e ⊢;exact R.obs j q e
 eW:=fun j q e=>by
  by_cases h:i=j
  ·subst h;rw[bP hi]at e;cases e;exact⟨a,bP (by rw[<-R.len];exact hi),hm,h0,hF⟩
  ·rw[bx h]at e ⊢;exact R.eW j q e
 len:=by rw[dw,dw];exact R.len
theorem da.Td(R:da K H₀ ab F ρ σ H){i:Nat}{a:ae}{m m':Dk}{o:HO}(hi:ρ[i]?=some (.eW m))(ha:σ[i]?=some (some (.ref a)))(hm:ng K F (dX H a o) a m')(ho:(ρ.set i .un).all EJ=true):da K H₀ ab F (ρ.set i (.eW m')) σ (dX H a o):=by
 have eM:i<ρ.length:=(cP.mp hi).1;obtain⟨a',e1,e2,h3,h4⟩:=R.eW i m hi;rw[ha]at e1;cases e1;obtain⟨ob,e3,e4⟩:=e2.obj;have sub:∀{G:Hp},G a=none->Same G H->Same G (dX H a o):=fun {G} hg s b ob e=>by
  rw[aR (ne_of_none e hg)];exact s _ _ e
 exact {
  sub:=sub h4 R.sub
  keep:=sub h3 R.keep
  base:=R.base
  fresh:=R.fresh
  val:=fun j q e=>by
   by_cases h:i=j
   ·subst h;rw[bP eM]at e;cases e
   ·rw[bx h]at e;exact R.val j q e
  own:=fun j ls e=>by
   by_cases h:i=j
   ·subst h;rw[bP eM]at e;cases e
   ·rw[bx h]at e;obtain⟨b,us,q1,q2,q3⟩:=R.own j ls e;exact⟨b,us,q1,by rw[aR (IK q2 e3 (fun z=>e4 _ z.symm))];exact q2,q3⟩
  apart:=fun j k l1 l2 b e1 e2 e3 e4=>by
   by_cases hj:i=j
   ·subst hj;rw[bP eM]at e1;cases e1
   ·by_cases hk:i=k
    ·subst hk;rw[bP eM]at e2;cases e2
    ·rw[bx hj]at e1;rw[bx hk]at e2;exact R.apart j k l1 l2 b e1 e2 e3 e4
  obs:=fun j q e=>by
   by_cases h:i=j
   ·subst h;rw[bP eM]at e;cases e
   ·rw[bx h]at e;exact R.obs j q e
  eW:=fun j q e=>by
   by_cases h:i=j
   ·subst h;rw[bP eM]at e;cases e;exact⟨a,ha,hm,h3,h4⟩
   ·rw[bx h]at e;have:=fq.mp ho (.eW q) (cj (i:=j) (by rw[bx h];exact e))
    cases this
  len:=by rw[dw];exact R.len}
end
section
variable {X:Cx} {H₀ ab:Hp} {ke a b:aq} {fk fa fb:FE} {x:Str} {p pos sp:Pos} {i:Nat}
def Te(i:Nat):FS:=fun ρ=>if i<ρ.length then some (.nx (ρ.set i (.eW (.k []))))else none
theorem Kg{D:j2}{σ:St}{H:Hp}(h:tS X H₀ ab (Te i) D σ H):mZ (Js (.dK [])) (gName i) D σ H:=by
 obtain⟨F,ρ,o,R,hf,q⟩:=h;obtain⟨hi,rfl⟩:=aN hf;intro d hd;exact q F _ _ ((R.Ju (.dK []) hd).Tc hi ⟨[],aX,.nil⟩ (R.keep.free hd) (R.sub.free hd)) (Same.refl F)
def getD(i:Nat)(fk:FE):FE:=fun ρ=>(fk ρ).bind fun q=>match ρ[i]? with
 | some (.ob (.HR (.k kvs)))=>(GJ q).bind fun k=>dS kvs k
 | _=>none
theorem Tf(hx:PE X (.Name x p) (mj i))(hk:PE X ke (tE X.K H₀ ab fk))(hs:kZ ke):PE X (.Subscript (.Name x p) ke sp) (tE X.K H₀ ab (getD i fk)):=by
 intro ag s σ H Q I ⟨F,ρ,pr,R,hf,q⟩;obtain⟨qk,h1,h2⟩:=ay hf;split at h2
 ·rename_i kvs hp;obtain⟨k,h3,h4⟩:=ay h2;obtain⟨a,e1,vs,e2,e3⟩:=R.obs i _ hp;refine yX WQ hx hk hs ag s σ H Q I ⟨.ref a,e1,F,ρ,qk,R,h1,fun w H1 F1 R1 s1 b1=>?_⟩
  obtain⟨v,g1,g2⟩:=(wY e3 k).1 pr h4;rw[wR h3]at b1;exact⟨a,vs,k,v,rfl,sf.mp b1,.inl (R1.sub _ _ (s1 _ _ e2)),g1,q v H1 F1 R1 s1 (g2.mono s1)⟩
 ·cases h2
def Tg(i:Nat)(fk fv:FE):FS:=fun ρ=>(fk ρ).bind fun qk=>(fv ρ).bind fun qv=>match ρ[i]? with
 | some (.eW (.k kvs))=>(GJ qk).bind fun k=>if(kvs.length<gB/\(ρ.set i .un).all EJ=true)then(match dS kvs k with
  | some _=>some (.nx ρ)
  | none=>some (.nx (ρ.set i (.eW (.k (kvs++[(k,qv)]))))))else none
 | _=>none
theorem EK{K:ak}{F:Hp}:∀{kvs:List (cy×PV)} {vs:List (cy×V)},y3 K F kvs vs->∀{k:cy} {p:PV} {v:V},c9 K F p v->y3 K F (kvs++[(k,p)]) (vs++[(k,v)])
 | _,_,.nil,_,_,_,b=>.cons ⟨rfl,b⟩ .nil
 | _,_,.cons r t,_,_,_,b=>.cons r (EK t b)
theorem Oc{D:j2}{σ:St}{H:Hp}(h:tS X H₀ ab (Tg i fa fb) D σ H):tDrop (YH X.K "dict" WR (mj i) (tA X.K H₀ ab (aa fa (aa fb ai)))) D σ H:=by
 obtain⟨F,ρ,o,R,hf,q⟩:=h;obtain⟨qk,h1,hf⟩:=ay hf;obtain⟨qv,h2,hf⟩:=ay hf;split at hf
 ·rename_i kvs hp;obtain⟨k,h3,hf⟩:=ay hf;obtain⟨⟨h4,h5⟩,hf⟩:=aJ hf;obtain⟨a,e1,⟨vs,e2,e3⟩,e4,e5⟩:=R.eW i _ hp;refine⟨.ref a,e1,.inr (.inr (.inl ⟨rfl,.inl ⟨vs,e2⟩⟩)),F,ρ,[qk,qv],R,?_,fun ws H1 F1 R1 s1 b1=>?_⟩
  ·show(fa ρ).bind _=_;rw[h1];show((aa fb ai) ρ).map _=_;show(((fb ρ).bind fun x=>(ai ρ).map fun xs=>x::xs).map _)=_
   rw[h2];rfl
  ·obtain⟨w1,r1,rfl,Y3,WT⟩:=b1.ck;obtain⟨w2,r2,rfl,bw2,WU⟩:=WT.ck;rw[WU.cf];rw[wR h3]at Y3;rw[sf.mp Y3];obtain⟨a',g1,⟨vs1,g2,g3⟩,g4,g5⟩:=R1.eW i _ hp;rw[e1]at g1;cases g1;have hl:vs1.length<sizeLine:=by
    rw[<-vW g3];exact cQ h4 (fx (bh _))
   refine⟨a,vs1,k,w2,rfl,rfl,g2,hl,fun v hv=>?_,fun hv=>?_⟩
   ·cases hk:dS kvs k with
    | none=>rw[(wY g3 k).2 hk]at hv;cases hv
    | some pv =>
     rw[hk]at hf;cases hf;exact q F1 σ H1 R1 s1
   ·cases hk:dS kvs k with
    | some pv =>
     obtain⟨v,z,_⟩:=(wY g3 k).1 pv hk;rw[z]at hv;cases hv
    | none =>
     rw[hk]at hf;cases hf;exact q F1 σ _ (R1.Td hp e1 ⟨_,aX,EK g3 bw2⟩ h5) s1
 ·cases hf
end
def Od(n:Int)(acc:List (List Int)):PV->Option (List (List Int))
 | .int j=>if 0<=j then(acc[j.toNat]?).bind fun ns=>if ns.length<gB then some (acc.set j.toNat (ns++[n]))else none else none
 | _=>none
def wZ(n:Int):az->List (List Int)->Option (List (List Int))
 | [],acc=>some acc
 | q::r,acc=>(Od n acc q).bind (wZ n r)
def w5:Nat->az->List (List Int)->Option (List (List Int))
 | _,[],acc=>some acc
 | n,.aB qs::r,acc=>(wZ n qs acc).bind (w5 (n+1) r)
 | _,_,_=>none
def w6(acc:List (List Int)):az:=acc.map fun ns=>.au (ns.map .int)
def QC:Ent->Bool
 | .own _=>false
 | .eW _=>false
 | _=>true
def Kh(link:List (Option Nat))(g:eX)(i f x y o:Nat):FS:=fun ρ=>match ρ[f]? with
 | some (.val (.au ps))=>if(((dD link (cJ (rd f)) g (fun _=>some .cG) ρ).isSome&&ρ.all QC&&decide ([i,f,x,y,o].Nodup)&&[i,x,y,o].all fun k=>decide (k<ρ.length))=true)then
   (w5 0 ps (List.replicate ps.length [])).map fun acc=>.nx (eR none ((((ρ.set x .un).set y .un).set o .un).set i (.own (w6 acc))))else none
 | _=>none
structure CV (H₀ F H:Hp) (a:ae) (bs:List ae) (acc:List (List Int)):Prop where
 out:H a=some (.au (bs.map .ref))
 len:acc.length=bs.length
 inn:∀(j:Nat) (b:ae) (ns:List Int),bs[j]?=some b->acc[j]?=some ns->H b=some (.au (ns.map .int))
 nd:(a::bs).Nodup
 QD:∀b∈a::bs,H₀ b=none/\F b=none/\∃o,H b=some o
section
variable {K:ak} {H₀ ab F F' H H':Hp} {ρ:aF} {σ cn:St} {a:ae} {bs:List ae} {acc:List (List Int)}
theorem CV.after(N:CV H₀ F H a bs acc)(h:Same H H')(n:∀b o,F' b=some o->F b=some o\/H b=none):CV H₀ F' H' a bs acc where
 out:=h _ _ N.out
 len:=N.len
 inn:=fun j b ns e1 e2=>h _ _ (N.inn j b ns e1 e2)
 nd:=N.nd
 QD:=fun b hb=>by
  obtain⟨h1,h2,o,h3⟩:=N.QD b hb;refine⟨h1,?_,o,h _ _ h3⟩;cases q:F' b with
  | none=>rfl
  | some u =>
   rcases n b u q with z | z
   ·rw[h2]at z;cases z
   ·rw[h3]at z;cases z
theorem CV.put(N:CV H₀ F H a bs acc){j:Nat}{b:ae}{ns:List Int}(e1:bs[j]?=some b)(n:Int):CV H₀ F (dX H b (.au ((ns++[n]).map .int))) a bs (acc.set j (ns++[n])) where
 out:=by
  rw[aR]
  ·exact N.out
  ·intro z;subst z;exact(fu.mp N.nd).1 (cj e1)
 len:=by rw[dw];exact N.len
 inn:=fun k c ms f1 f2=>by
  by_cases h:j=k
  ·subst h;rw[e1]at f1;cases f1;have hl:j<acc.length:=by rw[N.len];exact(cP.mp e1).1
   rw[bP hl]at f2;cases f2;exact aX
  ·rw[bx h]at f2;rw[aR]
   ·exact N.inn k c ms f1 f2
   ·intro z;subst z;exact h ((List.getElem?_inj (cP.mp e1).1 (fu.mp N.nd).2).mp (e1.trans f1.symm))
 nd:=N.nd
 QD:=fun c hc=>by
  obtain⟨h1,h2,o,h3⟩:=N.QD c hc;by_cases z:c=b
  ·subst z;exact⟨h1,h2,_,aX⟩
  ·exact⟨h1,h2,o,by rw[aR z];exact h3⟩
def WV(x y o:Nat)(σ cn:St):Prop:=cn.length=σ.length/\∀k:Nat,k≠x->k≠y->k≠o->cn[k]?=σ[k]?
theorem WV.set{x y o k:Nat}{v:Option V}(h:WV x y o σ cn)(hk:k=x\/k=y\/k=o):WV x y o σ (cn.set k v):=by
 refine⟨by rw[dw];exact h.1,fun j h1 h2 h3=>?_⟩
 rw[bx]
 ·exact h.2 j h1 h2 h3
 ·rintro rfl
  rcases hk with z | z | z
  ·exact h1 z
  ·exact h2 z
  ·exact h3 z
theorem w9{i:Nat}{p:PV}{v:V}(hs:Same F H)(h:σ[i]?=some (some v))(b:c9 K F p v):da K H F F ((List.replicate σ.length Ent.un).set i (.val p)) σ H:=by
 have no:∀(j:Nat) (e:Ent),((List.replicate σ.length Ent.un).set i (.val p))[j]?=some e->e=.un\/j=i/\e=.val p:=fun j e q=>by
  by_cases z:i=j
  ·subst z;rw[bP (by rw[iq];exact(cP.mp h).1)]at q
   exact .inr ⟨rfl,(bD q).symm⟩
  ·rw[bx z,ip]at q;split at q
   ·exact .inl (bD q).symm
   ·cases q
 refine nH hs (fun e he=>?_) (fun j q e=>?_) (fun j q e=>?_) (by rw[dw,iq])
 ·obtain⟨j,hj⟩:=vM he;rcases no j e hj with rfl | ⟨_,rfl⟩<;>exact⟨(fun _ z=>by cases z),fun _ z=>by cases z⟩
 ·rcases no j _ e with z | ⟨rfl,z⟩
  ·cases z
  ·cases z;exact⟨v,h,b⟩
 ·rcases no j _ e with z | ⟨_,z⟩<;>cases z
def zO(K:ak)(fi:bX):TI:=fun σ H R=>∃b:Hp×Hp,tI K b.1 b.2 fi σ H R
theorem CW{X:Cx}{tg iter:aq}{fi:bX}(h:∀H₀ ab,PI X tg iter (tI X.K H₀ ab fi)):PI X tg iter (zO X.K fi):=fun ag s σ H R I ⟨b,hw⟩=>h b.1 b.2 ag s σ H R I hw
end
section
variable {X:Cx} {H₀ ab:Hp} {i f x y o:Nat}
structure kJ (H₀ ab F1:Hp) (gW:St) (a:ae) (bs:List ae) (i x y o:Nat) (acc:List (List Int)) (F:Hp) (σ:St) (H:Hp):Prop where
 off:WV x y o gW σ
 ix:σ[i]?=some (some (.ref a))
 nest:CV H₀ F H a bs acc
 sub:Same F H
 keep:Same H₀ H
 base:Same F1 F
 fresh:∀b u,F b=some u->ab b=some u\/H₀ b=none
theorem kJ.step{F1 F F' H H':Hp}{gW σ:St}{a:ae}{bs:List ae}{acc:List (List Int)}{ρ:aF}{cn:St}(A:kJ H₀ ab F1 gW a bs i x y o acc F σ H)(R:da X.K H F F' ρ cn H'):kJ H₀ ab F1 gW a bs i x y o acc F' σ H' :=
 ⟨A.off,A.ix,A.nest.after R.keep R.fresh,R.sub,A.keep.trans R.keep,A.base.trans R.base,fun b u e=>by
  rcases R.fresh b u e with z | z
  ·exact A.fresh b u z
  ·exact .inr (A.keep.free z)⟩
theorem kJ.slot{F1 F H:Hp}{gW σ:St}{a:ae}{bs:List ae}{acc:List (List Int)}{k:Nat}{v:Option V}(A:kJ H₀ ab F1 gW a bs i x y o acc F σ H)(hk:k=x\/k=y\/k=o)(hi:k≠i):kJ H₀ ab F1 gW a bs i x y o acc F (σ.set k v) H :=
 ⟨A.off.set hk,by rw[bx hi];exact A.ix,A.nest,A.sub,A.keep,A.base,A.fresh⟩
def WX(X:Cx)(i x o:Nat):TS:=tDrop (YH X.K "list" wB (UA (VG X.K) (mj i) (mj o)) (P7 (mj x) Vy))
theorem Oe{F1 F H:Hp}{gW σ:St}{a:ae}{bs:List ae}{acc acc':List (List Int)}{n j:Int}{D:j2}(A:kJ H₀ ab F1 gW a bs i x y o acc F σ H)(hx:σ[x]?=some (some (.int n)))(ho:σ[o]?=some (some (.int j)))
  (h:Od n acc (.int j)=some acc') (q:∀H',kJ H₀ ab F1 gW a bs i x y o acc' F σ H'->D.nx σ H'):WX X i x o D σ H:=by
 unfold Od at h;obtain⟨hj,h⟩:=aJ h;obtain⟨ns,h1,h⟩:=ay h;obtain⟨hl,rfl⟩:=aN h;have eM:j.toNat<bs.length:=by rw[<-A.nest.len];exact(cP.mp h1).1
 obtain⟨b,hb⟩:∃b,bs[j.toNat]?=some b:=⟨_,du eM⟩
 have hB:=A.nest.inn _ b ns hb h1;have uf:atI (bs.map V.ref) j=some (.ref b):=by
  have:j=((j.toNat:Nat):Int):=by lia
  rw[this];exact dk (by rw[cu,hb];rfl)
 refine⟨.ref a,A.ix,.int j,ho,a,_,j,.ref b,rfl,rfl,lu.of A.nest.out,uf,.inl ⟨rfl,_,lu.of hB⟩,.int n,hx,b,ns.map .int,.int n,rfl,rfl,hB,?_,?_⟩
 ·rw[aC];exact cQ hl (fx (bh _))
 ·obtain⟨f1,f2,f3⟩:=A.nest.QD b (bQ _ (cj hb));have e:(ns.map V.int++[V.int n])=(ns++[n]).map V.int:=by rw[cY];rfl
  rw[e];have up:∀{G:Hp},G b=none->Same G H->Same G (dX H b (.au ((ns++[n]).map .int))):=fun {G} hg s c u z=>by rw[aR (ne_of_none z hg)];exact s _ _ z
  exact q _ ⟨A.off,A.ix,A.nest.put hb n,up f2 A.sub,up f1 A.keep,A.base,A.fresh⟩
def Th(X:Cx)(i x y o:Nat):TS:=Rz (zO X.K (cJ (rd y))) (gName o) (WX X i x o)
theorem Ki{n:Int}{qs:az}{k:Nat}{acc acc':List (List Int)}(h:wZ n (qs.drop k) acc=some acc')(hk:qs[k]?=none):acc=acc':=by
 rw[Bu (lY.mp hk)]at h;exact bD h
theorem GQ{F1 F H:Hp}{gW σ:St}{a:ae}{bs:List ae}{acc acc':List (List Int)}{n:Int}{qs:az}{v:V}{D:j2}(A:kJ H₀ ab F1 gW a bs i x y o acc F σ H)(hx:σ[x]?=some (some (.int n)))(hy:σ[y]?=some (some v))(hb:c9 X.K F (.aB qs) v)
  (hd:[i,x,y,o].Nodup) (UC:o<σ.length) (h:wZ n qs acc=some acc') (q:∀F' cn H',kJ H₀ ab F1 gW a bs i x y o acc' F' cn H'->Same F F'->D.nx cn H'):Th X i x y o D σ H:=by
 have hox:o≠x:=by simp at hd;lia
 have hoi:o≠i:=by simp at hd;lia
 refine⟨(H,F),F,_,qs,w9 A.sub hy hb,?_,fun J H1 F' R1 s1 wk=>?_⟩
 ·have:rd y ((List.replicate σ.length Ent.un).set y (.val (.aB qs)))=some (.aB qs):=by
   unfold rd;rw[bP (by rw[iq];exact(cP.mp hy).1)]
  unfold cJ;rw[this];rfl
 ·refine⟨fun k m cn H'=>m=qs.length-k/\cn.length=σ.length/\cn[x]?=some (some (.int n))/\∃ac F2,kJ H₀ ab F1 gW a bs i x y o ac F2 cn H'/\Same F' F2/\wZ n (qs.drop k) ac=some acc',
   ⟨_,rfl,rfl,hx,acc,F',A.step R1,Same.refl _,h⟩,?_⟩
  rintro k m cn H' ⟨rfl,hl,Ga,ac,F2,A2,s2,hr⟩
  have hs:∃v,cn[i]?=some (some v):=⟨_,A2.ix⟩
  obtain⟨wg,M8⟩:=wk H' F2 F2 _ cn H' (w9 (i:=x) (p:=.int n) A2.sub Ga (aI.mpr rfl)) s2 k;cases z:qs[k]? with
  | none=>exact .inl ⟨M8 z,q F2 cn H' (Ki hr z▸A2) (s1.trans s2)⟩
  | some p =>
   have eM:=(cP.mp z).1;have Wh:qs.drop k=p::qs.drop (k+1):=by
    rw[vI eM];rw[du eM]at z;cases z;rfl
   rw[Wh]at hr;obtain⟨WY,e1,hr⟩:=ay hr;obtain⟨go,wy⟩:=wg p z;refine .inr ⟨go,fun lx H3=>lx.length=σ.length/\lx[x]?=some (some (.int n))/\∃F3,kJ H₀ ab F1 gW a bs i x y o WY F3 lx H3/\Same F' F3,fun lx H3 ⟨g1,g2,F3,g3,g4⟩=>⟨qs.length-(k+1),by lia,rfl,g1,g2,WY,F3,g3,g4,hr⟩,fun u H2 yl=>?_⟩
   obtain⟨F3,R3,s3,b3⟩:=wy u H2 yl;cases p with
   | int j =>
    rw[aI.mp b3];refine Oe ((A2.step R3).slot (k:=o) (v:=some (.int j)) (.inr (.inr rfl)) hoi) (by rw[bx hox];exact Ga) (bP (by rw[hl];exact UC)) e1 fun H4 A4=>⟨by rw[dw];exact hl,by rw[bx hox];exact Ga,F3,A4,s2.trans s3⟩
   | _=>cases e1
def Of(X:Cx)(i f x y o:Nat):TS:=Rz (zO X.K (jC (rd f))) (Vq X.K 2 (IP (gName x) (IP (gName y) Vp))) (Th X i x y o)
theorem GR{F H:Hp}{σ:St}{a:ae}{bs:List ae}{acc acc':List (List Int)}{ps:az}{v:V}{D:j2}(A:kJ H₀ ab F σ a bs i x y o acc F σ H)(hf:σ[f]?=some (some v))(hb:c9 X.K F (.au ps) v)
  (hd:[i,f,x,y,o].Nodup) (WZ:x<σ.length) (hly:y<σ.length) (UC:o<σ.length) (h:w5 0 ps acc=some acc') (q:∀F' cn H',kJ H₀ ab F σ a bs i x y o acc' F' cn H'->D.nx cn H'):Of X i f x y o D σ H:=by
 have RM:[i,x,y,o].Nodup:=by simp at hd ⊢;lia
 have hxi:x≠i:=by simp at hd;lia
 have hyi:y≠i:=by simp at hd;lia
 have hyx:y≠x:=by simp at hd;lia
 refine⟨(H,F),F,_,dR 0 ps,w9 A.sub hf hb,?_,fun J H1 F' R1 s1 wk=>?_⟩
 ·have:rd f ((List.replicate σ.length Ent.un).set f (.val (.au ps)))=some (.au ps):=by
   unfold rd;rw[bP (by rw[iq];exact(cP.mp hf).1)]
  unfold jC;rw[this];rfl
 ·refine⟨fun k m cn H'=>m=ps.length-k/\cn.length=σ.length/\∃ac F2,kJ H₀ ab F σ a bs i x y o ac F2 cn H'/\Same F' F2/\w5 k (ps.drop k) ac=some acc',
   ⟨_,rfl,rfl,acc,F',A.step R1,Same.refl _,h⟩,?_⟩
  rintro k m cn H' ⟨rfl,hl,ac,F2,A2,s2,hr⟩
  obtain⟨wg,M8⟩:=wk H' F2 F2 (List.replicate cn.length Ent.un) cn H' (nH A2.sub (fun e he=>by rw[(List.mem_replicate.mp he).2];exact⟨(fun _ z=>by cases z),fun _ z=>by cases z⟩)
   (fun j p e=>by rw[ip]at e;split at e<;>cases e) (fun j p e=>by rw[ip]at e;split at e<;>cases e) iq) s2 k
  have eg:=k9 ps 0 k;rw[jL]at eg;cases z:ps[k]? with
  | none =>
   rw[z]at eg;rw[Bu (lY.mp z)]at hr;cases hr;exact .inl ⟨M8 eg,q F2 cn H' A2⟩
  | some p =>
   rw[z]at eg;have eM:=(cP.mp z).1;have Wh:ps.drop k=p::ps.drop (k+1):=by
    rw[vI eM];rw[du eM]at z;cases z;rfl
   rw[Wh]at hr;cases p with
   | aB qs =>
    obtain⟨WY,e1,hr⟩:=ay (show(wZ k qs ac).bind (w5 (k+1) (ps.drop (k+1)))=some acc' from hr)
    obtain⟨go,wy⟩:=wg _ eg;refine .inr ⟨go,fun lx H3=>lx.length=σ.length/\∃F3,kJ H₀ ab F σ a bs i x y o WY F3 lx H3/\Same F' F3,fun lx H3 ⟨g1,F3,g3,g4⟩=>⟨ps.length-(k+1),by lia,rfl,g1,WY,F3,g3,g4,hr⟩,fun u H2 yl=>?_⟩
    obtain⟨F3,R3,s3,b3⟩:=wy u H2 yl;obtain⟨c,us,rfl,hs,Ej⟩:=bM.mp b3;obtain⟨u1,r1,rfl,b1,WT⟩:=Ej.ck;obtain⟨u2,r2,rfl,b2,WU⟩:=WT.ck;have hn:=WU.cf;subst hn;rw[aI.mp b1]at hs;refine⟨c,_,rfl,bA R3.sub hs,rfl,.int k,[u2],rfl,u2,[],rfl,rfl,?_⟩;have A3:=((A2.step R3).slot (k:=x) (v:=some (.int (k:Int))) (.inl rfl) hxi).slot (k:=y) (v:=some u2) (.inr (.inl rfl)) hyi;have l3:((cn.set x (some (.int (k:Int)))).set y (some u2)).length=σ.length:=by rw[dw,dw];exact hl
    refine GQ A3 (n:=(k:Int)) ?_ ?_ b2 RM (by rw[l3];exact UC) e1 fun F4 Mf H4 A4 s4=>⟨A4.off.1,F4,A4,s2.trans (s3.trans s4)⟩
    ·rw[bx hyx];exact bP (by rw[hl];exact WZ)
    ·exact bP (by rw[dw,hl];exact hly)
   | _=>cases hr
def Kj(K:ak)(g:eX)(fl:bX):TB:=fun v σ H Q=>∃b:Hp×Hp,tG K b.1 b.2 g v σ H fun gW H1=>tF K b.1 b.2 fl gW H1 fun y H2=>Q (some y) gW H2
theorem zP{link:List (Option Nat)}{ρ:aF}{e:Ent}(h:e∈bj link ρ):(∀ps,e≠.own ps)/\∀m,e≠.eW m:=by
 obtain⟨j,hj⟩:=vM h;rcases dq hj with rfl | ⟨_,_,_,_,rfl⟩ | ⟨_,_,_,_,rfl⟩<;>exact⟨(fun _ z=>by cases z),fun _ z=>by cases z⟩
theorem da.now{K:ak}{H₀ ab F H:Hp}{ρ:aF}{σ:St}(R:da K H₀ ab F ρ σ H)(hn:∀e∈ρ,(∀ps,e≠.own ps)/\∀m,e≠.eW m):da K H F F ρ σ H:=nH R.sub hn R.val R.obs R.len
theorem Kk{link:List (Option Nat)}{g:eX}{fl:bX}{L:List Nat}{F H:Hp}{ρ:aF}{σ:St}{ps qs:az}{Q:VK}(hg:KG L g)(hL:∀i∈L,link[i]?=some none)(Qy:∀ρ,fl ρ=some [])(R:da X.K H₀ ab F ρ σ H)(hf:ρ[f]?=some (.val (.au ps)))
  (hc:dD link (cJ (rd f)) g (fun _=>some .cG) ρ=some qs) (FW:∀e∈ρ,(∀ps,e≠.own ps)/\∀m,e≠.eW m) (q:∀(F' H':Hp) (a:ae) (bs:List ae),bs.length=ps.length->Same F F'->Same F' H'->Same H H'->(∀b u,F' b=some u->F b=some u\/H b=none)->H' a=none->bs.Nodup->(∀b∈bs,H' b=some (.au [])/\H b=none/\F' b=none)->Q (.ref a) (dX H' a (.au (bs.map .ref)))) :
  lM link (zO X.K (cJ (rd f))) (Kj X.K g fl) σ H Q:=by
 have Y4:cJ (rd f) ρ=some ps:=by
  unfold cJ rd;rw[hf];rfl
 unfold dD at hc;rw[Y4,aV]at hc;obtain⟨dm,hm⟩:=aJ hc;have W0:∀(k:Nat) (p:PV),ps[k]?=some p->∃eu,g p (bj link ρ)=some eu:=fun k p hk=>by
  clear dm Y4 hf q hc;induction ps generalizing k qs with
  | nil=>cases hk
  | cons p0 r ih =>
   obtain⟨o1,e1,e2⟩:=ay (show((g p0 (bj link ρ)).bind fun _=>some PV.cG).bind (fun y=>(iB (fun p=>(g p (bj link ρ)).bind fun _=>some PV.cG) r).map fun ys=>y::ys)=some qs from by rw[<-hm];rfl)
   cases k with
   | zero=>cases hk;obtain⟨eu,e3,_⟩:=ay e1;exact⟨eu,e3⟩
   | succ k =>
    cases w:iB (fun p=>(g p (bj link ρ)).bind fun _=>some PV.cG) r with
    | none=>rw[w]at e2;cases e2
    | some ys=>exact ih w k hk
 refine⟨(H,F),F,ρ,ps,R.now FW,Y4,fun J H1 F1 R1 s1 wk=>?_⟩
 refine⟨fun k m acc cn H'=>m=ps.length-k/\k<=ps.length/\∃F' bs,acc=bs.map .ref/\bs.length=k/\bs.Nodup/\da X.K H' F' F' (bj link ρ) cn H'/\Same F1 F'/\Same H1 H'/\(∀b u,F' b=some u->F1 b=some u\/H1 b=none)/\∀b∈bs,H' b=some (.au [])/\H1 b=none/\F' b=none,
  ⟨ps.length,rfl,gn _,F1,[],rfl,rfl,.nil,(R1.inner link).now fun e he=>zP he,Same.refl _,Same.refl _,(fun _ _ e=>.inl e),fun b hb=>by cases hb⟩,?_⟩
 rintro k m acc cn H' ⟨rfl,hk,F',bs,rfl,Ej,UK,R',sF,sH,fr,hb⟩
 obtain⟨wg,M8⟩:=wk H' F' F' (bj link ρ) cn H' R' sF k;by_cases eM:k<ps.length
 ·obtain⟨go,wy⟩:=wg ps[k] (du eM);have hsz:k<sizeLine:=cQ eM (fx dm);refine .inr ⟨go,by rw[aC,Ej];exact hsz,fun u H2 yl=>?_⟩
  obtain⟨F2,R2,s2,b2⟩:=wy u H2 yl;obtain⟨eu,e1⟩:=W0 k _ (du eM);obtain⟨l1,k1⟩:=hg _ _ _ e1;refine⟨(H',F'),F2,bj link ρ,ps[k],eu,R2,b2,e1,fun lx H3 F3 R3 s3=>⟨F3,eu,[],R3,Qy _,fun a vs H4 F4 R4 s4 b4 hn=>⟨ps.length-(k+1),by lia,rfl,eM,F4,bs++[a],?_,by rw[bK,Ej];rfl,?_,?_,sF.trans R4.base,sH.trans (R4.keep.trans (dI hn)),?_,?_⟩⟩⟩
  ·rw[cY];rfl
  ·refine List.nodup_append.mpr ⟨UK,fu.mpr ⟨by simp,.nil⟩,fun x hx z hz=>?_⟩
   rw[cq]at hz;subst hz;exact ne_of_none (R4.keep _ _ (hb x hx).1) hn
  ·rw[b4.cf];exact((R4.cE l1 k1 hL).Ju (.au []) hn).now fun e he=>zP he
  ·intro b u e;rcases R4.fresh b u e with z | z
   ·exact fr b u z
   ·exact .inr (sH.free z)
  ·intro b hbm;rcases cR.mp hbm with z | z
   ·obtain⟨h1,h2,h3⟩:=hb b z;refine⟨dI hn _ _ (R4.keep _ _ h1),h2,?_⟩;cases w:F4 b with
    | none=>rfl
    | some u =>
     rcases R4.fresh b u w with z | z
     ·have z:F' b=some u:=z;rw[h3]at z;cases z
     ·have z:H' b=none:=z;rw[h1]at z;cases z
   ·rw[cq]at z;subst z;refine⟨by rw[b4.cf];exact aX,sH.free (R4.keep.free hn),R4.sub.free hn⟩
 ·have e:k=ps.length:=by lia
  subst e;refine .inl ⟨M8 (l0 (bh _)),by rw[aC,Ej];exact fx dm,fun D hn=>?_⟩
  refine q F' H' D bs Ej (s1.trans sF) R'.sub (R1.keep.trans sH) (fun b u e=>?_) hn UK fun b hbm=>?_
  ·rcases fr b u e with z | z
   ·exact R1.fresh b u z
   ·exact .inr (R1.keep.free z)
  ·obtain⟨h1,h2,h3⟩:=hb b hbm;exact⟨h1,R1.keep.free h2,h3⟩
theorem zQ{K:ak}{F:Hp}:∀ns:List Int,bt K F (ns.map .int) (ns.map .int)
 | []=>.nil
 | n::r=>.cons (aI.mpr rfl) (zQ r)
open Classical in
theorem Og{F F1 F2 H H2:Hp}{ρ:aF}{σ uM:St}{a:ae}{bs:List ae}{acc:List (List Int)}(R:da X.K H₀ ab F ρ σ H)(FW:∀e∈ρ,(∀ps,e≠.own ps)/\∀m,e≠.eW m)(s1:Same F F1)(hi:i<ρ.length)
  (A:kJ H₀ ab F1 (σ.set i (some (.ref a))) a bs i x y o acc F2 uM H2):∃F',da X.K H₀ ab F' ((((ρ.set x .un).set y .un).set o .un).set i (.own (w6 acc))) uM H2/\Same F F':=by
 have Ml:∀(k:Nat) (e:Ent),((((ρ.set x .un).set y .un).set o .un).set i (.own (w6 acc)))[k]?=some e->(k=i/\e=.own (w6 acc))\/e=.un\/(k≠i/\k≠x/\k≠y/\k≠o/\ρ[k]?=some e):=fun k e h=>by
  by_cases h1:i=k
  ·subst h1;rw[bP (by simp only[dw];exact hi)]at h
   exact .inl ⟨rfl,(bD h).symm⟩
  rw[bx h1]at h;have un:∀{l:aF} {j:Nat},(l.set j Ent.un)[k]?=some e->e=.un\/(k≠j/\l[k]?=some e):=fun {l j} h=>by
   by_cases hj:j=k
   ·subst hj;rw[List.getElem?_set]at h;simp only[ko]at h;split at h
    ·exact .inl (bD h).symm
    ·cases h
   ·rw[bx hj]at h;exact .inr ⟨fun z=>hj z.symm,h⟩
  rcases un h with z | ⟨h2,h⟩
  ·exact .inr (.inl z)
  rcases un h with z | ⟨h3,h⟩
  ·exact .inr (.inl z)
  rcases un h with z | ⟨h4,h⟩
  ·exact .inr (.inl z)
  exact .inr (.inr ⟨fun z=>h1 z.symm,h4,h3,h2,h⟩)
 have hσ:∀k:Nat,k≠i->k≠x->k≠y->k≠o->uM[k]?=σ[k]?:=fun k k1 k2 k3 k4=>by rw[A.off.2 k k2 k3 k4,bx (fun z=>k1 z.symm)]
 have hF:∀b∈bs,F2 b=none:=fun b hb=>(A.nest.QD b (bQ _ hb)).2.1
 have up:Same F2 (fun b=>if b∈bs then H2 b else F2 b):=fun b u e=>by
  show(if b∈bs then H2 b else F2 b)=_
  rw[if_neg (fun z=>by rw[hF b z]at e;cases e)]
  exact e
 have Y5:=s1.trans (A.base.trans up);have ab1:∃a vs,uM[i]?=some (some (.ref a))/\H2 a=some (.au vs)/\H₀ a=none/\(if a∈bs then H2 a else F2 a)=none/\bt X.K (fun b=>if b∈bs then H2 b else F2 b) (w6 acc) vs:=by
  obtain⟨f1,f2,_⟩:=A.nest.QD a b6;refine⟨a,_,A.ix,A.nest.out,f1,by rw[if_neg (fu.mp A.nest.nd).1];exact f2,?_⟩
  have:∀(l:List ae) (c:List (List Int)),c.length=l.length->(∀(j:Nat) (b:ae) (ns:List Int),l[j]?=some b->c[j]?=some ns->b∈bs/\H2 b=some (.au (ns.map .int)))->bt X.K (fun b=>if b∈bs then H2 b else F2 b) (w6 c) (l.map .ref):=fun l=>by
   induction l with
   | nil=>intro c hc _;cases c with
    | nil=>exact .nil
    | cons _ _=>cases hc
   | cons b r ih =>
    intro c hc hh;cases c with
    | nil=>cases hc
    | cons ns c =>
     obtain⟨m1,m2⟩:=hh 0 b ns rfl rfl;refine .cons (bB.mpr ⟨b,_,rfl,qj.of ?_,zQ ns⟩) (ih c (by simpa using hc) fun j b' ms g1 g2=>hh (j+1) b' ms g1 g2)
     show(if b∈bs then H2 b else F2 b)=_
     rw[if_pos m1];exact m2
  exact this bs acc A.nest.len fun j b ns g1 g2=>⟨cj g1,A.nest.inn j b ns g1 g2⟩
 refine⟨fun b=>if b∈bs then H2 b else F2 b,?_,Y5⟩
 exact {
  sub:=fun b u e=>by
   have e:(if b∈bs then H2 b else F2 b)=some u:=e
   by_cases h:b∈bs
   ·rw[if_pos h]at e;exact e
   ·rw[if_neg h]at e;exact A.sub _ _ e
  keep:=A.keep
  base:=R.base.trans Y5
  fresh:=fun b u e=>by
   have e:(if b∈bs then H2 b else F2 b)=some u:=e
   by_cases h:b∈bs
   ·exact .inr (A.nest.QD b (bQ _ h)).1
   ·rw[if_neg h]at e;exact A.fresh _ _ e
  val:=fun k p e=>by
   rcases Ml k _ e with⟨_,z⟩ | z | ⟨k1,k2,k3,k4,z⟩
   ·cases z
   ·cases z
   ·obtain⟨v,h1,h2⟩:=R.val k p z;exact⟨v,(hσ k k1 k2 k3 k4).trans h1,h2.mono Y5⟩
  own:=fun k ps e=>by
   rcases Ml k _ e with⟨rfl,z⟩ | z | ⟨k1,k2,k3,k4,z⟩
   ·cases z;exact ab1
   ·cases z
   ·exact absurd rfl ((FW _ (cj z)).1 ps)
  apart:=fun j k ps qs b e1 e2 _ _=>by
   rcases Ml j _ e1 with⟨rfl,z⟩ | z | ⟨_,_,_,_,z⟩
   ·rcases Ml k _ e2 with⟨rfl,w⟩ | w | ⟨_,_,_,_,w⟩
    ·rfl
    ·cases w
    ·exact absurd rfl ((FW _ (cj w)).1 qs)
   ·cases z
   ·exact absurd rfl ((FW _ (cj z)).1 ps)
  obs:=fun k p e=>by
   rcases Ml k _ e with⟨_,z⟩ | z | ⟨k1,k2,k3,k4,z⟩
   ·cases z
   ·cases z
   ·obtain⟨v,h1,h2⟩:=R.obs k p z;exact⟨v,(hσ k k1 k2 k3 k4).trans h1,h2.mono Y5⟩
  eW:=fun k m e=>by
   rcases Ml k _ e with⟨_,z⟩ | z | ⟨_,_,_,_,z⟩
   ·cases z
   ·cases z
   ·exact absurd rfl ((FW _ (cj z)).2 m)
  len:=by
   simp only[dw];rw[A.off.1,dw];exact R.len}
theorem GS{ρ:aF}(h:ρ.all QC=true):∀e∈ρ,(∀ps,e≠.own ps)/\∀m,e≠.eW m:=fun e he=>by
 have:=fq.mp h e he;exact⟨(fun ps z=>by subst z;cases this),fun m z=>by subst z;cases this⟩
theorem Oh{link:List (Option Nat)}{g:eX}{fl:bX}{L:List Nat}{F H:Hp}{ρ:aF}{σ:St}{out:n4}{D:j2}(hg:KG L g)(hL:∀i∈L,link[i]?=some none)(Qy:∀ρ,fl ρ=some [])(R:da X.K H₀ ab F ρ σ H)
  (h:Kh link g i f x y o ρ=some out) (q:zg X H₀ ab F D out):Vn (mZ (lM link (zO X.K (cJ (rd f))) (Kj X.K g fl)) (gName i)) (Of X i f x y o) D σ H:=by
 unfold Kh at h;split at h
 ·rename_i ps hf;obtain⟨hc,h⟩:=aJ h;simp only[aQ,gY,List.all_nil,gD,Bool.and_true]at hc;obtain⟨⟨⟨hcm,hna⟩,hd⟩,hli,WZ,hly,UC⟩:=hc;have FW:=GS hna;obtain⟨qs,hcm⟩:=Option.isSome_iff_exists.mp hcm;have dm:=R.len;obtain⟨v,v1,v2⟩:=R.val f _ hf;have hfi:f≠i:=by simp at hd;lia
  cases z:w5 0 ps (List.replicate ps.length [])with
  | none=>rw[z]at h;cases h
  | some acc =>
   rw[z]at h;cases h;show lM link (zO X.K (cJ (rd f))) (Kj X.K g fl) σ H fun u H1=>Of X i f x y o D (σ.set i (some u)) H1
   refine Kk hg hL Qy R hf hcm FW fun F' H' a bs Ej sF sub sH fr hn UK hb=>?_
   have off:WV x y o (σ.set i (some (.ref a))) (σ.set i (some (.ref a))):=⟨rfl,fun _ _ _ _=>rfl⟩
   have hai:∀b∈bs,b≠a:=fun b lN=>ne_of_none (hb b lN).1 hn
   refine GR (ab:=ab) (f:=f) (ps:=ps) (v:=v) (acc:=List.replicate ps.length []) (acc':=acc) ⟨off,bP (by rw[<-dm];exact hli),⟨aX,by rw[iq,Ej],fun j b ns g1 g2=>?_,fu.mpr ⟨fun z=>hai a z rfl,UK⟩,fun b hbm=>?_⟩,?_,R.keep.trans (sH.trans (dI hn)),Same.refl _,fun b u e=>?_⟩ ?_ (v2.mono sF) hd ?_ ?_ ?_ z fun F2 uM H2 A2=>?_
   ·rw[ip]at g2;split at g2
    ·cases g2;rw[aR (hai b (cj g1))];exact(hb b (cj g1)).1
    ·cases g2
   ·rcases bc.mp hbm with rfl | hbm
    ·exact⟨R.keep.free (sH.free hn),sub.free hn,_,aX⟩
    ·obtain⟨h1,h2,h3⟩:=hb b hbm;exact⟨R.keep.free h2,h3,_,dI hn _ _ h1⟩
   ·exact sub.trans (dI hn)
   ·rcases fr b u e with z | z
    ·exact R.fresh b u z
    ·exact .inr (R.keep.free z)
   ·rw[bx (fun z=>hfi z.symm)];exact v1
   ·rw[dw,<-dm];exact WZ
   ·rw[dw,<-dm];exact hly
   ·rw[dw,<-dm];exact UC
   ·obtain⟨F3,R3,s3⟩:=Og R FW sF hli A2;obtain⟨F4,R4,s4,_⟩:=R3.lF none;exact q F4 uM H2 R4 (s3.trans s4)
 ·cases h
end
structure Gm where
 sc:List (Str×NameKind)
 N:List Str
 fns:List (Str×Nat)
 cons:List (Str×PV)
 d3:List Str
 chg:List Str
 own:Bool
 call:fV
 exc:List Str
 sub:List ((Str×Str)×Bool)
 tabs:List (Str×List (Str×Str))
 QE:List Str
 GU:List (Str×Nat)
 pN:Str->Ob->az->dA
 cls:List (Str×Nat)
 make:Str->az->Option (List (Str×Fd))
 flds:List Str
 fZ:List (Str×List (Str×PV))
 yq:Bool
 PN:List Str
def slot(Γ:Gm)(x:Str):Option Nat:=Γ.N.findIdx? (· == x)
def vis(Γ:Gm)(x:Str):Bool:=match Γ.sc.lookup x with | some .local=>true | some .cell=>true | some .free=>true | _=>false
def GV(Γ:Gm)(x:Str):Bool:=match Γ.sc.lookup x with | some .local=>true | some .cell=>Γ.own | _=>false
def Bk(Γ:Gm)(x:Str):Bool:=match Γ.sc.lookup x with | some .globalImplicit=>true | _=>false
def d9(x:Str):Bool:=!(x==("__debug__":Str))&&!(x==("__classdict__":Str))&&!(x==("__name__":Str))
structure Kl (Γ:Gm) (X:Cx):Prop where
 ex:∃p q fs fT Kc EH k,Kb X.K X.mg p q fs fT Kc EH/\eI (k+2) X.A /\
  (∀x n,Γ.fns.lookup x=some n->∃j f fd ps,j<=k/\FnOk X.prog X.w X.K X.mg X.base (lK X.prog X.w) j f fd ps (Cq X.K n (Γ.call x))/\X.mg x=some (.ref f)/\W.keepIn X.K (.ref f)=true/\f9 X.K fd ps []) /\
  ∀x n,Γ.GU.lookup x=some n->∃j f fd ps,j<=k/\FnOk X.prog X.w X.K X.mg X.base (lK X.prog X.w) j f fd ps (spO X.K n (Γ.pN x))/\X.mg x=some (.ref f)/\W.keepIn X.K (.ref f)=true/\f9 X.K fd ps []
 lam:QB X
structure W2 (Γ:Gm) (X:Cx):Prop where
 GU:abR X Γ.GU Γ.pN
 ns:∀x a,W.nsIn X.K mainGlobals x=some (some (.ref a))->X.mg x=some (.ref a)
 cls:∀C n,Γ.cls.lookup C=some n->∃k Ca f fd ps,Mk X.K Ca f/\Uw X.K Ca/\(∀f,Γ.flds.contains f=true->oA X.K Ca f)/\FnOk X.prog X.w X.K X.mg X.base (lK X.prog X.w) k f fd ps (spI X.K n (Γ.make C))/\eI (k+1) X.A/\X.mg C=some (.ref Ca)/\f9 X.K fd ps []
 fZ:∀T b7,Γ.fZ.lookup T=some b7->CS X.K X.mg X.w.params T b7
 yq:Γ.yq=true->Kl Γ X
structure GOk (Γ:Gm) (X:Cx):Prop where
 names:X.env.scope.names=Γ.sc
 N:X.N=Γ.N
 nd:X.N.Nodup
 kind:X.env.scope.kind=.function
 calm:X.calm=true
 hd:X.A.handled=none
 un:X.A.units+1150<cLine
 own:Γ.own=true->∀x,X.fn x=true
 fns:∀x n,Γ.fns.lookup x=some n->∃k f fd ps,FnOk X.prog X.w X.K X.mg X.base (lK X.prog X.w) k f fd ps (Cq X.K n (Γ.call x))/\eI k X.A/\X.mg x=some (.ref f)/\W.keepIn X.K (.ref f)=true/\f9 X.K fd ps []
 cons:∀x p,Γ.cons.lookup x=some p->∃u v,X.mg x=some u/\RelV v u/\∀F,c9 X.K F p v
 d3:∀x,Γ.d3.contains x=true->X.mg x=none
 excs:∀C,Γ.exc.contains C=true->uy X.K C
 subs:∀C D b,Γ.sub.lookup (C,D)=some b->JU X.K X.mg C D b
 tabs:∀T b7,Γ.tabs.lookup T=some b7->Ey X.K X.mg X.w.params T b7
 xb:W2 Γ X
def cH:aq->Bool
 | .Starred _ _=>false
 | .Set _ _ _=>false
 | _=>true
def nI:aq->Bool
 | .Slice _ _ _ _=>false
 | _=>true
def EL:aq->Bool
 | .Tuple _ _ _=>false
 | .ListComp _ _ _ _=>false
 | .SetComp _ _ _ _=>false
 | .DictComp _ _ _ _ _=>false
 | _=>true
def xc:aq->Bool
 | .ListComp _ _ _ _=>false
 | .SetComp _ _ _ _=>false
 | .DictComp _ _ _ _ _=>false
 | _=>true
theorem xf{e:aq}(h:EL e=true):xc e=true:=by
 cases e<;>first | rfl | cases h
def Km:aq->Bool
 | .UnaryOp .Not _ _=>false
 | .BoolOp _ _ _=>false
 | .IfExp _ _ _ _=>false
 | .Compare _ _ _ _=>false
 | _=>true
theorem bI{e:aq}(h:cH e=true)(es:List aq)(env:Env):starEach (e::es) env=(false,eval e env)::starEach es env:=by
 cases e<;>first | rfl | cases h
theorem i0{e:aq}(h:cH e=true)(op:CmpOp):behindInMarks op e=false:=by
 cases e<;>first | rfl | cases h
theorem CY{e:aq}(h:cH e=true)(env:Env)(x:aj):foldedSetIterable e env x=pure x:=by
 cases e<;>first | rfl | cases h
theorem kK{e:aq}(h:nI e=true):kZ e:=by
 intro o i;cases e<;>first | rfl | cases h
theorem Kn{e:aq}(h:Km e=true)(env:Env)(iS:Sem aj):isTrue e env iS=(do let v <-iS;standAt e.pos;holding [v] (truthy v)):=by
 cases e with
 | UnaryOp op a p=>cases op<;>first | rfl | cases h
 | BoolOp _ _ _=>cases h
 | IfExp _ _ _ _=>cases h
 | Compare _ _ _ _=>cases h
 | _=>rfl
theorem gR{e:aq}(h:xc e=true)(t:Option aq)(l:Nat)(env:Env):swapsWith e t l env=pure false:=by
 cases e<;>first | rfl | cases h
theorem gS{es:List aq}(h:es.all cH=true)(env:Env)(pos:Pos):(backTo pos (starEach es env)).any (·.1)=false:=by
 induction es with
 | nil=>rfl
 | cons e es ih =>
  rw[gY,aQ]at h;rw[bI h.1];exact ih h.2
noncomputable def ug:Nat->Gm->aq->Option (eX×List Nat)
 | 0,_,_=>none
 | n+1,Γ,e=>match e with
  | .Name x _=>if GV Γ x=true then(slot Γ x).map fun i=>(ao i,[i])else none
  | .Tuple es _ _=>(es.foldr (fun e r=>(ug n Γ e).bind fun g=>r.map fun gs=>(ax g.1 gs.1,g.2++gs.2)) (some (cB,[]))).map fun gs=>(cC es.length gs.1,gs.2)
  | _=>none
theorem Ko{Γ:Gm}{x:Str}{i:Nat}(h:slot Γ x=some i):Γ.N[i]?=some x:=by
 unfold slot at h;obtain⟨hi,hp,_⟩:=HX.mp h;rw[du hi];exact dy some (bE hp)
section
variable {Γ:Gm} {X:Cx} {x:Str} {pos:Pos}
theorem GOk.Oi(G:GOk Γ X)(h:vis Γ x=true):Uy X.env.scope x:=by
 unfold vis at h;unfold Uy;rw[G.names];split at h<;>simp_all
theorem GOk.Oj(G:GOk Γ X)(h:GV Γ x=true):PQ X.env.scope x/\(X.fn x=true\/X.env.scope.names.lookup x=some .local):=by
 unfold GV at h;unfold PQ;rw[G.names];split at h
 ·rename_i z;exact⟨.inl z,.inr z⟩
 ·rename_i z;exact⟨.inr z,.inl (G.own h x)⟩
 ·cases h
theorem GOk.lE(G:GOk Γ X)(h:Bk Γ x=true):Gl X x:=by
 unfold Bk at h;show X.env.scope.names.lookup x=_;rw[G.names];split at h
 ·assumption
 ·cases h
theorem GOk.jE(G:GOk Γ X){i:Nat}(h:slot Γ x=some i):X.N[i]?=some x:=by
 rw[G.N];exact Ko h
theorem jQ(G:GOk Γ X):∀(n:Nat) (e:aq) (g:eX×List Nat),ug n Γ e=some g->(∀H₀ ab:Hp,PG X e (tG X.K H₀ ab g.1))/\KG g.2 g.1/\(∀env:Env,(assignEach [e] env).map (·.2)=[assign e env])/\∀(es:List aq) (env:Env),assignEach (e::es) env=(false,assign e env)::assignEach es env
 | 0,_,_,h=>by cases h
 | n+1,e,g,h=>by
  cases e with
  | Name x p =>
   have h:(if GV Γ x=true then(slot Γ x).map fun i=>(ao i,[i])else none)=some g:=h
   obtain⟨hs,h⟩:=aJ h;cases z:slot Γ x with
   | none=>rw[z]at h;cases h
   | some i =>
    rw[z]at h;cases h;obtain⟨h1,h2⟩:=G.Oj hs;exact⟨fun H₀ ab=>Sj i (wa G.nd (G.jE z) h1 h2),Na i,fun _=>rfl,fun _ _=>rfl⟩
  | Tuple es k p =>
   have all:∀(es:List aq) (gs:(az->aF->Option aF)×List Nat),es.foldr (fun e r=>(ug n Γ e).bind fun g=>r.map fun gs=>(ax g.1 gs.1,g.2++gs.2)) (some (cB,[]))=some gs ->
     (∀H₀ ab:Hp,HQ X es (V9 X.K H₀ ab gs.1))/\Wg gs.2 gs.1/\∀env:Env,(assignEach es env).length=es.length/\(assignEach es env).findIdx? (·.1)=none:=by
    intro es;induction es with
    | nil =>
     intro gs h;cases h;exact⟨fun H₀ ab=>Sk,Nb,fun env=>⟨rfl,rfl⟩⟩
    | cons e es ih =>
     intro gs h;rw[List.foldr_cons]at h;obtain⟨g1,e1,h⟩:=ay h;cases z:es.foldr (fun e r=>(ug n Γ e).bind fun g=>r.map fun gs=>(ax g.1 gs.1,g.2++gs.2)) (some (cB,[]))with
     | none=>rw[z]at h;cases h
     | some g2 =>
      rw[z]at h;cases h;obtain⟨a1,a2,a3,a4⟩:=jQ G n e g1 e1;obtain⟨b1,b2,b3⟩:=ih g2 z;refine⟨fun H₀ ab=>M7 (a1 H₀ ab) (b1 H₀ ab) (by rw[a4];rfl),JD a2 b2,fun env=>?_⟩
      rw[a4];obtain⟨c1,c2⟩:=b3 env;exact⟨by rw[bq,bq,c1],by rw[List.findIdx?_cons];simp[c2]⟩
   have h:(es.foldr (fun e r=>(ug n Γ e).bind fun g=>r.map fun gs=>(ax g.1 gs.1,g.2++gs.2)) (some (cB,[]))).map (fun gs=>(cC es.length gs.1,gs.2))=some g:=h
   cases z:es.foldr (fun e r=>(ug n Γ e).bind fun g=>r.map fun gs=>(ax g.1 gs.1,g.2++gs.2)) (some (cB,[]))with
   | none=>rw[z]at h;cases h
   | some gs =>
    rw[z]at h;cases h;obtain⟨b1,b2,b3⟩:=all es gs z;exact⟨fun H₀ ab=>Wa G.calm (b1 H₀ ab) (b3 _).1 (b3 _).2,Sl b2,fun _=>rfl,fun _ _=>rfl⟩
  | _=>cases h
end
def CZ(x:Str):Option (az->bU) :=
 if x==("len":Str)then some cX
 else if x==("tuple":Str)then some lD
 else if x==("list":Str)then some JN
 else if x==("int":Str)then some wM
 else if x==("sum":Str)then some CB
 else if x==("str":Str)then some zB
 else none
def xg(x:Str):List aq->Option (Str×List aq)
 | [.Call (.Name z _) [.List l _] [] _]=>if(x==("sorted":Str)&&z==("set":Str))=true then some (z,l)else none
 | _=>none
theorem xh{x:Str}{es:List aq}{z:Str}{l:List aq}(h:xg x es=some (z,l)):x="sorted"/\z="set"/\∃p lp pos,es=[.Call (.Name z p) [.List l lp] [] pos]:=by
 unfold xg at h;split at h
 ·split at h
  ·rename_i hc;cases h;rw[aQ]at hc;exact⟨bE hc.1,bE hc.2,_,_,_,rfl⟩
  ·cases h
 ·cases h
def xi(x:Str):List aq->Option (Str×aq×List aq)
 | [.Call (.Name z _) (b::bs) [] _]=>if(x==("list":Str)&&z==("range":Str))=true then some (z,b,bs)else none
 | _=>none
theorem xj{x:Str}{es:List aq}{z:Str}{b:aq}{bs:List aq}(h:xi x es=some (z,b,bs)):x="list"/\z="range"/\∃p pos,es=[.Call (.Name z p) (b::bs) [] pos]:=by
 unfold xi at h;split at h
 ·split at h
  ·rename_i hc;cases h;rw[aQ]at hc;exact⟨bE hc.1,bE hc.2,_,_,rfl⟩
  ·cases h
 ·cases h
def kL(scope:Scope):List Str:=(scope.names.filter fun y=>match y.2 with | .local=>true | .free=>true | _=>false).map (·.1)
def gr(Γ:Gm)(scope:Scope):List (Option Nat):=(kL scope).map fun x=>match scope.names.lookup x with | some .free=>slot Γ x | _=>none
def C0(Γ:Gm)(scope:Scope):List (Str×NameKind):=scope.names.map fun(n,k)=>if(k==NameKind.free&&Γ.sc.lookup n==some .cell)then(n,NameKind.cell)else(n,k)
def vh(Γ:Gm)(scope:Scope):Gm:={Γ with sc:=C0 Γ scope,N:=kL scope,chg:=[],own:=false,yq:=false}
def xk:ScopeKind->Bool
 | .function=>true
 | _=>false
def oQ(Γ:Gm)(scope:Scope)(L:List Nat):Bool :=
 xk scope.kind&&scope.names.all (fun y=>match y.2 with
  | .cell=>false
  | .local=>(match scope.names.lookup y.1 with | some .local=>true | _=>false)
  | .free=>(match Γ.sc.lookup y.1 with | some .cell=>true | some .free=>true | _=>false)
  | _=>true)&&decide (kL scope).Nodup&&L.all fun i=>match(gr Γ scope)[i]? with | some none=>true | _=>false
def xl:Arguments->Option (Str×Pos)
 | ⟨[],[⟨x,none,ap⟩],none,[],[],none,[]⟩=>some (x,ap)
 | _=>none
def isFree(k:Option NameKind):Bool:=match k with | some .free=>true | _=>false
def xm(scope:Scope):List Str:=(scope.names.filter fun y=>isFree (some y.2)).map (·.1)
def qu(Γ:Gm)(scope:Scope):List (Option Nat):=(xm scope).map (slot Γ)
def W3(Γ:Gm)(x:Str)(scope:Scope):Gm:={Γ with sc:=scope.names,N:=x::xm scope,chg:=[],own:=false,yq:=false,cls:=[]}
def Kp(Γ:Gm)(x:Str)(scope:Scope):Bool :=
 xk scope.kind&&!scope.isCoroutine&&!scope.isGenerator&&(match scope.names.lookup x with | some .local=>true | _=>false)&&scope.names.all (fun y=>match y.2 with
  | .cell=>false
  | .free=>(match Γ.sc.lookup y.1 with | some .cell=>true | some .free=>true | _=>false)&&isFree (scope.names.lookup y.1)
  | _=>true)&&decide (x::xm scope).Nodup
def Kq(Γ:Gm)(x:Str)(f:FE):FE:=if(x==("len":Str)&&!Γ.chg.isEmpty)=true then gP f else f
theorem Ol{Γ:Gm}{X:Cx}{x:Str}{e:aq}{f:FE}{H₀ ab:Hp}(h:PE X e (tE X.K H₀ ab f)):PE X e (tE X.K H₀ ab (Kq Γ x f)):=by
 unfold Kq;split
 ·exact JG h
 ·exact h
def isQ:aq->Bool
 | .Attribute _ _ _=>true
 | .Call (.Name _ _) (_::_) [] _=>true
 | .Call (.Subscript _ _ _) (_::_) [] _=>true
 | .Subscript (.Name _ _) _ _=>true
 | _=>false
mutual
noncomputable def di:Nat->Gm->aq->Option FE
 | 0,_,_=>none
 | n+1,Γ,e=>match(match isQ e with | true=>Om n Γ e | false=>none)with | some f=>some f | none=>match e with
  | .Constant (.int i) _ _=>some fun _=>some (.int i)
  | .Constant (.bool i) _ _=>some fun _=>some (.bl i)
  | .Constant .none _ _=>some fun _=>some .cG
  | .Constant (.str i) _ _=>some fun _=>some (.str i)
  | .Name x _=>if d9 x=true then(if vis Γ x=true then(slot Γ x).map rd else if Bk Γ x=true then(Γ.cons.lookup x).map fun p=>fun _=>some p else none)else none
  | .BinOp a op b _=>(Sq op).bind fun g=>(di n Γ a).bind fun fa=>(di n Γ b).map fun fb=>af fa fb g
  | .UnaryOp .Not a _=>(di n Γ a).map Ge
  | .UnaryOp .USub a _=>(di n Γ a).map Gw
  | .BoolOp op vs _=>Kr n Γ op vs
  | .Compare a [op] [b] _=>if cH b=true then(Cz op).bind fun g=>(di n Γ a).bind fun fa=>(di n Γ b).map fun fb=>af fa fb g else none
  | .Compare a [op,wj] [b,c] _=>if cH c=true then(Cz op).bind fun g=>(Cz wj).bind fun g'=>(di n Γ a).bind fun fa=>(di n Γ b).bind fun fb=>(di n Γ c).map fun fc=>chain fa fb fc g g' else none
  | .IfExp c a b _=>(uh n Γ c).bind fun gc=>(di n Γ a).bind fun fa=>(di n Γ b).map fun fb=>t6 gc fa fb
  | .Tuple es _ _=>(nJ n Γ es).map aZ
  | .List es _=>(nJ n Γ es).map fun ts=>bH (cw ts)
  | .Subscript a (.Slice lo hi none _) _=>(di n Γ a).bind fun fa=>(GW n Γ lo).bind fun fl=>(GW n Γ hi).map fun fh=>cutE fa fl fh
  | .Subscript a b _=>if nI b=true then(di n Γ a).bind fun fa=>(di n Γ b).map fun fb=>af fa fb aG else none
  | .ListComp elt [⟨tg,iter,ifs,0⟩] scope _=>(Oo n Γ elt tg iter ifs scope).map bH
  | .Call (.Name x _) (a::es) [] _=>if(d9 x&&Bk Γ x&&(a::es).all cH)=true then(match Γ.fns.lookup x with
    | some m=>(nJ n Γ (a::es)).map fun ts=>aD (aP m (Γ.call x)) ts
    | none=>if Γ.d3.contains x=true then(if x==("isinstance":Str)then Ks n Γ (a::es)else match xg x (a::es)with
     | some (z,l)=>if(Bk Γ z&&Γ.d3.contains z)=true then(nJ n Γ l).map J5 else none
     | none=>match xi x (a::es)with
     | some (z,b,bs)=>if(Bk Γ z&&Γ.d3.contains z&&(b::bs).all cH)=true then(nJ n Γ (b::bs)).map fun ts=>bH (lrg ts)else none
     | none=>(CZ x).bind fun g=>(nJ n Γ (a::es)).map fun ts=>Kq Γ x (cg g ts))else none)else none
  | .Call (.Subscript (.Name T _) ke _) (a::es) [] _=>if(d9 T&&Bk Γ T&&nI ke&&(a::es).all cH)=true then(Γ.tabs.lookup T).bind fun b7=>(di n Γ ke).bind fun fk=>(nJ n Γ (a::es)).map fun ts=>Gz b7 Γ.fns Γ.call fk ts else none
  | _=>none
noncomputable def Om:Nat->Gm->aq->Option FE
 | 0,_,_=>none
 | n+1,Γ,e=>match e with
  | .Call (.Name x _) (a::es) [] _=>EM n Γ x a es
  | .Subscript (.Name T _) ke _=>if(d9 T&&nI ke)=true then(if(vis Γ T&&Γ.PN.contains T)=true then(slot Γ T).bind fun i=>(di n Γ ke).map fun fk=>getD i fk else if(vis Γ T&&Γ.chg.contains T)=true then(slot Γ T).bind fun i=>(di n Γ ke).map fun fk=>WK i fk else none)else none
  | _=>none
noncomputable def EM:Nat->Gm->Str->aq->List aq->Option FE
 | 0,_,_,_,_=>none
 | n+1,Γ,x,a,es=>match es with
  | [.Lambda args body scope _]=>if(x==("spread":Str)&&Bk Γ x&&Γ.yq&&cH a)=true then(xl args).bind fun xa=>if Kp Γ xa.1 scope=true then(di n Γ a).bind fun fe=>(di n (W3 Γ xa.1 scope) body).map fun fb=>bH (lg fe fb (qu Γ scope))else none else none
  | _=>none
noncomputable def Kt:Nat->Gm->aq->Option YY
 | 0,_,_=>none
 | n+1,Γ,e=>none
noncomputable def uh:Nat->Gm->aq->Option eP
 | 0,_,_=>none
 | n+1,Γ,e=>match e with
  | .UnaryOp .Not a _=>(uh n Γ a).map j3
  | .BoolOp op vs _=>Ku n Γ op vs
  | .Compare a [op] [b] _=>if cH b=true then(Cz op).bind fun g=>(di n Γ a).bind fun fa=>(di n Γ b).map fun fb=>toB (af fa fb g)else none
  | .Compare a [op,wj] [b,c] _=>if cH c=true then(Cz op).bind fun g=>(Cz wj).bind fun g'=>(di n Γ a).bind fun fa=>(di n Γ b).bind fun fb=>(di n Γ c).map fun fc=>toB (chain fa fb fc g g')else none
  | e=>if Km e=true then(di n Γ e).map toB else none
noncomputable def Kr:Nat->Gm->BoolOp->List aq->Option FE
 | 0,_,_,_=>none
 | n+1,Γ,op,[a]=>di n Γ a
 | n+1,Γ,.And,a::b::r=>(di n Γ a).bind fun fa=>(Kr n Γ .And (b::r)).map fun fb=>zd fa fb
 | n+1,Γ,.Or,a::b::r=>(di n Γ a).bind fun fa=>(Kr n Γ .Or (b::r)).map fun fb=>Wu fa fb
 | _,_,_,_=>none
noncomputable def Ku:Nat->Gm->BoolOp->List aq->Option eP
 | 0,_,_,_=>none
 | n+1,Γ,op,[a]=>uh n Γ a
 | n+1,Γ,.And,a::b::r=>(uh n Γ a).bind fun fa=>(Ku n Γ .And (b::r)).map fun fb=>gA fa fb
 | n+1,Γ,.Or,a::b::r=>(uh n Γ a).bind fun fa=>(Ku n Γ .Or (b::r)).map fun fb=>zc fa fb
 | _,_,_,_=>none
noncomputable def nJ:Nat->Gm->List aq->Option bX
 | 0,_,_=>none
 | n+1,Γ,[]=>some ai
 | n+1,Γ,e::es=>if cH e=true then(di n Γ e).bind fun f=>(nJ n Γ es).map fun fs=>aa f fs else none
noncomputable def GW:Nat->Gm->Option aq->Option FO
 | 0,_,_=>none
 | n+1,Γ,none=>some Nu
 | n+1,Γ,some e=>(di n Γ e).map j0
noncomputable def Ks:Nat->Gm->List aq->Option FE
 | 0,_,_=>none
 | n+1,Γ,[a,.Name t _]=>if(d9 t&&Bk Γ t&&Γ.d3.contains t)=true then(Ew t).bind fun g=>(di n Γ a).map fun fa=>Qq g fa else none
 | _,_,_=>none
noncomputable def Kv:Nat->Gm->aq->aq->Option bX
 | 0,_,_,_=>none
 | n+1,Γ,tg,e=>match e with
  | .Call (.Name x _) [a] [] _=>if(x==("range":Str)&&Bk Γ x&&Γ.d3.contains x&&cH a)=true then(nJ n Γ [a]).map gG
    else if(x==("enumerate":Str)&&Bk Γ x&&Γ.d3.contains x&&cH a&&Qt tg)=true then(di n Γ a).map jC
    else(di n Γ e).map cJ
  | e=>if cH e=true then(di n Γ e).map cJ else none
noncomputable def Oo:Nat->Gm->aq->aq->aq->List aq->Scope->Option bX
 | 0,_,_,_,_,_,_=>none
 | n+1,Γ,elt,tg,iter,ifs,scope=>if cH iter=true then(Kv n Γ tg iter).bind fun fi=>(ug n (vh Γ scope) tg).bind fun g=>if oQ Γ scope g.2=true then(match ifs with
   | []=>(di n (vh Γ scope) elt).map fun fe=>dD (gr Γ scope) fi g.1 fe
   | [c]=>(uh n (vh Γ scope) c).bind fun ft=>(di n (vh Γ scope) elt).map fun fe=>eQ (gr Γ scope) fi g.1 ft fe
   | _=>none)else none else none
end
theorem iE{x:Str}(h:d9 x=true):(x==("__debug__":Str))=false/\(x==("__classdict__":Str))=false/\x≠"__name__":=by
 unfold d9 at h;simp only[aQ,Bool.not_eq_true']at h;exact⟨h.1.1,h.1.2,by simpa using h.2⟩
theorem aA{α β:Type}{o:Option α}{f:α->β}{b:β}(h:o.map f=some b):∃a,o=some a/\f a=b:=by
 cases o with
 | none=>cases h
 | some a=>exact⟨a,rfl,bD h⟩
structure Y6 (n:Nat):Prop where
 e:∀Γ X e f,GOk Γ X->di n Γ e=some f->∀H₀ ab,PE X e (tE X.K H₀ ab f)
 q:∀Γ X e f,GOk Γ X->Om n Γ e=some f->∀H₀ ab,PE X e (tE X.K H₀ ab f)
 sp:∀Γ X x a es f p pos,GOk Γ X->EM n Γ x a es=some f->∀H₀ ab,PE X (.Call (.Name x p) (a::es) [] pos) (tE X.K H₀ ab f)
 ob:∀Γ X e f,GOk Γ X->Kt n Γ e=some f->∀H₀ ab,PE X e (tO X.K H₀ ab f)
 t:∀Γ X e f,GOk Γ X->uh n Γ e=some f->∀H₀ ab,PT X e (tT X.K H₀ ab f)
 b:∀Γ X op vs f pos,GOk Γ X->Kr n Γ op vs=some f->∀H₀ ab,PE X (.BoolOp op vs pos) (tE X.K H₀ ab f)
 w:∀Γ X op vs f pos,GOk Γ X->Ku n Γ op vs=some f->∀H₀ ab,PW X (.BoolOp op vs pos) (tT X.K H₀ ab f)
 a:∀Γ X es f,GOk Γ X->nJ n Γ es=some f->(∀H₀ ab,PA X es (tA X.K H₀ ab f))/\es.all cH=true
 o:∀Γ X e f,GOk Γ X->GW n Γ e=some f->∀H₀ ab,PO X e (zu X.K H₀ ab f)
 is:∀Γ X es f p pos,GOk Γ X->Ks n Γ es=some f->Bk Γ "isinstance"=true->Γ.d3.contains "isinstance"=true->es.all cH=true->∀H₀ ab,PE X (.Call (.Name "isinstance" p) es [] pos) (tE X.K H₀ ab f)
 i:∀Γ X tg e f,GOk Γ X->Kv n Γ tg e=some f->(∀H₀ ab,PI X tg e (tI X.K H₀ ab f))/\∀x,foldedSetIterable e X.env x=pure x
 c:∀Γ X elt tg iter ifs scope f,GOk Γ X->Oo n Γ elt tg iter ifs scope=some f->(∀H₀ ab pos,PE X (.ListComp elt [⟨tg,iter,ifs,0⟩] scope pos) (tF X.K H₀ ab f)) /\
  ∀H₀ ab i x pos gO t7,X.N[i]?=some x->X.env.scope.names.lookup x=some .local->swapsWith (.ListComp elt [⟨tg,iter,ifs,0⟩] scope pos) (some (.Name x gO)) t7.line X.env=pure true ->
   ∃t:TE,(∀σ H Q,tF X.K H₀ ab f σ H Q->t σ H Q)/\PS X (.Assign [.Name x gO] (.ListComp elt [⟨tg,iter,ifs,0⟩] scope pos) t7) (mZ t (gName i))
set_option maxHeartbeats 4000000 in
theorem Ti{X:Cx}{x:Str}{g:az->bU}{a:aq}{es:List aq}{ts:bX}{p pos:Pos}{H₀ ab:Hp}(h:CZ x=some g)(hc:X.calm=true)(hh:X.A.handled=none)(hg:Gl X x)(hm:X.mg x=none)(ha:PA X (a::es) (tA X.K H₀ ab ts))
  (he:starEach (a::es) X.env=(false,eval a X.env)::starEach es X.env) (oG:(backTo pos (starEach es X.env)).any (·.1)=false):PE X (.Call (.Name x p) (a::es) [] pos) (tE X.K H₀ ab (cg g ts)):=by
 unfold CZ at h;split at h
 ·rename_i e;cases h;have e:=bE e;subst e;exact(m7 Gq hg hm PySem.boot_len ha (by decide) (by decide) he oG).imp fun _ _ _ h=>k8 h
 ·split at h
  ·rename_i e;cases h;have e:=bE e;subst e;exact(jz (T:="tuple") Gr hg hm (jP .tuple) ha (by decide) (by decide) he oG).imp fun _ _ _ h=>k8 h
  ·split at h
   ·rename_i e;cases h;have e:=bE e;subst e;exact(jz (T:="list") Gs hg hm (jP .list) ha (by decide) (by decide) he oG).imp fun _ _ _ h=>k8 h
   ·split at h
    ·rename_i e;cases h;have e:=bE e;subst e;exact(jz (T:="int") Gu hg hm (jP .int) ha (by decide) (by decide) he oG).imp fun _ _ _ h=>k8 h
    ·split at h
     ·rename_i e;cases h;have e:=bE e;subst e;exact(m7 (id:="sum") (Gv hh) hg hm boot_sum ha (by decide) (by decide) he oG).imp fun _ _ _ h=>k8 h
     ·split at h
      ·rename_i e;cases h;have e:=bE e;subst e;exact(jz (T:="str") GD hg hm (jP .str) ha (by decide) (by decide) he oG).imp fun _ _ _ h=>k8 h
      ·cases h
section
variable {Γ:Gm} {X:Cx} {scope:Scope} {L:List Nat}
theorem kM(h:oQ Γ scope L=true):scope.kind=.function/\(∀y∈scope.names,(match y.2 with
  | .cell=>false
  | .local=>(match scope.names.lookup y.1 with | some .local=>true | _=>false)
  | .free=>(match Γ.sc.lookup y.1 with | some .cell=>true | some .free=>true | _=>false)
  | _=>true)=true)/\(kL scope).Nodup/\∀i∈L,(gr Γ scope)[i]?=some none:=by
 unfold oQ at h;simp only[aQ,fq,gD]at h;obtain⟨⟨⟨h1,h2⟩,h3⟩,h4⟩:=h;refine⟨?_,h2,h3,fun i hi=>?_⟩
 ·unfold xk at h1;split at h1
  ·assumption
  ·cases h1
 ·have:=h4 i hi;split at this
  ·assumption
  ·cases this
theorem si(G:GOk Γ X)(h:oQ Γ scope L=true):gH X (kL scope) (gr Γ scope) scope:=by
 obtain⟨h1,h2,h3,h4⟩:=kM h;refine⟨h1,fun y hy z=>?_,fun y hy z=>?_,fun y hy z=>?_,by unfold gr;rw[aC],fun i j x hl hx=>?_⟩
 ·have:=h2 y hy;rw[z]at this;cases this
 ·have:=h2 y hy;rw[z]at this;simp only at this;split at this
  ·assumption
  ·cases this
 ·have:=h2 y hy;rw[z]at this;simp only at this;show X.env.scope.names.lookup y.1=_\/X.env.scope.names.lookup y.1=_;rw[G.names];split at this
  ·exact .inl (by assumption)
  ·exact .inr (by assumption)
  ·cases this
 ·unfold gr at hl;rw[cu,hx]at hl;have hl:(match scope.names.lookup x with | some .free=>slot Γ x | _=>none)=some j:=bD hl
  split at hl
  ·exact⟨G.jE hl,by assumption⟩
  ·cases hl
theorem zR(G:GOk Γ X)(h:oQ Γ scope L=true)(C:ae)(s:aw)(H:Hp)(fp:List ae):GOk (vh Γ scope) (cU X (kL scope) scope C s H fp) where
 names:=by
  show(relabel scope X.env).names=C0 Γ scope;have e:∀n,X.env.kindOf n=Γ.sc.lookup n:=fun n=>by show X.env.scope.names.lookup n=_;rw[G.names]
  unfold C0 relabel;simp only[G.kind,e]
  congr 1
  funext y
  obtain⟨n,k⟩:=y;simp
 N:=rfl
 nd:=(kM h).2.2.1
 kind:=by
  show(relabel scope X.env).kind=_;exact(kM h).1
 calm:=G.calm
 hd:=G.hd
 un:=G.un
 own:=fun z=>by cases z
 fns:=G.fns
 cons:=G.cons
 d3:=G.d3
 excs:=G.excs
 subs:=G.subs
 tabs:=G.tabs
 xb:=⟨G.xb.GU,G.xb.ns,G.xb.cls,G.xb.fZ,fun z=>by cases z⟩
end
theorem Kw:Y6 0 where
 e:=fun _ _ _ _ _ h=>by cases h
 q:=fun _ _ _ _ _ h=>by cases h
 sp:=fun _ _ _ _ _ _ _ _ _ h=>by cases h
 ob:=fun _ _ _ _ _ h=>by cases h
 t:=fun _ _ _ _ _ h=>by cases h
 b:=fun _ _ _ _ _ _ _ h=>by cases h
 w:=fun _ _ _ _ _ _ _ h=>by cases h
 a:=fun _ _ _ _ _ h=>by cases h
 o:=fun _ _ _ _ _ h=>by cases h
 is:=fun _ _ _ _ _ _ _ h=>by cases h
 i:=fun _ _ _ _ _ _ h=>by cases h
 c:=fun _ _ _ _ _ _ _ _ _ h=>by cases h
section
variable {n:Nat} (S:Y6 n)
include S
theorem W4(Γ:Gm)(X:Cx)(op:BoolOp)(vs:List aq)(f:FE)(pos:Pos)(G:GOk Γ X)(h:Kr (n+1) Γ op vs=some f)(H₀ ab:Hp):PE X (.BoolOp op vs pos) (tE X.K H₀ ab f):=by
 match op,vs,h with
 | op,[a],h=>exact Rn (S.e Γ X a f G h H₀ ab)
 | .And,a::b::r,h =>
  obtain⟨fa,h1,h⟩:=ay h;obtain⟨fb,h2,rfl⟩:=aA h;exact V7 (S.e Γ X a fa G h1 H₀ ab) (S.b Γ X .And (b::r) fb pos G h2 H₀ ab)
 | .Or,a::b::r,h =>
  obtain⟨fa,h1,h⟩:=ay h;obtain⟨fb,h2,rfl⟩:=aA h;exact Wv (S.e Γ X a fa G h1 H₀ ab) (S.b Γ X .Or (b::r) fb pos G h2 H₀ ab)
theorem W5(Γ:Gm)(X:Cx)(op:BoolOp)(vs:List aq)(f:eP)(pos:Pos)(G:GOk Γ X)(h:Ku (n+1) Γ op vs=some f)(H₀ ab:Hp):PW X (.BoolOp op vs pos) (tT X.K H₀ ab f):=by
 match op,vs,h with
 | .And,[a],h=>exact Sa (S.t Γ X a f G h H₀ ab)
 | .Or,[a],h=>exact V4 (S.t Γ X a f G h H₀ ab)
 | .And,a::b::r,h =>
  obtain⟨fa,h1,h⟩:=ay h;obtain⟨fb,h2,rfl⟩:=aA h;exact V5 (S.t Γ X a fa G h1 H₀ ab) (S.w Γ X .And (b::r) fb pos G h2 H₀ ab)
 | .Or,a::b::r,h =>
  obtain⟨fa,h1,h⟩:=ay h;obtain⟨fb,h2,rfl⟩:=aA h;exact aa4 (S.t Γ X a fa G h1 H₀ ab) (S.w Γ X .Or (b::r) fb pos G h2 H₀ ab)
theorem W6(Γ:Gm)(X:Cx)(es:List aq)(f:bX)(G:GOk Γ X)(h:nJ (n+1) Γ es=some f):(∀H₀ ab,PA X es (tA X.K H₀ ab f))/\es.all cH=true:=by
 match es,h with
 | [],h =>
  cases h;exact⟨fun _ _=>ze,rfl⟩
 | e::es,h =>
  obtain⟨hp,h⟩:=aJ h;obtain⟨fa,h1,h⟩:=ay h;obtain⟨fb,h2,rfl⟩:=aA h;obtain⟨k1,k2⟩:=S.a Γ X es fb G h2;exact⟨fun H₀ ab=>rK (S.e Γ X e fa G h1 H₀ ab) (k1 H₀ ab) (bI hp _ _),by rw[gY,hp,k2];rfl⟩
theorem W7(Γ:Gm)(X:Cx)(e:Option aq)(f:FO)(G:GOk Γ X)(h:GW (n+1) Γ e=some f)(H₀ ab:Hp):PO X e (zu X.K H₀ ab f):=by
 match e,h with
 | none,h=>cases h;exact JL
 | some e,h =>
  obtain⟨fa,h1,rfl⟩:=aA h;exact JM (S.e Γ X e fa G h1 H₀ ab)
theorem Tj(Γ:Gm)(X:Cx)(es:List aq)(f:FE)(p pos:Pos)(G:GOk Γ X)(h:Ks (n+1) Γ es=some f)(hg:Bk Γ "isinstance"=true)(hb:Γ.d3.contains "isinstance"=true)(hp:es.all cH=true)(H₀ ab:Hp):PE X (.Call (.Name "isinstance" p) es [] pos) (tE X.K H₀ ab f):=by
 rcases es with _ | ⟨a,_ | ⟨b,_ | ⟨c,r⟩⟩⟩
 ·cases h
 ·cases h
 ·cases b<;>first | (cases h;done) | skip
  rename_i t p2;obtain⟨hc,h⟩:=aJ h;obtain⟨g,h1,h⟩:=ay h;obtain⟨fa,h2,rfl⟩:=aA h;simp only[aQ]at hc;rw[gY,aQ]at hp;exact abn h1 (G.lE hg) (G.d3 _ hb) (G.lE hc.1.2) (G.d3 _ hc.2) (S.e Γ X a fa G h2 H₀ ab) fun es=>bI hp.1 es _
 ·cases b<;>cases h
theorem W8(Γ:Gm)(X:Cx)(elt tg iter:aq)(ifs:List aq)(scope:Scope)(f:bX)(G:GOk Γ X)(h:Oo (n+1) Γ elt tg iter ifs scope=some f):(∀H₀ ab pos,PE X (.ListComp elt [⟨tg,iter,ifs,0⟩] scope pos) (tF X.K H₀ ab f)) /\
  ∀H₀ ab i x pos gO t7,X.N[i]?=some x->X.env.scope.names.lookup x=some .local->swapsWith (.ListComp elt [⟨tg,iter,ifs,0⟩] scope pos) (some (.Name x gO)) t7.line X.env=pure true ->
   ∃t:TE,(∀σ H Q,tF X.K H₀ ab f σ H Q->t σ H Q)/\PS X (.Assign [.Name x gO] (.ListComp elt [⟨tg,iter,ifs,0⟩] scope pos) t7) (mZ t (gName i)):=by
 obtain⟨hp,h⟩:=aJ h;obtain⟨fi,h1,h⟩:=ay h;obtain⟨g,h2,h⟩:=ay h;obtain⟨hc,h⟩:=aJ h;have SC:=si G hc;have hL:=(kM hc).2.2.2;have GK:=zR G hc;obtain⟨i1,i2⟩:=S.i Γ X tg iter fi G h1;have hg:∀(C:ae) (s:aw) (H:Hp) (fp:List ae) (H₀ ab:Hp),PG (cU X (kL scope) scope C s H fp) tg (tG X.K H₀ ab g.1):=fun C s H fp H₀ ab=>(jQ (GK C s H fp) n tg g h2).1 H₀ ab
 have kg:KG g.2 g.1:=(jQ (GK 0 X.s₀ X.H₀ []) n tg g h2).2.1
 match ifs,h with
 | [],h =>
  obtain⟨fe,h3,rfl⟩:=aA h;have he:∀(C:ae) (s:aw) (H:Hp) (fp:List ae) (H₀ ab:Hp),PE (cU X (kL scope) scope C s H fp) elt (tE X.K H₀ ab fe):=fun C s H fp H₀ ab=>S.e _ _ elt fe (GK C s H fp) h3 H₀ ab
  refine⟨fun H₀ ab pos=>Sm G.calm SC (i1 H₀ ab) kg hL hg he i2,fun H₀ ab i x pos gO t7 hx hl hw=>⟨_,fun σ H Q h=>kB kg hL h,wH G.calm G.nd hx hl SC (i1 H₀ ab) (fun C s H fp=>rQ fun b:Hp×Hp=>rP (hg C s H fp b.1 b.2) (he C s H fp b.1 b.2)) hw i2⟩⟩
 | [c],h =>
  obtain⟨ft,h4,h⟩:=ay h;obtain⟨fe,h3,rfl⟩:=aA h;have he:∀(C:ae) (s:aw) (H:Hp) (fp:List ae) (H₀ ab:Hp),PE (cU X (kL scope) scope C s H fp) elt (tE X.K H₀ ab fe):=fun C s H fp H₀ ab=>S.e _ _ elt fe (GK C s H fp) h3 H₀ ab
  have ht:∀(C:ae) (s:aw) (H:Hp) (fp:List ae) (H₀ ab:Hp),PT (cU X (kL scope) scope C s H fp) c (tT X.K H₀ ab ft):=fun C s H fp H₀ ab=>S.t _ _ c ft (GK C s H fp) h4 H₀ ab
  refine⟨fun H₀ ab pos=>Nc G.calm SC (i1 H₀ ab) kg hL hg ht he i2,fun H₀ ab i x pos gO t7 hx hl hw=>⟨_,fun σ H Q h=>lO kg hL h,wH G.calm G.nd hx hl SC (i1 H₀ ab) (fun C s H fp=>rQ fun b:Hp×Hp=>En (hg C s H fp b.1 b.2) (ht C s H fp b.1 b.2) (he C s H fp b.1 b.2)) hw i2⟩⟩
theorem W9(Γ:Gm)(X:Cx)(e:aq)(f:eP)(G:GOk Γ X)(h:uh (n+1) Γ e=some f)(H₀ ab:Hp):PT X e (tT X.K H₀ ab f):=by
 unfold uh at h;split at h
 ·obtain⟨fa,h1,rfl⟩:=aA h;exact V6 (S.t Γ X _ fa G h1 H₀ ab)
 ·exact(S.w Γ X _ _ f _ G h H₀ ab).pt
 ·obtain⟨hp,h⟩:=aJ h;obtain⟨g,h1,h⟩:=ay h;obtain⟨fa,h2,h⟩:=ay h;obtain⟨fb,h3,rfl⟩:=aA h;exact V2 (k0 G.un h1) nq (S.e Γ X _ fa G h2 H₀ ab) (S.e Γ X _ fb G h3 H₀ ab) (i0 hp _)
 ·obtain⟨hp,h⟩:=aJ h;obtain⟨g,h1,h⟩:=ay h;obtain⟨g',Wd,h⟩:=ay h;obtain⟨fa,h2,h⟩:=ay h;obtain⟨fb,h3,h⟩:=ay h;obtain⟨fc,h4,rfl⟩:=aA h;exact M4 (k0 G.un h1) nq (k0 G.un Wd) nq (S.e Γ X _ fa G h2 H₀ ab) (S.e Γ X _ fb G h3 H₀ ab) (S.e Γ X _ fc G h4 H₀ ab) (i0 hp _)
 ·obtain⟨hp,h⟩:=aJ h;obtain⟨fa,h1,rfl⟩:=aA h;exact V3 (S.e Γ X _ fa G h1 H₀ ab) fun iS=>Kn hp _ iS
end
theorem xo{args:Arguments}{xa:Str×Pos}(h:xl args=some xa):args=mw xa.1 xa.2:=by
 unfold xl at h;split at h
 ·cases h;rfl
 ·cases h
theorem Kx{scope:Scope}{i:Nat}{y:Str}(h:(xm scope)[i]?=some y):(y,NameKind.free)∈scope.names:=by
 have hm:=cj h;unfold xm at hm;obtain⟨z,hz,rfl⟩:=bG.mp hm;obtain⟨h1,h2⟩:=gF.mp hz;obtain⟨n,k⟩:=z;cases k<;>first | exact h1 | cases h2
theorem GX{k:Option NameKind}(h:isFree k=true):k=some .free:=by
 unfold isFree at h;split at h
 ·rfl
 ·cases h
theorem GY{Γ:Gm}{X:Cx}{x:Str}{scope:Scope}(G:GOk Γ X)(h:Kp Γ x scope=true):sh X x (xm scope) (qu Γ scope) scope/\(x::xm scope).Nodup:=by
 unfold Kp at h;simp only[aQ]at h;obtain⟨⟨⟨⟨⟨h1,h2⟩,h3⟩,h4⟩,h5⟩,h6⟩:=h;have m9:=fq.mp h5;refine⟨⟨?_,by simpa using h2,by simpa using h3,?_,fun y hy z=>?_,fun y hy z=>?_,?_,fun i j y e1 e2=>?_⟩,qK h6⟩
 ·unfold xk at h1;split at h1
  ·assumption
  ·cases h1
 ·split at h4
  ·assumption
  ·cases h4
 ·have:=m9 y hy;rw[z]at this;cases this
 ·have:=m9 y hy;rw[z]at this;simp only[aQ]at this;have hk:X.env.kindOf y.1=Γ.sc.lookup y.1:=by show X.env.scope.names.lookup y.1=_;rw[G.names]
  rw[hk];have t:=this.1;split at t
  ·rename_i q;exact .inl q
  ·rename_i q;exact .inr q
  ·cases t
 ·unfold qu;rw[aC]
 ·have hm:=Kx e2;have:=m9 _ hm;simp only[aQ]at this;refine⟨?_,GX this.2⟩;unfold qu at e1;rw[cu,e2]at e1;exact G.jE (bD e1)
theorem Oq{Γ:Gm}{X:Cx}{x:Str}{scope:Scope}{k:Nat}(G:GOk Γ X)(hk:scope.kind=.function)(hn:(x::xm scope).Nodup)
  (hf:∀y n,Γ.fns.lookup y=some n->∃j f fd ps,j<=k/\FnOk X.prog X.w X.K X.mg X.base (lK X.prog X.w) j f fd ps (Cq X.K n (Γ.call y))/\X.mg y=some (.ref f)/\W.keepIn X.K (.ref f)=true/\f9 X.K fd ps [])
  (ho:∀y n,Γ.GU.lookup y=some n->∃j f fd ps,j<=k/\FnOk X.prog X.w X.K X.mg X.base (lK X.prog X.w) j f fd ps (spO X.K n (Γ.pN y))/\X.mg y=some (.ref f)/\W.keepIn X.K (.ref f)=true/\f9 X.K fd ps [])
  {qual:Str} {fa:ae} {dG:aj} {cl:List (Str×ae)} {A:bY} {stack:List Env} {s:aw} {H:Hp} {E:XK} (hr:eI k (A.deeper (W.envX qual scope s.heap.objs.size fa dG cl))) :
  GOk (W3 Γ x scope) (UD (lK X.prog X.w) X.prog X.w X.K X.mg X.base (x::xm scope) qual scope fa dG cl A stack s H E) where
 names:=rfl
 N:=rfl
 nd:=hn
 kind:=hk
 calm:=rfl
 hd:=hr.hd
 un:=by
  have:=hr.un;show(A.deeper _).units+1150<cLine
  lia
 own:=fun z=>by cases z
 fns:=fun y n e=>let ⟨j,f,fd,ps,h1,h2,h3,h4,h5⟩:=hf y n e;⟨j,f,fd,ps,h2,hr.mono h1,h3,h4,h5⟩
 cons:=G.cons
 d3:=G.d3
 excs:=G.excs
 subs:=G.subs
 tabs:=G.tabs
 xb:=⟨fun y n e=>let ⟨j,f,fd,ps,h1,h2,h3,h4,h5⟩:=ho y n e;⟨j,f,fd,ps,h2,hr.mono h1,h3,h4,h5⟩,G.xb.ns,(fun C n e=>by cases e),G.xb.fZ,(fun z=>by cases z)⟩
section
variable {n:Nat} (S:Y6 n)
include S
set_option maxHeartbeats 4000000 in
theorem Xa(Γ:Gm)(X:Cx)(e:aq)(f:FE)(G:GOk Γ X)(h:di (n+1) Γ e=some f)(H₀ ab:Hp):PE X e (tE X.K H₀ ab f):=by
 unfold di at h;split at h
 ·rename_i f' hq;cases h;split at hq
  ·exact S.q Γ X _ f G hq H₀ ab
  ·cases hq
 split at h
 ·cases h;exact Qg
 ·cases h;exact aa3
 ·cases h;exact VY
 ·cases h;exact VZ
 ·-- a name
  obtain⟨hn,h⟩:=aJ h;obtain⟨n1,n2,n3⟩:=iE hn;split at h
  ·rename_i hv;obtain⟨i,h1,rfl⟩:=aA h;exact pM i (pe_var (G.jE h1) (G.Oi hv) n1 n2)
  ·obtain⟨hg,h⟩:=aJ h;obtain⟨p,h1,rfl⟩:=aA h;obtain⟨u,v,g1,g2,g3⟩:=G.cons _ p h1;exact zb (D6 (G.lE hg) g1 g2 n1) g3
 ·obtain⟨g,h1,h⟩:=ay h;obtain⟨fa,h2,h⟩:=ay h;obtain⟨fb,h3,rfl⟩:=aA h;exact V0 (Np h1) nq (S.e Γ X _ fa G h2 H₀ ab) (S.e Γ X _ fb G h3 H₀ ab)
 ·obtain⟨fa,h1,rfl⟩:=aA h;exact V8 (S.e Γ X _ fa G h1 H₀ ab)
 ·obtain⟨fa,h1,rfl⟩:=aA h;exact Qp (S.e Γ X _ fa G h1 H₀ ab)
 ·exact S.b Γ X _ _ f _ G h H₀ ab
 ·obtain⟨hp,h⟩:=aJ h;obtain⟨g,h1,h⟩:=ay h;obtain⟨fa,h2,h⟩:=ay h;obtain⟨fb,h3,rfl⟩:=aA h;exact V1 (k0 G.un h1) nq (S.e Γ X _ fa G h2 H₀ ab) (S.e Γ X _ fb G h3 H₀ ab) (i0 hp _)
 ·obtain⟨hp,h⟩:=aJ h;obtain⟨g,h1,h⟩:=ay h;obtain⟨g',Wd,h⟩:=ay h;obtain⟨fa,h2,h⟩:=ay h;obtain⟨fb,h3,h⟩:=ay h;obtain⟨fc,h4,rfl⟩:=aA h;exact M3 (k0 G.un h1) nq (k0 G.un Wd) nq (S.e Γ X _ fa G h2 H₀ ab) (S.e Γ X _ fb G h3 H₀ ab) (S.e Γ X _ fc G h4 H₀ ab) (i0 hp _)
 ·obtain⟨gc,h1,h⟩:=ay h;obtain⟨fa,h2,h⟩:=ay h;obtain⟨fb,h3,rfl⟩:=aA h;exact aa5 (S.t Γ X _ gc G h1 H₀ ab) (S.e Γ X _ fa G h2 H₀ ab) (S.e Γ X _ fb G h3 H₀ ab)
 ·obtain⟨ts,h1,rfl⟩:=aA h;exact Qh ((S.a Γ X _ ts G h1).1 H₀ ab)
 ·obtain⟨ts,h1,rfl⟩:=aA h;exact Eg (Eh ((S.a Γ X _ ts G h1).1 H₀ ab))
 ·obtain⟨fa,h1,h⟩:=ay h;obtain⟨fl,h2,h⟩:=ay h;obtain⟨fh,h3,rfl⟩:=aA h;exact Qo (S.e Γ X _ fa G h1 H₀ ab) (S.o Γ X _ fl G h2 H₀ ab) (S.o Γ X _ fh G h3 H₀ ab)
 ·obtain⟨hp,h⟩:=aJ h;obtain⟨fa,h2,h⟩:=ay h;obtain⟨fb,h3,rfl⟩:=aA h;exact Wl (S.e Γ X _ fa G h2 H₀ ab) (S.e Γ X _ fb G h3 H₀ ab) (kK hp)
 ·obtain⟨fc,h1,rfl⟩:=aA h;exact Eg ((S.c Γ X _ _ _ _ _ fc G h1).1 H₀ ab _)
 ·-- a call
  obtain⟨hc,h⟩:=aJ h;simp only[aQ]at hc;obtain⟨⟨hn,hg⟩,hp⟩:=hc;obtain⟨n1,n2,n3⟩:=iE hn;have Ct:=hp;rw[gY,aQ]at Ct;split at h
  ·rename_i m hm;obtain⟨ts,h1,rfl⟩:=aA h;obtain⟨k,fa,fd,ps,F,hr,q1,q2,q3⟩:=G.fns _ m hm;exact Sd F hr (G.lE hg) q1 q2 q3 ((S.a Γ X _ ts G h1).1 H₀ ab) n1 (bI Ct.1 _ _) (gS Ct.2 _ _)
  ·obtain⟨hb,h5⟩:=aJ h;clear h;split at h5
   ·rename_i ex;have ex:=bE ex;subst ex;exact S.is Γ X _ f _ _ G h5 hg hb hp H₀ ab
   split at h5
   ·rename_i z l hz;obtain⟨hc,h6⟩:=aJ h5;clear h5;rw[aQ]at hc;obtain⟨rfl,rfl,p1,lp,ab3,he⟩:=xh hz;cases he;obtain⟨ts,h1,rfl⟩:=aA h6;exact S0 G.hd (G.lE hg) (G.d3 _ hb) (G.lE hc.1) (G.d3 _ hc.2) ((S.a Γ X _ ts G h1).1 H₀ ab)
   split at h5
   ·rename_i z b bs hz;obtain⟨hc,h6⟩:=aJ h5;clear h5;simp only[aQ]at hc;obtain⟨⟨z1,z2⟩,z3⟩:=hc;obtain⟨rfl,rfl,p1,ab3,he⟩:=xj hz;cases he;obtain⟨ts,h1,rfl⟩:=aA h6;rw[gY,aQ]at z3;exact Eg (WI G.hd (G.lE hg) (G.d3 _ hb) (G.lE z1) (G.d3 _ z2) ((S.a Γ X _ ts G h1).1 H₀ ab) (bI z3.1 _ _) (gS z3.2 _ _))
   ·obtain⟨g,h1,h⟩:=ay h5;obtain⟨ts,h2,rfl⟩:=aA h;refine Ol ?_;exact Ti h1 G.calm G.hd (G.lE hg) (G.d3 _ hb) ((S.a Γ X _ ts G h2).1 H₀ ab) (bI Ct.1 _ _) (gS Ct.2 _ _)
 ·-- a def under a key
  obtain⟨hc,h⟩:=aJ h;simp only[aQ]at hc;obtain⟨⟨⟨hn,hg⟩,hk⟩,hp⟩:=hc;obtain⟨n1,n2,n3⟩:=iE hn;have Ct:=hp;rw[gY,aQ]at Ct;obtain⟨b7,h1,h⟩:=ay h;obtain⟨fk,h2,h⟩:=ay h;obtain⟨ts,h3,rfl⟩:=aA h;exact Wo (G.tabs _ b7 h1) G.fns (G.lE hg) (S.e Γ X _ fk G h2 H₀ ab) (kK hk) ((S.a Γ X _ ts G h3).1 H₀ ab) n1 (bI Ct.1 _ _) (gS Ct.2 _ _)
 ·cases h
theorem Tn(Γ:Gm)(X:Cx)(e:aq)(f:YY)(G:GOk Γ X)(h:Kt (n+1) Γ e=some f)(H₀ ab:Hp):PE X e (tO X.K H₀ ab f):=by
 unfold Kt at h;cases h
theorem To(Γ:Gm)(X:Cx)(x:Str)(a:aq)(es:List aq)(f:FE)(p pos:Pos)(G:GOk Γ X)(h:EM (n+1) Γ x a es=some f)(H₀ ab:Hp):PE X (.Call (.Name x p) (a::es) [] pos) (tE X.K H₀ ab f):=by
 unfold EM at h;split at h
 ·rename_i args body scope lp;obtain⟨hc,g⟩:=aJ h;clear h;simp only[aQ]at hc;obtain⟨⟨⟨c1,c2⟩,c3⟩,c4⟩:=hc;obtain rfl:=bE c1;obtain⟨xa,h1,g⟩:=ay g;obtain⟨c5,g⟩:=aJ g;obtain⟨fe,h2,g⟩:=ay g;obtain⟨fb,h3,rfl⟩:=aA g;obtain rfl:=xo h1;obtain⟨S1,UK⟩:=GY G c5;obtain⟨⟨p',q',fs,fT,Kc,EH,k,D,hr,hf,ho⟩,L⟩:=G.xb.yq c3;exact Eg (Ke D L (G.lE c2) hr (S.e Γ X _ fe G h2 H₀ ab) (bI c4 _ _) S1 fun qual fa dG cl A stack s H N6 fD YZ=>S.e _ _ _ fb (Oq G S1.kind UK hf ho YZ) h3 N6 fD)
 ·cases h
theorem Xb(Γ:Gm)(X:Cx)(e:aq)(f:FE)(G:GOk Γ X)(h:Om (n+1) Γ e=some f)(H₀ ab:Hp):PE X e (tE X.K H₀ ab f):=by
 unfold Om at h;split at h
 ·exact S.sp Γ X _ _ _ _ _ _ G h H₀ ab
 ·obtain⟨hc,h⟩:=aJ h;rw[aQ]at hc;obtain⟨hn,hk⟩:=hc;obtain⟨n1,n2,n3⟩:=iE hn;split at h
  ·rename_i hv;rw[aQ]at hv;obtain⟨i,h1,h⟩:=ay h;obtain⟨fk,h2,rfl⟩:=aA h;exact Tf (pe_var (G.jE h1) (G.Oi hv.1) n1 n2) (S.e Γ X _ fk G h2 H₀ ab) (kK hk)
  ·obtain⟨hv,h⟩:=aJ h;rw[aQ]at hv;obtain⟨i,h1,h⟩:=ay h;obtain⟨fk,h2,rfl⟩:=aA h;exact J6 (pe_var (G.jE h1) (G.Oi hv.1) n1 n2) (S.e Γ X _ fk G h2 H₀ ab) (kK hk)
 ·cases h
theorem Xc(Γ:Gm)(X:Cx)(tg e:aq)(f:bX)(G:GOk Γ X)(h:Kv (n+1) Γ tg e=some f):(∀H₀ ab,PI X tg e (tI X.K H₀ ab f))/\∀x,foldedSetIterable e X.env x=pure x:=by
 unfold Kv at h;split at h
 ·split at h
  ·rename_i hc;obtain⟨ts,h1,rfl⟩:=aA h;simp only[aQ]at hc;obtain⟨⟨⟨hx,hg⟩,hb⟩,hp⟩:=hc;have hx:=bE hx;subst hx;exact⟨fun H₀ ab=>M9 (G.lE hg) (G.d3 _ hb) ((S.a Γ X _ ts G h1).1 H₀ ab) (bI hp _ _),fun _=>rfl⟩
  ·split at h
   ·rename_i hc;obtain⟨fa,h1,rfl⟩:=aA h;simp only[aQ]at hc;obtain⟨⟨⟨⟨hx,hg⟩,hb⟩,hp⟩,ht⟩:=hc;have hx:=bE hx;subst hx;exact⟨fun H₀ ab=>Wm ht (G.lE hg) (G.d3 _ hb) (S.e Γ X _ fa G h1 H₀ ab) (bI hp _ _),fun _=>rfl⟩
   obtain⟨fe,h1,rfl⟩:=aA h;exact⟨fun H₀ ab=>El (S.e Γ X _ fe G h1 H₀ ab),fun _=>rfl⟩
 ·obtain⟨hp,h⟩:=aJ h;obtain⟨fe,h1,rfl⟩:=aA h;exact⟨fun H₀ ab=>El (S.e Γ X _ fe G h1 H₀ ab),fun x=>CY hp _ x⟩
end
theorem snd:∀n:Nat,Y6 n
 | 0=>Kw
 | n+1 =>
  have S:=snd n
  ⟨Xa S,Xb S,To S,Tn S,W9 S,W4 S,W5 S,W6 S,W7 S,Tj S,Xc S,W8 S⟩
def Ot:PV->PV->bU
 | .int i,.int j=>some (.int (i+j))
 | _,_=>none
def Xd:PV->PV->bU
 | .int i,.int j=>some (.int (i-j))
 | _,_=>none
def Ky:Operator->Option (PV->PV->bU)
 | .Add=>some Ot
 | .Sub=>some Xd
 | _=>none
def eU:Nat->List Str->aq->List Str
 | 0,_,_=>[]
 | n+1,M,e=>match e with
  | .Name x _=>if M.contains x then [x]else []
  | .BinOp a _ b _=>eU n M a++eU n M b
  | .UnaryOp _ a _=>eU n M a
  | .BoolOp _ vs _=>vs.flatMap (eU n M)
  | .Compare a _ bs _=>eU n M a++bs.flatMap (eU n M)
  | .IfExp c a b _=>eU n M c++eU n M a++eU n M b
  | .Tuple es _ _=>es.flatMap (eU n M)
  | .List es _=>es.flatMap (eU n M)
  | .Subscript a b _=>eU n M a++eU n M b
  | .Slice lo hi _ _=>(lo.toList++hi.toList).flatMap (eU n M)
  | .ListComp elt gens _ _=>eU n M elt++gens.flatMap fun g=>eU n M g.iter++g.ifs.flatMap (eU n M)
  | .Call (.Name l _) [.Name x _] [] _=>if l==("len":Str)then []else if M.contains x then [x]else []
  | .Call f args kws _=>eU n M f++args.flatMap (eU n M)++kws.flatMap fun k=>eU n M k.value
  | _=>[]
def gh:Nat->List Str->aq->List Str
 | 0,_,_=>[]
 | n+1,M,e=>match e with
  | .Name x _=>if M.contains x then [x]else []
  | .BinOp a _ b _=>gh n M a++gh n M b
  | .UnaryOp _ a _=>gh n M a
  | .BoolOp _ vs _=>vs.flatMap (gh n M)
  | .Compare a _ bs _=>gh n M a++bs.flatMap (gh n M)
  | .IfExp c a b _=>gh n M c++gh n M a++gh n M b
  | .Tuple es _ _=>es.flatMap (gh n M)
  | .List es _=>es.flatMap (gh n M)
  | .Subscript (.Name _ _) (.Slice lo hi st sp) _=>eU n M e
  | .Subscript (.Name _ _) b _=>gh n M b
  | .Subscript a b _=>gh n M a++gh n M b
  | .Slice lo hi _ _=>(lo.toList++hi.toList).flatMap (gh n M)
  | .ListComp elt gens _ _=>eU n M elt++gens.flatMap fun g=>gh n M g.iter++g.ifs.flatMap (eU n M)
  | .Call (.Name l _) [.Name x _] [] _=>if l==("len":Str)then []else if M.contains x then [x]else []
  | .Call f args kws _=>gh n M f++args.flatMap (gh n M)++kws.flatMap fun k=>gh n M k.value
  | _=>[]
def cZ(n:Nat)(Γ:Gm)(e:aq):List Nat:=(gh n Γ.chg e).filterMap (slot Γ)
def i8(L:List Nat)(f:FS):FS:=match L with | []=>f | L=>lA L f
theorem eZ{X:Cx}{st:aE}{H₀ ab:Hp}{f:FS}{L:List Nat}(h:PS X st (tS X H₀ ab f)):PS X st (tS X H₀ ab (i8 L f)):=by
 cases L with
 | nil=>exact h
 | cons i L=>exact Wj (i::L) h
def C1(Γ:Gm)(g:eP):eP:=match Γ.chg with | []=>g | _=>iC g
theorem Kz{Γ:Gm}{X:Cx}{e:aq}{H₀ ab:Hp}{g:eP}(h:PT X e (tT X.K H₀ ab g)):PT X e (tT X.K H₀ ab (C1 Γ g)):=by
 unfold C1;split
 ·exact h
 ·exact Wi h
def EN(Γ:Gm):aq->Option (Str×List aq×Nat)
 | .Call (.Name x _) (a::es) [] _=>if(d9 x&&Bk Γ x&&(a::es).all cH)=true then(Γ.fns.lookup x).map fun m=>(x,a::es,m)else none
 | _=>none
def QF:aq->Option (aq×aq)
 | .BinOp a .Add b _=>some (a,b)
 | _=>none
def QG:aq->Option (aq×Option aq×Option aq)
 | .Subscript a (.Slice lo hi none _) _=>some (a,lo,hi)
 | _=>none
def QH(Γ:Gm):aq->Option aq
 | .Call (.Name x _) [a] [] _=>if(x==("list":Str)&&Bk Γ x&&Γ.d3.contains x&&cH a)=true then some a else none
 | _=>none
noncomputable def Tp(n:Nat)(Γ:Gm)(e:aq):Option (aF->dA):=match EN Γ e with
 | some (x,es,m)=>(nJ n Γ es).map fun ts=>zA (aP m (Γ.call x)) ts
 | none=>match QF e with
  | some (a,b)=>(di n Γ a).bind fun fa=>(di n Γ b).map fun fb=>NG fa fb
  | none=>match QG e with
   | some (a,lo,hi)=>(di n Γ a).bind fun fa=>(GW n Γ lo).bind fun fl=>(GW n Γ hi).map fun fh=>NO fa fl fh
   | none=>match QH Γ e with
    | some a=>(di n Γ a).map SM
    | none=>(di n Γ e).map CH
def Xe(Γ:Gm):aq->Bool
 | .Subscript (.Name y _) k _=>Γ.chg.contains y&&nI k&&Γ.chg.contains ("[thaw]":Str)
 | _=>false
noncomputable def QI(n:Nat)(Γ:Gm):aE->Option FS
 | .Assign [.Name x _] (.Dict [] [] _) _=>if(Γ.PN.contains x&&GV Γ x&&d9 x)=true then(slot Γ x).map Te else none
 | .Expr (.Call (.Attribute (.Name x _) m ap) [a,b] [] cp) _=>if(d9 x&&vis Γ x&&cH a&&cH b&&(ap.endLine==cp.line))=true then(slot Γ x).bind fun i=>(di n Γ a).bind fun fa=>(di n Γ b).bind fun fb =>
   if(m==("setdefault":Str)&&Γ.PN.contains x)=true then some (i8 (cZ n Γ a++cZ n Γ b) (Tg i fa fb))else if m==("insert":Str)then some (i8 (cZ n Γ a++cZ n Γ b) (gp i (aa fa (aa fb ai)) wX))else none else none
 | .Expr (.Call (.Attribute (.Name x _) m ap) [] [] cp) _=>if(d9 x&&vis Γ x&&(ap.endLine==cp.line)&&m==("reverse":Str))=true then(slot Γ x).map fun i=>zm i N8 else none
 | _=>none
def EO(n:Nat)(Γ:Gm)(a b:aE):Option FS:=match a with
 | .Assign [.Name t _] e1 _=>(match e1 with
  | .ListComp e2 [⟨tg,it,[],0⟩] scope _=>(match e2 with
   | .List [] _=>(match it with
    | .Name f _=>(match b with
     | .For tt i2 body [] _=>(match tt with
      | .Tuple [.Name x _,.Name y _] _ _=>(match i2 with
       | .Call (.Name en _) [e3] [] _=>(match e3 with
        | .Name f' _=>(match body with
         | [.For (.Name o _) e4 [st] [] _]=>(match e4 with
          | .Name y' _=>(match st with
           | .Expr e5 _=>(match e5 with
            | .Call e6 [.Name x' _] [] cp=>(match e6 with
             | .Attribute e7 m ap=>(match e7 with
              | .Subscript (.Name t' _) e8 _=>(match e8 with
               | .Name o' _ =>
                 if(t==t'&&f==f'&&y==y'&&o==o'&&x==x'&&m==("append":Str)&&en==("enumerate":Str)&&Bk Γ en&&Γ.d3.contains en&&(ap.endLine==cp.line)&&[t,x,y,o].all (fun z=>GV Γ z)&&[t,f,x,y,o].all fun z=>vis Γ z&&d9 z)=true then
                  (slot Γ t).bind fun i=>(slot Γ f).bind fun j=>(slot Γ x).bind fun ix=>(slot Γ y).bind fun iy=>(slot Γ o).bind fun io=>(ug n (vh Γ scope) tg).bind fun g=>if oQ Γ scope g.2=true then some (Kh (gr Γ scope) g.1 i j ix iy io)else none
                 else none
               | _=>none)
              | _=>none)
             | _=>none)
            | _=>none)
           | _=>none)
          | _=>none)
         | _=>none)
        | _=>none)
       | _=>none)
      | _=>none)
     | _=>none)
    | _=>none)
   | _=>none)
  | _=>none)
 | _=>none
mutual
noncomputable def GZ:Nat->Gm->aE->Option FS
 | 0,_,_=>none
 | n+1,Γ,st=>some ((vi n Γ st).getD fun _=>none)
noncomputable def vi:Nat->Gm->aE->Option FS
 | 0,_,_=>none
 | n+1,Γ,st=>match QI n Γ st with | some f=>some f | none=>match st with
  | .Return none _=>some fun _=>some (.rt (.val .cG))
  | .Return (some (.Name x _)) _=>if(d9 x&&vis Γ x&&Γ.chg.contains x)=true then(slot Γ x).map ni else(di n Γ (.Name x ⟨0,0,0,0⟩)).map bz
  | .Return (some e) _=>(di n Γ e).map fun f=>i8 (cZ n Γ e) (bz f)
  | .If c a b _=>(uh n Γ c).bind fun gc=>(g9 n Γ a).bind fun f=>(g9 n Γ b).map fun g=>gk (C1 Γ gc) f g
  | .Expr (.Call (.Attribute (.Name x _) m ap) [a] [] cp) _=>if(d9 x&&vis Γ x&&cH a&&(ap.endLine==cp.line))=true then(slot Γ x).bind fun i=>(nJ n Γ [a]).bind fun ts =>
    (if m==("append":Str)then some (i8 (cZ n Γ a) (gp i ts ml))else if m==("extend":Str)then some (i8 (cZ n Γ a) (gp i ts qb))else none)else none
  | .Expr e _=>if xc e=true then(di n Γ e).map fun f=>i8 (cZ n Γ e) (pO f)else none
  | .For tg iter body [] _=>(Kv n Γ tg iter).bind fun fi=>(ug n Γ tg).bind fun g=>(g9 n Γ body).map fun f=>i8 (cZ n Γ iter) (gZ fi g.1 f)
  | .Assign [.Name x p] (.ListComp elt [⟨tg,iter,ifs,0⟩] scope cp) sp=>if(GV Γ x&&d9 x)=true then(slot Γ x).bind fun i=>(Oo n Γ elt tg iter ifs scope).map fun fc =>
    (if(Γ.chg.contains ("[thaw]":Str)&&!Γ.chg.contains x)=true then bg (bH (Qv fc)) (ao i)else i8 (cZ n Γ (.ListComp elt [⟨tg,iter,ifs,0⟩] scope cp)) (if Γ.chg.contains x then iP i fc else bg (bH fc) (ao i)))else none
  | .Assign [.Name x p] (.List es lp) sp=>if(GV Γ x&&d9 x)=true then(slot Γ x).bind fun i=>(nJ n Γ es).map fun ts=>i8 (cZ n Γ (.List es lp)) (if Γ.chg.contains x then iP i (cw ts)else bg (bH (cw ts)) (ao i))else none
  | .Assign [.Name x p] e sp=>if(xc e&&GV Γ x&&d9 x)=true then(slot Γ x).bind fun i=>(if Γ.chg.contains x then(Tp n Γ e).map fun fo=>i8 (cZ n Γ e) (SJ i fo)else(di n Γ e).map fun f=>if Xe Γ e=true then bg (gP f) (ao i)else i8 (cZ n Γ e) (bg f (ao i)))else none
  | .AugAssign (.Name x p) op e sp=>if(GV Γ x&&d9 x)=true then(slot Γ x).bind fun i=>(Ky op).bind fun g=>(di n Γ e).map fun f=>i8 (cZ n Γ e) (bg (af (rd i) f g) (ao i))else none
  | .Assign [.Tuple ts k tp] e sp=>if EL e=true then(ug n Γ (.Tuple ts k tp)).bind fun g=>(di n Γ e).map fun f=>i8 (cZ n Γ e) (bg f g.1)else none
  | _=>none
noncomputable def g9:Nat->Gm->List aE->Option FS
 | 0,_,_=>none
 | n+1,Γ,[]=>some fun ρ=>some (.nx ρ)
 | n+1,Γ,[st]=>GZ n Γ st
 | n+1,Γ,[st,Ea]=>(GZ n Γ st).bind fun f=>(g9 n Γ [Ea]).map fun g=>aH f g
 | n+1,Γ,st::Ea::Jy=>match EO n Γ st Ea with
  | some f=>(g9 n Γ Jy).map fun g=>aH f g
  | none=>(GZ n Γ st).bind fun f=>(g9 n Γ (Ea::Jy)).map fun g=>aH f g
end
structure Ou (Γ:Gm) (X:Cx):Prop extends GOk Γ X where
 never:PassesOwn (model X.prog X.w) X.A X.env X.xe
 stk:X.stack=X.env::X.outer/\X.env.frame=some X.env.locals
theorem xp{X:Cx}{a:aq}{cp:Pos}(h:cH a=true):((backTo cp (starEach [a] X.env)).all (fun x=>!x.1)&&(backToKw cp (keywordEach [] X.env)).all (fun x=>x.1.isSome)
   && decide ([a].length+([]:List Keyword).length+(if([]:List Keyword).isEmpty then 0 else 1)<30))=true:=by
 rw[bI h];rfl
theorem ER{X:Cx}{a b:aq}{cp:Pos}(h:cH a=true)(h2:cH b=true):((backTo cp (starEach [a,b] X.env)).all (fun x=>!x.1)&&(backToKw cp (keywordEach [] X.env)).all (fun x=>x.1.isSome)
   && decide ([a,b].length+([]:List Keyword).length+(if([]:List Keyword).isEmpty then 0 else 1)<30))=true:=by
 rw[bI h,bI h2];rfl
theorem zS{X:Cx}{b:aq}{cp:Pos}(h2:cH b=true):(backTo cp (starEach [b] X.env)).any (·.1)=false:=by
 rw[bI h2];rfl
structure Xf (n:Nat):Prop where
 s:∀Γ X st f,Ou Γ X->GZ n Γ st=some f->∀H₀ ab,PS X st (tS X H₀ ab f)
 s0:∀Γ X st f,Ou Γ X->vi n Γ st=some f->∀H₀ ab,PS X st (tS X H₀ ab f)
 ss:∀Γ X st f,Ou Γ X->g9 n Γ st=some f->∀H₀ ab,oD X st (tS X H₀ ab f)
theorem jF{Γ:Gm}{X:Cx}{x:Str}{p:Pos}{i:Nat}(G:GOk Γ X)(hn:d9 x=true)(hv:vis Γ x=true)(hs:slot Γ x=some i):PE X (.Name x p) (mj i) :=
 pe_var (G.jE hs) (G.Oi hv) (iE hn).1 (iE hn).2.1
theorem Ov{X:Cx}{x:Str}{p sp:Pos}{e:aq}{op:Operator}{i:Nat}{H₀ ab:Hp}{fe:FE}{g:PV->PV->bU}{h:Int->Int->Int}(hg:∀a b c,g a b=some c->∃i j,a=.int i/\b=.int j/\c=.int (h i j))(ho:OpR X (inplaceOp op) (Cc fun i j=>.int (h i j)))
  (he:PE X e (tE X.K H₀ ab fe)) (hN:X.N.Nodup) (hi:X.N[i]?=some x) (hx:PQ X.env.scope x) (hf:X.fn x=true\/X.env.scope.names.lookup x=some .local):PS X (.AugAssign (.Name x p) op e sp) (tS X H₀ ab (bg (af (rd i) fe g) (ao i))):=by
 refine(IS (ti:=Cc fun i j=>.int (h i j)) hN hi hx he (fun ag s σ H x y v u Q I r1 r2 t=>ho ag s σ H x y v u Q I r1 r2 t) hf).imp fun D σ H hh=>?_
 obtain⟨F,ρ,o,R,hf,q⟩:=hh;obtain⟨c,h1,h2⟩:=ay hf;obtain⟨a,ha,h1⟩:=ay h1;obtain⟨b,hb,h1⟩:=ay h1;obtain⟨ia,jb,rfl,rfl,rfl⟩:=hg a b c h1;cases z:ao i (.int (h ia jb)) ρ with
 | none=>rw[z]at h2;cases h2
 | some fj =>
  rw[z]at h2;cases h2;obtain⟨hl,rfl⟩:=aN z;have hr:ρ[i]?=some (.val (.int ia)):=by
   unfold rd at ha;split at ha
   ·rename_i e;cases ha;exact e
   ·cases ha
  obtain⟨v,hv,bv⟩:=R.val i _ hr;rw[aI.mp bv]at hv;refine⟨.int ia,hv,F,ρ,.int jb,R,hb,fun y H1 F1 R1 s1 b1=>⟨ia,jb,rfl,aI.mp b1,?_⟩⟩
  exact q F1 _ H1 (R1.set hl (aI.mpr rfl)) s1
theorem zT{Γ:Gm}{X:Cx}{x:Str}{p sp:Pos}{e:aq}{op:Operator}{i:Nat}{H₀ ab:Hp}{fe:FE}{g:PV->PV->bU}{h:Int->Int->Int}(G:GOk Γ X)(hs:slot Γ x=some i)(hx:GV Γ x=true)(hg:∀a b c,g a b=some c->∃i j,a=.int i/\b=.int j/\c=.int (h i j))(ho:OpR X (inplaceOp op) (Cc fun i j=>.int (h i j)))
  (he:PE X e (tE X.K H₀ ab fe)):PS X (.AugAssign (.Name x p) op e sp) (tS X H₀ ab (bg (af (rd i) fe g) (ao i))):=by
 obtain⟨h1,h2⟩:=G.Oj hx;exact Ov hg ho he G.nd (G.jE hs) h1 h2
theorem gT{Γ:Gm}{X:Cx}{x:Str}{p sp:Pos}{e:aq}{i:Nat}{te:TE}(G:GOk Γ X)(hs:slot Γ x=some i)(hx:GV Γ x=true)(he:PE X e te)(hsw:swapsWith e (some (.Name x p)) sp.line X.env=pure false):PS X (.Assign [.Name x p] e sp) (mZ te (gName i)):=by
 obtain⟨h1,h2⟩:=G.Oj hx;exact wb G.nd (G.jE hs) h1 he hsw h2
theorem mx{Γ:Gm}{X:Cx}{x:Str}{elt:aq}{gens:List Comprehension}{scope:Scope}{cp p sp:Pos}(G:GOk Γ X) :
  (swapsWith (.ListComp elt gens scope cp) (some (.Name x p)) sp.line X.env=pure true/\X.env.scope.names.lookup x=some .local)\/swapsWith (.ListComp elt gens scope cp) (some (.Name x p)) sp.line X.env=pure false:=by
 have e:swapsWith (.ListComp elt gens scope cp) (some (.Name x p)) sp.line X.env=pure (X.env.blockKind==.function&&X.env.kindOf x==some .local&&p.line==(Expr.ListComp elt gens scope cp).pos.line&&!(scope.names.any fun(n,k)=>n==x&&(k==.local || k==.cell))):=rfl
 rw[e];cases hb:(X.env.blockKind==.function&&X.env.kindOf x==some .local&&p.line==(Expr.ListComp elt gens scope cp).pos.line&&!(scope.names.any fun(n,k)=>n==x&&(k==.local || k==.cell)))with
 | true =>
  refine .inl ⟨rfl,?_⟩;simp only[aQ]at hb;exact bE hb.1.1.2
 | false=>exact .inr rfl
theorem Tq{n:Nat}(Γ:Gm)(X:Cx)(e:aq)(f:aF->dA)(G:GOk Γ X)(h:Tp n Γ e=some f)(H₀ ab:Hp):PE X e (tR X.K H₀ ab f)/\∀ρ en,f ρ=some en->(∃p,en=.val p)\/∃ps,en=.own ps:=by
 unfold Tp at h;split at h
 ·rename_i x es m hd;obtain⟨ts,h1,rfl⟩:=aA h;unfold EN at hd;split at hd
  ·obtain⟨hc,hd⟩:=aJ hd;simp only[aQ]at hc;obtain⟨⟨hn,hg⟩,hp⟩:=hc;obtain⟨n1,n2,n3⟩:=iE hn;rw[gY,aQ]at hp;obtain⟨m',hm,he⟩:=aA hd;cases he;obtain⟨k,fa,fd,ps,F,hr,q1,q2,q3⟩:=G.fns _ m hm;exact⟨NL (CI F hr (G.lE hg) q1 q2 q3 (((snd n).a Γ X _ ts G h1).1 H₀ ab) n1 (bI hp.1 _ _) (gS hp.2 _ _)),JW _ _⟩
  ·cases hd
 ·split at h
  ·rename_i a b hs;obtain⟨fa,h1,h⟩:=ay h;obtain⟨fb,h2,rfl⟩:=aA h;unfold QF at hs;split at hs
   ·cases hs;exact⟨Wt ((snd n).e Γ X _ fa G h1 H₀ ab) ((snd n).e Γ X _ fb G h2 H₀ ab),NJ _ _⟩
   ·cases hs
  ·split at h
   ·rename_i a lo hi hs;obtain⟨fa,h1,h⟩:=ay h;obtain⟨fl,h2,h⟩:=ay h;obtain⟨fh,h3,rfl⟩:=aA h;unfold QG at hs;split at hs
    ·cases hs;exact⟨Ww ((snd n).e Γ X _ fa G h1 H₀ ab) ((snd n).o Γ X _ fl G h2 H₀ ab) ((snd n).o Γ X _ fh G h3 H₀ ab),NP _ _ _⟩
    ·cases hs
   ·split at h
    ·rename_i a hs;obtain⟨fa,h1,rfl⟩:=aA h;unfold QH at hs;split at hs
     ·obtain⟨hc,hs2⟩:=aJ hs;clear hs;simp only[aQ]at hc;obtain⟨⟨⟨c1,c2⟩,c3⟩,c4⟩:=hc;have c1:=bE c1;subst c1;cases hs2;exact⟨Wz (G.lE c2) (G.d3 _ c3) ((snd n).e Γ X _ fa G h1 H₀ ab) (bI c4 _ _),NQ _⟩
     ·cases hs
    ·obtain⟨fe,h1,rfl⟩:=aA h;exact⟨Wr ((snd n).e Γ X _ fe G h1 H₀ ab),NI _⟩
theorem Tr{n:Nat}{Γ:Gm}{X:Cx}{a b:aE}{Jy:List aE}{f g:FS}{H₀ ab:Hp}(G:Ou Γ X)(h:EO n Γ a b=some f)(hr:oD X Jy (tS X H₀ ab g)):oD X (a::b::Jy) (tS X H₀ ab (aH f g)):=by
 unfold EO at h;split at h
 rotate_left
 ·cases h
 rename_i t tp e1 sp;split at h
 rotate_left
 ·cases h
 rename_i e2 tg it scope cp;split at h
 rotate_left
 ·cases h
 rename_i lp;split at h
 rotate_left
 ·cases h
 rename_i fn p1;split at h
 rotate_left
 ·cases h
 rename_i tt i2 body fp;split at h
 rotate_left
 ·cases h
 rename_i x px y py tk NB;split at h
 rotate_left
 ·cases h
 rename_i en pe e3 ecp;split at h
 rotate_left
 ·cases h
 rename_i f' p2;split at h
 rotate_left
 ·cases h
 rename_i o po e4 st fp1;split at h
 rotate_left
 ·cases h
 rename_i y' py2;split at h
 rotate_left
 ·cases h
 rename_i e5 ep;split at h
 rotate_left
 ·cases h
 rename_i e6 x' px2 cp3;split at h
 rotate_left
 ·cases h
 rename_i e7 m ap;split at h
 rotate_left
 ·cases h
 rename_i t' pt e8 sp2;split at h
 rotate_left
 ·cases h
 rename_i o' po2;obtain⟨hc,h0⟩:=aJ h;clear h;simp only[aQ,gY,List.all_nil,Bool.and_true]at hc;obtain⟨⟨⟨⟨⟨⟨⟨⟨⟨⟨⟨e1,e2⟩,e3⟩,e4⟩,e5⟩,e6⟩,e7⟩,hg⟩,hb⟩,hl⟩,st,sx,sy,so⟩,⟨vt,nt⟩,⟨vf,nf⟩,⟨vx,nx⟩,⟨vy,ny⟩,vo,no⟩:=hc;have e1:=bE e1;have e2:=bE e2;have e3:=bE e3;have e4:=bE e4;have e5:=bE e5;have e6:=bE e6;have e7:=bE e7;subst e1;subst e2;subst e3;subst e4;subst e5;subst e6;subst e7;obtain⟨i,it,h⟩:=ay h0;obtain⟨j,jf,h⟩:=ay h;obtain⟨ix,hx,h⟩:=ay h;obtain⟨iy,hy,h⟩:=ay h;obtain⟨io,ho,h⟩:=ay h;obtain⟨gg,h2,h⟩:=ay h;obtain⟨hk,h⟩:=aN h;subst h;have G':=G.toGOk;have UL:∀{z:Str} {k:Nat} {p:Pos},d9 z=true->vis Γ z=true->slot Γ z=some k->PE X (.Name z p) (mj k):=fun a b c=>jF G' a b c
 have wrv:∀{z:Str} {k:Nat} {p:Pos},GV Γ z=true->slot Γ z=some k->PG X (.Name z p) (gName k):=fun a b=>by
  obtain⟨q1,q2⟩:=G'.Oj a;exact wa G'.nd (G'.jE b) q1 q2
 have SC:=si G' hk;have hL:=(kM hk).2.2.2;have GK:=zR G' hk;have kg:KG gg.2 gg.1:=(jQ (GK 0 X.s₀ X.H₀ []) n tg gg h2).2.1;have pi1:PI X tg (.Name fn p1) (zO X.K (cJ (rd j))):=CW fun H₀ ab=>El (pM j (UL nf vf jf))
 have pb:∀(C:ae) (s:aw) (H:Hp) (fp:List ae),PB (cU X (kL scope) scope C s H fp) tg [] (.List [] lp) (Kj X.K gg.1 (cw ai)):=fun C s H fp=>rQ fun b:Hp×Hp=>rP ((jQ (GK C s H fp) n tg gg h2).1 b.1 b.2) (Eh ze)
 have ha:PS X (.Assign [.Name t tp] (.ListComp (.List [] lp) [⟨tg,.Name fn p1,[],0⟩] scope cp) sp) (mZ (lM (gr Γ scope) (zO X.K (cJ (rd j))) (Kj X.K gg.1 (cw ai))) (gName i)):=by
  rcases mx G' with⟨z,hz⟩ | z
  ·exact wH G'.calm G'.nd (G'.jE it) hz SC pi1 pb z
  ·exact gT G' it st (wG G'.calm SC pi1 pb) z
 have EC:PS X (.For (.Name o po) (.Name y py2) [.Expr (.Call (.Attribute (.Subscript (.Name t pt) (.Name o po2) sp2) "append" ap) [.Name x px2] [] cp3) ep] [] fp1) (Th X i ix iy io) :=
  ps_for G.never G'.calm (CW fun H₀ ab=>El (pM iy (UL ny vy hy))) (wrv so ho) (iU (gM (uT og Bq Br oH (yX wu (UL nt vt it) (UL no vo ho) (kK rfl)) (dF (UL nx vx hx) iz) rfl (xp rfl) hl)))
 have ab6:PS X (.For (.Tuple [.Name x px,.Name y py] tk NB) (.Call (.Name "enumerate" pe) [.Name fn p2] [] ecp) [.For (.Name o po) (.Name y py2) [.Expr (.Call (.Attribute (.Subscript (.Name t pt) (.Name o po2) sp2) "append" ap) [.Name x px2] [] cp3) ep] [] fp1] [] fp) (Of X i j ix iy io) :=
  ps_for G.never G'.calm (CW fun H₀ ab=>Wm rfl (G'.lE hg) (G'.d3 _ hb) (pM j (UL nf vf jf)) (bI rfl _ _)) (IQ G'.calm (rz (wrv sx hx) (rz (wrv sy hy) D8))) (iU EC)
 refine(fB ha (fB ab6 hr)).imp fun D σ H ⟨F,ρ,o,R,hf,q⟩=>?_
 obtain⟨o1,q1,q2⟩:=ay hf;have Qy:∀ρ,cw ai ρ=some []:=fun ρ=>(if_pos (gn gB):(if 0<=gB then some ([]:az)else none)=some [])
 refine Oh (D:={D with nx:=tS X H₀ ab g D}) kg hL Qy R q1 ?_
 cases o1 with
 | nx eu=>exact fun F1 gW H1 R1 s1=>⟨F1,eu,o,R1,q2,q.mono s1⟩
 | bk eu=>cases q2;exact q
 | ct eu=>cases q2;exact q
 | rt p=>cases q2;exact q
 | ex m C eu=>cases q2;exact q
section
variable {n:Nat} (T:Xf n)
include T
theorem Ts(Γ:Gm)(X:Cx)(st:List aE)(f:FS)(G:Ou Γ X)(h:g9 (n+1) Γ st=some f)(H₀ ab:Hp):oD X st (tS X H₀ ab f):=by
 match st,h with
 | [],h=>cases h;exact Se
 | [st],h=>exact Sf (T.s Γ X st f G h H₀ ab)
 | [st,Ea],h =>
  obtain⟨f1,h1,h⟩:=ay h;obtain⟨g,h2,rfl⟩:=aA h;exact Ei (T.s Γ X st f1 G h1 H₀ ab) (T.ss Γ X _ g G h2 H₀ ab)
 | st::Ea::Vt::Jy,h =>
  have h:(match EO n Γ st Ea with | some f=>(g9 n Γ (Vt::Jy)).map fun g=>aH f g | none=>(GZ n Γ st).bind fun f=>(g9 n Γ (Ea::Vt::Jy)).map fun g=>aH f g)=some f:=h
  split at h
  ·rename_i f1 h1;obtain⟨g,h2,rfl⟩:=aA h;exact Tr G h1 (T.ss Γ X _ g G h2 H₀ ab)
  ·obtain⟨f1,h1,h⟩:=ay h;obtain⟨g,h2,rfl⟩:=aA h;exact Ei (T.s Γ X st f1 G h1 H₀ ab) (T.ss Γ X _ g G h2 H₀ ab)
set_option maxHeartbeats 4000000 in
theorem Tt(Γ:Gm)(X:Cx)(st:aE)(f:FS)(G:Ou Γ X)(h:vi (n+1) Γ st=some f)(H₀ ab:Hp):PS X st (tS X H₀ ab f):=by
 have S:=snd n;unfold vi at h;split at h
 ·rename_i f' hq;cases h;unfold QI at hq;split at hq
  ·obtain⟨hc,h⟩:=aJ hq;simp only[aQ]at hc;obtain⟨i,h1,rfl⟩:=aA h;exact(gT G.toGOk h1 hc.1.2 Kf rfl).imp fun D σ H h=>Kg h
  ·obtain⟨hc,h⟩:=aJ hq;simp only[aQ]at hc;obtain⟨⟨⟨⟨c1,c2⟩,c3⟩,c4⟩,c5⟩:=hc;obtain⟨i,h1,h⟩:=ay h;obtain⟨fa,h2,h⟩:=ay h;obtain⟨fb,h3,h6⟩:=ay h;clear h hq;have hx:=fun p=>jF (p:=p) G.toGOk c1 c2 h1
   have ha:=rK (S.e Γ X _ fa G.toGOk h2 H₀ ab) (rK (S.e Γ X _ fb G.toGOk h3 H₀ ab) ze (bI c4 _ _)) (bI c3 _ _);split at h6
   ·rename_i hm;rw[aQ]at hm;have hm:=bE hm.1;subst hm;have h7:=bD h6;subst h7;exact eZ ((gM (uT PySem.F.plainAttrs_dict Ia PySem.F.type_dict_setdefault S9 (hx _) ha rfl (ER c3 c4) c5 (bI c3 _ _) (zS c4))).imp fun D σ H h=>Oc h)
   ·split at h6
    ·rename_i hm;have hm:=bE hm;subst hm;have h7:=bD h6;subst h7;exact eZ ((gM (uT og PySem.F.slot_list_insert PySem.F.type_list_insert GP (hx _) ha rfl (ER c3 c4) c5 (bI c3 _ _) (zS c4))).imp fun D σ H h=>wI Oa h)
    ·cases h6
  ·obtain⟨hc,h⟩:=aJ hq;simp only[aQ]at hc;obtain⟨⟨⟨c1,c2⟩,c3⟩,c4⟩:=hc;obtain⟨i,h1,rfl⟩:=aA h;have hm:=bE c4;subst hm;exact(gM (RU og PySem.F.slot_list_reverse PySem.F.type_list_reverse Ck (jF G.toGOk c1 c2 h1) rfl c3)).imp fun D σ H h=>JH N9 h
  ·cases hq
 rename_i hq0;clear hq0;split at h
 ·cases h;exact Sg
 ·split at h
  ·rename_i hc;obtain⟨i,h1,rfl⟩:=aA h;simp only[aQ]at hc;exact Gi i (jF G.toGOk hc.1.1 hc.1.2 h1)
  ·obtain⟨fe,h1,rfl⟩:=aA h;rename_i x p _ _;have:=S.e Γ X _ fe G.toGOk h1 H₀ ab;refine Qj ?_;cases n with
   | zero=>cases h1
   | succ n =>
    exact S.e Γ X (.Name x p) fe G.toGOk h1 H₀ ab
 ·obtain⟨fe,h1,rfl⟩:=aA h;exact eZ (Qj (S.e Γ X _ fe G.toGOk h1 H₀ ab))
 ·obtain⟨gc,h1,h⟩:=ay h;obtain⟨fa,h2,h⟩:=ay h;obtain⟨fb,h3,rfl⟩:=aA h;exact aa8 (Kz (S.t Γ X _ gc G.toGOk h1 H₀ ab)) (T.ss Γ X _ fa G h2 H₀ ab) (T.ss Γ X _ fb G h3 H₀ ab)
 ·obtain⟨hc,h⟩:=aJ h;simp only[aQ]at hc;obtain⟨⟨⟨hn,hv⟩,hp⟩,hl⟩:=hc;obtain⟨i,h1,h⟩:=ay h;obtain⟨ts,h2,h6⟩:=ay h;clear h;have ha:=((S.a Γ X _ ts G.toGOk h2).1 H₀ ab);have hv':=fun p=>jF (p:=p) G.toGOk hn hv h1
  split at h6
  ·rename_i hm;have hm:=bE hm;subst hm;have h7:=bD h6;subst h7;exact eZ ((gM (uT og Bq Br oH (hv' _) ha rfl (xp hp) hl (bI hp _ _) rfl)).imp fun D σ H h=>wI Nf h)
  ·split at h6
   ·rename_i hm;have hm:=bE hm;subst hm;have h7:=bD h6;subst h7;exact eZ ((gM (uT og PySem.F.slot_list_extend PySem.F.type_list_extend So (hv' _) ha rfl (xp hp) hl (bI hp _ _) rfl)).imp fun D σ H h=>wI Nh h)
   ·cases h6
 ·obtain⟨hc,h⟩:=aJ h;obtain⟨fe,h1,rfl⟩:=aA h;exact eZ (Si (S.e Γ X _ fe G.toGOk h1 H₀ ab) (gR hc _ _ _))
 ·obtain⟨fi,h1,h⟩:=ay h;obtain⟨g,h2,h⟩:=ay h;obtain⟨fb,h3,rfl⟩:=aA h;obtain⟨i1,i2⟩:=S.i Γ X _ _ fi G.toGOk h1;exact eZ (Wc G.never G.calm (i1 H₀ ab) ((jQ G.toGOk n _ g h2).1 H₀ ab) (T.ss Γ X _ fb G h3 H₀ ab) i2)
 ·-- x=[.. for ..]
  obtain⟨hc,h⟩:=aJ h;simp only[aQ]at hc;obtain⟨i,h1,h⟩:=ay h;obtain⟨fc,h2,rfl⟩:=aA h;obtain⟨c1,c2⟩:=S.c Γ X _ _ _ _ _ fc G.toGOk h2;split
  ·rcases mx G.toGOk with⟨z,hl⟩ | z
   ·obtain⟨t,ht,k⟩:=c2 H₀ ab i _ _ _ _ (G.toGOk.jE h1) hl z;exact rV (fun σ H Q h=>ht σ H Q (zD h)) k
   ·exact rV (fun σ H Q h=>zD h) (gT G.toGOk h1 hc.1 (c1 H₀ ab _) z)
  refine eZ ?_;rcases mx G.toGOk with⟨z,hl⟩ | z
  ·obtain⟨t,ht,k⟩:=c2 H₀ ab i _ _ _ _ (G.toGOk.jE h1) hl z;split
   ·exact k.imp fun D σ H h=>rX ht h
   ·exact rV ht k
  ·have k:=gT G.toGOk h1 hc.1 (c1 H₀ ab _) z;split
   ·exact k.imp fun D σ H h=>rX (fun _ _ _ h=>h) h
   ·exact rV (fun _ _ _ h=>h) k
 ·-- x=[..]
  obtain⟨hc,h⟩:=aJ h;simp only[aQ]at hc;obtain⟨i,h1,h⟩:=ay h;obtain⟨ts,h2,rfl⟩:=aA h;have he:=fun p=>Eh (pos:=p) ((S.a Γ X _ ts G.toGOk h2).1 H₀ ab)
  refine eZ ?_;rename_i x p1 es lp sp _ _;have k:=gT (p:=p1) (sp:=sp) G.toGOk h1 hc.1 (he lp) rfl;split
  ·exact k.imp fun D σ H h=>rX (fun _ _ _ h=>h) h
  ·exact rV (fun _ _ _ h=>h) k
 ·obtain⟨hc,h⟩:=aJ h;simp only[aQ]at hc;obtain⟨i,h1,h⟩:=ay h;split at h
  ·obtain⟨fo,h2,rfl⟩:=aA h;refine eZ ?_;obtain⟨o1,o2⟩:=Tq Γ X _ fo G.toGOk h2 H₀ ab;exact(gT G.toGOk h1 hc.1.2 o1 (gR hc.1.1 _ _ _)).imp fun D σ H h=>JV o2 (fun _ _ _ h=>h) h
  ·obtain⟨fe,h2,rfl⟩:=aA h;split
   ·exact Qk i (gT G.toGOk h1 hc.1.2 (JG (S.e Γ X _ fe G.toGOk h2 H₀ ab)) (gR hc.1.1 _ _ _))
   refine eZ ?_;exact Qk i (gT G.toGOk h1 hc.1.2 (S.e Γ X _ fe G.toGOk h2 H₀ ab) (gR hc.1.1 _ _ _))
 ·obtain⟨hc,h⟩:=aJ h;simp only[aQ]at hc;obtain⟨i,h1,h⟩:=ay h;obtain⟨g,h2,h⟩:=ay h;obtain⟨fe,h3,rfl⟩:=aA h;refine eZ ?_;unfold Ky at h2;split at h2
  ·cases h2;exact zT G.toGOk h1 hc.1 (fun a b c e=>by
    unfold Ot at e;split at e
    ·cases e;exact⟨_,_,rfl,rfl,rfl⟩
    ·cases e) iop_add (S.e Γ X _ fe G.toGOk h3 H₀ ab)
  ·cases h2;exact zT G.toGOk h1 hc.1 (fun a b c e=>by
    unfold Xd at e;split at e
    ·cases e;exact⟨_,_,rfl,rfl,rfl⟩
    ·cases e) MH (S.e Γ X _ fe G.toGOk h3 H₀ ab)
  ·cases h2
 ·obtain⟨hc,h⟩:=aJ h;obtain⟨g,h1,h⟩:=ay h;obtain⟨fe,h2,rfl⟩:=aA h;obtain⟨g1,g2,g3,g4⟩:=jQ G.toGOk n _ g h1;refine eZ (Wb (S.e Γ X _ fe G.toGOk h2 H₀ ab) (g1 H₀ ab) ?_ ?_ (g3 _))
  ·rename_i ts k tp e sp _ _;have z:=gR (xf hc) (some (Expr.Tuple ts k tp)) sp.line X.env;exact z
  ·rename_i ts k tp e sp _ _;cases e<;>first | rfl | cases hc
 ·cases h
theorem Xg(Γ:Gm)(X:Cx)(st:aE)(f:FS)(G:Ou Γ X)(h:GZ (n+1) Γ st=some f)(H₀ ab:Hp):PS X st (tS X H₀ ab f):=by
 have h:some ((vi n Γ st).getD fun _=>none)=some f:=h
 cases z:vi n Γ st with
 | none =>
  rw[z]at h;cases h;exact IM.imp fun D σ H ⟨F,ρ,o,R,hf,q⟩=>by cases hf
 | some g =>
  rw[z]at h;cases h;exact T.s0 Γ X st _ G z H₀ ab
end
theorem Y7:∀n:Nat,Xf n
 | 0=>⟨(fun _ _ _ _ _ h=>by cases h),(fun _ _ _ _ _ h=>by cases h),(fun _ _ _ _ _ h=>by cases h)⟩
 | n+1=>⟨Xg (Y7 n),Tt (Y7 n),Ts (Y7 n)⟩
def KA:List Str:=["append","extend","clear","pop","insert","reverse","remove"]
mutual
def Xh:Nat->aE->List Str
 | 0,_=>[]
 | n+1,st=>match st with
  | .Expr (.Call (.Attribute (.Name x _) m _) _ _ _) _=>if KA.contains m then [x]else []
  | .Assign [.Subscript (.Name x _) _ _] _ _=>[x]
  | .If _ a b _=>ui n a++ui n b
  | .For _ _ a b _=>ui n a++ui n b
  | .While _ a b _=>ui n a++ui n b
  | .Try a _ b _ _=>ui n a++ui n b
  | _=>[]
def ui:Nat->List aE->List Str
 | 0,_=>[]
 | n+1,[]=>[]
 | n+1,s::r=>Xh n s++ui n r
end
def zU:Nat:=120
def defName(s:aE):Str:=match s with
 | .FunctionDef x _ _ _ _ _ _ _ _ _=>x
 | _=>""
abbrev CT:=Str->Option Ob->az->dA
abbrev cN(c:CT)(x:Str)(ps:az):dA:=c x none ps
abbrev cO(c:CT)(x:Str)(o:Ob)(ps:az):dA:=c x (some o) ps
def Y8(P:Pg)(st:aE)(QE:List Str)(cls:List (Str×Nat))(make:Str->az->Option (List (Str×Fd)))(yq:Bool)(c:CT):Gm where
 sc:=(aM st).names
 N:=dj st
 fns:=(P.defs.filter fun d=>!P.bL.contains d.1).map fun d=>(d.1,(params d.2).length)
 cons:=P.cons
 d3:=P.d3
 chg:=(ui zU (dz st)).eraseDups++(P.own.lookup (defName st)).getD []++(P.PN.lookup (defName st)).getD []
 own:=true
 call:=cN c
 exc:=P.exc
 sub:=P.sub
 tabs:=P.tabs
 QE:=QE
 GU:=[]
 pN:=cO c
 cls:=cls
 make:=make
 flds:=P.flds
 fZ:=P.fZ
 yq:=yq
 PN:=(P.PN.lookup (defName st)).getD []
def Tu(st:aE):Str:=(params st).headD ""
def zV(P:Pg)(st:aE)(c:CT):Gm:=Y8 P st ((if P.bL.contains (defName st)=true then [Tu st]else [])++(P.obs.lookup (defName st)).getD []) [] (fun _ _=>none) (P.mJ.contains (defName st)) c
def sj(f:FS)(N:Nat)(ps:az):dA:=match f (ps.map .val++List.replicate (N-ps.length) .un)with
 | some (.rt (.val p))=>some (.val p)
 | some (.rt (.own ps))=>some (.own ps)
 | some (.nx _)=>some (.val .cG)
 | _=>none
def sk(P:Pg):Nat->CT
 | 0,_,_,_=>none
 | k+1,x,o,ps=>(P.defs.lookup x).bind fun st=>(g9 zU (zV P st (sk P k)) (dz st)).bind fun f=>sj f (dj st).length ps
def run(P:Pg)(k:Nat)(x:Str)(ps:az):dA:=sk P k x none ps
theorem Tv{P:Pg}{k:Nat}{x:Str}{st:aE}{f:FS}(h:P.defs.lookup x=some st)(hf:g9 zU (zV P st (sk P k)) (dz st)=some f)(ps:az):run P (k+1) x ps=sj f (dj st).length ps:=by
 show(P.defs.lookup x).bind _=_;rw[h];show(g9 zU (zV P st (sk P k)) (dz st)).bind _=_;rw[hf];rfl
theorem pV{α:Type}(p:Str->Bool)(x:Str):∀l:List (Str×α),(l.filter fun d=>p d.1).lookup x=if p x=true then l.lookup x else none
 | []=>by simp
 | (n,a)::r=>by
  have ih:=pV p x r;by_cases z:x=n
  ·subst z;cases hp:p x<;>simp[List.filter_cons,hp,jh,ih]
  ·have z':(x==n)=false:=by simpa using z
   cases hp:p n<;>simp[List.filter_cons,hp,jh,z',ih]
theorem nK{α:Type}(p:Str->Bool)(x:Str)(l:List (Str×α))(v:α)(h:(l.filter fun d=>p d.1).lookup x=some v):l.lookup x=some v:=by
 rw[pV]at h;exact(aJ h).2
theorem kN{α β:Type}(g:α->β)(x:Str):∀l:List (Str×α),(l.map fun d=>(d.1,g d.2)).lookup x=(l.lookup x).map g
 | []=>rfl
 | (n,a)::r=>by
  rw[bR,jh,jh];cases x==n with
  | true=>rfl
  | false=>exact kN g x r
section
variable {prog:bJ} {w:aW} {K:ak} {mg:dM} {base:Heap}
def Ow(K:ak)(mg:dM)(x:Str):Prop:=(∃p q fs fT Kc EH,Kb K mg p q fs fT Kc EH)/\x∈d0/\∃c T,W.tabIn K x=some (c,T)/\W.codeHdIn K c T=true
theorem C2{K:ak}{x:Str}{c T:ae}(h:W.tabIn K x=some (c,T)):∃f oc od fd tQ,W.nsIn K mainGlobals x=some (some (.ref f))/\K.lookup f=some ⟨oc,od,.func fd,tQ⟩/\fd.code=.ref c:=by
 unfold W.tabIn at h;split at h
 ·rename_i f hf;split at h
  ·rename_i oc od fd tQ hl;split at h
   ·rename_i c' hc;split at h
    ·split at h
     ·cases h;exact⟨f,oc,od,fd,tQ,hf,hl,hc⟩
     ·cases h
    ·cases h
   ·cases h
  ·cases h
 ·cases h
def KC(K:ak)(f:ae)(dG:aj):Prop:=∃oc od fd tQ,K.lookup f=some ⟨oc,od,.func fd,tQ⟩/\fd.code=dG
theorem Ox{P:bJ}{w:aW}{K:ak}{mg:dM}{base:Heap}{x qual:Str}{st:aE}{f:ae}{fd:dQ}{N ps:List Str}{k:Nat}{sp:Sp}(F:BS K x qual st f fd)(S:dW N ps (aM st))(len:∀vs H Q E,sp vs H Q E->vs.length=ps.length)
  (hbody:∀(dG:aj) (A:bY) (outer:List Env) (s:aw) (H:Hp) (vs:List V) (Q:VK) (E:XK),KC K f dG->eI k (A.deeper (envOfC qual (aM st) s.heap.objs.size f dG))->sp vs H Q E ->
   ∃t,oD (ly (lK P w) P w K mg base N qual (aM st) f dG A outer s H E) (dz st) t/\t {nx:=fun _ H'=>Q .cG H',rt:=Q} (start N vs) H):FnOk P w K mg base (lK P w) (k+1) f fd ps sp:=by
 obtain⟨oc,od,kV,doc,pm,an,dG,ct,tQ,rfl,lk,uB⟩:=F.ex;exact Ec lk uB S len fun A outer s H vs Q E hr m6=>hbody dG A outer s H vs Q E ⟨oc,od,_,tQ,lk,rfl⟩ hr m6
structure Tw (P:Pg) (w:aW) (K:ak) (mg:dM):Prop where
 fns:∀x st,P.defs.lookup x=some st->∃f fd,BS K x x st f fd/\f9 K fd (params st) []/\mg x=some (.ref f)/\dW (dj st) (params st) (aM st)
 cons:∀x p,P.cons.lookup x=some p->∃u v,mg x=some u/\RelV v u/\∀F,c9 K F p v
 d3:∀x,P.d3.contains x=true->mg x=none
 excs:∀C,P.exc.contains C=true->uy K C
 subs:∀C D b,P.sub.lookup (C,D)=some b->JU K mg C D b
 tabs:∀T b7,P.tabs.lookup T=some b7->Ey K mg w.params T b7
 ns:∀x a,W.nsIn K mainGlobals x=some (some (.ref a))->mg x=some (.ref a)
 cls:∀C st,P.cls.lookup C=some st->∃Ca f fd,Mk K Ca f/\Uw K Ca/\(∀g,P.flds.contains g=true->oA K Ca g)/\mg C=some (.ref Ca)/\BS K "__init__" (C++".__init__") st f fd/\f9 K fd (params st) []/\dW (dj st) (params st) (aM st)
 fZ:∀T b7,P.fZ.lookup T=some b7->CS K mg w.params T b7
 yq:∀x st,P.defs.lookup x=some st->P.mJ.contains (defName st)=true->Ow K mg x
theorem oR{F H:Hp}{ps:az}{vs:List V}{N:List Str}(hs:Same F H)(hb:bt K F ps vs):da K H F F (ps.map .val++List.replicate (N.length-ps.length) .un) (start N vs) H where
 sub:=hs
 keep:=Same.refl H
 base:=Same.refl F
 fresh:=fun _ _ e=>.inl e
 val:=fun i p e=>by
  have hl:=hb.length;by_cases hi:i<ps.length
  ·rw[il (by simpa using hi),cu]at e
   cases z:ps[i]? with
   | none=>rw[z]at e;cases e
   | some q =>
    rw[z]at e;cases e;obtain⟨v,h1,h2⟩:=hb.get z;refine⟨v,?_,h2⟩;unfold start;rw[il (by rw[aC,<-hl];exact hi),cu,h1]
    rfl
  ·rw[j9 (by simpa using hi),ip]at e
   split at e<;>cases e
 own:=fun i qs e=>by
  by_cases hi:i<ps.length
  ·rw[il (by simpa using hi),cu]at e
   cases z:ps[i]? with
   | none=>rw[z]at e;cases e
   | some q=>rw[z]at e;cases e
  ·rw[j9 (by simpa using hi),ip]at e
   split at e<;>cases e
 apart:=fun i j qs rs a e=>by
  by_cases hi:i<ps.length
  ·rw[il (by simpa using hi),cu]at e
   cases z:ps[i]? with
   | none=>rw[z]at e;cases e
   | some q=>rw[z]at e;cases e
  ·rw[j9 (by simpa using hi),ip]at e
   split at e<;>cases e
 obs:=fun i qs e=>by
  by_cases hi:i<ps.length
  ·rw[il (by simpa using hi),cu]at e
   cases z:ps[i]? with
   | none=>rw[z]at e;cases e
   | some q=>rw[z]at e;cases e
  ·rw[j9 (by simpa using hi),ip]at e
   split at e<;>cases e
 eW:=fun i qs e=>by
  by_cases hi:i<ps.length
  ·rw[il (by simpa using hi),cu]at e
   cases z:ps[i]? with
   | none=>rw[z]at e;cases e
   | some q=>rw[z]at e;cases e
  ·rw[j9 (by simpa using hi),ip]at e
   split at e<;>cases e
 len:=by
  unfold start;rw[bK,bK,aC,aC,iq,iq,hb.length]
def FR(P:Pg)(prog:bJ)(w:aW)(K:ak)(mg:dM)(base:Heap)(k:Nat):Prop:=∀(x:Str) (st:aE) (f:ae) (fd:dQ),P.defs.lookup x=some st->mg x=some (.ref f)->BS K x x st f fd->dW (dj st) (params st) (aM st) ->
 FnOk prog w K mg base (lK prog w) (3*k) f fd (params st) (Cq K (params st).length (run P k x))
section
variable {P:Pg} (O:Tw P w K mg) {k:Nat} (ih:FR P prog w K mg base k)
include O ih
theorem Xi{st:aE}{x:Str}{f:ae}{dG:aj}{A:bY}{outer:List Env}{s:aw}{H:Hp}{E:XK}{QE:List Str}{cls:List (Str×Nat)}{make:Str->az->Option (List (Str×Fd))}{yq:Bool}{j:Nat}(S:dW (dj st) (params st) (aM st))
  (hr:eI j (A.deeper (envOfC x (aM st) s.heap.objs.size f dG))) (hj:3*k<=j) (hcl:∀C n,cls.lookup C=some n->∃k' Ca f' fd ps,Mk K Ca f'/\Uw K Ca/\(∀f,P.flds.contains f=true->oA K Ca f)/\FnOk prog w K mg base (lK prog w) k' f' fd ps (spI K n (make C))/\eI (k'+1) (A.deeper (envOfC x (aM st) s.heap.objs.size f dG))/\mg C=some (.ref Ca)/\f9 K fd ps [])
  (ab8:yq=true->Kl (Y8 P st QE cls make yq (sk P k)) (ly (lK prog w) prog w K mg base (dj st) x (aM st) f dG A outer s H E)) :
  Ou (Y8 P st QE cls make yq (sk P k)) (ly (lK prog w) prog w K mg base (dj st) x (aM st) f dG A outer s H E):=by
 refine⟨⟨rfl,rfl,S.nd,S.kind,rfl,hr.hd,?_,fun _ _=>rfl,fun y n hy=>?_,O.cons,O.d3,O.excs,O.subs,O.tabs,⟨fun y n hy=>?_,O.ns,hcl,O.fZ,ab8⟩⟩,BE,rfl,rfl⟩
 ·have:=hr.un;show(A.deeper _).units+1150<cLine
  lia
 ·have hy:((P.defs.filter fun d=>!P.bL.contains d.1).map fun d=>(d.1,(params d.2).length)).lookup y=some n:=hy
  rw[kN (fun st=>(params st).length)]at hy
  obtain⟨yp,h1,h2⟩:=aA hy;subst h2;have h1:=nK (fun x=>!P.bL.contains x) y P.defs yp h1
  obtain⟨f',UM,F1,B1,m1,S1⟩:=O.fns y yp h1;exact⟨3*k,f',UM,params yp,ih y yp f' UM h1 m1 F1 S1,hr.mono hj,m1,F1.kp,B1⟩
 ·cases hy
theorem Tx{st:aE}{x:Str}{f:ae}{dG:aj}{A:bY}{outer:List Env}{s:aw}{H:Hp}{E:XK}{QE:List Str}{cls:List (Str×Nat)}{make:Str->az->Option (List (Str×Fd))}{yq:Bool}(h:P.defs.lookup x=some st)(hm:mg x=some (.ref f))(hc:KC K f dG)(hB:P.mJ≠[]->y2 mg base)
  (hr:eI (3*k+2) (A.deeper (envOfC x (aM st) s.heap.objs.size f dG))) (hs:P.mJ.contains (defName st)=true):Kl (Y8 P st QE cls make yq (sk P k)) (ly (lK prog w) prog w K mg base (dj st) x (aM st) f dG A outer s H E):=by
 obtain⟨⟨p,q,fs,fT,Kc,EH,D⟩,hx,c,T,ht,hC⟩:=O.yq x st h hs;have uB:dG=.ref c:=by
  obtain⟨f',oc,od,fd,tQ,h1,h2,h3⟩:=C2 ht;obtain⟨oc',od',UM,af0,g1,g2⟩:=hc;have:=O.ns x f' h1;rw[hm]at this;cases this;rw[h2]at g1;cases g1;exact g2.symm.trans h3
 refine⟨⟨p,q,fs,fT,Kc,EH,3*k,D,hr,fun y n hy=>?_,fun y n hy=>?_⟩,⟨⟨x,c,T,hx,ht,hC,uB,rfl⟩,hB (fun z=>by rw[z]at hs;cases hs)⟩⟩
 ·have hy:((P.defs.filter fun d=>!P.bL.contains d.1).map fun d=>(d.1,(params d.2).length)).lookup y=some n:=hy
  rw[kN (fun st=>(params st).length)]at hy
  obtain⟨yp,h1,h2⟩:=aA hy;subst h2;have h1:=nK (fun x=>!P.bL.contains x) y P.defs yp h1
  obtain⟨f',UM,F1,B1,m1,S1⟩:=O.fns y yp h1;exact⟨3*k,f',UM,params yp,bh _,ih y yp f' UM h1 m1 F1 S1,m1,F1.kp,B1⟩
 ·cases hy
end
theorem KD{P:Pg}(O:Tw P w K mg)(hB:P.mJ≠[]->y2 mg base):∀(k:Nat),FR P prog w K mg base k
 | 0=>fun x st f fd h RX F S=>by
  have no:∀vs H Q E,¬Cq K (params st).length (run P 0 x) vs H Q E:=fun vs H Q E ⟨F,ps,e,_,_,_,z,_⟩=>by cases z
  exact⟨fun vs H Q E h=>absurd h (no vs H Q E),fun A outer s H args us vs Q E _ _ _ _ h=>absurd h (no vs H Q E)⟩
 | k+1=>fun x st f fd h RX F S=>by
  have ih:=KD (P:=P) O hB k;refine Ox (k:=3*k+2) F S (fun vs H Q E ⟨F',ps,e,_,hb,hl,_⟩=>by rw[<-hb.length];exact hl) (fun dG A outer s H vs Q E VR hr m6=>?_)
  obtain⟨F',ps,e,hs,hb,hl,su,hq⟩:=m6;have su:(P.defs.lookup x).bind (fun st=>(g9 zU (zV P st (sk P k)) (dz st)).bind fun f=>sj f (dj st).length ps)=some e:=su
  rw[h]at su;obtain⟨g,hg,su⟩:=ay (show(g9 zU (zV P st (sk P k)) (dz st)).bind (fun f=>sj f (dj st).length ps)=some e from su)
  have G:Ou (zV P st (sk P k)) (ly (lK prog w) prog w K mg base (dj st) x (aM st) f dG A outer s H E):=Xi O ih S hr (by lia) (fun _ _ z=>by cases z) (Tx O ih h RX VR hB hr)
  refine⟨tS (ly (lK prog w) prog w K mg base (dj st) x (aM st) f dG A outer s H E) H F' g,(Y7 zU).ss (zV P st (sk P k)) _ (dz st) g G hg H F',?_⟩;unfold sj at su;split at su
  ·rename_i p z;cases su;exact⟨F',_,_,oR hs hb,z,hq⟩
  ·rename_i qs z;cases su;exact⟨F',_,_,oR hs hb,z,hq⟩
  ·rename_i fj z;cases su;exact⟨F',_,_,oR hs hb,z,fun F2 uM H2 R2 s2=>hq .cG F2 H2 R2.post s2 (dE.mpr rfl)⟩
  ·cases su
def zW(ns:List Int):PV:=.au (ns.map .int)
theorem zX{F:Hp}:∀ns:List Int,bt K F (ns.map .int) (ns.map V.int)
 | []=>.nil
 | n::r=>.cons (aI.mpr rfl) (zX r)
theorem Tz{P:Pg}{k:Nat}{H:Hp}{a:ae}{ns:List Int}(hr:run P k "law" [zW ns]=some (.val (.bl true)))(hS:qj K H a (ns.map V.int)):Cq K 1 (run P k "law") [.ref a] H (fun v _=>v=.bl true) fun _ _ _=>False :=
 ⟨H,[zW ns],_,Same.refl H,.cons (bB.mpr ⟨a,_,rfl,hS,zX ns⟩) .nil,rfl,hr,fun v F' H' _ _ b=>bZ.mp b⟩
end
theorem fX{α β:Type} [BEq α] [LawfulBEq α] {k:α} {v:β}:∀{l:List (α×β)},l.lookup k=some v->(k,v)∈l
 | [],h=>by cases h
 | (a,b)::l,h=>by
  rw[jh]at h;cases z:k==a with
  | true =>
   rw[z]at h;cases h;rw[bE z];exact b6
  | false =>
   rw[z]at h;exact bQ _ (fX h)
theorem BU.at{K:ak}{h:Heap}{mg:dM}{C D:Str}{b:Bool}(x:BU K C D b)(X:K.In h)(G:h.Ns mainGlobals mg):JU K mg C D b:=by
 obtain⟨cls,dv,hc,hn,r⟩:=x;refine⟨cls,dv,hc,?_,r⟩;rcases hn with z | ⟨z,y⟩
 ·exact .inl (W.mg_of X G z)
 ·exact .inr ⟨W.mg_none_of X G z,y⟩
theorem FA.at{K:ak}{h:Heap}{mg:dM}{P:Params}{T:Str}{b7:List (Str×Str)}(x:FA K P T b7)(X:K.In h)(G:h.Ns mainGlobals mg):Ey K mg P T b7:=by
 obtain⟨a,es,n,h1,h2,h3,h4⟩:=x;refine⟨a,es,n,W.mg_of X G h1,h2,h3,fun k fn e=>?_⟩
 obtain⟨f,h5,h6⟩:=h4 (k,fn) (fX e);exact⟨f,h5,W.mg_of X G h6,h6⟩
theorem yv.at{K:ak}{h:Heap}{mg:dM}{P:Params}{T:Str}{b7:List (Str×PV)}(x:yv K P T b7)(X:K.In h)(G:h.Ns mainGlobals mg):CS K mg P T b7:=by
 obtain⟨a,es,n,h1,h2,h3,h4⟩:=x;exact⟨a,es,n,W.mg_of X G h1,h2,h3,fun k p e=>h4 (k,p) (fX e)⟩
theorem Im.at{K:ak}{h base:Heap}{mg:dM}(b:Im K)(X:K.In h)(G:h.Ns mainGlobals mg)(Y:K.In base):y2 mg base :=
 let ⟨bm,o,h1,h2,h3,h4,h5⟩:=b;⟨bm,o,W.mg_of X G h1,h2,h3,Y _ _ h4,h5⟩
def vj(K:ak):List (ae×Str):=d0.filterMap fun x=>(W.tabIn K x).map fun cT=>(cT.2,tV x)
theorem vk{α β:Type} [BEq α] [LawfulBEq α] {b:α} {q:β}:∀{l:List (α×β)},(l.map (·.1)).Nodup->(b,q)∈l->l.lookup b=some q
 | [],_,h=>nomatch h
 | (a,v)::l,hn,h=>by
  rw[bR,fu]at hn;rw[jh];rcases bc.mp h with e | h'
  ·cases e;rw[vQ]
  ·have:(b==a)=false:=by
    rw[qH];intro z;subst z;exact hn.1 (bG.mpr ⟨_,h',rfl⟩)
   rw[this];exact vk hn.2 h'
theorem G0(K:ak):(vj K).map (·.1)=d0.filterMap fun x=>(W.tabIn K x).map (·.2):=by
 unfold vj;rw[List.map_filterMap]
 congr 1
 funext x
 cases W.tabIn K x<;>rfl
theorem mM.tabs{K:ak}{h:Heap}(t:mM K h)(X:K.In h):(∀b q,(vj K).lookup b=some q->h.get? b=some {cls:=.none,data:=.fields #[]}/\isCodeTable h b/\K.lookup b=none)/\∀H:Hp,(∀b q,(vj K).lookup b=some q->H b=some (.yu q))->rl K H:=by
 refine⟨fun b q e=>?_,fun H hH x hx c T e=>?_⟩
 ·have hm:=fX e;unfold vj at hm;obtain⟨x,hx,e2⟩:=vO.mp hm;obtain⟨cT,e3,e4⟩:=jI.mp e2;cases e4;obtain⟨h1,h2,h3⟩:=t.at_ x hx cT.1 cT.2 e3;obtain⟨o,vs,_,_,_,_,_,_,_,g1,g2,g3,g4,_⟩:=W.codeHd_of_K X h1;exact⟨h2,⟨_,o,vs,g1,g2,g3,g4⟩,h3⟩
 ·refine hH T (tV x) (vk (by rw[G0];exact t.nd) ?_)
  unfold vj;exact vO.mpr ⟨x,hx,by rw[e];rfl⟩
structure KH (P:Pg):Prop where
 dn:P.defs.all (fun d=>defName d.2==d.1)=true
 sp:P.mJ=[]\/∃p q,P.defs.lookup ("spread":Str)=some (iD p)/\P.defs.lookup ("tell_new":Str)=some (sg q)/\((q 15).endLine==(q 20).line)=true/\P.d3.contains ("len":Str)=true
theorem ab9{P:Pg}{K:ak}{h:Heap}{mg:dM}(X:K.In h)(G:h.Ns mainGlobals mg)(hd:∀d∈P.defs,Ij K d.1 d.2)
  (hc:∀d∈P.cons,∃u v,W.nsIn K mainGlobals d.1=some (some u)/\RelV v u/\∀F,c9 K F d.2 v) (hb:∀x∈P.d3,W.nsIn K mainGlobals x=some none) (he:∀C∈P.exc,uy K C) (hs:∀d∈P.sub,BU K d.1.1 d.1.2 d.2) {w:aW} (ht:∀d∈P.tabs,FA K w.params d.1 d.2) (hcl:∀d∈P.cls,QZ K d.1 d.2 P.flds) (hct:∀d∈P.fZ,yv K w.params d.1 d.2) (LS:KH P) (hlm:∀x∈P.mJ,Q0 K x):Tw P w K mg where
 fns:=fun x st e=>by
  obtain⟨⟨f,fd,a,F,b⟩,s⟩:=hd (x,st) (el e);exact⟨f,fd,F,.all b,W.mg_of X G a,s⟩
 cons:=fun x p e=>by
  obtain⟨u,v,a,r,b⟩:=hc (x,p) (el e);exact⟨u,v,W.mg_of X G a,r,b⟩
 d3:=fun x e=>W.mg_none_of X G (hb x (by simpa using e))
 excs:=fun C e=>he C (by simpa using e)
 subs:=fun C D b e=>(hs ((C,D),b) (fX e)).at X G
 tabs:=fun T b7 e=>(ht (T,b7) (fX e)).at X G
 ns:=fun x a e=>W.mg_of X G e
 cls:=fun C st e=>by
  obtain⟨Ca,f,fd,a,M,c,na,F,b,s⟩:=hcl (C,st) (el e);exact⟨Ca,f,fd,M,c,fun g hg=>na g (by simpa using hg),W.mg_of X G a,F,.all b,s⟩
 fZ:=fun T b7 e=>(hct (T,b7) (fX e)).at X G
 yq:=fun x st e hs=>by
  have hx:defName st=x:=bE (fq.mp LS.dn (x,st) (el e));rcases LS.sp with z | ⟨p,q,e1,e2,e3,e4⟩
  ·rw[z]at hs;cases hs
  ·obtain⟨⟨f1,fd1,a1,F1,b1⟩,s1⟩:=hd _ (el e1);obtain⟨⟨f2,fd2,a2,F2,b2⟩,s2⟩:=hd _ (el e2);rw[hx]at hs;exact⟨⟨p,q,f1,f2,fd1,fd2,F1,W.mg_of X G a1,.all b1,s1,F2,W.mg_of X G a2,.all b2,s2,e3,W.mg_none_of X G (hb "len" (by simpa using e4))⟩,hlm x (by simpa using hs)⟩
theorem G1{P:Pg}{N:Nat}{x:Str}{st:aE}{l:W.OpenLaw}{q:bJ}{loose:List Str}{XP:dM->Heap->Prop}{YP:aW->Heap->Prop}{d:DefRec}(FL:P.defs.lookup ("law":Str)=some st)(hx:params st=[x])
  (hn:l.most=some 63) (hdn:d.name="law") (hdf:d.params.defaults=[]) (hr:eI (3*N) callerA) (LS:KH P) (hY:∀(w:aW) (h:Heap),YP w h->∃K:ak,K.In h/\Io P w K/\mM K h)
  (aca:∀ns:List Int,ns.length<=63->run P N "law" [zW ns]=some (.val (.bl true))):W.WalkO q loose XP YP l.row.toRowW d [] (fun f vs=>PySem.call f vs):=by
 refine Att.yZ hn hdf fun w s₀ s₁ mg mb fa o pm cd doc a vs ns G Y ho hd uB RX Jn Jo dm hg=>?_
 obtain⟨K,KX,T,TH⟩:=hY w _ Y;obtain⟨t1,t2⟩:=TH.tabs KX;have O:=ab9 KX G.T.g T.hd T.hc T.hb T.he T.hs (w:=w) T.ht T.hcl T.hct LS T.hlm;obtain⟨⟨f,fd,e0,F,b⟩,s⟩:=T.hd ("law",st) (el FL);rw[hdn]at RX;have e:=RX.symm.trans (W.mg_of KX G.T.g e0);cases e;rw[hx]at b;refine FZ (CX:=lK l.prog w) (sp:=Cq K 1 (run P N "law")) KX G.T.g G.T.b G.T.builtins G.T.nolimit hg t1 t2 Jn Jo (cF dm (by decide)) hr (fun base kb _=>?_) (fun s u=>.of_eq (b [u] rfl)) (fun H hS=>Tz (aca ns dm) hS) fun _ _ _ ⟨_,_,_,_,_,_,_,_,_,_,_,h,_⟩=>h
 have k:=KD (prog:=l.prog) (w:=w) (base:=base) O (fun z=>(T.hbm z).at KX G.T.g kb) N "law" st _ fd FL (W.mg_of KX G.T.g e0) F s
 rw[hx]at k;exact k
end L2.PL
namespace L2.PL
open PySem
section
variable {fa fb fc:FE} {g g':PV->PV->bU} {ρ:aF} {gc gd:eP} {ts:bX} {f h:FS} {p q:PV} {i j:Int} {n m:Nat} {ps qs:az}
theorem C3:gB=100000:=rfl
@[simp] theorem lh:hJ=1000:=rfl
@[simp] theorem acb:Nj=18446744073709551616:=rfl
def UN:dA->bU
 | some (.val p)=>some p
 | _=>none
@[simp] theorem adU:rd n ρ=UN ρ[n]?:=by unfold rd UN;rfl
@[simp] theorem Y9:UN (some (.val p))=some p:=rfl
@[simp] theorem acd:UN (some .un)=none:=rfl
@[simp] theorem Za:UN (some (.own ps))=none:=rfl
@[simp] theorem Xj:UN none=none:=rfl
@[simp] theorem Oy:af fa fb g ρ=(fa ρ).bind fun x=>(fb ρ).bind fun y=>g x y:=rfl
@[simp] theorem Oz:gA gc gd ρ=(gc ρ).bind fun x=>if x=true then gd ρ else some false:=rfl
@[simp] theorem KI:zc gc gd ρ=(gc ρ).bind fun x=>if x=true then some true else gd ρ:=rfl
@[simp] theorem OA:j3 gc ρ=(gc ρ).map fun x=>!x:=rfl
def toBE:PV->Option Bool
 | .bl b=>some b
 | _=>none
@[simp] theorem toB_ap:toB fa ρ=(fa ρ).bind toBE:=by unfold toB toBE;rfl
@[simp] theorem toBE_bl{b:Bool}:toBE (.bl b)=some b:=rfl
@[simp] theorem OB:zd fa fb ρ=((fa ρ).bind toBE).bind fun x=>if x=true then fb ρ else some (.bl false):=by unfold zd;rw[toB_ap]
@[simp] theorem ace:Wu fa fb ρ=(fa ρ).bind (GF (fb ρ)):=rfl
@[simp] theorem Zb{b:Bool}{w:bU}:GF w (.bl b)=if b=true then some (.bl true)else w:=rfl
@[simp] theorem Xk{w:bU}:GF w (.au [])=w:=rfl
@[simp] theorem UO{w:bU}:GF w (.au (p::ps))=some (.au (p::ps)):=rfl
@[simp] theorem Zc{fr:aF->dA}:SJ n fr ρ=(fr ρ).bind fun e=>if n<ρ.length then some (.nx (ρ.set n e))else none:=rfl
@[simp] theorem Xl{c:az->dA}:zA (aP n c) ts ρ=(ts ρ).bind fun as=>(if as.length=n then c as else none).bind GC:=rfl
@[simp] theorem Xm:GC (.val p)=some (.val p):=rfl
@[simp] theorem Xn:GC (.own ps)=some (.own ps):=rfl
@[simp] theorem Zd:NG fa fb ρ=(fa ρ).bind fun x=>(fb ρ).bind fun y=>GB x y:=rfl
@[simp] theorem Xo:GB (.au ps) (.au qs)=if ps.length+qs.length<=gB then some (.own (ps++qs))else none:=rfl
@[simp] theorem Ze:CH fa ρ=(fa ρ).map .val:=rfl
@[simp] theorem OC{b7:List (Str×Str)}{fns:List (Str×Nat)}{c:fV}:Gz b7 fns c fa ts ρ=(fa ρ).bind (SH b7 fns c ts ρ):=rfl
@[simp] theorem KJ{b7:List (Str×Str)}{fns:List (Str×Nat)}{c:fV}{x:Str}:SH b7 fns c ts ρ (.str x)=(b7.lookup x).bind fun fn=>(fns.lookup fn).bind fun m=>aD (aP m (c fn)) ts ρ:=rfl
@[simp] theorem Xp:zB [.int i]=if 0<=i/\i<1000 then some (.str (toString i))else none:=rfl
@[simp] theorem Zf:Ge fa ρ=((fa ρ).bind toBE).map fun x=>.bl (!x):=by unfold Ge;rw[toB_ap]
@[simp] theorem ES:t6 gc fa fb ρ=(gc ρ).bind fun x=>if x=true then fa ρ else fb ρ:=rfl
def xq(y:PV)(w:bU)(g':PV->PV->bU):PV->bU
 | .bl true=>w.bind fun w=>g' y w
 | .bl false=>some (.bl false)
 | _=>none
@[simp] theorem KN:chain fa fb fc g g' ρ=(fa ρ).bind fun x=>(fb ρ).bind fun y=>(g x y).bind (xq y (fc ρ) g'):=by unfold chain xq;rfl
@[simp] theorem KO{y:PV}{w:bU}:xq y w g' (.bl true)=w.bind fun w=>g' y w:=rfl
@[simp] theorem KP{y:PV}{w:bU}:xq y w g' (.bl false)=some (.bl false):=rfl
@[simp] theorem Zg:ai ρ=some []:=rfl
@[simp] theorem dJ:aa fa ts ρ=(fa ρ).bind fun x=>(ts ρ).map fun xs=>x::xs:=rfl
@[simp] theorem nL:aZ ts ρ=(ts ρ).bind fun ps=>if ps.length<=gB then some (.aB ps)else none:=rfl
@[simp] theorem xt:cw ts ρ=(ts ρ).bind fun ps=>if ps.length<=gB then some ps else none:=rfl
@[simp] theorem OD:bH ts ρ=(ts ρ).map .au:=rfl
@[simp] theorem KQ{c:az->dA}:aD (aP n c) ts ρ=(ts ρ).bind fun as=>(if as.length=n then c as else none).bind qa:=rfl
@[simp] theorem Xq{c:az->dA}:pN (aP n c) ts ρ=(ts ρ).bind fun as=>(if as.length=n then c as else none).bind M5:=rfl
@[simp] theorem Xr:qa (.val p)=some p:=rfl
@[simp] theorem Xs:qa (.own ps)=some (.au ps):=rfl
@[simp] theorem Xu:M5 (.own ps)=some ps:=rfl
@[simp] theorem OF{c:az->bU}:cg c ts ρ=(ts ρ).bind c:=rfl
@[simp] theorem acf{t:Ty}:Qq t fa ρ=(fa ρ).map fun p=>.bl (gC t p):=rfl
@[simp] theorem acg:Nu ρ=some none:=rfl
def KR:PV->Option (Option Int)
 | .int i=>some (some i)
 | _=>none
@[simp] theorem Xv:j0 fa ρ=(fa ρ).bind KR:=by unfold j0 KR;rfl
@[simp] theorem UP:KR (.int i)=some (some i):=rfl
@[simp] theorem Zh{fl fh:FO}:cutE fa fl fh ρ=(fa ρ).bind fun p=>(fl ρ).bind fun l=>(fh ρ).bind fun h=>Nt l h p:=rfl
@[simp] theorem Zi{l u:Option Int}:Nt l u (.au ps)=some (.au (jo ps l u)):=rfl
@[simp] theorem Zj{l u:Option Int}:Nt l u (.aB ps)=some (.aB (jo ps l u)):=rfl
@[simp] theorem Zk:gP fa ρ=(fa (eR none ρ)).bind fun p=>if rW p=true then some p else none:=rfl
@[simp] theorem Zl:iC gc ρ=gc (eR none ρ):=rfl
@[simp] theorem Zm{L:List Nat}:lA L f ρ=f (eR (some L) ρ):=rfl
@[simp] theorem Zn{L:Option (List Nat)}:eR L ρ=fK L 0 ρ:=rfl
@[simp] theorem QJ{L:Option (List Nat)}:fK L n []=[]:=rfl
@[simp] theorem OG{L:Option (List Nat)}{e:Ent}{r:aF}:fK L n (e::r)=dN L n e::fK L (n+1) r:=rfl
@[simp] theorem UQ{L:Option (List Nat)}:dN L n .un=.un:=rfl
@[simp] theorem TC{L:Option (List Nat)}:dN L n (.val p)=.val p:=rfl
@[simp] theorem TF:dN none n (.own ps)=.val (.au ps):=rfl
@[simp] theorem QK{l:List Nat}:dN (some l) n (.own ps)=if n∈l then .val (.au ps)else .own ps:=rfl
@[simp] theorem UR:rW (.int i)=true:=rfl
@[simp] theorem Xw{b:Bool}:rW (.bl b)=true:=rfl
def C4(h:FS):n4->Option n4
 | .nx ρ=>h ρ
 | o=>some o
@[simp] theorem ET:aH f h ρ=(f ρ).bind (C4 h):=by
 unfold aH C4
 congr 1
@[simp] theorem Zo:C4 h (.nx ρ)=h ρ:=rfl
@[simp] theorem Zp{e:Ent}:C4 h (.rt e)=some (.rt e):=rfl
@[simp] theorem Zq:C4 h (.bk ρ)=some (.bk ρ):=rfl
@[simp] theorem Zr:C4 h (.ct ρ)=some (.ct ρ):=rfl
@[simp] theorem Zs{m:Bool}{C:Str}:C4 h (.ex m C ρ)=some (.ex m C ρ):=rfl
@[simp] theorem KS:gk gc f h ρ=(gc ρ).bind fun x=>if x=true then f ρ else h ρ:=rfl
@[simp] theorem OH:bz fa ρ=(fa ρ).map fun p=>.rt (.val p):=rfl
@[simp] theorem Xx:pO fa ρ=(fa ρ).map fun _=>.nx ρ:=rfl
@[simp] theorem OI{t:eX}:bg fa t ρ=(fa ρ).bind fun p=>(t p ρ).map .nx:=rfl
@[simp] theorem Zt:ao n p ρ=if n<ρ.length then some (ρ.set n (.val p))else none:=rfl
@[simp] theorem OJ:iP n ts ρ=(ts ρ).bind fun ps=>if n<ρ.length then some (.nx (ρ.set n (.own ps)))else none:=rfl
@[simp] theorem Zu{t:az->aF->Option aF}:cC n t (.aB ps) ρ=if ps.length=n then t ps ρ else none:=rfl
@[simp] theorem Zv:cB [] ρ=some ρ:=rfl
@[simp] theorem Xy{t:eX}{r:az->aF->Option aF}:ax t r (p::ps) ρ=(t p ρ).bind fun fj=>r ps fj:=rfl
def OK:dA->Option n4
 | some (.own ps)=>some (.rt (.own ps))
 | some (.val p)=>some (.rt (.val p))
 | _=>none
@[simp] theorem OL:ni n ρ=OK ρ[n]?:=by unfold ni OK;rfl
@[simp] theorem Xz:OK (some (.own ps))=some (.rt (.own ps)):=rfl
@[simp] theorem XA:OK (some (.val p))=some (.rt (.val p)):=rfl
def OM(n:Nat)(ts:bX)(g:az->az->Option az)(ρ:aF):dA->Option n4
 | some (.own ps)=>(ts ρ).bind fun as=>(g ps as).map fun qs=>.nx (ρ.set n (.own qs))
 | _=>none
@[simp] theorem qw{g:az->az->Option az}:gp n ts g ρ=OM n ts g ρ ρ[n]?:=by unfold gp OM;rfl
@[simp] theorem nM{g:az->az->Option az}:OM n ts g ρ (some (.own ps))=(ts ρ).bind fun as=>(g ps as).map fun qs=>.nx (ρ.set n (.own qs)):=rfl
@[simp] theorem ON:ml ps [p]=if ps.length<gB then some (ps++[p])else none:=rfl
@[simp] theorem KU:qb ps [.au qs]=if ps.length+qs.length<=gB then some (ps++qs)else none:=rfl
@[simp] theorem XB:qb ps [.aB qs]=if ps.length+qs.length<=gB then some (ps++qs)else none:=rfl
def zY:PV->Option az
 | .aB ps=>some ps
 | .au ps=>some ps
 | _=>none
@[simp] theorem EU:cJ fa ρ=(fa ρ).bind zY:=by unfold cJ zY;rfl
@[simp] theorem US:zY (.aB ps)=some ps:=rfl
@[simp] theorem UT:zY (.au ps)=some ps:=rfl
@[simp] theorem XC:JP (.aB ps)=some ps:=rfl
@[simp] theorem XD:JP (.au ps)=some ps:=rfl
@[simp] theorem OP{fi:bX}{t:eX}:gZ fi t f ρ=(fi ρ).bind fun ps=>fy t f ps ρ:=rfl
@[simp] theorem XE{t:eX}:fy t f [] ρ=some (.nx ρ):=rfl
def G2(k:aF->Option n4):n4->Option n4
 | .nx ρ=>k ρ
 | .ct ρ=>k ρ
 | .bk ρ=>some (.nx ρ)
 | .rt e=>some (.rt e)
 | .ex m C ρ=>some (.ex m C ρ)
theorem ij{t:eX}:fy t f (p::ps) ρ=(t p ρ).bind fun eu=>(f eu).bind (G2 (fy t f ps)):=by
 rw[fy]
 congr 1
@[simp] theorem qx{k:aF->Option n4}:G2 k (.nx ρ)=k ρ:=rfl
@[simp] theorem Zw{k:aF->Option n4}:G2 k (.ct ρ)=k ρ:=rfl
@[simp] theorem Zx{k:aF->Option n4}:G2 k (.bk ρ)=some (.nx ρ):=rfl
@[simp] theorem Zy{k:aF->Option n4}{e:Ent}:G2 k (.rt e)=some (.rt e):=rfl
@[simp] theorem Zz{k:aF->Option n4}{m:Bool}{C:Str}:G2 k (.ex m C ρ)=some (.ex m C ρ):=rfl
@[simp] theorem zZ{L:List (Option Nat)}{fi:bX}{t:eX}:dD L fi t fa ρ=(fi ρ).bind fun ps=>if ps.length<=gB then iB (fun p=>(t p (bj L ρ)).bind fa) ps else none:=rfl
@[simp] theorem KW{L:List (Option Nat)}{fi:bX}{t:eX}:eQ L fi t gc fa ρ=(fi ρ).bind fun ps=>if ps.length<=gB then kA (fun p=>(t p (bj L ρ)).bind fun eu=>(gc eu).bind fun b=>if b=true then(fa eu).map some else some none) ps else none:=rfl
def EV:dA->Ent
 | some (.val p)=>.val p
 | some (.ob o)=>.ob o
 | _=>.un
def KY(ρ:aF):Option Nat->Ent
 | none=>.un
 | some j=>EV ρ[j]?
@[simp] theorem UU{L:List (Option Nat)}:bj L ρ=L.map (KY ρ):=by
 unfold bj
 congr 1
@[simp] theorem TJ:KY ρ none=.un:=rfl
@[simp] theorem TK:KY ρ (some n)=EV ρ[n]?:=rfl
@[simp] theorem UW:EV (some (.val p))=.val p:=rfl
@[simp] theorem XF{o:Ob}:EV (some (.ob o))=.ob o:=rfl
theorem z0{α β:Type}{F:α->Option β}{G:α->β}:∀{l:List α},(∀x∈l,F x=some (G x))->iB F l=some (l.map G)
 | [],_=>rfl
 | x::r,h=>by
  rw[iB,h x b6,z0 fun y hy=>h y (bQ _ hy)]
  rfl
def OQ:az->Option az
 | [.int j]=>if -(2^62)<=j/\j<2^62 then some ((List.range j.toNat).map fun(i:Nat)=>.int (0+i))else none
 | _=>none
@[simp] theorem OR:gG ts ρ=(ts ρ).bind OQ:=by unfold gG OQ;rfl
theorem KZ:OQ [.int j]=if -(2^62)<=j/\j<2^62 then some ((List.range j.toNat).map fun(i:Nat)=>.int (0+i))else none:=rfl
theorem vm:∀ns:List Int,iY (ns.map .int)=some ns
 | []=>rfl
 | n::r=>by simp[iY,vm r]
@[simp] theorem ZA{fl fh:FO}:NO fa fl fh ρ=(fa ρ).bind fun p=>(fl ρ).bind fun l=>(fh ρ).bind fun h=>(SK p).map fun xs=>.own (jo xs l h):=rfl
@[simp] theorem XG:SK (.au ps)=some ps:=rfl
@[simp] theorem iG:bW (.int i) (.int j)=some (.int (i+j)):=rfl
@[simp] theorem XH:bW (.au ps) (.au qs)=sizeOk (ps.length+qs.length) (.au (ps++qs)):=rfl
@[simp] theorem XI:bW (.aB ps) (.aB qs)=sizeOk (ps.length+qs.length) (.aB (ps++qs)):=rfl
theorem oS(h:n<=gB):sizeOk n p=some p:=if_pos h
@[simp] theorem XJ:Ni (.int i) (.int j)=some (.int (i-j)):=rfl
theorem K1:jB (.int i) (.int j)=if(-Nj<i/\i<Nj)\/(-Nj<j/\j<Nj)then some (.int (i*j))else none:=rfl
@[simp] theorem G3:de (.int i) (.int j)=if 0<j/\j<1073741824 then some (.int (i/j))else none:=rfl
@[simp] theorem K2:b8 (.int i) (.int j)=if 0<j then some (.int (i%j))else none:=rfl
@[simp] theorem Aa:zq (.int i) (.int j)=if 0<=j/\j<=1000/\i.natAbs<1000 then some (.int (i^j.toNat))else none:=rfl
@[simp] theorem EW:Er (.int i) (.int j)=some (.bl (decide (i<j))):=rfl
@[simp] theorem ZC:Nq (.int i) (.int j)=some (.bl (decide (i<=j))):=rfl
@[simp] theorem ZD:YV (.int i) (.int j)=some (.bl (decide (j<i))):=rfl
@[simp] theorem EX:Qn (.int i) (.int j)=some (.bl (decide (j<=i))):=rfl
@[simp] theorem hV:dU (.int i) (.int j)=some (.bl (decide (i=j))):=by
 show(if iX (.int i)<=hJ then some (PV.bl (eqT (.int i) (.int j)))else none)=_
 rw[if_pos (by simp[iX,hJ])]
 simp only[eqT,Bool.beq_eq_decide_eq]
@[simp] theorem OS:t8 (.int i) (.int j)=some (.bl (!decide (i=j))):=by
 show(if iX (.int i)<=hJ then some (PV.bl (!eqT (.int i) (.int j)))else none)=_
 rw[if_pos (by simp[iX,hJ])]
 simp only[eqT,Bool.beq_eq_decide_eq]
@[simp] theorem c8{x y:Str}:dU (.str x) (.str y)=some (.bl (x==y)):=by
 show(if iX (.str x)<=hJ then some (PV.bl (eqT (.str x) (.str y)))else none)=_
 rw[if_pos (by simp[iX,hJ])]
 simp only[eqT]
@[simp] theorem qy{x y:Str}:t8 (.str x) (.str y)=some (.bl (!(x==y))):=by
 show(if iX (.str x)<=hJ then some (PV.bl (!eqT (.str x) (.str y)))else none)=_
 rw[if_pos (by simp[iX,hJ])]
 simp only[eqT]
@[simp] theorem ach{x y:Bool}:dU (.bl x) (.bl y)=some (.bl (x==y)):=by
 show(if iX (.bl x)<=hJ then some (PV.bl (eqT (.bl x) (.bl y)))else none)=_
 rw[if_pos (by simp[iX,hJ])]
 simp only[eqT]
@[simp] theorem aci{x y:Bool}:t8 (.bl x) (.bl y)=some (.bl (!(x==y))):=by
 show(if iX (.bl x)<=hJ then some (PV.bl (!eqT (.bl x) (.bl y)))else none)=_
 rw[if_pos (by simp[iX,hJ])]
 simp only[eqT]
theorem C5(h:iX p<=hJ):dU p q=some (.bl (eqT p q)):=if_pos h
theorem TL(h:iX p<=hJ):t8 p q=some (.bl (!eqT p q)):=if_pos h
@[simp] theorem ZE:aG (.aB ps) (.int i)=atI ps i:=rfl
@[simp] theorem ZF:aG (.au ps) (.int i)=atI ps i:=rfl
@[simp] theorem XM:cX [.aB ps]=some (.int ps.length):=rfl
@[simp] theorem Ab:cX [.au ps]=some (.int ps.length):=rfl
@[simp] theorem XN:lD [.au ps]=some (.aB ps):=rfl
@[simp] theorem XO:lD [.aB ps]=some (.aB ps):=rfl
@[simp] theorem XQ:JN [.au ps]=some (.au ps):=rfl
@[simp] theorem XR:JN [.aB ps]=some (.au ps):=rfl
@[simp] theorem XS:wM [.int i]=some (.int i):=rfl
@[simp] theorem ZG{b:Bool}:wM [.bl b]=some (.int (if b then 1 else 0)):=rfl
@[simp] theorem K3{α:Type}{x:α}{r:List α}:atI (x::r) 0=some x:=by
 unfold atI Ji;rw[if_pos (by decide),if_pos (by simp <;> lia)]
 rfl
@[simp] theorem adV{α:Type}{x y:α}{r:List α}:atI (x::y::r) 1=some y:=by
 unfold atI Ji;rw[if_pos (by decide),if_pos (by simp <;> lia)]
 rfl
@[simp] theorem adW{α:Type}{x y z:α}{r:List α}:atI (x::y::z::r) 2=some z:=by
 unfold atI Ji;rw[if_pos (by decide),if_pos (by simp <;> lia)]
 rfl
@[simp] theorem adX{α:Type}{x y z w:α}{r:List α}:atI (x::y::z::w::r) 3=some w:=by
 unfold atI Ji;rw[if_pos (by decide),if_pos (by simp <;> lia)]
 rfl
def fY:Option n4->dA
 | some (.rt (.val p))=>some (.val p)
 | some (.rt (.own ps))=>some (.own ps)
 | some (.nx _)=>some (.val .cG)
 | _=>none
@[simp] theorem aU:sj f n ps=fY (f (ps.map .val++List.replicate (n-ps.length) .un)):=by unfold sj fY;rfl
@[simp] theorem ZH:fY (some (.rt (.val p)))=some (.val p):=rfl
@[simp] theorem ZI:fY (some (.rt (.own ps)))=some (.own ps):=rfl
@[simp] theorem ZJ:fY (some (.nx ρ))=some (.val .cG):=rfl
@[simp] theorem acj:gC .tuple (.aB ps)=true:=rfl
@[simp] theorem ack:gC .tuple (.au ps)=false:=rfl
@[simp] theorem acm:gC .tuple (.int i)=false:=rfl
@[simp] theorem acn{x:Str}:gC .tuple (.str x)=false:=rfl
@[simp] theorem aco{b:Bool}:gC .tuple (.bl b)=false:=rfl
@[simp] theorem acp:gC .tuple .cG=false:=rfl
@[simp] theorem acq:gC .int (.int i)=true:=rfl
@[simp] theorem acr:gC .bool (.int i)=false:=rfl
@[simp] theorem acs{b:Bool}:gC .bool (.bl b)=true:=rfl
@[simp] theorem ZK:gC .list (.au ps)=true:=rfl
@[simp] theorem ZL{x:Str}:gC .str (.str x)=true:=rfl
@[simp] theorem ZM:gC .str (.aB ps)=false:=rfl
@[simp] theorem ZN:gC .str (.int i)=false:=rfl
@[simp] theorem ZO{b:Bool}:gC .int (.bl b)=true:=rfl
@[simp] theorem ZP{x:Str}:gC .int (.str x)=false:=rfl
@[simp] theorem ZQ:gC .int (.aB ps)=false:=rfl
@[simp] theorem ZR:gC .int (.au ps)=false:=rfl
@[simp] theorem ZS:gC .int .cG=false:=rfl
@[simp] theorem ZT:gC .str (.au ps)=false:=rfl
@[simp] theorem ZU:gC .str .cG=false:=rfl
@[simp] theorem ZV{b:Bool}:gC .str (.bl b)=false:=rfl
@[simp] theorem ZW{x:Str}:gC .bool (.str x)=false:=rfl
@[simp] theorem ZX:gC .bool (.aB ps)=false:=rfl
end
theorem G4{j:Int}(h:-1000<=j/\j<=100000):OQ [.int j]=some ((List.range j.toNat).map fun(i:Nat)=>.int (0+i)):=by
 rw[KZ];have h1:(-(2^62):Int) <= -1000:=by decide
 have h2:(100000:Int)<2^62:=by decide
 exact if_pos ⟨Int.le_trans h1 h.1,Int.lt_of_le_of_lt h.2 h2⟩
@[simp] theorem adY:0<=gB:=by decide
@[simp] theorem QL:1<=gB:=by decide
@[simp] theorem QM:2<=gB:=by decide
@[simp] theorem XT:3<=gB:=by decide
@[simp high] theorem adZ {ρ:aF}:aZ ai ρ=some (.aB []):=rfl
@[simp high] theorem ad0 {fa:FE} {ρ:aF}:aZ (aa fa ai) ρ=(fa ρ).map fun a=>.aB [a]:=by
 rw[nL,dJ];cases fa ρ with
 | none=>rfl
 | some a=>exact if_pos (e:=none) QL
@[simp high] theorem ad1 {fa fb:FE} {ρ:aF}:aZ (aa fa (aa fb ai)) ρ=(fa ρ).bind fun a=>(fb ρ).map fun b=>.aB [a,b]:=by
 rw[nL,dJ,dJ];cases fa ρ with
 | none=>rfl
 | some a=>cases fb ρ with
  | none=>rfl
  | some b=>exact if_pos (e:=none) QM
@[simp high] theorem ad2 {fa fb fc:FE} {ρ:aF}:aZ (aa fa (aa fb (aa fc ai))) ρ=(fa ρ).bind fun a=>(fb ρ).bind fun b=>(fc ρ).map fun c=>.aB [a,b,c]:=by
 rw[nL,dJ,dJ,dJ];cases fa ρ with
 | none=>rfl
 | some a=>cases fb ρ with
  | none=>rfl
  | some b=>cases fc ρ with
   | none=>rfl
   | some c=>exact if_pos (e:=none) XT
@[simp high] theorem ad3 {ρ:aF}:cw ai ρ=some []:=rfl
@[simp high] theorem ad4 {fa:FE} {ρ:aF}:cw (aa fa ai) ρ=(fa ρ).map fun a=>[a]:=by
 rw[xt,dJ];cases fa ρ with
 | none=>rfl
 | some a=>exact if_pos (e:=none) QL
@[simp high] theorem ad5 {fa fb:FE} {ρ:aF}:cw (aa fa (aa fb ai)) ρ=(fa ρ).bind fun a=>(fb ρ).map fun b=>[a,b]:=by
 rw[xt,dJ,dJ];cases fa ρ with
 | none=>rfl
 | some a=>cases fb ρ with
  | none=>rfl
  | some b=>exact if_pos (e:=none) QM
theorem lU{n:Nat}(h:n<=100000):n<=gB:=h
theorem K4{n:Nat}(h:n<100000):n<gB:=h
theorem kO{i j:Int}(h:-18446744073709551616<j/\j<18446744073709551616):jB (.int i) (.int j)=some (.int (i*j)):=by
 rw[K1];exact if_pos (.inr h)
theorem hZ{ts:bX}{ρ:aF}{j:Int}(h:ts ρ=some [.int j])(hb:-1000<=j/\j<=100000):gG ts ρ=some ((List.range j.toNat).map fun(i:Nat)=>.int (0+i)):=by
 rw[OR,h,aV,G4 hb]
theorem fO{f g:FS}{ρ fj:aF}(h:f ρ=some (.nx fj)):aH f g ρ=g fj:=by
 rw[ET,h];rfl
@[simp] theorem XU:4<=gB:=by decide
@[simp high] theorem ad6 {fa fb fc fd:FE} {ρ:aF}:aZ (aa fa (aa fb (aa fc (aa fd ai)))) ρ=(fa ρ).bind fun a=>(fb ρ).bind fun b=>(fc ρ).bind fun c=>(fd ρ).map fun d=>.aB [a,b,c,d]:=by
 rw[nL,dJ,dJ,dJ,dJ];cases fa ρ with
 | none=>rfl
 | some a=>cases fb ρ with
  | none=>rfl
  | some b=>cases fc ρ with
   | none=>rfl
   | some c=>cases fd ρ with
    | none=>rfl
    | some d=>exact if_pos (e:=none) XU
theorem b2{fa fb:FE}{g:PV->PV->bU}{ρ:aF}{x y:PV}{z:bU}(ha:fa ρ=some x)(hb:fb ρ=some y)(h:g x y=z):af fa fb g ρ=z:=by
 rw[Oy,ha,hb];exact h
theorem cA{fa:FE}{ts:bX}{ρ:aF}{x:PV}{xs:az}(ha:fa ρ=some x)(hb:ts ρ=some xs):aa fa ts ρ=some (x::xs):=by
 rw[dJ,ha,hb];rfl
theorem dO{c:az->dA}{ts:bX}{ρ:aF}{as:az}{n:Nat}{e:Ent}{p:PV}(ha:ts ρ=some as)(hn:as.length=n)(hc:c as=some e)(he:qa e=some p):aD (aP n c) ts ρ=some p:=by
 rw[KQ,ha];show(if as.length=n then c as else none).bind qa=_
 rw[if_pos hn,hc];exact he
theorem bV{g:az->bU}{ts:bX}{ρ:aF}{as:az}{z:bU}(ha:ts ρ=some as)(h:g as=z):cg g ts ρ=z:=by
 rw[OF,ha];exact h
theorem fS{fi:bX}{set:eX}{f:FS}{ρ:aF}{ps:az}{z:Option n4}(h:fi ρ=some ps)(hf:fy set f ps ρ=z):gZ fi set f ρ=z:=by
 rw[OP,h];exact hf
theorem tU{ts:bX}{ρ:aF}{ps:az}(h:ts ρ=some ps)(hl:ps.length<=100000):aZ ts ρ=some (.aB ps):=by
 rw[nL,h];exact if_pos (lU hl)
theorem lS{ts:bX}{ρ:aF}{ps:az}(h:ts ρ=some ps)(hl:ps.length<=100000):cw ts ρ=some ps:=by
 rw[xt,h];exact if_pos (lU hl)
theorem fF{ts:bX}{ρ:aF}{ps:az}(h:ts ρ=some ps):bH ts ρ=some (.au ps):=by
 rw[OD,h];rfl
theorem aS{fa:FE}{g:eX}{ρ fj:aF}{p:PV}(ha:fa ρ=some p)(h:g p ρ=some fj):bg fa g ρ=some (.nx fj):=by
 rw[OI,ha];show(g p ρ).map n4.nx=_;rw[h];rfl
theorem sO{ts:bX}{n:Nat}{ρ:aF}{ps:az}(ha:ts ρ=some ps)(h:n<ρ.length):iP n ts ρ=some (.nx (ρ.set n (.own ps))):=by
 rw[OJ,ha];exact if_pos h
theorem iT{gc:eP}{f h:FS}{ρ:aF}{z:Option n4}(hc:gc ρ=some true)(hf:f ρ=z):gk gc f h ρ=z:=by
 rw[KS,hc];exact hf
theorem iF{gc:eP}{f h:FS}{ρ:aF}{z:Option n4}(hc:gc ρ=some false)(hf:h ρ=z):gk gc f h ρ=z:=by
 rw[KS,hc];exact hf
theorem rS{fa:FE}{ρ:aF}{p:PV}(h:fa ρ=some p):bz fa ρ=some (.rt (.val p)):=by
 rw[OH,h];rfl
theorem jq{f g:FS}{ρ:aF}{e:Ent}(h:f ρ=some (.rt e)):aH f g ρ=some (.rt e):=by
 rw[ET,h];rfl
theorem aL{ps qs:az}(h:ps.length+qs.length<=100000):bW (.au ps) (.au qs)=some (.au (ps++qs)):=oS (lU h)
theorem aT{ps qs:az}(h:ps.length+qs.length<=100000):bW (.aB ps) (.aB qs)=some (.aB (ps++qs)):=oS (lU h)
theorem bT{fa:FE}{ρ:aF}{b:Bool}(h:fa ρ=some (.bl b)):toB fa ρ=some b:=by
 rw[toB_ap,h];rfl
theorem dh{x:Option n4}{p:PV}(h:x=some (.rt (.val p))):fY x=some (.val p):=by rw[h];rfl
theorem Ac{x:Option n4}{ps:az}(h:x=some (.rt (.own ps))):fY x=some (.own ps):=by rw[h];rfl
theorem Ad{n:Nat}{ρ:aF}{ps:az}(h:ρ[n]?=some (.own ps)):ni n ρ=some (.rt (.own ps)):=by rw[OL,h];rfl
theorem sq{f g:FS}{ρ fj:aF}{z:Option n4}(h:f ρ=some (.nx fj))(hg:g fj=z):aH f g ρ=z:=(fO h).trans hg
theorem iV{gc:eP}{fa fb:FE}{ρ:aF}{b:Bool}{z:bU}(hc:gc ρ=some b)(h:(if b=true then fa ρ else fb ρ)=z):t6 gc fa fb ρ=z:=by
 rw[ES,hc];exact h
theorem nB{gc:eP}{ρ:aF}{b:Bool}(h:gc ρ=some b):j3 gc ρ=some (!b):=by
 rw[OA,h];rfl
theorem mA{n:Nat}{fa:FE}{ρ:aF}{ps:az}{p:PV}(h0:ρ[n]?=some (.own ps))(h:fa ρ=some p)(hl:ps.length<100000):gp n (aa fa ai) ml ρ=some (.nx (ρ.set n (.own (ps++[p])))):=by
 rw[qw,h0,nM,cA h rfl,aV,ON,if_pos (K4 hl)];rfl
theorem mX{n:Nat}{fa:FE}{ρ:aF}{ps qs:az}(h0:ρ[n]?=some (.own ps))(h:fa ρ=some (.au qs))(hl:ps.length+qs.length<=100000):gp n (aa fa ai) qb ρ=some (.nx (ρ.set n (.own (ps++qs)))):=by
 rw[qw,h0,nM,cA h rfl,aV,KU,if_pos (lU hl)];rfl
theorem cV{L:List (Option Nat)}{fi:bX}{t:eX}{fa:FE}{ρ:aF}{ps qs:az}(h:fi ρ=some ps)(hl:ps.length<=100000) (hm:iB (fun p=>(t p (bj L ρ)).bind fa) ps=some qs):dD L fi t fa ρ=some qs:=by
 rw[zZ,h,aV,if_pos (lU hl)];exact hm
theorem cT{L:List (Option Nat)}{fi:bX}{t:eX}{gc:eP}{fa:FE}{ρ:aF}{ps qs:az}(h:fi ρ=some ps)(hl:ps.length<=100000) (hm:kA (fun p=>(t p (bj L ρ)).bind fun eu=>(gc eu).bind fun b=>if b=true then(fa eu).map some else some none) ps=some qs):eQ L fi t gc fa ρ=some qs:=by
 rw[KW,h,aV,if_pos (lU hl)];exact hm
theorem sV{fa:FE}{ρ:aF}{p:PV}{ps:az}(h:fa ρ=some p)(hp:zY p=some ps):cJ fa ρ=some ps:=by
 rw[EU,h];exact hp
theorem fC{t:eX}{f:FS}{ρ eu tN:aF}{p:PV}{ps:az}{z:Option n4}(h:t p ρ=some eu)(h2:f eu=some (.nx tN))(h3:fy t f ps tN=z):fy t f (p::ps) ρ=z:=by
 rw[ij,h,aV,h2,aV,qx];exact h3
theorem fR{t:eX}{f:FS}{ρ eu:aF}{p:PV}{ps:az}{e:Ent}(h:t p ρ=some eu)(h2:f eu=some (.rt e)):fy t f (p::ps) ρ=some (.rt e):=by
 rw[ij,h,aV,h2];rfl
end L2.PL
namespace mH
open PySem L2 L2.PL
abbrev cK(p:PV):FE:=fun _=>some p
inductive Sh where
 | num | own | c7 (n:Int) | bL (ps:List Sh)
mutual
def enc:Sh->PV
 | .num=>.aB [.str "num"]
 | .own=>.aB [.str "own"]
 | .c7 n=>.aB [.str "strip",.int n]
 | .bL ps=>.aB [.str "rec",.aB (cW ps)]
def cW:List Sh->az
 | []=>[]
 | s::r=>enc s::cW r
end
mutual
def lv:Sh->List Sh
 | .num=>[.num]
 | .own=>[.own]
 | .c7 n=>[.c7 n]
 | .bL ps=>ik ps
def ik:List Sh->List Sh
 | []=>[]
 | s::r=>lv s++ik r
end
mutual
def dp:Sh->Nat
 | .bL ps=>sv ps+1
 | _=>0
def sv:List Sh->Nat
 | []=>0
 | s::r=>max (dp s) (sv r)
end
def iH:Sh->Bool
 | .bL _=>false
 | _=>true
theorem gU:∀l:List Sh,cW l=l.map enc
 | []=>rfl
 | s::r=>by simp[cW,gU r]
theorem Ae(a b:List Sh):cW (a++b)=cW a++cW b:=by simp[gU]
theorem jG(a:List Sh):(cW a).length=a.length:=by simp[gU]
theorem sE:∀a b:List Sh,ik (a++b)=ik a++ik b
 | [],b=>by simp[ik]
 | s::r,b=>by simp[ik,sE r b]
mutual
theorem xu:∀s:Sh,∀x∈lv s,iH x=true
 | .num,x,h=>by simp[lv]at h;subst h;rfl
 | .own,x,h=>by simp[lv]at h;subst h;rfl
 | .c7 n,x,h=>by simp[lv]at h;subst h;rfl
 | .bL ps,x,h=>Af ps x (by simpa[lv]using h)
theorem Af:∀ps:List Sh,∀x∈ik ps,iH x=true
 | [],x,h=>by simp[ik]at h
 | s::r,x,h=>by
  simp only[ik,cR]at h;rcases h with h | h
  ·exact xu s x h
  ·exact Af r x h
end
@[simp] theorem s_1:((Str.ofString "num")==(Str.ofString "rec"))=false:=by decide +kernel
@[simp] theorem s_2:((Str.ofString "own")==(Str.ofString "rec"))=false:=by decide +kernel
@[simp] theorem s_3:((Str.ofString "strip")==(Str.ofString "rec"))=false:=by decide +kernel
@[simp] theorem s_4:((Str.ofString "num")==(Str.ofString "strip"))=false:=by decide +kernel
@[simp] theorem s_5:((Str.ofString "own")==(Str.ofString "strip"))=false:=by decide +kernel
@[simp] theorem s_6:((Str.ofString "rec")==(Str.ofString "strip"))=false:=by decide +kernel
theorem sG:∀{l:az} {n:Nat},(∀x∈l,iX x<=n)->eA l<=n
 | [],_,_=>by simp[eA]
 | x::r,n,h=>by
  simp only[eA];have h1:=h x b6;have h2:=sG fun y hy=>h y (bQ _ hy)
  lia
theorem K5{s:Sh}(h:iH s=true):iX (enc s)<=1:=by
 cases s with
 | bL _=>cases h
 | _=>simp[enc,iX,eA]
theorem sJ{l:List Sh}(h:∀x∈l,iH x=true):eA (cW l)<=1:=by
 rw[gU];refine sG fun x hx=>?_
 obtain⟨s,hs,rfl⟩:=bG.mp hx;exact K5 (h s hs)
def xw(c:fV):FS:=gp 1 (aa (aD (aP 1 (c "leaves")) (aa (rd 2) ai)) ai) qb
theorem C6(c:fV)(ρ:aF):xw c ρ=gp 1 (aa (aD (aP 1 (c "leaves")) (aa (rd 2) ai)) ai) qb ρ:=rfl
def nN(c:fV):FS :=
 (aH (gk (iC (toB (af (af (rd 0) (cK (.int 0)) aG) (cK (.str "rec")) t8)))
  (bz (aZ (aa (rd 0) ai)))
  (fun ρ=>some (.nx ρ)))
  (aH (iP 1 (cw ai))
  (aH (gZ (cJ (af (rd 0) (cK (.int 1)) aG)) (ao 2) (xw c))
  (lA [1] (bz (cg lD (aa (rd 1) ai)))))))
theorem pW{c:fV}(X:PV):∀(ps:List Sh) (acc:List Sh) (o:Ent),(∀s∈ps,c "leaves" [enc s]=some (.val (.aB (cW (lv s)))))->acc.length+(ik ps).length<=100000 ->
  ∃o',fy (ao 2) (xw c) (cW ps) [.val X,.own (cW acc),o]=some (.nx [.val X,.own (cW (acc++ik ps)),o'])
 | [],acc,o,_,_=>⟨o,by simp[cW,ik]⟩
 | s::r,acc,o,h,hz=>by
  have h1:=h s b6;simp only[ik,bK]at hz;obtain⟨o',ih⟩:=pW X r (acc++lv s) (.val (enc s)) (fun s hs=>h s (bQ _ hs)) (by rw[bK];lia)
  refine⟨o',?_⟩;simp only[cW,ij];simp[C6,h1,jG];rw[if_pos (lU (by lia))]
  rw[<-Ae];simp only[ou,aV,qx];rw[ih];simp[ik]
theorem kP{c:fV}{s:Sh}(h:iH s=true):sj (nN c) 3 [enc s]=some (.val (.aB [enc s])):=by
 cases s with
 | bL _=>cases h
 | _=>simp[nN,enc]
theorem C7{c:fV}{ps:List Sh} (h:∀s∈ps,c "leaves" [enc s]=some (.val (.aB (cW (lv s))))) (hz:(ik ps).length<=100000):sj (nN c) 3 [enc (.bL ps)]=some (.val (.aB (cW (ik ps)))):=by
 obtain⟨o',q⟩:=pW (enc (.bL ps)) ps [] .un h (by simpa using hz)
 simp[nN];simp only[enc]at q ⊢;simp at q ⊢;simp[cW]at q;rw[q];simp
structure fE (R:Nat->fV):Prop where
 run:∀k ps,R (k+1) "leaves" ps=sj (nN (R k)) 3 ps
mutual
theorem fE.all{R:Nat->fV}(A:fE R):∀(s:Sh) (k:Nat),dp s<=k->(lv s).length<=100000->R (k+1) "leaves" [enc s]=some (.val (.aB (cW (lv s))))
 | .num,k,_,_=>by rw[A.run,kP rfl];simp[lv,cW]
 | .own,k,_,_=>by rw[A.run,kP rfl];simp[lv,cW]
 | .c7 n,k,_,_=>by rw[A.run,kP rfl];simp[lv,cW]
 | .bL ps,0,hd,_=>by simp[dp]at hd
 | .bL ps,k+1,hd,hz=>by
  simp only[dp]at hd;simp only[lv]at hz;rw[A.run,C7 (A.each ps k (by lia) hz) hz]
  simp[lv]
theorem fE.each{R:Nat->fV}(A:fE R):∀(ps:List Sh) (k:Nat),sv ps<=k->(ik ps).length<=100000->∀s∈ps,R (k+1) "leaves" [enc s]=some (.val (.aB (cW (lv s))))
 | [],_,_,_,s,hs=>by cases hs
 | p::r,k,hd,hz,s,hs=>by
  simp only[sv]at hd;simp only[ik,bK]at hz;rcases bc.mp hs with e | e
  ·rw[e];exact fE.all A p k (by lia) (by lia)
  ·exact fE.each A r k (by lia) (by lia) s e
end
theorem K6(ps:az)(q:Nat):jo ps (some (q:Int)) none=ps.drop q:=by
 unfold jo;rw[HT.qm,HT.yV];by_cases h:q<=ps.length
 ·rw[BQ h,oh (by rw[qM];lia)]
 ·rw[BI (by lia),BH,List.take_nil,Bu (by lia)]
theorem TM(ps:az)(q:Nat):jo ps none (some (q:Int))=ps.take q:=by
 unfold jo;rw[HT.qm,HT.yV,List.drop_zero,Nat.sub_zero];by_cases h:q<=ps.length
 ·rw[BQ h]
 ·rw[BI (by lia),oh (by lia),oh (by lia)]
abbrev Rw:=List Int×Int×Int×Sh
def lV(k a:Int)(r:Rw):Rw:=(k::r.1,a+r.2.1,r.2.2)
mutual
def tab:Sh->List Rw
 | .num=>[([],0,1,.num)]
 | .own=>[([],0,1,.own)]
 | .c7 n=>[([],0,1,.c7 n)]
 | .bL ps=>([],0,((ik ps).length:Int),.bL ps)::tabs 0 0 ps
def tabs:Nat->Int->List Sh->List Rw
 | _,_,[]=>[]
 | k,a,s::r=>(tab s).map (lV k a)++tabs (k+1) (a+((lv s).length:Int)) r
end
def sz(s:Sh):Int:=((lv s).length:Int)
def jr:List Sh->Nat
 | []=>0
 | s::l=>(tab s).length+jr l
theorem K8{s:Sh}(h:iH s=true):tab s=[([],0,1,s)]:=by
 cases s with
 | bL _=>cases h
 | _=>rfl
theorem Ag(s:Sh):∃R,tab s=(([],0,sz s,s):Rw)::R:=by
 cases s with
 | bL ps=>exact⟨tabs 0 0 ps,by simp only[tab,sz,lv]⟩
 | num=>exact⟨[],by simp[tab,sz,lv]⟩
 | own=>exact⟨[],by simp[tab,sz,lv]⟩
 | c7 n=>exact⟨[],by simp[tab,sz,lv]⟩
theorem iI:∀(l:List Sh) (k:Nat) (a:Int),(tabs k a l).length=jr l
 | [],_,_=>rfl
 | s::l,k,a=>by simp[tabs,jr,iI l]
theorem xx(s:Sh):1<=(tab s).length:=by
 obtain⟨R,e⟩:=Ag s;rw[e];simp
theorem Ah:∀l:List Sh,l.length<=jr l
 | []=>bh _
 | s::l=>by
  have:=xx s;have:=Ah l;simp only[jr,bq]
  lia
mutual
theorem EY:∀s:Sh,(lv s).length<=(tab s).length
 | .num=>by simp[lv,tab]
 | .own=>by simp[lv,tab]
 | .c7 n=>by simp[lv,tab]
 | .bL ps=>by
  have:=C8 ps;simp only[lv,tab,bq,iI]
  lia
theorem C8:∀l:List Sh,(ik l).length<=jr l
 | []=>by simp[ik]
 | s::l=>by
  have:=EY s;have:=C8 l;simp only[ik,jr,bK]
  lia
end
mutual
theorem QN:∀s:Sh,dp s<=(tab s).length
 | .num=>by simp[dp]
 | .own=>by simp[dp]
 | .c7 n=>by simp[dp]
 | .bL ps=>by
  have:=K9 ps;simp only[dp,tab,bq,iI]
  lia
theorem K9:∀l:List Sh,sv l<=jr l
 | []=>by simp[sv]
 | s::l=>by
  have:=QN s;have:=K9 l;simp only[sv,jr]
  lia
end
mutual
theorem EZ:∀(s:Sh),∀r∈tab s,r.1.length<=dp s
 | .num,r,h=>by simp[tab]at h;subst h;simp
 | .own,r,h=>by simp[tab]at h;subst h;simp
 | .c7 n,r,h=>by simp[tab]at h;subst h;simp
 | .bL ps,r,h=>by
  simp only[tab,bc]at h;rcases h with rfl | h
  ·simp
  ·simp only[dp];exact Ai ps 0 0 r h
theorem Ai:∀(l:List Sh) (k:Nat) (a:Int),∀r∈tabs k a l,r.1.length<=sv l+1
 | [],_,_,r,h=>by simp[tabs]at h
 | s::l,k,a,r,h=>by
  simp only[tabs,cR,bG]at h;simp only[sv];rcases h with⟨r0,h0,rfl⟩ | h
  ·have:=EZ s r0 h0;simp only[lV,bq]
   lia
  ·have:=Ai l _ _ r h
   lia
end
theorem Aj:∀(l:List Sh) (s:Sh),s∈l->(tab s).length<=jr l
 | s::l,t,h=>by
  simp only[jr];rcases bc.mp h with rfl | h
  ·lia
  ·have:=Aj l t h
   lia
theorem G5{ps:List Sh}{s:Sh}(h:s∈ps):(tab s).length<=(tab (.bL ps)).length:=by
 have:=Aj ps s h;simp only[tab,bq,iI]
 lia
def Bl:Sh->Int->Option (Sh×Int)
 | .bL ps,k=>if 0<=k then(ps[k.toNat]?).map fun s=>(s,((ik (ps.take k.toNat)).length:Int))else none
 | _,_=>none
def walk:Sh->Int->List Int->Option (Sh×Int)
 | s,a,[]=>some (s,a)
 | s,a,k::p=>(Bl s k).bind fun x=>walk x.1 (a+x.2) p
mutual
theorem Ak:∀(s:Sh),∀r∈tab s,∀b,walk s b r.1=some (r.2.2.2,b+r.2.1)
 | .num,r,h,b=>by simp[tab]at h;subst h;simp[walk]
 | .own,r,h,b=>by simp[tab]at h;subst h;simp[walk]
 | .c7 n,r,h,b=>by simp[tab]at h;subst h;simp[walk]
 | .bL ps,r,h,b=>by
  simp only[tab,bc]at h;rcases h with rfl | h
  ·simp[walk]
  ·exact vn ps [] r (by simpa[ik]using h) b
theorem vn:∀(Bm pre:List Sh),∀r∈tabs pre.length ((ik pre).length:Int) Bm,∀b,walk (.bL (pre++Bm)) b r.1=some (r.2.2.2,b+r.2.1)
 | [],pre,r,h,b=>by simp[tabs]at h
 | s::Bm,pre,r,h,b=>by
  simp only[tabs,cR,bG]at h;rcases h with⟨r0,h0,rfl⟩ | h
  ·have:=Ak s r0 h0 (b+((ik pre).length:Int));simp only[lV,walk,Bl];simp[this]
   lia
  ·have:=vn Bm (pre++[s]) r (by simpa[sE,ik]using h) b
   simpa using this
end
def cp(n:Int):Nat:=97+(n%26).toNat
def lt(n:Int):Str:=⟨#[cp n]⟩
def gu(l:List Nat):Str:=⟨l.toArray⟩
theorem vp{a b:List Nat}(h:gu a=gu b):a=b:=by
 have:a.toArray=b.toArray:=dy Str.cps h;simpa using this
theorem C9(a b:List Nat):gu a++gu b=gu (a++b):=by
 show Str.append _ _=_;unfold Str.append gu;simp
theorem XW(n:Int):lt n=gu [cp n]:=rfl
theorem E1:(Str.ofString "")=gu []:=by decide +kernel
theorem E2(l:List Nat):(gu l).length=l.length:=by
 unfold gu Str.length;simp
theorem Dc:∀m:Fin 26,atI (Str.ofString "abcdefghijklmnopqrstuvwxyz").cps.toList ((m:Nat):Int)=some (97+(m:Nat)):=by decide +kernel
theorem G6(n:Int):aG (.str "abcdefghijklmnopqrstuvwxyz") (.int (n%26))=some (.str (lt n)):=by
 have h0:=ki n (show(26:Int)≠0 by decide)
 have h1:=qJ n (show(0:Int)<26 by decide)
 obtain⟨m,hm⟩:=Int.eq_ofNat_of_zero_le h0;have:=Dc ⟨m,by lia⟩
 show(if(Str.ofString "abcdefghijklmnopqrstuvwxyz").length<=gB then(atI (Str.ofString "abcdefghijklmnopqrstuvwxyz").cps.toList (n%26)).map fun c=>PV.str ⟨#[c]⟩else none)=_
 rw[if_pos (by decide +kernel),hm,this]
 show some (PV.str ⟨#[97+m]⟩)=some (PV.str ⟨#[cp n]⟩);unfold cp;rw[hm,fP]
theorem TN{a b:Int}(h:cp a=cp b):a%26=b%26:=by
 unfold cp at h;have h0:=ki a (show(26:Int)≠0 by decide)
 have h1:=ki b (show(26:Int)≠0 by decide)
 lia
end mH
namespace Al
open PySem L2 L2.PL
theorem oT{α:Type} [DecidableEq α]:∀(l U:List α),l.Nodup->(∀x∈l,x∈U)->l.length<=U.length
 | [],_,_,_=>gn _
 | x::l,U,hn,hs=>by
  rw[fu]at hn;have hx:x∈U:=hs x b6;have h1:=oT l (U.erase x) hn.2 fun y hy=>(List.mem_erase_of_ne (fun z=>hn.1 (by rw[<-z];exact hy))).mpr (hs y (bQ _ hy))
  have h2:=List.length_erase_of_mem hx;have h3:0<U.length:=List.length_pos_of_mem hx;rw[bq]
  lia
theorem Am{ks:List (List cy)}{k:List cy}:J8 ks k=true↔k∈ks:=by
 unfold J8;simp only[List.any_eq_true,gD];exact⟨fun⟨x,h,e⟩=>e▸h,fun h=>⟨k,h,rfl⟩⟩
theorem gL(c:Int):∀(fs:List (List cy)) (told:gK),∃more:gK,df told c fs=told++more/\(∀t∈more,t.2=c/\t.1∈fs)
 | [],told=>⟨[],by rw[gX];rfl,fun _ z=>nomatch z⟩
 | f::fs,told=>by
  obtain⟨more,h1,h2⟩:=gL c fs (fm told c f);show ∃m,df (fm told c f) c fs=told++m/\_
  by_cases h:J8 (told.map (·.1)) f=true
  ·have e:fm told c f=told:=by unfold fm;rw[if_pos h]
   rw[e]at h1 ⊢;exact⟨more,h1,fun t ht=>⟨(h2 t ht).1,bQ _ (h2 t ht).2⟩⟩
  ·have e:fm told c f=told++[(f,c)]:=by unfold fm;rw[if_neg h]
   rw[e]at h1 ⊢;refine⟨(f,c)::more,by rw[h1];simp,fun t ht=>?_⟩
   rcases bc.mp ht with rfl | ht
   ·exact⟨rfl,b6⟩
   ·exact⟨(h2 t ht).1,bQ _ (h2 t ht).2⟩
theorem sL(c:Int):∀(fs:List (List cy)) (told:gK),(told.map (·.1)).Nodup->((df told c fs).map (·.1)).Nodup
 | [],_,h=>h
 | f::fs,told,h=>by
  refine sL c fs (fm told c f) ?_;unfold fm;split
  ·exact h
  ·rename_i hm;rw[cY];refine List.nodup_append.mpr ⟨h,by simp,fun a ha b hb z=>?_⟩
   simp at hb;subst z;rw[hb]at ha;exact hm (Am.mpr ha)
theorem oU(c:Int):∀(fs:List (List cy)) (told:gK),∀f∈fs,f∈(df told c fs).map (·.1)
 | [],_,_,h=>nomatch h
 | g::fs,told,f,h=>by
  rcases bc.mp h with rfl | h
  ·obtain⟨more,h1,_⟩:=gL c fs (fm told c f);show f∈(df (fm told c f) c fs).map (·.1);rw[h1,cY];refine ir _ ?_;unfold fm;split
   ·rename_i hm;exact Am.mp hm
   ·rw[cY];exact dC _ (by simp)
  ·exact oU c fs (fm told c g) f h
section
variable (out:List cy->Option (List (List cy))) (ez:List (List cy))
def OU(told:gK):Prop:=∀(i:Nat) (f:List cy) (c:Int),told[i]?=some (f,c)->(c = -1/\f∈ez)\/∃(j:Nat) (g:List cy) (d:Int) (fs:List (List cy)),j<i/\c=(j:Int)/\told[j]?=some (g,d)/\out g=some fs/\f∈fs
def OX(told:gK)(k:Nat):Prop:=∀(j:Nat) (g:List cy) (d:Int),j<k->told[j]?=some (g,d)->∃fs,out g=some fs/\∀f∈fs,f∈told.map (·.1)
theorem G7:OU out ez (df [] (-1) ez):=by
 obtain⟨more,h1,h2⟩:=gL (-1) ez [];rw[gE]at h1;intro i f c e;rw[h1]at e;obtain⟨h3,h4⟩:=h2 _ (cj e);exact .inl ⟨h3,h4⟩
theorem La{told:gK}{k:Nat}{g:List cy}{d:Int}{fs:List (List cy)}(h:OU out ez told)(hk:told[k]?=some (g,d))(ho:out g=some fs):OU out ez (df told (k:Int) fs):=by
 obtain⟨more,h1,h2⟩:=gL (k:Int) fs told;have eM:k<told.length:=(cP.mp hk).1;have old:∀{j:Nat} {x:List cy×Int},told[j]?=some x->(told++more)[j]?=some x:=fun {j x} e=>by
  rw[il (cP.mp e).1];exact e
 intro i f c e;rw[h1]at e ⊢;by_cases hi:i<told.length
 ·rw[il hi]at e;rcases h i f c e with z | ⟨j,g',d',Rc,z1,z2,z3,z4,z5⟩
  ·exact .inl z
  ·exact .inr ⟨j,g',d',Rc,z1,z2,old z3,z4,z5⟩
 ·rw[j9 (by lia)]at e
  obtain⟨h3,h4⟩:=h2 _ (cj e);exact .inr ⟨k,g,d,fs,by lia,h3,old hk,ho,h4⟩
theorem G8{told:gK}{k:Nat}{g:List cy}{d:Int}{fs:List (List cy)}(h:OX out told k)(hk:told[k]?=some (g,d))(ho:out g=some fs):OX out (df told (k:Int) fs) (k+1):=by
 obtain⟨more,h1,h2⟩:=gL (k:Int) fs told;have eM:k<told.length:=(cP.mp hk).1;intro j g' d' hj e;rw[h1]at e;rw[il (by lia)]at e
 by_cases hjk:j=k
 ·subst hjk;rw[hk]at e;cases e;exact⟨fs,ho,oU (j:Int) fs told⟩
 ·obtain⟨Rc,z1,z2⟩:=h j g' d' (by lia) e
  refine⟨Rc,z1,fun f hf=>?_⟩
  rw[h1,cY];exact ir _ (z2 f hf)
theorem pX(U:List (List cy))(B:Nat)(hB:U.length+B<gB)(hU:∀g∈U,∃fs,out g=some fs/\(∀f∈fs,f∈U)/\fs.length<=B):∀(n k:Nat) (told:gK),U.length<n+k->k<=told.length->(told.map (·.1)).Nodup->(∀t∈told,t.1∈U)->OU out ez told->OX out told k ->
  ∃res,fM out n k told=some res/\(res.map (·.1)).Nodup/\(∀t∈res,t.1∈U)/\OU out ez res/\OX out res res.length/\∃more,res=told++more
 | n,k,told,hn,hk,nd,sub,UX,done=>by
  have dm:told.length<=U.length:=by
   have:=oT (told.map (·.1)) U nd fun x hx=>by
    obtain⟨t,ht,rfl⟩:=bG.mp hx;exact sub t ht
   rwa [aC]at this
  cases n with
  | zero=>lia
  | succ n =>
   cases ht:told[k]? with
   | none =>
    have hkl:told.length<=k:=lY.mp ht;refine⟨told,?_,nd,sub,UX,?_,[],by simp⟩
    ·show(match told[k]? with | none=>some told | some t=>_)=_
     rw[ht]
    ·have:k=told.length:=by lia
     rw[<-this];exact done
   | some t =>
    obtain⟨g,d⟩:=t;have hg:g∈U:=sub (g,d) (cj ht);obtain⟨fs,h1,h2,h3⟩:=hU g hg;obtain⟨more,m1,m2⟩:=gL (k:Int) fs told;have eM:k<told.length:=(cP.mp ht).1;obtain⟨res,r1,r2,r3,r4,r5,QO,r6⟩:=pX U B hB hU n (k+1) (df told (k:Int) fs) (by lia) (by rw[m1,bK];lia) (sL _ _ _ nd) (fun t ht'=>by
     rw[m1]at ht';rcases cR.mp ht' with z | z
     ·exact sub t z
     ·exact h2 _ (m2 t z).2) (La out ez UX ht h1) (G8 out done ht h1)
    refine⟨res,?_,r2,r3,r4,r5,more++QO,by rw[r6,m1,iw]⟩
    show(match told[k]? with | none=>some told | some t=>(out t.1).bind fun fs=>if told.length+fs.length<gB then fM out n (k+1) (df told k fs)else none)=_
    rw[ht];show((out g).bind fun fs=>if told.length+fs.length<gB then fM out n (k+1) (df told k fs)else none)=_
    rw[h1,aV,if_pos (by lia)]
    exact r1
end
theorem E3:∀ks:List cy,GL (ks.map mr)=some ks
 | []=>rfl
 | k::ks=>by
  rw[bR];show(GJ (mr k)).bind _=_;have:GJ (mr k)=some k:=by cases k<;>rfl
  rw[this,aV,E3 ks];rfl
theorem OY{ks:List cy}(h:ks.length<1000):ED (fz ks)=some ks:=by
 show(if(ks.map mr).length<1000 then GL (ks.map mr)else none)=_
 rw[aC,if_pos h,E3]
theorem oV:∀{fs:List (List cy)},(∀f∈fs,f.length<1000)->factsOf (fs.map fz)=some fs
 | [],_=>rfl
 | f::fs,h=>by
  rw[bR];show(ED (fz f)).bind _=_;rw[OY (h f b6),aV,oV fun g hg=>h g (bQ _ hg)]
  rfl
theorem OZ{fb:FE}{wV:aF}{f:List cy}{fs:List (List cy)}(h:fb (.val (fz f)::wV)=some (.au (fs.map fz)))(hl:∀x∈fs,x.length<1000):zN fb wV f=some fs:=by
 unfold zN;rw[h,aV];exact oV hl
theorem Dd{fe fb:FE}{link:List (Option Nat)}{ρ:aF}{fk:List (List cy)}{told:gK}(h:fe ρ=some (.au (fk.map fz)))(hl:∀x∈fk,x.length<1000)(hn:fk.length<gB)(hs:fM (zN fb (bj link ρ)) vg 0 (df [] (-1) fk)=some told):lg fe fb link ρ=some (told.map toldP):=by
 unfold lg;rw[h,aV];show(factsOf (fk.map fz)).bind _=_;rw[oV hl,aV,if_pos hn,hs];rfl
end Al
namespace cz
open PySem L2 L2.PL mH
def iJ:List (Str×Str):=[("put","put_acts"),("set","set_acts"),("fill","put_acts"),("copy","copy_acts"),("move","move_acts"),("drop","drop_acts"),("lend","lend_acts"),("sole","lend_acts"),("call","call_acts"),("if","if_acts"),("go","go_acts"),("say","say_acts"),("give","give_acts")]
abbrev kI(n:Int):FE:=cK (.int n)
abbrev kS(s:Str):FE:=cK (.str s)
abbrev CF:=Str->az->dA
theorem rq{x:Str}{st:aE}{f:CF->FS}{n:Nat}(h:bC.defs.lookup x=some st)(hf:∀c:CT,g9 zU (zV bC st c) (dz st)=some (f (cN c)))(hn:(dj st).length=n)(k:Nat)(ps:az):run bC (k+1) x ps=sj (f (run bC k)) n ps:=by
 rw[<-hn];exact Tv h (hf _) ps
def Lb:List (Str×Nat):=("leaves",1)::("check_part",2)::("part",2)::("first",2)::("is_copied",1)::("kind_of",2)::("is_holder",1)::("shape_of",1)::("spread",2)::("tell_new",4)::("row_nexts",2)::("acts",2)::("nexts",2)::("touched",1)::("is_lending",1)::("touch",4)::("touch_whole",4)::("at_acts",2)::("operand_acts",2)::("target_acts",2)::("put_acts",2)::("set_acts",2)::("copy_acts",2)::("move_acts",2)::("drop_acts",2)::("lend_acts",2)::("call_acts",2)::("arg_act",3)::("owner_act",2)::("if_acts",2)::("go_acts",2)::("say_acts",2)::("give_acts",2)::("needs",2)::("acts_ahead",1)::("needed_by",2)::("handed",2)::("needed_ahead",3)::("_law_cell_at",2)::("_law_mixed",2)::("_law_names",2)::("_law_shape",1)::("_law_leaves",1)::("_law_parts",1)::("_law_lets",2)::("_law_spots",1)::("_law_numbers",3)::("_law_operand",3)::("_law_carried",4)::("_law_lending",4)::("_law_call",3)::("_law_small_row",4)::("_law_row",3)::("_law_program",3)::("_law_whole",1)::("_law_itself",4)::("law",1)::[]
noncomputable def De(c:CF):FS :=
 (gp 1 (aa (aD (aP 1 (c "leaves")) (aa (rd 2) ai)) ai) qb)
noncomputable def Lc(c:CF):FS :=
 (aH (gk (iC (toB (af (af (rd 0) (kI 0) aG) (kS "rec") t8)))
  (bz (aZ (aa (rd 0) ai)))
  (fun ρ=>some (.nx ρ)))
  (aH (iP 1 (cw ai))
  (aH (gZ (cJ (af (rd 0) (kI 1) aG)) (ao 2) (De c))
  (lA [1] (bz (cg lD (aa (rd 1) ai)))))))
def Df:=rq (x:="leaves") (st:=yF) (f:=Lc) (n:=3) (by kernel_rfl) (fun c=>by kernel_rfl) (by kernel_rfl)
noncomputable def gv(c:CF):FS :=
 (aH (gk (toB (af (af (rd 0) (kI 0) aG) (kS "rec") t8))
  (fun _=>none)
  (fun ρ=>some (.nx ρ)))
  (gk (j3 (toB (chain (kI 0) (rd 1) (cg cX (aa (af (rd 0) (kI 1) aG) ai)) Nq Er)))
  (fun _=>none)
  (fun ρ=>some (.nx ρ))))
def sM:=rq (x:="check_part") (st:=mR) (f:=gv) (n:=2) (by kernel_rfl) (fun c=>by kernel_rfl) (by kernel_rfl)
noncomputable def nO(c:CF):FS :=
 (aH (pO (aD (aP 2 (c "check_part")) (aa (rd 2) (aa (rd 3) ai))))
  (bg (af (af (rd 2) (kI 1) aG) (rd 3) aG) (ao 2)))
noncomputable def Dg(c:CF):FS :=
 (aH (bg (rd 0) (ao 2))
  (aH (gZ (cJ (rd 1)) (ao 3) (nO c))
  (bz (rd 2))))
def Ld:=rq (x:="part") (st:=IF) (f:=Dg) (n:=4) (by kernel_rfl) (fun c=>by kernel_rfl) (by kernel_rfl)
noncomputable def lj(c:CF):FS :=
 (aH (pO (aD (aP 2 (c "check_part")) (aa (rd 2) (aa (rd 4) ai))))
  (aH (bg (af (rd 3) (cg CB (aa (bH (dD [none,none] (cJ (cutE (af (rd 2) (kI 1) aG) Nu (j0 (rd 4)))) (ao 1) (cg cX (aa (aD (aP 1 (c "leaves")) (aa (rd 1) ai)) ai)))) ai)) Ot) (ao 3))
  (bg (af (af (rd 2) (kI 1) aG) (rd 4) aG) (ao 2))))
noncomputable def xy(c:CF):FS :=
 (aH (bg (rd 0) (ao 2))
  (aH (bg (kI 0) (ao 3))
  (aH (gZ (cJ (rd 1)) (ao 4) (lj c))
  (bz (rd 3)))))
def G9:=rq (x:="first") (st:=DV) (f:=xy) (n:=5) (by kernel_rfl) (fun c=>by kernel_rfl) (by kernel_rfl)
noncomputable def An(c:CF):FS :=
 (bz (af (aZ (aa (kS "own") ai)) (aD (aP 1 (c "leaves")) (aa (rd 0) ai)) (pU true)))
def uj:=rq (x:="is_copied") (st:=pj) (f:=An) (n:=1) (by kernel_rfl) (fun c=>by kernel_rfl) (by kernel_rfl)
noncomputable def i9(c:CF):FS :=
 (gk (toB (af (rd 2) (rd 1) dU))
  (bz (rd 3))
  (fun ρ=>some (.nx ρ)))
theorem sN(c:CF)(ρ:aF):i9 c ρ=(gk (toB (af (rd 2) (rd 1) dU))
  (bz (rd 3))
  (fun ρ=>some (.nx ρ))) ρ:=rfl
noncomputable def oX(c:CF):FS :=
 (aH (gZ (cJ (af (af (rd 0) (kI 1) aG) (af (rd 0) (kI 3) aG) bW)) (cC 2 (ax (ao 2) (ax (ao 3) cB))) (i9 c))
  (fun _=>none))
def Ao:=rq (x:="kind_of") (st:=uD) (f:=oX) (n:=4) (by kernel_rfl) (fun c=>by kernel_rfl) (by kernel_rfl)
noncomputable def Ap(c:CF):FS :=
 (bz (af (af (rd 0) (kI 0) aG) (cK (.aB [(.str "lent"),(.str "sole")])) (pU false)))
def uk:=rq (x:="is_holder") (st:=pw) (f:=Ap) (n:=1) (by kernel_rfl) (fun c=>by kernel_rfl) (by kernel_rfl)
noncomputable def Dh(c:CF):FS :=
 (bz (t6 (toB (aD (aP 1 (c "is_holder")) (aa (rd 0) ai))) (af (rd 0) (kI 1) aG) (rd 0)))
def xA:=rq (x:="shape_of") (st:=qY) (f:=Dh) (n:=1) (by kernel_rfl) (fun c=>by kernel_rfl) (by kernel_rfl)
noncomputable def Aq(c:CF):FS :=
 (aH (bg (af (rd 0) (rd 1) aG) (ao 2))
  (aH (gk (toB (af (af (rd 2) (kI 0) aG) (kS "give") dU))
  (bz (aZ ai))
  (fun ρ=>some (.nx ρ)))
  (aH (gk (toB (af (af (rd 2) (kI 0) aG) (kS "go") dU))
  (bz (aZ (aa (af (rd 2) (kI 1) aG) ai)))
  (fun ρ=>some (.nx ρ)))
  (aH (gk (toB (af (af (rd 2) (kI 0) aG) (kS "if") dU))
  (bz (cg lD (aa (J5 (aa (af (rd 1) (kI 1) bW) (aa (af (rd 2) (kI 3) aG) ai))) ai)))
  (fun ρ=>some (.nx ρ)))
  (bz (aZ (aa (af (rd 1) (kI 1) bW) ai)))))))
def js:=rq (x:="row_nexts") (st:=pz) (f:=Aq) (n:=3) (by kernel_rfl) (fun c=>by kernel_rfl) (by kernel_rfl)
noncomputable def nQ(c:CF):FS :=
 (aH (bg (Gz iJ Lb c (af (rd 5) (kI 0) aG) (aa (rd 2) (aa (rd 5) ai))) (ao 6))
  (gp 3 (aa (bH (dD [none,none,some 4] (cJ (Wu (rd 6) (bH (cw (aa (cK (.aB [(.str "rest"),(.str ""),(.bl false),(.int 0),(.int 0),(.str "")])) ai))))) (ao 1) (af (aZ (aa (rd 2) ai)) (rd 1) bW))) ai) qb))
noncomputable def TQ(c:CF):FS :=
 (aH (bg (af (rd 0) (rd 1) aG) (ao 2))
  (aH (iP 3 (cw ai))
  (aH (gZ (jC (af (rd 2) (kI 4) aG)) (cC 2 (ax (ao 4) (ax (ao 5) cB))) (nQ c))
  (ni 3))))
def Le:=rq (x:="acts") (st:=IH) (f:=TQ) (n:=7) (by kernel_rfl) (fun c=>by kernel_rfl) (by kernel_rfl)
noncomputable def jH(c:CF):FS :=
 (gk (iC (gA (toB (af (af (rd 4) (kI 1) bW) (gP (cg cX (aa (rd 2) ai))) Er)) (toB (af (af (af (rd 2) (af (rd 4) (kI 1) bW) aG) (kI 0) aG) (af (rd 5) (kI 0) aG) dU))))
  (gp 6 (aa (aZ (aa (af (rd 4) (kI 1) bW) ai)) ai) ml)
  (lA [3] (gp 6 (aa (cg lD (aa (bH (dD [none,none,some 3] (cJ (aD (aP 2 (c "row_nexts")) (aa (af (af (rd 0) (rd 1) aG) (kI 4) aG) (aa (af (rd 5) (kI 0) aG) ai)))) (ao 1) (getD 2 (rd 1)))) ai)) ai) ml)))
noncomputable def ll(c:CF):FS :=
 (Tg 3 (af (rd 5) (kI 0) aG) (rd 4))
noncomputable def O0(c:CF):FS :=
 (aH (bg (aD (aP 2 (c "acts")) (aa (rd 0) (aa (rd 1) ai))) (ao 2))
  (aH (Te 3)
  (aH (gZ (jC (rd 2)) (cC 2 (ax (ao 4) (ax (ao 5) cB))) (ll c))
  (aH (iP 6 (cw ai))
  (aH (gZ (jC (rd 2)) (cC 2 (ax (ao 4) (ax (ao 5) cB))) (jH c))
  (ni 6))))))
def Ha:=rq (x:="nexts") (st:=DW) (f:=O0) (n:=7) (by kernel_rfl) (fun c=>by kernel_rfl) (by kernel_rfl)
noncomputable def Hb(c:CF):FS :=
 (bz (bH (lrg (aa (af (rd 0) (kI 4) aG) (aa (af (af (rd 0) (kI 4) aG) (af (rd 0) (kI 5) aG) bW) ai)))))
def Ar:=rq (x:="touched") (st:=uE) (f:=Hb) (n:=1) (by kernel_rfl) (fun c=>by kernel_rfl) (by kernel_rfl)
noncomputable def xB(c:CF):FS :=
 (bz (af (af (rd 0) (kI 1) aG) (cK (.aB [(.str "lend"),(.str "sole")])) (pU false)))
def sQ:=rq (x:="is_lending") (st:=mU) (f:=xB) (n:=1) (by kernel_rfl) (fun c=>by kernel_rfl) (by kernel_rfl)
noncomputable def xC(c:CF):FS :=
 (aH (bg (aD (aP 1 (c "shape_of")) (aa (aD (aP 2 (c "kind_of")) (aa (rd 0) (aa (af (rd 2) (kI 0) aG) ai))) ai)) (ao 4))
  (aH (bg (cg cX (aa (aD (aP 1 (c "leaves")) (aa (aD (aP 2 (c "part")) (aa (rd 4) (aa (af (rd 2) (kI 2) aG) ai))) ai)) ai)) (ao 5))
  (bz (aZ (aa (rd 1) (aa (af (rd 2) (kI 0) aG) (aa (af (rd 2) (kI 1) aG) (aa (aD (aP 2 (c "first")) (aa (rd 4) (aa (af (rd 2) (kI 2) aG) ai))) (aa (rd 5) (aa (rd 3) ai))))))))))
def Hc:=rq (x:="touch") (st:=DX) (f:=xC) (n:=6) (by kernel_rfl) (fun c=>by kernel_rfl) (by kernel_rfl)
noncomputable def jt(c:CF):FS :=
 (bz (aD (aP 4 (c "touch")) (aa (rd 0) (aa (rd 1) (aa (aZ (aa (rd 2) (aa (aD (aP 1 (c "is_holder")) (aa (aD (aP 2 (c "kind_of")) (aa (rd 0) (aa (rd 2) ai))) ai)) (aa (aZ ai) (aa (cK .cG) ai))))) (aa (rd 3) ai))))))
def qe:=rq (x:="touch_whole") (st:=lG) (f:=jt) (n:=4) (by kernel_rfl) (fun c=>by kernel_rfl) (by kernel_rfl)
noncomputable def oY(c:CF):FS :=
 (aH (gk (j3 (toB (Qq .str (af (rd 1) (kI 3) aG))))
  (bz (bH (cw ai)))
  (fun ρ=>some (.nx ρ)))
  (bz (bH (cw (aa (aD (aP 4 (c "touch_whole")) (aa (rd 0) (aa (kS "read") (aa (af (rd 1) (kI 3) aG) (aa (kS "") ai))))) ai)))))
def As:=rq (x:="at_acts") (st:=uF) (f:=oY) (n:=2) (by kernel_rfl) (fun c=>by kernel_rfl) (by kernel_rfl)
noncomputable def iK(c:CF):FS :=
 (aH (gk (j3 (toB (Qq .tuple (rd 1))))
  (bz (bH (cw ai)))
  (fun ρ=>some (.nx ρ)))
  (bz (af (aD (aP 2 (c "at_acts")) (aa (rd 0) (aa (rd 1) ai))) (bH (cw (aa (aD (aP 4 (c "touch")) (aa (rd 0) (aa (kS "read") (aa (rd 1) (aa (kS "") ai))))) ai))) bW)))
def oZ:=rq (x:="operand_acts") (st:=kq) (f:=iK) (n:=2) (by kernel_rfl) (fun c=>by kernel_rfl) (by kernel_rfl)
noncomputable def ju(c:CF):FS :=
 (aH (gk (toB (af (af (rd 1) (kI 3) aG) (cK .cG) UG))
  (bz (bH (cw (aa (aD (aP 4 (c "touch")) (aa (rd 0) (aa (kS "fill") (aa (rd 1) (aa (kS "") ai))))) ai))))
  (fun ρ=>some (.nx ρ)))
  (bz (af (aD (aP 2 (c "at_acts")) (aa (rd 0) (aa (rd 1) ai))) (bH (cw (aa (aD (aP 4 (c "touch")) (aa (rd 0) (aa (kS "turn") (aa (rd 1) (aa (kS "") ai))))) ai))) bW)))
def qf:=rq (x:="target_acts") (st:=lH) (f:=ju) (n:=2) (by kernel_rfl) (fun c=>by kernel_rfl) (by kernel_rfl)
noncomputable def Di(c:CF):FS :=
 (bz (af (aD (aP 2 (c "operand_acts")) (aa (rd 0) (aa (af (rd 1) (kI 2) aG) ai))) (aD (aP 2 (c "target_acts")) (aa (rd 0) (aa (af (rd 1) (kI 1) aG) ai))) bW))
def xD:=rq (x:="put_acts") (st:=qZ) (f:=Di) (n:=2) (by kernel_rfl) (fun c=>by kernel_rfl) (by kernel_rfl)
noncomputable def Dj(c:CF):FS :=
 (bz (af (af (aD (aP 2 (c "operand_acts")) (aa (rd 0) (aa (af (rd 1) (kI 3) aG) ai))) (aD (aP 2 (c "operand_acts")) (aa (rd 0) (aa (af (rd 1) (kI 4) aG) ai))) bW) (aD (aP 2 (c "target_acts")) (aa (rd 0) (aa (af (rd 1) (kI 1) aG) ai))) bW))
def xE:=rq (x:="set_acts") (st:=q8) (f:=Dj) (n:=2) (by kernel_rfl) (fun c=>by kernel_rfl) (by kernel_rfl)
noncomputable def Au(c:CF):FS :=
 (bz (bH (cw (aa (aD (aP 4 (c "touch")) (aa (rd 0) (aa (kS "read") (aa (af (rd 1) (kI 2) aG) (aa (kS "") ai))))) (aa (aD (aP 4 (c "touch")) (aa (rd 0) (aa (kS "fill") (aa (af (rd 1) (kI 1) aG) (aa (kS "") ai))))) ai)))))
def um:=rq (x:="copy_acts") (st:=pA) (f:=Au) (n:=2) (by kernel_rfl) (fun c=>by kernel_rfl) (by kernel_rfl)
noncomputable def Av(c:CF):FS :=
 (bz (bH (cw (aa (aD (aP 4 (c "touch")) (aa (rd 0) (aa (kS "empty") (aa (af (rd 1) (kI 2) aG) (aa (kS "") ai))))) (aa (aD (aP 4 (c "touch")) (aa (rd 0) (aa (kS "fill") (aa (af (rd 1) (kI 1) aG) (aa (kS "") ai))))) ai)))))
def uo:=rq (x:="move_acts") (st:=pB) (f:=Av) (n:=2) (by kernel_rfl) (fun c=>by kernel_rfl) (by kernel_rfl)
noncomputable def Aw(c:CF):FS :=
 (bz (bH (cw (aa (aD (aP 4 (c "touch")) (aa (rd 0) (aa (kS "empty") (aa (af (rd 1) (kI 1) aG) (aa (kS "") ai))))) ai))))
def uq:=rq (x:="drop_acts") (st:=pC) (f:=Aw) (n:=2) (by kernel_rfl) (fun c=>by kernel_rfl) (by kernel_rfl)
noncomputable def Ax(c:CF):FS :=
 (bz (bH (cw (aa (aD (aP 4 (c "touch")) (aa (rd 0) (aa (af (rd 1) (kI 0) aG) (aa (af (rd 1) (kI 2) aG) (aa (af (rd 1) (kI 1) aG) ai))))) ai))))
def ur:=rq (x:="lend_acts") (st:=pE) (f:=Ax) (n:=2) (by kernel_rfl) (fun c=>by kernel_rfl) (by kernel_rfl)
noncomputable def Ay(c:CF):FS :=
 (aH (iP 2 (dD [none,none,none,some 0] (jC (af (rd 1) (kI 3) aG)) (cC 2 (ax (ao 1) (ax (ao 2) cB))) (aD (aP 3 (c "arg_act")) (aa (rd 3) (aa (rd 2) (aa (cg zB (aa (rd 1) ai)) ai))))))
  (aH (gp 2 (aa (cK (.aB [(.str "hand"),(.str ""),(.bl false),(.int 0),(.int 0),(.str "")])) ai) ml)
  (aH (gk (iC (toB (af (af (rd 1) (kI 1) aG) (kS "") dU)))
  (ni 2)
  (fun ρ=>some (.nx ρ)))
  (aH (gk (iC (toB (aD (aP 1 (c "is_holder")) (aa (aD (aP 2 (c "kind_of")) (aa (rd 0) (aa (af (rd 1) (kI 1) aG) ai))) ai))))
  (lA [2] (bz (af (rd 2) (bH (cw (aa (aZ (aa (kS "take") (aa (kS "") (aa (cK (.bl false)) (aa (kI 0) (aa (kI 0) (aa (af (rd 1) (kI 1) aG) ai))))))) ai))) bW)))
  (fun ρ=>some (.nx ρ)))
  (lA [2] (bz (af (rd 2) (bH (cw (aa (aD (aP 4 (c "touch_whole")) (aa (rd 0) (aa (kS "fill") (aa (af (rd 1) (kI 1) aG) (aa (kS "") ai))))) ai))) bW)))))))
def uu:=rq (x:="call_acts") (st:=pG) (f:=Ay) (n:=3) (by kernel_rfl) (fun c=>by kernel_rfl) (by kernel_rfl)
noncomputable def Hd(c:CF):FS :=
 (aH (bg (aD (aP 2 (c "kind_of")) (aa (rd 0) (aa (rd 1) ai))) (ao 3))
  (aH (gk (j3 (toB (aD (aP 1 (c "is_holder")) (aa (rd 3) ai))))
  (bz (aD (aP 2 (c "owner_act")) (aa (rd 0) (aa (rd 1) ai))))
  (fun ρ=>some (.nx ρ)))
  (bz (aD (aP 4 (c "touch_whole")) (aa (rd 0) (aa (t6 (toB (af (af (rd 3) (kI 0) aG) (kS "lent") dU)) (kS "lend") (kS "sole")) (aa (rd 1) (aa (rd 2) ai))))))))
def Az:=rq (x:="arg_act") (st:=uG) (f:=Hd) (n:=4) (by kernel_rfl) (fun c=>by kernel_rfl) (by kernel_rfl)
noncomputable def AA(c:CF):FS :=
 (bz (aD (aP 4 (c "touch_whole")) (aa (rd 0) (aa (t6 (toB (aD (aP 1 (c "is_copied")) (aa (aD (aP 2 (c "kind_of")) (aa (rd 0) (aa (rd 1) ai))) ai))) (kS "read") (kS "empty")) (aa (rd 1) (aa (kS "") ai))))))
def uv:=rq (x:="owner_act") (st:=pH) (f:=AA) (n:=2) (by kernel_rfl) (fun c=>by kernel_rfl) (by kernel_rfl)
noncomputable def He(c:CF):FS :=
 (bz (af (aD (aP 2 (c "operand_acts")) (aa (rd 0) (aa (af (rd 1) (kI 1) aG) ai))) (aD (aP 2 (c "operand_acts")) (aa (rd 0) (aa (af (rd 1) (kI 2) aG) ai))) bW))
def AB:=rq (x:="if_acts") (st:=uH) (f:=He) (n:=2) (by kernel_rfl) (fun c=>by kernel_rfl) (by kernel_rfl)
noncomputable def Hf(c:CF):FS :=
 (bz (bH (cw ai)))
def AD:=rq (x:="go_acts") (st:=uI) (f:=Hf) (n:=2) (by kernel_rfl) (fun c=>by kernel_rfl) (by kernel_rfl)
noncomputable def Dl(c:CF):FS :=
 (bz (aD (aP 2 (c "operand_acts")) (aa (rd 0) (aa (af (rd 1) (kI 1) aG) ai))))
def xF:=rq (x:="say_acts") (st:=q9) (f:=Dl) (n:=2) (by kernel_rfl) (fun c=>by kernel_rfl) (by kernel_rfl)
noncomputable def AE(c:CF):FS :=
 (aH (gk (toB (af (af (rd 1) (kI 1) aG) (kS "") dU))
  (bz (bH (cw ai)))
  (fun ρ=>some (.nx ρ)))
  (aH (gk (toB (aD (aP 1 (c "is_holder")) (aa (aD (aP 2 (c "kind_of")) (aa (rd 0) (aa (af (rd 1) (kI 1) aG) ai))) ai)))
  (bz (bH (cw (aa (aD (aP 4 (c "touch_whole")) (aa (rd 0) (aa (kS "give") (aa (af (rd 1) (kI 1) aG) (aa (kS "") ai))))) ai))))
  (fun ρ=>some (.nx ρ)))
  (bz (bH (cw (aa (aD (aP 2 (c "owner_act")) (aa (rd 0) (aa (af (rd 1) (kI 1) aG) ai))) ai))))))
def lW:=rq (x:="give_acts") (st:=pI) (f:=AE) (n:=2) (by kernel_rfl) (fun c=>by kernel_rfl) (by kernel_rfl)
noncomputable def lq(c:CF):FS :=
 (gp 2 (aa (bH (dD [none,none,none,some 3] (cJ (aD (aP 2 (c "needed_by")) (aa (rd 6) (aa (rd 4) ai)))) (cC 2 (ax (ao 1) (ax (ao 2) cB))) (aZ (aa (rd 3) (aa (rd 1) (aa (rd 2) ai)))))) ai) qb)
noncomputable def O1(c:CF):FS :=
 (aH (bg (aD (aP 2 (c "acts")) (aa (rd 0) (aa (rd 1) ai))) (ao 6))
  (aH (bg (aD (aP 1 (c "acts_ahead")) (aa (aD (aP 2 (c "nexts")) (aa (rd 0) (aa (rd 1) ai))) ai)) (ao 5))
  (aH (iP 2 (cw ai))
  (aH (gZ (jC (rd 6)) (cC 2 (ax (ao 3) (ax (ao 4) cB))) (lq c))
  (lA [2] (bz (bH (lg (rd 2) (aD (aP 3 (c "needed_ahead")) (aa (rd 2) (aa (af (rd 1) (af (rd 0) (kI 0) aG) aG) (aa (rd 0) ai)))) [some 5,some 6]))))))))
def Hg:=rq (x:="needs") (st:=DY) (f:=O1) (n:=7) (by kernel_rfl) (fun c=>by kernel_rfl) (by kernel_rfl)
noncomputable def xG(c:CF):FS :=
 (aH (Kh [none,none] (ao 1) 2 0 3 1 4)
  (bz (rd 2)))
def sR:=rq (x:="acts_ahead") (st:=mV) (f:=xG) (n:=5) (by kernel_rfl) (fun c=>by kernel_rfl) (by kernel_rfl)
noncomputable def AF(c:CF):FS :=
 (aH (gk (toB (af (af (rd 1) (kI 1) aG) (kS "hand") dU))
  (bz (aD (aP 2 (c "handed")) (aa (rd 0) (aa (af (rd 1) (kI 0) aG) ai))))
  (fun ρ=>some (.nx ρ)))
  (aH (gk (j3 (toB (af (rd 1) (kI 3) aG)))
  (bz (bH (cw ai)))
  (fun ρ=>some (.nx ρ)))
  (bz (bH (dD [none,none,some 1] (cJ (aD (aP 1 (c "touched")) (aa (rd 1) ai))) (ao 1) (aZ (aa (af (rd 2) (kI 2) aG) (aa (rd 1) ai))))))))
def uw:=rq (x:="needed_by") (st:=pJ) (f:=AF) (n:=2) (by kernel_rfl) (fun c=>by kernel_rfl) (by kernel_rfl)
noncomputable def jR(c:CF):FS :=
 (gk (iC (gA (toB (af (af (rd 3) (kI 0) aG) (rd 1) dU)) (toB (aD (aP 1 (c "is_lending")) (aa (rd 3) ai)))))
  (gp 2 (aa (bH (dD [none,none,some 3] (gG (aa (af (rd 3) (kI 5) aG) ai)) (ao 1) (aZ (aa (af (rd 2) (kI 6) aG) (aa (rd 1) ai))))) ai) qb)
  (fun ρ=>some (.nx ρ)))
noncomputable def Lf(c:CF):FS :=
 (aH (iP 2 (cw ai))
  (aH (gZ (cJ (rd 0)) (ao 3) (jR c))
  (ni 2)))
def Dm:=rq (x:="handed") (st:=yG) (f:=Lf) (n:=4) (by kernel_rfl) (fun c=>by kernel_rfl) (by kernel_rfl)
noncomputable def sS(c:CF):FS :=
 (bz (bH (eQ [none,none,some 2,some 0] (cJ (rd 1)) (ao 1) (toB (af (af (af (rd 3) (rd 1) aG) (kI 6) aG) (af (rd 2) (kI 1) aG) t8)) (aZ (aa (rd 1) (aa (af (rd 2) (kI 1) aG) (aa (af (rd 2) (kI 2) aG) ai)))))))
def o8:=rq (x:="needed_ahead") (st:=kr) (f:=sS) (n:=3) (by kernel_rfl) (fun c=>by kernel_rfl) (by kernel_rfl)
noncomputable def my(c:CF):FS :=
 (aH (gk (toB (af (rd 1) (cg cX (aa (rd 0) ai)) Er))
  (bz (af (rd 0) (rd 1) aG))
  (fun ρ=>some (.nx ρ)))
  (bz (kI 0)))
def xH:=rq (x:="_law_cell_at") (st:=rb) (f:=my) (n:=2) (by kernel_rfl) (fun c=>by kernel_rfl) (by kernel_rfl)
noncomputable def Lg(c:CF):FS :=
 (aH (bg (af (bH (cw (aa (aZ (aa (kI 48271) (aa (kI 2147483647) ai))) (aa (aZ (aa (kI 69621) (aa (kI 998244353) ai))) (aa (aZ (aa (kI 40692) (aa (kI 1000000007) ai))) (aa (aZ (aa (kI 16807) (aa (kI 2147483629) ai))) ai)))))) (rd 1) aG) (cC 2 (ax (ao 2) (ax (ao 3) cB))))
  (bz (af (af (af (af (rd 0) (kI 1000000000039) b8) (rd 1) bW) (rd 2) jB) (rd 3) b8)))
def Dn:=rq (x:="_law_mixed") (st:=yH) (f:=Lg) (n:=4) (by kernel_rfl) (fun c=>by kernel_rfl) (by kernel_rfl)
noncomputable def jS(c:CF):FS :=
 (bg (af (rd 9) (af (rd 2) (af (af (af (rd 6) (rd 5) aG) (af (rd 8) (cg wM (aa (af (rd 5) (rd 4) dU) ai)) jB) bW) (kI 26) b8) aG) bW) (ao 9))
noncomputable def jT(c:CF):FS :=
 (aH (bg (kS "") (ao 9))
  (aH (gZ (gG (aa (rd 3) ai)) (ao 5) (jS c))
  (gp 7 (aa (rd 9) ai) ml)))
noncomputable def Lh(c:CF):FS :=
 (aH (bg (kS "abcdefghijklmnopqrstuvwxyz") (ao 2))
  (aH (bg (af (kI 1) (af (rd 0) (kI 8) b8) bW) (ao 3))
  (aH (bg (af (af (rd 0) (kI 8) de) (rd 3) b8) (ao 4))
  (aH (bg (bH (dD [none,none,some 0] (gG (aa (rd 3) ai)) (ao 1) (af (af (af (rd 2) (af (kI 64) (af (af (kI 9) (rd 1) jB) (rd 1) jB) bW) de) (af (kI 5) (rd 1) jB) bW) (kI 26) b8))) (ao 6))
  (aH (iP 7 (cw ai))
  (aH (gZ (gG (aa (rd 1) ai)) (ao 8) (jT c))
  (ni 7)))))))
def Dp:=rq (x:="_law_names") (st:=yI) (f:=Lh) (n:=10) (by kernel_rfl) (fun c=>by kernel_rfl) (by kernel_rfl)
noncomputable def Li(c:CF):FS :=
 (aH (bg (aZ (aa (kS "strip") (aa (af (kI 1) (af (af (rd 0) (kI 7) de) (kI 8) b8) bW) ai))) (ao 1))
  (aH (bg (aZ (aa (kS "rec") (aa (aZ (aa (aZ (aa (kS "num") ai)) (aa (aZ (aa (kS "num") ai)) ai))) ai))) (ao 2))
  (aH (bg (bH (cw (aa (rd 2) (aa (aZ (aa (kS "own") ai)) (aa (rd 1) (aa (aZ (aa (kS "num") ai)) (aa (aZ (aa (kS "rec") (aa (aZ (aa (aZ (aa (kS "num") ai)) (aa (aZ (aa (kS "own") ai)) ai))) ai))) (aa (aZ (aa (kS "rec") (aa (aZ (aa (rd 1) (aa (aZ (aa (kS "own") ai)) ai))) ai))) ai)))))))) (ao 3))
  (bz (af (af (rd 3) (bH (cw (aa (aZ (aa (kS "rec") (aa (aZ (aa (rd 2) (aa (rd 1) ai))) ai))) ai))) bW) (af (rd 0) (kI 7) b8) aG)))))
def Dq:=rq (x:="_law_shape") (st:=yJ) (f:=Li) (n:=4) (by kernel_rfl) (fun c=>by kernel_rfl) (by kernel_rfl)
noncomputable def ja(c:CF):FS :=
 (bg (af (rd 1) (aD (aP 1 (c "_law_leaves")) (aa (rd 2) ai)) bW) (ao 1))
noncomputable def Hh(c:CF):FS :=
 (aH (gk (toB (af (af (rd 0) (kI 0) aG) (kS "rec") t8))
  (bz (bH (cw (aa (rd 0) ai))))
  (fun ρ=>some (.nx ρ)))
  (aH (bg (bH (cw ai)) (ao 1))
  (aH (gZ (cJ (af (rd 0) (kI 1) aG)) (ao 2) (ja c))
  (bz (rd 1)))))
def pY:=rq (x:="_law_leaves") (st:=uJ) (f:=Hh) (n:=3) (by kernel_rfl) (fun c=>by kernel_rfl) (by kernel_rfl)
noncomputable def jU(c:CF):FS :=
 (bg (af (rd 1) (bH (dD [none,none,none,some 2] (cJ (aD (aP 1 (c "_law_parts")) (aa (rd 3) ai))) (cC 2 (ax (ao 1) (ax (ao 2) cB))) (aZ (aa (af (aZ (aa (rd 3) ai)) (rd 1) bW) (aa (rd 2) ai))))) bW) (ao 1))
noncomputable def Lj(c:CF):FS :=
 (aH (bg (bH (cw (aa (aZ (aa (aZ ai) (aa (rd 0) ai))) ai))) (ao 1))
  (aH (gk (toB (af (af (rd 0) (kI 0) aG) (kS "rec") dU))
  (gZ (jC (af (rd 0) (kI 1) aG)) (cC 2 (ax (ao 2) (ax (ao 3) cB))) (jU c))
  (fun ρ=>some (.nx ρ)))
  (bz (rd 1))))
def sT:=rq (x:="_law_parts") (st:=yK) (f:=Lj) (n:=4) (by kernel_rfl) (fun c=>by kernel_rfl) (by kernel_rfl)
noncomputable def o9(c:CF):FS :=
 (aH (bg (aD (aP 1 (c "_law_parts")) (aa (af (rd 4) (af (kI 1) (af (af (rd 3) (af (kI 3) (rd 2) bW) aG) (kI 3) b8) bW) aG) ai)) (ao 6))
  (aH (bg (af (bH (cw (aa (kS "lent") (aa (kS "sole") (aa (kS "sole") ai))))) (af (af (af (rd 3) (af (kI 3) (rd 2) bW) aG) (kI 3) de) (kI 3) b8) aG) (ao 7))
  (gp 5 (aa (aZ (aa (af (rd 1) (af (kI 4) (rd 2) bW) aG) (aa (aZ (aa (rd 7) (aa (af (af (rd 6) (af (af (af (rd 3) (af (kI 3) (rd 2) bW) aG) (kI 9) de) (gP (cg cX (aa (rd 6) ai))) b8) aG) (kI 1) aG) ai))) ai))) ai) ml)))
noncomputable def O2(c:CF):FS :=
 (aH (bg (bH (dD [none,none,some 0] (gG (aa (kI 7) ai)) (ao 1) (aD (aP 2 (c "_law_mixed")) (aa (aD (aP 2 (c "_law_cell_at")) (aa (rd 2) (aa (af (kI 1) (rd 1) bW) ai))) (aa (af (rd 1) (kI 4) b8) ai))))) (ao 3))
  (aH (bg (af (bH (cw (aa (aZ (aa (kS "num") ai)) ai))) (bH (dD [none,none,some 3] (gG (aa (kI 3) ai)) (ao 1) (aD (aP 1 (c "_law_shape")) (aa (af (rd 2) (rd 1) aG) ai)))) bW) (ao 4))
  (aH (iP 5 (dD [none,none,some 1,some 4] (gG (aa (kI 4) ai)) (ao 1) (aZ (aa (af (rd 2) (rd 1) aG) (aa (af (rd 3) (rd 1) aG) ai)))))
  (aH (gZ (gG (aa (kI 4) ai)) (ao 2) (o9 c))
  (ni 5)))))
def Hi:=rq (x:="_law_lets") (st:=DZ) (f:=O2) (n:=8) (by kernel_rfl) (fun c=>by kernel_rfl) (by kernel_rfl)
noncomputable def mz(c:CF):FS :=
 (gp 1 (aa (aZ (aa (aZ (aa (rd 2) (aa (rd 4) (aa (rd 6) (aa (cK .cG) ai))))) (aa (rd 7) (aa (af (af (rd 3) (kI 0) aG) (kS "lent") t8) ai)))) ai) ml)
noncomputable def mB(c:CF):FS :=
 (aH (bg (af (af (rd 3) (kI 0) aG) (aZ (aa (kS "lent") (aa (kS "sole") ai))) (pU false)) (ao 4))
  (aH (bg (rd 3) (ao 5))
  (aH (gk (iC (toB (rd 4)))
  (bg (af (rd 3) (kI 1) aG) (ao 5))
  (fun ρ=>some (.nx ρ)))
  (gZ (cJ (aD (aP 1 (c "_law_parts")) (aa (rd 5) ai))) (cC 2 (ax (ao 6) (ax (ao 7) cB))) (mz c)))))
noncomputable def Lk(c:CF):FS :=
 (aH (iP 1 (cw ai))
  (aH (gZ (cJ (rd 0)) (cC 2 (ax (ao 2) (ax (ao 3) cB))) (mB c))
  (ni 1)))
def Dr:=rq (x:="_law_spots") (st:=yL) (f:=Lk) (n:=8) (by kernel_rfl) (fun c=>by kernel_rfl) (by kernel_rfl)
noncomputable def ib(c:CF):FS :=
 (aH (gk (iC (toB (af (af (rd 5) (kI 0) aG) (aZ (aa (kS "num") (aa (kS "own") ai))) (pU false))))
  (gp 3 (aa (aZ (aa (rd 4) (aa (rd 6) ai))) ai) ml)
  (fun ρ=>some (.nx ρ)))
  (gk (iC (toB (af (af (rd 5) (kI 0) aG) (kS "strip") dU)))
  (gp 3 (aa (aZ (aa (af (cutE (rd 4) Nu (j0 (kI 3))) (aZ (aa (af (bH (cw (aa (af (rd 2) (af (rd 5) (kI 1) aG) b8) (aa (rd 1) ai)))) (af (af (rd 2) (kI 8) de) (kI 2) b8) aG) ai)) bW) (aa (rd 6) ai))) ai) ml)
  (fun ρ=>some (.nx ρ))))
noncomputable def Ds(c:CF):FS :=
 (aH (iP 3 (cw ai))
  (aH (gZ (cJ (rd 0)) (cC 3 (ax (ao 4) (ax (ao 5) (ax (ao 6) cB)))) (ib c))
  (ni 3)))
def xJ:=rq (x:="_law_numbers") (st:=rf) (f:=Ds) (n:=7) (by kernel_rfl) (fun c=>by kernel_rfl) (by kernel_rfl)
noncomputable def Dt(c:CF):FS :=
 (aH (gk (toB (af (af (af (rd 1) (kI 5) de) (kI 4) b8) (kI 0) dU))
  (bz (af (rd 0) (af (kI 10) (kI 30) zq) b8))
  (fun ρ=>some (.nx ρ)))
  (bz (af (af (rd 2) (af (af (rd 1) (kI 20) de) (cg cX (aa (rd 2) ai)) b8) aG) (kI 0) aG)))
def xK:=rq (x:="_law_operand") (st:=rg) (f:=Dt) (n:=3) (by kernel_rfl) (fun c=>by kernel_rfl) (by kernel_rfl)
noncomputable def Du(c:CF):FS :=
 (aH (bg (af (rd 3) (af (rd 1) (cg cX (aa (rd 3) ai)) b8) aG) (cC 3 (ax (ao 4) (ax (ao 5) (ax (ao 6) cB)))))
  (aH (bg (bH (eQ [none,none,none,none,some 5] (cJ (rd 3)) (cC 3 (ax (ao 1) (ax (ao 2) (ax (ao 3) cB)))) (gA (toB (af (rd 2) (rd 4) dU)) (toB (rd 3))) (rd 1))) (ao 7))
  (aH (bg (af (aZ (aa (kS "own") ai)) (aD (aP 1 (c "_law_leaves")) (aa (rd 5) ai)) (pU false)) (ao 8))
  (aH (gk (zc (toB (af (rd 7) (bH (cw ai)) dU)) (gA (toB (af (rd 4) (kI 1) aG)) (toB (rd 8))))
  (bz (aZ (aa (kS "say") (aa (rd 1) ai))))
  (fun ρ=>some (.nx ρ)))
  (aH (gk (zc (toB (rd 8)) (gA (toB (af (rd 0) (kS "move") dU)) (j3 (toB (af (rd 4) (kI 1) aG)))))
  (bz (aZ (aa (kS "move") (aa (af (rd 7) (af (rd 2) (cg cX (aa (rd 7) ai)) b8) aG) (aa (rd 4) ai)))))
  (fun ρ=>some (.nx ρ)))
  (bz (aZ (aa (kS "copy") (aa (af (rd 7) (af (rd 2) (cg cX (aa (rd 7) ai)) b8) aG) (aa (rd 4) ai))))))))))
def xM:=rq (x:="_law_carried") (st:=rh) (f:=Du) (n:=9) (by kernel_rfl) (fun c=>by kernel_rfl) (by kernel_rfl)
noncomputable def Dv(c:CF):FS :=
 (aH (bg (bH (eQ [none,none] (cJ (rd 2)) (ao 1) (toB (af (af (af (rd 1) (kI 1) aG) (kI 0) aG) (aZ (aa (kS "lent") (aa (kS "sole") ai))) (pU false))) (rd 1))) (ao 4))
  (aH (bg (af (rd 4) (af (rd 0) (cg cX (aa (rd 4) ai)) b8) aG) (cC 2 (ax (ao 5) (ax (ao 6) cB))))
  (aH (bg (af (bH (cw (aa (kS "lend") (aa (kS "sole") ai)))) (cg wM (aa (af (af (rd 6) (kI 0) aG) (kS "sole") dU) ai)) aG) (ao 7))
  (aH (bg (bH (eQ [none,none,none,none,some 6,some 7] (cJ (rd 3)) (cC 3 (ax (ao 1) (ax (ao 2) (ax (ao 3) cB)))) (gA (toB (af (rd 2) (af (rd 4) (kI 1) aG) dU)) (zc (toB (rd 3)) (toB (af (rd 5) (kS "lend") dU)))) (rd 1))) (ao 8))
  (bz (aZ (aa (rd 7) (aa (rd 5) (aa (af (rd 8) (af (rd 1) (cg cX (aa (rd 8) ai)) b8) aG) ai)))))))))
def xN:=rq (x:="_law_lending") (st:=ri) (f:=Dv) (n:=9) (by kernel_rfl) (fun c=>by kernel_rfl) (by kernel_rfl)
noncomputable def O3(c:CF):FS :=
 (aH (bg (rd 2) (cC 6 (ax (ao 3) (ax (ao 4) (ax (ao 5) (ax (ao 6) (ax (ao 7) (ax (ao 8) cB))))))))
  (aH (gk (iC (toB (af (af (rd 0) (kI 4) b8) (kI 0) dU)))
  (bz (aZ (aa (kS "call") (aa (kS "") (aa (af (rd 3) (kI 0) aG) (aa (aZ ai) ai))))))
  (fun ρ=>some (.nx ρ)))
  (aH (iP 9 (cw (aa (af (rd 4) (af (rd 1) (gP (cg cX (aa (rd 4) ai))) b8) aG) (aa (af (rd 6) (af (af (rd 1) (kI 8) de) (gP (cg cX (aa (rd 6) ai))) b8) aG) ai))))
  (aH (gk (iC (toB (af (af (rd 0) (kI 4) b8) (kI 1) dU)))
  (aH (gk (iC (toB (af (af (rd 8) (kI 2) b8) (kI 1) dU)))
  (zm 9 N8)
  (fun ρ=>some (.nx ρ)))
  (lA [9] (bz (aZ (aa (kS "call") (aa (af (rd 7) (af (af (rd 0) (kI 4) de) (gP (cg cX (aa (rd 7) ai))) b8) aG) (aa (af (rd 3) (kI 1) aG) (aa (cg lD (aa (rd 9) ai)) ai))))))))
  (fun ρ=>some (.nx ρ)))
  (aH (iP 9 (cw (aa (af (rd 4) (af (rd 1) (gP (cg cX (aa (rd 4) ai))) b8) aG) (aa (af (rd 5) (af (af (rd 1) (kI 8) de) (gP (cg cX (aa (rd 5) ai))) b8) aG) ai))))
  (aH (gp 9 (aa (af (rd 8) (kI 2) de) (aa (af (rd 6) (af (af (rd 1) (kI 64) de) (gP (cg cX (aa (rd 6) ai))) b8) aG) ai)) wX)
  (lA [9] (bz (aZ (aa (kS "call") (aa (af (rd 4) (af (af (rd 0) (kI 4) de) (gP (cg cX (aa (rd 4) ai))) b8) aG) (aa (af (rd 3) (kI 2) aG) (aa (cg lD (aa (rd 9) ai)) ai)))))))))))))
def Hj:=rq (x:="_law_call") (st:=D0) (f:=O3) (n:=10) (by kernel_rfl) (fun c=>by kernel_rfl) (by kernel_rfl)
noncomputable def xO(c:CF):FS :=
 (aH (gk (toB (af (rd 0) (kS "drop") dU))
  (aH (bg (bH (eQ [none,none,none,none] (cJ (rd 3)) (cC 3 (ax (ao 1) (ax (ao 2) (ax (ao 3) cB)))) (j3 (toB (af (rd 1) (kI 1) aG))) (rd 1))) (ao 4))
  (bz (aZ (aa (kS "drop") (aa (af (rd 4) (af (rd 1) (cg cX (aa (rd 4) ai)) b8) aG) ai)))))
  (fun ρ=>some (.nx ρ)))
  (aH (bg (bH (eQ [none,none,none,none] (cJ (rd 3)) (cC 3 (ax (ao 1) (ax (ao 2) (ax (ao 3) cB)))) (gA (toB (af (af (rd 2) (kI 0) aG) (kS "strip") dU)) (toB (rd 3))) (rd 1))) (ao 5))
  (aH (gk (gA (toB (af (rd 0) (kS "fill") dU)) (toB (af (rd 5) (bH (cw ai)) t8)))
  (bz (aZ (aa (kS "fill") (aa (af (rd 5) (af (rd 1) (cg cX (aa (rd 5) ai)) b8) aG) (aa (rd 2) ai)))))
  (fun ρ=>some (.nx ρ)))
  (bz (aZ (aa (kS "say") (aa (rd 2) ai)))))))
def sU:=rq (x:="_law_small_row") (st:=mW) (f:=xO) (n:=6) (by kernel_rfl) (fun c=>by kernel_rfl) (by kernel_rfl)
noncomputable def TR(c:CF):FS :=
 (aH (bg (rd 2) (cC 6 (ax (ao 3) (ax (ao 4) (ax (ao 5) (ax (ao 6) (ax (ao 7) (ax (ao 8) cB))))))))
  (aH (bg (aD (aP 2 (c "_law_mixed")) (aa (rd 0) (aa (kI 1) ai))) (ao 9))
  (aH (bg (aD (aP 2 (c "_law_mixed")) (aa (rd 0) (aa (kI 2) ai))) (ao 10))
  (aH (bg (af (rd 3) (af (aD (aP 2 (c "_law_mixed")) (aa (rd 0) (aa (kI 0) ai))) (cg cX (aa (rd 3) ai)) b8) aG) (ao 11))
  (aH (bg (bH (eQ [none,none,none] (cJ (rd 6)) (cC 2 (ax (ao 1) (ax (ao 2) cB))) (toB (rd 2)) (rd 1))) (ao 12))
  (aH (bg (aD (aP 3 (c "_law_operand")) (aa (rd 0) (aa (rd 10) (aa (rd 6) ai)))) (ao 13))
  (aH (gk (toB (af (rd 11) (kS "put") dU))
  (bz (aZ (aa (kS "put") (aa (af (rd 12) (af (rd 9) (cg cX (aa (rd 12) ai)) b8) aG) (aa (rd 13) ai)))))
  (fun ρ=>some (.nx ρ)))
  (aH (gk (toB (af (rd 11) (kS "set") dU))
  (bz (aZ (aa (kS "set") (aa (af (rd 12) (af (rd 9) (cg cX (aa (rd 12) ai)) b8) aG) (aa (af (kS "+-*") (af (rd 10) (kI 3) b8) aG) (aa (rd 13) (aa (aD (aP 3 (c "_law_operand")) (aa (af (rd 0) (kI 7) de) (aa (rd 9) (aa (rd 6) ai)))) ai)))))))
  (fun ρ=>some (.nx ρ)))
  (aH (gk (toB (af (rd 11) (aZ (aa (kS "copy") (aa (kS "move") ai))) (pU false)))
  (bz (aD (aP 4 (c "_law_carried")) (aa (rd 11) (aa (rd 9) (aa (rd 10) (aa (rd 5) ai))))))
  (fun ρ=>some (.nx ρ)))
  (aH (gk (toB (af (rd 11) (kS "lend") dU))
  (bz (aD (aP 4 (c "_law_lending")) (aa (rd 9) (aa (rd 10) (aa (rd 4) (aa (rd 5) ai))))))
  (fun ρ=>some (.nx ρ)))
  (aH (gk (toB (af (rd 11) (kS "call") dU))
  (bz (aD (aP 3 (c "_law_call")) (aa (rd 9) (aa (rd 10) (aa (rd 7) ai)))))
  (fun ρ=>some (.nx ρ)))
  (aH (gk (toB (af (rd 11) (kS "give") dU))
  (bz (rd 8))
  (fun ρ=>some (.nx ρ)))
  (aH (gk (toB (af (rd 11) (kS "go") dU))
  (bz (aZ (aa (kS "go") (aa (af (rd 9) (rd 1) b8) ai))))
  (fun ρ=>some (.nx ρ)))
  (aH (gk (toB (af (rd 11) (kS "if") dU))
  (bz (aZ (aa (kS "if") (aa (rd 13) (aa (af (rd 10) (kI 97) b8) (aa (af (rd 9) (rd 1) b8) ai))))))
  (fun ρ=>some (.nx ρ)))
  (bz (aD (aP 4 (c "_law_small_row")) (aa (rd 11) (aa (rd 9) (aa (rd 13) (aa (rd 5) ai))))))))))))))))))))
def Ll:=rq (x:="_law_row") (st:=II) (f:=TR) (n:=14) (by kernel_rfl) (fun c=>by kernel_rfl) (by kernel_rfl)
noncomputable def Dw(c:CF):FS :=
 (aH (bg (aD (aP 2 (c "_law_names")) (aa (af (aD (aP 2 (c "_law_cell_at")) (aa (rd 0) (aa (kI 0) ai))) (af (kI 10) (kI 12) zq) b8) (aa (kI 13) ai))) (ao 3))
  (aH (bg (aD (aP 2 (c "_law_lets")) (aa (rd 0) (aa (rd 3) ai))) (ao 4))
  (aH (bg (aD (aP 2 (c "_law_mixed")) (aa (aD (aP 2 (c "_law_cell_at")) (aa (rd 0) (aa (kI 0) ai))) (aa (kI 3) ai))) (ao 5))
  (aH (bg (af (af (rd 5) (kI 1024) de) (kI 6) b8) (ao 6))
  (aH (iP 7 (cw (aa (aZ (aa (af (rd 3) (kI 8) aG) (aa (af (af (rd 4) (kI 4) aG) (kI 1) aG) ai))) (aa (aZ (aa (af (rd 3) (kI 9) aG) (aa (af (af (rd 4) (kI 1) aG) (kI 1) aG) ai))) ai))))
  (aH (gk (iC (toB (af (af (rd 6) (kI 2) b8) (kI 1) dU)))
  (zm 7 N8)
  (fun ρ=>some (.nx ρ)))
  (aH (lA [7] (bg (af (rd 7) (rd 4) bW) (ao 8)))
  (aH (bg (af (bH (cw (aa (cK .cG) (aa (af (af (af (rd 4) (kI 5) aG) (kI 1) aG) (aZ (aa (aZ ai) ai)) bW) (aa (af (af (af (rd 4) (kI 5) aG) (kI 1) aG) (aZ (aa (aZ (aa (af (rd 3) (kI 8) aG) ai)) ai)) bW) (aa (af (af (rd 4) (kI 2) aG) (kI 1) aG) ai)))))) (af (rd 5) (kI 4) b8) aG) (ao 9))
  (aH (bg (aZ (aa (kS "give") (aa (af (bH (cw (aa (kS "") (aa (af (rd 3) (kI 5) aG) (aa (af (rd 3) (kI 5) aG) (aa (af (rd 3) (kI 2) aG) ai)))))) (af (rd 5) (kI 4) b8) aG) ai))) (ao 10))
  (aH (bg (bH (eQ [none,none,none,some 4] (cJ (rd 8)) (cC 2 (ax (ao 1) (ax (ao 2) cB))) (toB (af (rd 2) (af (af (rd 3) (kI 4) aG) (kI 1) aG) dU)) (rd 1))) (ao 11))
  (aH (bg (bH (eQ [none,none,none,some 4] (cJ (rd 8)) (cC 2 (ax (ao 1) (ax (ao 2) cB))) (toB (af (rd 2) (af (af (rd 3) (kI 5) aG) (kI 1) aG) dU)) (rd 1))) (ao 12))
  (aH (bg (bH (eQ [none,none,none,some 4] (cJ (rd 8)) (cC 2 (ax (ao 1) (ax (ao 2) cB))) (toB (af (rd 2) (af (af (rd 3) (kI 1) aG) (kI 1) aG) dU)) (rd 1))) (ao 13))
  (aH (bg (af (bH (cw (aa (bH (cw (aa (kS "") ai))) (aa (rd 12) (aa (rd 12) (aa (bH (eQ [none,none,none,some 4] (cJ (rd 8)) (cC 2 (ax (ao 1) (ax (ao 2) cB))) (toB (af (rd 2) (af (af (rd 3) (kI 2) aG) (kI 1) aG) dU)) (rd 1))) ai)))))) (af (rd 5) (kI 4) b8) aG) (ao 14))
  (aH (bg (aD (aP 1 (c "_law_spots")) (aa (rd 8) ai)) (ao 15))
  (aH (bg (aD (aP 3 (c "_law_numbers")) (aa (rd 15) (aa (af (rd 3) (kI 0) aG) (aa (af (af (rd 5) (kI 16) de) (kI 64) b8) ai)))) (ao 16))
  (aH (bg (aZ (aa (rd 2) (aa (rd 8) (aa (rd 15) (aa (rd 16) (aa (aZ (aa (cutE (rd 3) (j0 (kI 10)) Nu) (aa (rd 11) (aa (rd 12) (aa (rd 13) (aa (rd 14) (aa (rd 6) ai))))))) (aa (rd 10) ai))))))) (ao 17))
  (aH (bg (cutE (rd 0) (j0 (kI 8)) (j0 (af (kI 8) (rd 1) bW))) (ao 18))
  (aH (bg (af (bH (dD [none,none,some 18,some 17] (cJ (rd 18)) (ao 1) (aD (aP 3 (c "_law_row")) (aa (rd 1) (aa (af (cg cX (aa (rd 2) ai)) (kI 1) bW) (aa (rd 3) ai)))))) (bH (cw (aa (rd 10) ai))) bW) (ao 19))
  (aH (bg (af (bH (cw (aa (aZ ai) (aa (aZ (aa (af (rd 3) (kI 0) aG) ai)) (aa (aZ (aa (af (rd 3) (kI 1) aG) ai)) (aa (aZ (aa (af (rd 3) (kI 0) aG) (aa (af (rd 3) (kI 1) aG) ai))) ai)))))) (af (af (rd 5) (kI 4) de) (kI 4) b8) aG) (ao 20))
  (aH (iP 21 (cw (aa (aZ (aa (af (rd 3) (kI 0) aG) (aa (af (af (rd 4) (kI 4) aG) (kI 1) aG) ai))) (aa (aZ (aa (af (rd 3) (kI 1) aG) (aa (af (af (rd 4) (kI 5) aG) (kI 1) aG) ai))) ai))))
  (aH (gp 21 (aa (af (rd 6) (kI 2) de) (aa (aZ (aa (af (rd 3) (kI 2) aG) (aa (af (af (rd 4) (kI 1) aG) (kI 1) aG) ai))) ai)) wX)
  (aH (lA [21] (bg (aZ (aa (af (rd 3) (kI 12) aG) (aa (cg lD (aa (rd 21) ai)) (aa (af (af (af (rd 4) (kI 4) aG) (kI 1) aG) (aZ (aa (rd 20) ai)) bW) (aa (aZ ai) (aa (aZ (aa (aZ (aa (kS "give") (aa (af (rd 3) (kI 0) aG) ai))) ai)) ai)))))) (ao 22)))
  (aH (lA [7] (bg (aZ (aa (af (rd 3) (kI 11) aG) (aa (cg lD (aa (rd 7) ai)) (aa (rd 9) (aa (cg lD (aa (rd 4) ai)) (aa (cg lD (aa (rd 19) ai)) ai)))))) (ao 23)))
  (bz (aZ (aa (aZ (aa (af (rd 3) (kI 10) aG) (aa (aZ ai) (aa (cK .cG) (aa (aZ ai) (aa (aZ (aa (aZ (aa (kS "give") (aa (kS "") ai))) ai)) ai)))))) (aa (rd 23) (aa (rd 22) ai))))))))))))))))))))))))))))
def xP:=rq (x:="_law_program") (st:=rj) (f:=Dw) (n:=24) (by kernel_rfl) (fun c=>by kernel_rfl) (by kernel_rfl)
noncomputable def Lm(c:CF):FS :=
 (bz (zd (Qq .int (rd 0)) (Ge (Qq .bool (rd 0)))))
def Dx:=rq (x:="_law_whole") (st:=yM) (f:=Lm) (n:=1) (by kernel_rfl) (fun c=>by kernel_rfl) (by kernel_rfl)
noncomputable def jc(c:CF):FS :=
 (gk (gA (toB (af (af (rd 5) (kI 0) aG) (af (rd 4) (kI 0) aG) dU)) (gA (toB (af (af (rd 5) (kI 1) aG) (aZ (aa (kS "lend") (aa (kS "sole") ai))) (pU false))) (toB (af (af (rd 5) (kI 6) aG) (rd 2) dU))))
  (bz (chain (kI 0) (rd 3) (af (rd 5) (kI 5) aG) Nq Er))
  (fun ρ=>some (.nx ρ)))
noncomputable def Hk(c:CF):FS :=
 (aH (bg (af (rd 0) (rd 1) aG) (ao 4))
  (aH (gk (toB (af (af (rd 4) (kI 1) aG) (kS "hand") dU))
  (aH (gZ (cJ (rd 0)) (ao 5) (jc c))
  (bz (cK (.bl false))))
  (fun ρ=>some (.nx ρ)))
  (bz (zd (af (rd 4) (kI 3) aG) (zd (af (af (rd 4) (kI 2) aG) (rd 2) dU) (chain (af (rd 4) (kI 4) aG) (rd 3) (af (af (rd 4) (kI 4) aG) (af (rd 4) (kI 5) aG) bW) Nq Er))))))
def AG:=rq (x:="_law_itself") (st:=uK) (f:=Hk) (n:=6) (by kernel_rfl) (fun c=>by kernel_rfl) (by kernel_rfl)
noncomputable def qz(c:CF):FS :=
 (aH (bg (af (rd 5) (rd 6) aG) (cC 4 (ax (ao 7) (ax (ao 8) (ax (ao 9) (ax (ao 10) cB))))))
  (aH (gk (zc (j3 (toB (aD (aP 1 (c "_law_whole")) (aa (rd 10) ai)))) (zc (toB (af (rd 10) (rd 6) Qn)) (toB (af (rd 10) (Gw (kI 1)) Er))))
  (bz (cK (.bl false)))
  (fun ρ=>some (.nx ρ)))
  (aH (gk (toB (af (af (rd 10) (Gw (kI 1)) dU) (aD (aP 4 (c "_law_itself")) (aa (rd 3) (aa (rd 7) (aa (rd 8) (aa (rd 9) ai))))) t8))
  (bz (cK (.bl false)))
  (fun ρ=>some (.nx ρ)))
  (gk (toB (af (rd 10) (kI 0) Qn))
  (aH (bg (af (rd 5) (rd 10) aG) (ao 11))
  (gk (zc (toB (af (af (rd 11) (kI 1) aG) (rd 8) t8)) (zc (toB (af (af (rd 11) (kI 2) aG) (rd 9) t8)) (zc (toB (af (af (rd 11) (kI 0) aG) (af (rd 4) (rd 7) aG) (pU true))) (toB (af (af (af (rd 3) (rd 7) aG) (kI 6) aG) (rd 8) dU)))))
  (bz (cK (.bl false)))
  (fun ρ=>some (.nx ρ))))
  (fun ρ=>some (.nx ρ))))))
noncomputable def XX(c:CF):FS :=
 (aH (bg (bH (cw (aa (kS "put") (aa (kS "set") (aa (kS "fill") (aa (kS "copy") (aa (kS "move") (aa (kS "drop") (aa (kS "lend") (aa (kS "lend") (aa (kS "lend") (aa (kS "lend") (aa (kS "call") (aa (kS "call") ai)))))))))))))) (ao 1))
  (aH (bg (aD (aP 3 (c "_law_program")) (aa (rd 0) (aa (kI 16) (aa (af (rd 1) (bH (cw (aa (kS "call") (aa (kS "if") (aa (kS "if") (aa (kS "go") (aa (kS "say") (aa (kS "put") (aa (kS "give") ai))))))))) bW) ai)))) (ao 2))
  (aH (bg (aD (aP 2 (c "acts")) (aa (rd 2) (aa (kI 1) ai))) (ao 3))
  (aH (bg (aD (aP 2 (c "nexts")) (aa (rd 2) (aa (kI 1) ai))) (ao 4))
  (aH (bg (aD (aP 2 (c "needs")) (aa (rd 2) (aa (kI 1) ai))) (ao 5))
  (aH (gZ (gG (aa (cg cX (aa (rd 5) ai)) ai)) (ao 6) (qz c))
  (bz (cK (.bl true)))))))))
def O4:=rq (x:="law") (st:=IJ) (f:=XX) (n:=12) (by kernel_rfl) (fun c=>by kernel_rfl) (by kernel_rfl)
theorem eE{α:Type}{F:PV->bU}{e:α->PV}{G:α->PV}:∀{l:List α},(∀x∈l,F (e x)=some (G x))->iB F (l.map e)=some (l.map G)
 | [],_=>rfl
 | x::r,h=>by
  rw[bR,iB,h x b6,eE fun y hy=>h y (bQ _ hy)]
  rfl
theorem Hl(ns:List Int):CB [.au (ns.map .int)]=some (.int ns.sum):=by
 show(iY _).map _=_;rw[vm];rfl
@[simp] theorem Ln{x y:Str}:bW (.str x) (.str y)=sizeOk (x.length+y.length) (.str (x++y)):=rfl
def E4:Sh->Str
 | .num=>"num"
 | .own=>"own"
 | .c7 _=>"strip"
 | .bL _=>"rec"
@[simp] theorem AH(s:Sh):aG (enc s) (.int 0)=some (.str (E4 s)):=by cases s<;>simp[enc,E4]
inductive Kd where
 | ow (s:Sh) | ho (af8:Bool) (s:Sh)
def hw(b:Bool):Str:=if b then "sole" else "lent"
def dr:Kd->PV
 | .ow s=>enc s
 | .ho b s=>.aB [.str (hw b),enc s]
def c6:Kd->Sh
 | .ow s=>s
 | .ho _ s=>s
def ie:Kd->Bool
 | .ow _=>false
 | .ho _ _=>true
def kw:Kd->Str
 | .ow s=>E4 s
 | .ho b _=>hw b
@[simp] theorem kQ(k:Kd):aG (dr k) (.int 0)=some (.str (kw k)):=by cases k<;>simp[dr,kw]
theorem XY(x a b:Str):pU false (.str x) (.aB [.str a,.str b])=some (.bl (a==x || b==x)):=by
 show(if eA [PV.str a,.str b]<=hJ then some (PV.bl (Cy (.str x) [.str a,.str b]))else none)=_
 rw[if_pos (by simp[eA,iX])]
 simp[Cy,eqT]
theorem acv:((Str.ofString "lent")==(Str.ofString "num") || (Str.ofString "sole")==(Str.ofString "num"))=false:=by decide +kernel
theorem acw:((Str.ofString "lent")==(Str.ofString "own") || (Str.ofString "sole")==(Str.ofString "own"))=false:=by decide +kernel
theorem acx:((Str.ofString "lent")==(Str.ofString "strip") || (Str.ofString "sole")==(Str.ofString "strip"))=false:=by decide +kernel
theorem acy:((Str.ofString "lent")==(Str.ofString "rec") || (Str.ofString "sole")==(Str.ofString "rec"))=false:=by decide +kernel
theorem acz:((Str.ofString "lent")==(Str.ofString "lent") || (Str.ofString "sole")==(Str.ofString "lent"))=true:=by decide +kernel
theorem acA:((Str.ofString "lent")==(Str.ofString "sole") || (Str.ofString "sole")==(Str.ofString "sole"))=true:=by decide +kernel
theorem Lo(k:Kd):((Str.ofString "lent")==kw k || (Str.ofString "sole")==kw k)=ie k:=by
 cases k with
 | ow s =>
  cases s with
  | num=>exact acv
  | own=>exact acw
  | c7 n=>exact acx
  | bL ps=>exact acy
 | ho b s =>
  cases b with
  | false=>exact acz
  | true=>exact acA
theorem xQ(k:Kd):pU false (.str (kw k)) (.aB [.str "lent",.str "sole"])=some (.bl (ie k)):=by rw[XY,Lo]
theorem TU(b:Bool)(s:Sh):aG (dr (.ho b s)) (.int 1)=some (enc s):=by simp[dr]
abbrev Rk:=Str×Kd
def bN(r:Rk):PV:=.aB [.str r.1,dr r.2]
def nR:List Rk->Str->Option Kd
 | [],_=>none
 | r::l,x=>if r.1=x then some r.2 else nR l x
theorem vq:∀(l:List Rk) (r:Rk),(l.map (·.1)).Nodup->r∈l->nR l r.1=some r.2
 | s::l,r,hn,h=>by
  rw[bR,fu]at hn;rcases bc.mp h with rfl | h
  ·rw[nR,if_pos rfl]
  ·rw[nR,if_neg,vq l r hn.2 h];intro e;exact hn.1 (bG.mpr ⟨r,h,e.symm⟩)
def acB:Option Kd->dA
 | some p=>some (.val (dr p))
 | none=>none
theorem Hm(c:fV)(f:Ent)(x:Str)(R:List Rk):∀(o2 o3:Ent),∃ρ,fy (cC 2 (ax (ao 2) (ax (ao 3) cB))) (i9 c) (R.map bN) [f,.val (.str x),o2,o3]=some (match nR R x with | some p=>.rt (.val (dr p)) | none=>.nx ρ):=by
 induction R with
 | nil=>exact fun o2 o3=>⟨_,rfl⟩
 | cons r R ih =>
  intro o2 o3;obtain⟨ρ,e⟩:=ih (.val (.str r.1)) (.val (dr r.2));refine⟨ρ,?_⟩;rw[bR,ij];have t:cC 2 (ax (ao 2) (ax (ao 3) cB)) (bN r) [f,.val (.str x),o2,o3]=some [f,.val (.str x),.val (.str r.1),.val (dr r.2)]:=rfl;rw[t,aV,sN,nR];by_cases h:r.1=x
  ·simp[h]
  ·rw[if_neg h];simp[h];exact e
def Dy(nm res body:PV)(R1 R2:List Rk):PV:=.aB [nm,.aB (R1.map bN),res,.aB (R2.map bN),body]
theorem Hn(k:Nat)(n res body:PV)(R1 R2:List Rk)(x:Str)(h:R1.length+R2.length<=1000):run bC (k+1) "kind_of" [Dy n res body R1 R2,.str x]=acB (nR (R1++R2) x):=by
 rw[Ao];obtain⟨ρ,e⟩:=Hm (run bC k) (.val (Dy n res body R1 R2)) x (R1++R2) .un .un;have hs:bW (.aB (R1.map bN)) (.aB (R2.map bN))=some (.aB ((R1++R2).map bN)):=by
  rw[cY];exact aT (by simp;lia)
 have a0:gZ (cJ (af (af (rd 0) (kI 1) aG) (af (rd 0) (kI 3) aG) bW)) (cC 2 (ax (ao 2) (ax (ao 3) cB))) (i9 (run bC k)) [.val (Dy n res body R1 R2),.val (.str x),.un,.un]=some (match nR (R1++R2) x with | some p=>.rt (.val (dr p)) | none=>.nx ρ):=by
  refine fS ?_ e;rw[EU,b2 (b2 rfl rfl rfl) (b2 rfl rfl rfl) hs];rfl
 rw[aU];show fY (oX (run bC k) [.val (Dy n res body R1 R2),.val (.str x),.un,.un])=_;unfold oX;cases hf:nR (R1++R2) x with
 | none =>
  rw[hf]at a0;rw[fO a0];rfl
 | some p =>
  rw[hf]at a0;rw[jq a0];rfl
theorem gV(k:Nat)(d:Kd):run bC (k+1) "is_holder" [dr d]=some (.val (.bl (ie d))):=by
 rw[uk];have h:=xQ d;rw[aU];show fY (bz _ [.val (dr d)])=_;rw[rS (b2 (b2 rfl rfl (kQ d)) rfl h)];rfl
theorem Dz(k:Nat)(d:Kd):run bC (k+2) "shape_of" [dr d]=some (.val (enc (c6 d))):=by
 rw[xA];have h:=gV k d;have t:t6 (toB (aD (aP 1 (run bC (k+1) "is_holder")) (aa (rd 0) ai))) (af (rd 0) (kI 1) aG) (rd 0) [.val (dr d)]=some (enc (c6 d)):=by
  have q:toB (aD (aP 1 (run bC (k+1) "is_holder")) (aa (rd 0) ai)) [.val (dr d)]=some (ie d):=bT (dO (cA rfl rfl) rfl h rfl);rw[ES,q];cases d with
  | ow s=>rfl
  | ho b s=>rfl
 rw[aU];show fY (bz _ [.val (dr d)])=_;rw[rS t];rfl
theorem LA:fE (run bC):=⟨fun k ps=>Df k ps⟩
theorem E5{ps:List Sh}{i:Int}{y:Sh}(h0:0<=i)(hg:ps[i.toNat]?=some y):atI (cW ps) i=some (enc y):=by
 have:=dk (xs:=cW ps) (j:=i.toNat) (v:=enc y) (by rw[gU,cu,hg];rfl)
 rw[vN h0]at this;exact this
def xT{α:Type}:Option α->dA
 | some _=>some (.val .cG)
 | none=>none
theorem E6(k:Nat)(s:Sh)(i:Int):run bC (k+1) "check_part" [enc s,.int i]=xT (Bl s i):=by
 rw[sM];cases s with
 | num=>simp[gv,enc,Bl,xT,fY]
 | own=>simp[gv,enc,Bl,xT,fY]
 | c7 n=>simp[gv,enc,Bl,xT,fY]
 | bL ps =>
  simp[gv,enc,jG];by_cases h0:0<=i
  ·by_cases h1:i<(ps.length:Int)
   ·have:i.toNat<ps.length:=by lia
    simp[h0,h1,Bl,du this,xT,fY]
   ·have:ps.length<=i.toNat:=by lia
    simp[h0,h1,Bl,l0 this,xT,fY]
  ·simp[h0,Bl,xT,fY]
theorem AI{s:Sh}{i:Int}{x:Sh×Int}(h:Bl s i=some x):∃ps,s=.bL ps/\0<=i/\ps[i.toNat]?=some x.1/\x.2=((ik (ps.take i.toNat)).length:Int):=by
 cases s with
 | bL ps =>
  simp only[Bl]at h;by_cases h0:0<=i
  ·rw[if_pos h0]at h;cases hg:ps[i.toNat]? with
   | none=>rw[hg]at h;simp at h
   | some y=>rw[hg]at h;simp at h;subst h;exact⟨ps,rfl,h0,hg,rfl⟩
  ·rw[if_neg h0]at h;cases h
 | num=>simp[Bl]at h
 | own=>simp[Bl]at h
 | c7 n=>simp[Bl]at h
theorem vv(k:Nat)(S P:Ent):∀(p:List Int) (s:Sh) (a:Int) (o:Ent) (s':Sh) (a':Int),walk s a p=some (s',a')->∃o',fy (ao 3) (nO (run bC (k+1))) (p.map .int) [S,P,.val (enc s),o]=some (.nx [S,P,.val (enc s'),o'])
 | [],s,a,o,s',a',h=>by
  simp[walk]at h;obtain⟨rfl,rfl⟩:=h;exact⟨o,by simp⟩
 | i::p,s,a,o,s',a',h=>by
  obtain⟨x,hx,hw⟩:=vJ.mp (show(Bl s i).bind (fun x=>walk x.1 (a+x.2) p)=some (s',a')from h)
  have hc:=E6 k s i;rw[hx]at hc;obtain⟨ps,rfl,h0,hg,_⟩:=AI hx;obtain⟨o',q⟩:=vv k S P p x.1 (a+x.2) (.val (.int i)) s' a' hw;refine⟨o',?_⟩;have uf:=E5 h0 hg;have body:nO (run bC (k+1)) [S,P,.val (enc (.bL ps)),.val (.int i)]=some (.nx [S,P,.val (enc x.1),.val (.int i)]):=by
   unfold nO;have a0:pO (aD (aP 2 (run bC (k+1) "check_part")) (aa (rd 2) (aa (rd 3) ai))) [S,P,.val (enc (.bL ps)),.val (.int i)]=some (.nx [S,P,.val (enc (.bL ps)),.val (.int i)]):=by
    simp[hc,xT,fY]
   rw[fO a0];simp[enc,uf]
  simp only[bR,ij];have:ao 3 (.int i) [S,P,.val (enc (.bL ps)),o]=some [S,P,.val (enc (.bL ps)),.val (.int i)]:=by simp
  rw[this,aV,body,aV,qx];exact q
theorem TV(k:Nat)(s:Sh)(p:List Int)(x:Sh×Int)(h:walk s 0 p=some x):run bC (k+2) "part" [enc s,.aB (p.map .int)]=some (.val (enc x.1)):=by
 rw[Ld];obtain⟨o',q⟩:=vv k (.val (enc s)) (.val (.aB (p.map .int))) p s 0 .un x.1 x.2 h;rw[aU];show fY (Dg (run bC (k+1)) [.val (enc s),.val (.aB (p.map .int)),.un,.un])=_;unfold Dg;have a0:bg (rd 0) (ao 2) [.val (enc s),.val (.aB (p.map .int)),.un,.un]=some (.nx [.val (enc s),.val (.aB (p.map .int)),.val (enc s),.un]):=aS rfl rfl;rw[fO a0,fO (fS rfl q),rS (p:=enc x.1) rfl];rfl
theorem O5(k:Nat)(ps:List Sh)(q:Nat)(hd:sv ps<=k)(hl:(ik ps).length<=1000)(hn:ps.length<=1000)(a b d:Ent) :
  cg CB (aa (bH (dD [none,none] (cJ (cutE (af (rd 2) (kI 1) aG) Nu (j0 (rd 4)))) (ao 1) (cg cX (aa (aD (aP 1 (run bC (k+1) "leaves")) (aa (rd 1) ai)) ai)))) ai) [a,b,.val (enc (.bL ps)),d,.val (.int (q:Int))]=some (.int ((ik (ps.take q)).length:Int)):=by
 have hm:∀s∈ps.take q,run bC (k+1) "leaves" [enc s]=some (.val (.aB (cW (lv s)))):=fun s hs=>fE.each (LA) ps k hd (by lia) s (List.mem_of_mem_take hs)
 have acC:∀l:List Sh,(l.map fun s=>((lv s).length:Int)).sum=((ik l).length:Int):=by
  intro l;induction l with
  | nil=>simp[ik]
  | cons s l ih=>simp[ik,ih]
 have r9:cJ (cutE (af (rd 2) (kI 1) aG) Nu (j0 (rd 4))) [a,b,.val (enc (.bL ps)),d,.val (.int (q:Int))]=some ((ps.take q).map enc):=by
  have XZ:=TM (cW ps) q;rw[gU,<-List.map_take]at XZ;simp[enc,gU,XZ]
 have e1:iB (fun p=>(ao 1 p (bj [none,none] [a,b,.val (enc (.bL ps)),d,.val (.int (q:Int))])).bind (cg cX (aa (aD (aP 1 (run bC (k+1) "leaves")) (aa (rd 1) ai)) ai))) ((ps.take q).map enc)=some (((ps.take q).map fun s=>((lv s).length:Int)).map .int):=by
  rw[fw];refine eE fun s hs=>?_
  simp[hm s hs,jG]
 have e2:=Hl ((ps.take q).map fun s=>((lv s).length:Int))
 rw[acC]at e2;refine bV (cA (fF ?_) rfl) e2;rw[zZ,r9,aV,if_pos (lU (by simp;lia))]
 exact e1
theorem TX{ps:List Sh}{y:Sh}(h:y∈ps):dp y<=sv ps:=by
 induction ps with
 | nil=>cases h
 | cons z zs ih =>
  simp only[sv];rcases bc.mp h with rfl | hm
  ·lia
  ·have:=ih hm
   lia
theorem sW(k:Nat)(S P:Ent):∀(p:List Int) (s:Sh) (a:Int) (o:Ent) (s':Sh) (a':Int),(tab s).length<=500->dp s<=k->walk s a p=some (s',a')->∃o',fy (ao 4) (lj (run bC (k+1))) (p.map .int) [S,P,.val (enc s),.val (.int a),o]=some (.nx [S,P,.val (enc s'),.val (.int a'),o'])
 | [],s,a,o,s',a',_,_,h=>by
  simp[walk]at h;obtain⟨rfl,rfl⟩:=h;exact⟨o,by simp⟩
 | i::p,s,a,o,s',a',ht,hd,h=>by
  obtain⟨x,hx,hw⟩:=vJ.mp (show(Bl s i).bind (fun x=>walk x.1 (a+x.2) p)=some (s',a')from h)
  have hc:=E6 k s i;rw[hx]at hc;obtain⟨ps,rfl,h0,hg,hx2⟩:=AI hx;have J3:x.1∈ps:=cj hg;have GI:=G5 J3;have htl:(tab (.bL ps)).length=jr ps+1:=by simp only[tab,bq,iI]
  have hll:=C8 ps;have hnl:=Ah ps;have hdm:=TX J3;have hdd:sv ps+1<=k:=by simpa only[dp]using hd
  obtain⟨o',q⟩:=sW k S P p x.1 (a+x.2) (.val (.int i)) s' a' (by lia) (by lia) hw
  refine⟨o',?_⟩;have Lp:=O5 k ps i.toNat (by lia) (by lia) (by lia) S P (.val (.int a))
  rw[vN h0,<-hx2]at Lp;have uf:=E5 h0 hg;have body:lj (run bC (k+1)) [S,P,.val (enc (.bL ps)),.val (.int a),.val (.int i)]=some (.nx [S,P,.val (enc x.1),.val (.int (a+x.2)),.val (.int i)]):=by
   unfold lj;have a0:pO (aD (aP 2 (run bC (k+1) "check_part")) (aa (rd 2) (aa (rd 4) ai))) [S,P,.val (enc (.bL ps)),.val (.int a),.val (.int i)]=some (.nx [S,P,.val (enc (.bL ps)),.val (.int a),.val (.int i)]):=by
    simp[hc,xT,fY]
   rw[fO a0];have a1:bg (af (rd 3) (cg CB (aa (bH (dD [none,none] (cJ (cutE (af (rd 2) (kI 1) aG) Nu (j0 (rd 4)))) (ao 1) (cg cX (aa (aD (aP 1 (run bC (k+1) "leaves")) (aa (rd 1) ai)) ai)))) ai)) Ot) (ao 3) [S,P,.val (enc (.bL ps)),.val (.int a),.val (.int i)]=some (.nx [S,P,.val (enc (.bL ps)),.val (.int (a+x.2)),.val (.int i)]):=aS (b2 rfl Lp rfl) rfl;rw[fO a1];exact aS (b2 (y:=.int i) (b2 (z:=some (.aB (cW ps))) rfl rfl (by simp[enc])) rfl uf) rfl
  simp only[bR,ij];have:ao 4 (.int i) [S,P,.val (enc (.bL ps)),.val (.int a),o]=some [S,P,.val (enc (.bL ps)),.val (.int a),.val (.int i)]:=by simp
  rw[this,aV,body,aV,qx];exact q
theorem O6(k:Nat)(s:Sh)(p:List Int)(x:Sh×Int)(ht:(tab s).length<=500)(hd:dp s<=k)(h:walk s 0 p=some x):run bC (k+2) "first" [enc s,.aB (p.map .int)]=some (.val (.int x.2)):=by
 rw[G9];obtain⟨o',q⟩:=sW k (.val (enc s)) (.val (.aB (p.map .int))) p s 0 .un x.1 x.2 ht hd h;rw[aU];show fY (xy (run bC (k+1)) [.val (enc s),.val (.aB (p.map .int)),.un,.un,.un])=_;unfold xy;have a0:bg (rd 0) (ao 2) [.val (enc s),.val (.aB (p.map .int)),.un,.un,.un]=some (.nx [.val (enc s),.val (.aB (p.map .int)),.val (enc s),.un,.un]):=aS rfl rfl;have a1:bg (kI 0) (ao 3) [.val (enc s),.val (.aB (p.map .int)),.val (enc s),.un,.un]=some (.nx [.val (enc s),.val (.aB (p.map .int)),.val (enc s),.val (.int 0),.un]):=aS rfl rfl;rw[fO a0,fO a1,fO (fS rfl q),rS (p:=.int x.2) rfl];rfl
mutual
theorem Lq:∀(s:Sh),∀r∈tab s,r.2.2.1=sz r.2.2.2
 | .num,r,h=>by simp[tab]at h;subst h;simp[sz,lv]
 | .own,r,h=>by simp[tab]at h;subst h;simp[sz,lv]
 | .c7 n,r,h=>by simp[tab]at h;subst h;simp[sz,lv]
 | .bL ps,r,h=>by
  simp only[tab,bc]at h;rcases h with rfl | h
  ·simp[sz,lv]
  ·exact E7 ps 0 0 r h
theorem E7:∀(l:List Sh) (k:Nat) (a:Int),∀r∈tabs k a l,r.2.2.1=sz r.2.2.2
 | [],_,_,r,h=>by simp[tabs]at h
 | s::l,k,a,r,h=>by
  simp only[tabs,cR,bG]at h;rcases h with⟨r0,h0,rfl⟩ | h
  ·exact Lq s r0 h0
  ·exact E7 l _ _ r h
end
mutual
theorem xU:∀(s:Sh),∀r∈tab s,dp r.2.2.2<=dp s/\(lv r.2.2.2).length<=(lv s).length
 | .num,r,h=>by simp[tab]at h;subst h;simp
 | .own,r,h=>by simp[tab]at h;subst h;simp
 | .c7 n,r,h=>by simp[tab]at h;subst h;simp
 | .bL ps,r,h=>by
  simp only[tab,bc]at h;rcases h with rfl | h
  ·simp
  ·have:=E8 ps 0 0 r h;simp only[dp,lv]
   lia
theorem E8:∀(l:List Sh) (k:Nat) (a:Int),∀r∈tabs k a l,dp r.2.2.2<=sv l/\(lv r.2.2.2).length<=(ik l).length
 | [],_,_,r,h=>by simp[tabs]at h
 | s::l,k,a,r,h=>by
  simp only[tabs,cR,bG]at h;simp only[sv,ik,bK];rcases h with⟨r0,h0,rfl⟩ | h
  ·have:=xU s r0 h0;simp only[lV]
   lia
  ·have:=E8 l _ _ r h
   lia
end
structure cL where
 w:Str
 n:Str
 t:Bool
 f:Int
 m:Int
 k:Str
def fG(a:cL):PV:=.aB [.str a.w,.str a.n,.bl a.t,.int a.f,.int a.m,.str a.k]
def Lr:cL:=⟨"rest","",false,0,0,""⟩
def gi:cL:=⟨"hand","",false,0,0,""⟩
def EG(x:Str)(th:Bool)(p:List Int)(at_:PV):PV:=.aB [.str x,.bl th,.aB (p.map .int),at_]
def E9(s:Sh):Prop:=(tab s).length<=100/\dp s<=3
def xV(R:Nat->fV)(F:PV)(ks:List Rk):Prop:=∀k,∀r∈ks,run bC (k+1) "kind_of" [F,.str r.1]=some (.val (dr r.2))
def tA(w x:Str)(d:Kd)(r:Rw)(t:Str):cL:=⟨w,x,ie d,r.2.1,r.2.2.1,t⟩
theorem Ec(n res body:PV)(R1 R2:List Rk)(h:R1.length+R2.length<=1000)(hn:((R1++R2).map (·.1)).Nodup):xV (run bC) (Dy n res body R1 R2) (R1++R2):=fun k r hr=>by
 rw[Hn k n res body R1 R2 r.1 h,vq _ r hn hr];rfl
theorem gN{F:PV}{ks:List Rk}(hF:xV (run bC) F ks)(k:Nat)(hk:3<=k)(w t:Str){x:Str}{d:Kd}(hx:(x,d)∈ks)(hs:E9 (c6 d)){r:Rw}(hr:r∈tab (c6 d))(a:PV):run bC (k+3) "touch" [F,.str w,EG x (ie d) r.1 a,.str t]=some (.val (fG (tA w x d r t))):=by
 rw[Hc];have hw:=Ak (c6 d) r hr 0;have hd:=xU (c6 d) r hr;have hl:=EY (c6 d);have h1:=hF (k+1) (x,d) hx;have h2:=Dz k d;have h3:=TV k (c6 d) r.1 _ hw;have h4:=fE.all (LA) r.2.2.2 (k+1) (by have:=hs.2;lia) (by have:=hs.1;lia)
 have h5:=O6 k (c6 d) r.1 _ (by have:=hs.1;lia) (by have:=hs.2;lia) hw
 have h6:=Lq (c6 d) r hr;have e4:r.2.1=0+r.2.1:=by lia
 rw[aU];show fY (xC (run bC (k+2)) [.val F,.val (.str w),.val (EG x (ie d) r.1 a),.val (.str t),.un,.un])=_;unfold xC;have a0:bg (aD (aP 1 (run bC (k+2) "shape_of")) (aa (aD (aP 2 (run bC (k+2) "kind_of")) (aa (rd 0) (aa (af (rd 2) (kI 0) aG) ai))) ai)) (ao 4) [.val F,.val (.str w),.val (EG x (ie d) r.1 a),.val (.str t),.un,.un]=some (.nx [.val F,.val (.str w),.val (EG x (ie d) r.1 a),.val (.str t),.val (enc (c6 d)),.un]) :=
  aS (dO (cA (dO (cA rfl (cA (b2 rfl rfl rfl) rfl)) rfl h1 rfl) rfl) rfl h2 rfl) rfl
 have a1:bg (cg cX (aa (aD (aP 1 (run bC (k+2) "leaves")) (aa (aD (aP 2 (run bC (k+2) "part")) (aa (rd 4) (aa (af (rd 2) (kI 2) aG) ai))) ai)) ai)) (ao 5) [.val F,.val (.str w),.val (EG x (ie d) r.1 a),.val (.str t),.val (enc (c6 d)),.un]=some (.nx [.val F,.val (.str w),.val (EG x (ie d) r.1 a),.val (.str t),.val (enc (c6 d)),.val (.int r.2.2.1)]):=by
  refine aS (bV (cA (dO (cA (dO (cA rfl (cA (b2 rfl rfl rfl) rfl)) rfl h3 rfl) rfl) rfl h4 rfl) rfl) ?_) rfl;rw[h6];simp[sz,jG]
 rw[fO a0,fO a1];have a2:aZ (aa (rd 1) (aa (af (rd 2) (kI 0) aG) (aa (af (rd 2) (kI 1) aG) (aa (aD (aP 2 (run bC (k+2) "first")) (aa (rd 4) (aa (af (rd 2) (kI 2) aG) ai))) (aa (rd 5) (aa (rd 3) ai)))))) [.val F,.val (.str w),.val (EG x (ie d) r.1 a),.val (.str t),.val (enc (c6 d)),.val (.int r.2.2.1)]=some (fG (tA w x d r t)):=by
  refine tU (cA rfl (cA (b2 rfl rfl rfl) (cA (b2 rfl rfl rfl) (cA (dO (cA rfl (cA (b2 rfl rfl rfl) rfl)) rfl h5 rfl) (cA rfl (cA rfl rfl)))))) ?_ |>.trans ?_
  ·simp
  ·show some (PV.aB [.str w,.str x,.bl (ie d),.int (0+r.2.1),.int r.2.2.1,.str t])=_;rw[<-e4];rfl
 rw[rS a2];rfl
theorem iL(s:Sh):(([],0,sz s,s):Rw)∈tab s:=by
 obtain⟨L,e⟩:=Ag s;rw[e];exact b6
theorem fH{F:PV}{ks:List Rk}(hF:xV (run bC) F ks)(k:Nat)(hk:3<=k)(w t:Str){x:Str}{d:Kd}(hx:(x,d)∈ks)(hs:E9 (c6 d)):run bC (k+4) "touch_whole" [F,.str w,.str x,.str t]=some (.val (fG (tA w x d ([],0,sz (c6 d),c6 d) t))):=by
 rw[qe];have h1:=hF (k+2) (x,d) hx;have h2:=gV (k+2) d;have h3:=gN hF k hk w t hx hs (iL (c6 d)) .cG;rw[aU];show fY (jt (run bC (k+3)) [.val F,.val (.str w),.val (.str x),.val (.str t)])=_;unfold jt;exact dh (rS (dO (cA rfl (cA rfl (cA (tU (cA rfl (cA (dO (cA (dO (cA rfl (cA rfl rfl)) rfl h1 rfl) rfl) rfl h2 rfl) (cA rfl (cA rfl rfl)))) (by simp)) (cA rfl rfl)))) rfl h3 rfl))
inductive Ho (ks:List Rk):PV->Prop
 | cG:Ho ks .cG
 | int (i:Int):Ho ks (.int i)
 | str (y:Str) (h:(y,Kd.ow .num)∈ks):Ho ks (.str y)
def Mm:PV->List cL
 | .str y=>[⟨"read",y,false,0,1,""⟩]
 | _=>[]
theorem vw{F:PV}{ks:List Rk}(hF:xV (run bC) F ks)(k:Nat)(hk:3<=k)(x:Str)(th:Bool)(p:List Int){a:PV}(ha:Ho ks a):run bC (k+5) "at_acts" [F,EG x th p a]=some (.val (.au ((Mm a).map fG))):=by
 rw[As,aU];show fY (oY (run bC (k+4)) [.val F,.val (EG x th p a)])=_;unfold oY;cases ha with
 | cG=>exact dh (jq (iT rfl (rS rfl)))
 | int i=>exact dh (jq (iT rfl (rS rfl)))
 | str y h =>
  have h1:=fH hF k hk "read" "" h ⟨by simp[c6,tab],by simp[c6,dp]⟩
  have e:tA "read" y (.ow .num) ([],0,sz (c6 (.ow .num)),c6 (.ow .num)) ""=⟨"read",y,false,0,1,""⟩:=by
   simp[tA,ie,c6,sz,lv]
  rw[e]at h1;exact dh (sq (iF rfl rfl) (rS (fF (lS (cA (dO (cA rfl (cA rfl (cA (b2 rfl rfl rfl) (cA rfl rfl)))) rfl h1 rfl) rfl) (by show 1<=100000;decide)))))
structure Sp where
 x:Str
 d:Kd
 r:Rw
 a:PV
def b9(s:Sp):PV:=EG s.x (ie s.d) s.r.1 s.a
structure eJ (ks:List Rk) (s:Sp):Prop where
 mem:(s.x,s.d)∈ks
 ok:E9 (c6 s.d)
 row:s.r∈tab (c6 s.d)
 at_:Ho ks s.a
def AJ(w:Str)(s:Sp)(t:Str):cL:=tA w s.x s.d s.r t
inductive Op where
 | n (i:Int) | s (s:Sp)
def iM:Op->PV
 | .n i=>.int i
 | .s s=>b9 s
def mD(ks:List Rk):Op->Prop
 | .n _=>True
 | .s s=>eJ ks s
def sX:Op->List cL
 | .n _=>[]
 | .s s=>Mm s.a++[AJ "read" s ""]
theorem xW(a:PV):(Mm a).length<=1:=by
 unfold Mm;split<;>simp
theorem ee{F:PV}{ks:List Rk}(hF:xV (run bC) F ks)(k:Nat)(hk:3<=k){o:Op}(ho:mD ks o):run bC (k+6) "operand_acts" [F,iM o]=some (.val (.au ((sX o).map fG))):=by
 rw[oZ,aU];show fY (iK (run bC (k+5)) [.val F,.val (iM o)])=_;unfold iK;cases o with
 | n i=>exact dh (jq (iT rfl (rS rfl)))
 | s s =>
  obtain⟨h1,h2,h3,h4⟩:=ho;have e1:=vw hF k hk s.x (ie s.d) s.r.1 h4;have e2:=gN hF (k+2) (by lia) "read" "" h1 h2 h3 s.a
  have hl:=xW s.a;refine dh (sq (iF rfl rfl) (rS ?_));refine(b2 (dO (cA rfl (cA rfl rfl)) rfl e1 rfl) (fF (lS (cA (dO (cA rfl (cA rfl (cA rfl (cA rfl rfl)))) rfl e2 rfl) rfl) (by simp))) (aL (by simp;lia))).trans ?_
  rw[sX,cY];rfl
def DA(s:Sp):List cL:=match s.a with
 | .cG=>[AJ "fill" s ""]
 | a=>Mm a++[AJ "turn" s ""]
theorem lX{F:PV}{ks:List Rk}(hF:xV (run bC) F ks)(k:Nat)(hk:3<=k){s:Sp}(hs:eJ ks s):run bC (k+6) "target_acts" [F,b9 s]=some (.val (.au ((DA s).map fG))):=by
 rw[qf,aU];show fY (ju (run bC (k+5)) [.val F,.val (b9 s)])=_;unfold ju;obtain⟨h1,h2,h3,h4⟩:=hs;have e1:=vw hF k hk s.x (ie s.d) s.r.1 h4;have ef:=gN hF (k+2) (by lia) "fill" "" h1 h2 h3 s.a
 have et:=gN hF (k+2) (by lia) "turn" "" h1 h2 h3 s.a
 obtain⟨x,d,r,a⟩:=s;have hl:=xW a;have tW:∀(z:UG a .cG=some (.bl false)) (q:DA ⟨x,d,r,a⟩=Mm a++[AJ "turn" ⟨x,d,r,a⟩ ""]),fY (aH (gk (toB (af (af (rd 1) (kI 3) aG) (cK .cG) UG)) (bz (bH (cw (aa (aD (aP 4 (run bC (k+5) "touch")) (aa (rd 0) (aa (kS "fill") (aa (rd 1) (aa (kS "") ai))))) ai)))) (fun ρ=>some (.nx ρ))) (bz (af (aD (aP 2 (run bC (k+5) "at_acts")) (aa (rd 0) (aa (rd 1) ai))) (bH (cw (aa (aD (aP 4 (run bC (k+5) "touch")) (aa (rd 0) (aa (kS "turn") (aa (rd 1) (aa (kS "") ai))))) ai))) bW)) [.val F,.val (b9 ⟨x,d,r,a⟩)])=some (.val (.au ((DA ⟨x,d,r,a⟩).map fG))):=by
  intro z q;refine dh (sq (iF (bT (b2 (b2 rfl rfl rfl) rfl z)) rfl) (rS ?_));refine(b2 (dO (cA rfl (cA rfl rfl)) rfl e1 rfl) (fF (lS (cA (dO (cA rfl (cA rfl (cA rfl (cA rfl rfl)))) rfl et rfl) rfl) (by simp))) (aL (by simp only[aC,bq,jk];lia))).trans ?_
  rw[q,cY];rfl
 cases h4 with
 | cG=>exact dh (jq (iT (bT (b2 (b2 rfl rfl rfl) rfl rfl)) (rS (fF (lS (cA (dO (cA rfl (cA rfl (cA rfl (cA rfl rfl)))) rfl ef rfl) rfl) (by show 1<=100000;decide))))))
 | int i=>exact tW rfl rfl
 | str y h=>exact tW rfl rfl
section
def gw(as:List cL):PV:=.au (as.map fG)
theorem jv(o:Op):(sX o).length<=2:=by
 cases o with
 | n i=>simp[sX]
 | s s=>have:=xW s.a;simp[sX];lia
theorem xX(s:Sp):(DA s).length<=2:=by
 unfold DA;split
 ·simp
 ·rename_i a _;have:=xW s.a;simp
  lia
section
variable {F:PV} {ks:List Rk} (hF:xV (run bC) F ks) (k:Nat) (hk:3<=k)
include hF hk
theorem DB(w:Str){s:Sp}(hs:eJ ks s){o:Op}(ho:mD ks o):run bC (k+7) "put_acts" [F,.aB [.str w,b9 s,iM o]]=some (.val (gw (sX o++DA s))):=by
 rw[xD,aU];have h1:=ee hF k hk ho;have h2:=lX hF k hk hs;have l1:=jv o;have l2:=xX s;unfold gw;rw[cY];exact dh (rS (b2 (dO (cA rfl (cA (b2 rfl rfl rfl) rfl)) rfl h1 rfl) (dO (cA rfl (cA (b2 rfl rfl rfl) rfl)) rfl h2 rfl) (aL (by simp only[aC];lia))))
theorem DC(w:Str){s:Sp}(hs:eJ ks s)(q:PV){a b:Op}(ha:mD ks a)(hb:mD ks b):run bC (k+7) "set_acts" [F,.aB [.str w,b9 s,q,iM a,iM b]]=some (.val (gw (sX a++sX b++DA s))):=by
 rw[xE,aU];have h1:=ee hF k hk ha;have h3:=ee hF k hk hb;have h2:=lX hF k hk hs;have l1:=jv a;have l3:=jv b;have l2:=xX s;unfold gw;rw[cY,cY];exact dh (rS (b2 (b2 (dO (cA rfl (cA (b2 rfl rfl rfl) rfl)) rfl h1 rfl) (dO (cA rfl (cA (b2 rfl rfl rfl) rfl)) rfl h3 rfl) (aL (by simp only[aC];lia))) (dO (cA rfl (cA (b2 rfl rfl rfl) rfl)) rfl h2 rfl) (aL (by simp only[aC,bK];lia))))
theorem Hq(w:Str)(q:PV){a b:Op}(ha:mD ks a)(hb:mD ks b):run bC (k+7) "if_acts" [F,.aB [.str w,iM a,iM b,q]]=some (.val (gw (sX a++sX b))):=by
 rw[AB,aU];have h1:=ee hF k hk ha;have h3:=ee hF k hk hb;have l1:=jv a;have l3:=jv b;unfold gw;rw[cY];exact dh (rS (b2 (dO (cA rfl (cA (b2 rfl rfl rfl) rfl)) rfl h1 rfl) (dO (cA rfl (cA (b2 rfl rfl rfl) rfl)) rfl h3 rfl) (aL (by simp only[aC];lia))))
theorem DD(w:Str){a:Op}(ha:mD ks a):run bC (k+7) "say_acts" [F,.aB [.str w,iM a]]=some (.val (gw (sX a))):=by
 rw[xF,aU];have h1:=ee hF k hk ha;exact dh (rS (dO (cA rfl (cA (b2 rfl rfl rfl) rfl)) rfl h1 rfl))
omit hF hk in
theorem Hr(p:PV):run bC (k+7) "go_acts" [F,p]=some (.val (gw [])):=by
 rw[AD,aU];exact dh (rS rfl)
omit hF hk in
theorem xY(w:Str):run bC (k+7) "give_acts" [F,.aB [.str w,.str ""]]=some (.val (gw [])):=by
 rw[lW,aU];have q:dU (.str "") (.str "")=some (.bl true):=by rw[c8];rfl
 exact dh (jq (iT (bT (b2 (b2 rfl rfl rfl) rfl q)) (rS rfl)))
theorem AK(w:Str){s t:Sp}(hs:eJ ks s)(ht:eJ ks t):run bC (k+7) "copy_acts" [F,.aB [.str w,b9 s,b9 t]]=some (.val (gw [AJ "read" t "",AJ "fill" s ""])):=by
 rw[um,aU];have h1:=gN hF (k+3) (by lia) "read" "" ht.mem ht.ok ht.row t.a
 have h2:=gN hF (k+3) (by lia) "fill" "" hs.mem hs.ok hs.row s.a
 exact dh (rS (fF (lS (cA (dO (cA rfl (cA rfl (cA (b2 rfl rfl rfl) (cA rfl rfl)))) rfl h1 rfl) (cA (dO (cA rfl (cA rfl (cA (b2 rfl rfl rfl) (cA rfl rfl)))) rfl h2 rfl) rfl)) (by simp))))
theorem AL(w:Str){s t:Sp}(hs:eJ ks s)(ht:eJ ks t):run bC (k+7) "move_acts" [F,.aB [.str w,b9 s,b9 t]]=some (.val (gw [AJ "empty" t "",AJ "fill" s ""])):=by
 rw[uo,aU];have h1:=gN hF (k+3) (by lia) "empty" "" ht.mem ht.ok ht.row t.a
 have h2:=gN hF (k+3) (by lia) "fill" "" hs.mem hs.ok hs.row s.a
 exact dh (rS (fF (lS (cA (dO (cA rfl (cA rfl (cA (b2 rfl rfl rfl) (cA rfl rfl)))) rfl h1 rfl) (cA (dO (cA rfl (cA rfl (cA (b2 rfl rfl rfl) (cA rfl rfl)))) rfl h2 rfl) rfl)) (by simp))))
theorem AM(w:Str){s:Sp}(hs:eJ ks s):run bC (k+7) "drop_acts" [F,.aB [.str w,b9 s]]=some (.val (gw [AJ "empty" s ""])):=by
 rw[uq,aU];have h1:=gN hF (k+3) (by lia) "empty" "" hs.mem hs.ok hs.row s.a
 exact dh (rS (fF (lS (cA (dO (cA rfl (cA rfl (cA (b2 rfl rfl rfl) (cA rfl rfl)))) rfl h1 rfl) rfl) (by simp))))
theorem AN(w t:Str){s:Sp}(hs:eJ ks s):run bC (k+7) "lend_acts" [F,.aB [.str w,.str t,b9 s]]=some (.val (gw [AJ w s t])):=by
 rw[ur,aU];have h1:=gN hF (k+3) (by lia) w t hs.mem hs.ok hs.row s.a
 exact dh (rS (fF (lS (cA (dO (cA rfl (cA (b2 rfl rfl rfl) (cA (b2 rfl rfl rfl) (cA (b2 rfl rfl rfl) rfl)))) rfl h1 rfl) rfl) (by simp))))
end
def jw(i:Nat)(a:cL):PV:=.aB [.int i,.str a.w,.str a.n,.bl a.t,.int a.f,.int a.m,.str a.k]
def dP:List cL->List cL
 | []=>[Lr]
 | a::r=>a::r
structure Hs (c:fV) (F p:PV) (as:List cL):Prop where
 ex:∃w fn rest,p=.aB (.str w::rest)/\iJ.lookup w=some fn/\Lb.lookup fn=some 2/\∃e,c fn [F,p]=some e/\qa e=some (gw as)
 few:as.length<=20
theorem Ht{c:fV}{F p:PV}{as:List cL}(M:Hs c F p as)(i:Nat)(told:az)(hl:told.length<=90000)(x0 x1 x6:Ent):nQ c [x0,x1,.val F,.own told,.val (.int (i:Int)),.val p,x6]=some (.nx [x0,x1,.val F,.own (told++(dP as).map (jw i)),.val (.int (i:Int)),.val p,.val (gw as)]):=by
 obtain⟨w,fn,rest,rfl,h1,h2,e,h3,h4⟩:=M.ex;have hf:=M.few;unfold nQ;have ht:Gz iJ Lb c (af (rd 5) (kI 0) aG) (aa (rd 2) (aa (rd 5) ai)) [x0,x1,.val F,.own told,.val (.int (i:Int)),.val (.aB (.str w::rest)),x6]=some (gw as):=by
  have hk:af (rd 5) (kI 0) aG [x0,x1,.val F,.own told,.val (.int (i:Int)),.val (.aB (.str w::rest)),x6]=some (.str w):=b2 rfl rfl K3;rw[OC,hk,aV,KJ,h1,aV,h2,aV];exact dO (cA rfl (cA rfl rfl)) rfl h3 h4
 have a0:bg (Gz iJ Lb c (af (rd 5) (kI 0) aG) (aa (rd 2) (aa (rd 5) ai))) (ao 6) [x0,x1,.val F,.own told,.val (.int (i:Int)),.val (.aB (.str w::rest)),x6]=some (.nx [x0,x1,.val F,.own told,.val (.int (i:Int)),.val (.aB (.str w::rest)),.val (gw as)]):=aS ht rfl;refine sq a0 ?_;have ho:Wu (rd 6) (bH (cw (aa (cK (.aB [(.str "rest"),(.str ""),(.bl false),(.int 0),(.int 0),(.str "")])) ai))) [x0,x1,.val F,.own told,.val (.int (i:Int)),.val (.aB (.str w::rest)),.val (gw as)]=some (gw (dP as)):=by
  cases as with
  | nil=>rfl
  | cons a r=>rfl
 have YU:(dP as).length<=20:=by
  cases as with
  | nil=>simp[dP]
  | cons a r=>exact hf
 refine mX rfl (fF (cV (sV ho rfl) (by simp only[aC];lia) (?_:_=some ((dP as).map (jw i))))) (by simp only[aC];lia)
 refine eE fun a _=>?_
 show(ao 1 (fG a) [Ent.un,.un,.val (.int (i:Int))]).bind _=_;have t:ao 1 (fG a) [Ent.un,.un,.val (.int (i:Int))]=some [.un,.val (fG a),.val (.int (i:Int))]:=rfl;rw[t,aV];exact b2 (tU (cA rfl rfl) (by simp)) rfl (aT (by simp))
def xZ:Nat->List (List cL)->az
 | _,[]=>[]
 | i,as::r=>(dP as).map (jw i)++xZ (i+1) r
theorem vz{c:fV}{F:PV}(x0 x1:Ent):∀(L:List (PV×List cL)) (i:Nat) (told:az) (x4 x5 x6:Ent),(∀q∈L,Hs c F q.1 q.2)->told.length+20*L.length<=90000 ->
  ∃HU AO x6',fy (cC 2 (ax (ao 4) (ax (ao 5) cB))) (nQ c) (dR i (L.map (·.1))) [x0,x1,.val F,.own told,x4,x5,x6]=some (.nx [x0,x1,.val F,.own (told++xZ i (L.map (·.2))),HU,AO,x6'])
 | [],i,told,x4,x5,x6,_,_=>⟨x4,x5,x6,by simp[dR,xZ]⟩
 | (p,as)::L,i,told,x4,x5,x6,h,hz=>by
  have M:=h (p,as) b6;have hf:=M.few;simp only[bq]at hz;have YU:((dP as).map (jw i)).length<=20:=by
   rw[aC];cases as with
   | nil=>simp[dP]
   | cons a r=>exact hf
  obtain⟨HU,AO,x6',e⟩:=vz x0 x1 L (i+1) (told++(dP as).map (jw i)) (.val (.int (i:Int))) (.val p) (.val (gw as)) (fun q hq=>h q (bQ _ hq)) (by rw[bK];lia)
  refine⟨HU,AO,x6',?_⟩;have:=Ht M i told (by lia) x0 x1 x6
  rw[bR,bR,dR,xZ,<-iw];exact fC (eu:=[x0,x1,.val F,.own told,.val (.int (i:Int)),.val p,x6]) rfl this e
theorem TY(k:Nat){F:PV}{fs:az}{i:Int}(hi:atI fs i=some F){n res:PV}{R1 R2:List Rk}{L:List (PV×List cL)} (hF:F=Dy n res (.aB (L.map (·.1))) R1 R2) (hL:∀q∈L,Hs (run bC k) F q.1 q.2) (hz:L.length<=4000):run bC (k+1) "acts" [.aB fs,.int i]=some (.own (xZ 0 (L.map (·.2)))):=by
 rw[Le,aU];obtain⟨x4,x5,x6,e⟩:=vz (.val (.aB fs)) (.val (.int i)) L 0 [] .un .un .un hL (by simp;lia)
 rw[gE]at e;have hr:af (rd 2) (kI 4) aG [.val (.aB fs),.val (.int i),.val F,.own [],.un,.un,.un]=some (.aB (L.map (·.1))):=by rw[hF];exact b2 rfl rfl rfl
 have he:jC (af (rd 2) (kI 4) aG) [.val (.aB fs),.val (.int i),.val F,.own [],.un,.un,.un]=some (dR 0 (L.map (·.1))):=by
  show((af (rd 2) (kI 4) aG) _).bind _=_;rw[hr];rfl
 exact Ac (sq (aS (b2 rfl rfl hi) rfl) (sq (sO rfl (by simp)) (sq (fS he e) (Ad rfl))))
theorem O7(k:Nat)(n:Int):run bC (k+1) "_law_whole" [.int n]=some (.val (.bl true)):=by
 rw[Dx,aU];rfl
def cell(ns:List Int)(i:Nat):Int:=ns.getD i 0
theorem Ls(k:Nat)(ns:List Int)(i:Nat):run bC (k+1) "_law_cell_at" [zW ns,.int (i:Int)]=some (.val (.int (cell ns i))):=by
 rw[xH];by_cases h:i<ns.length
 ·have:atI (ns.map PV.int) (i:Int)=some (.int (cell ns i)):=dk (by rw[cu,du h];simp[cell,h])
  simp[my,zW,h,this]
 ·have:cell ns i=0:=by simp[cell,List.getD,l0 (BL h)]
  simp[my,zW,h,this]
theorem dB{i j:Int}(h:0<j):b8 (.int i) (.int j)=some (.int (i%j)):=by rw[K2,if_pos h]
theorem ya{i j:Int}(h:0<j/\j<1073741824):de (.int i) (.int j)=some (.int (i/j)):=by rw[G3,if_pos h]
theorem QP(s:Sh):(E4 s==(Str.ofString "rec")) = !iH s:=by
 cases s with
 | num=>exact s_1
 | own=>exact s_2
 | c7 n=>exact s_3
 | bL ps=>exact vQ _
theorem Lu(s:Sh):t8 (.str (E4 s)) (.str "rec")=some (.bl (iH s)):=by rw[qy,QP];simp
theorem Lv(s:Sh):dU (.str (E4 s)) (.str "rec")=some (.bl (!iH s)):=by rw[c8,QP]
mutual
theorem Fb:∀(s:Sh),∀r∈tab s,(tab r.2.2.2).length<=(tab s).length
 | .num,r,h=>by simp[tab]at h;subst h;simp[tab]
 | .own,r,h=>by simp[tab]at h;subst h;simp[tab]
 | .c7 n,r,h=>by simp[tab]at h;subst h;simp[tab]
 | .bL ps,r,h=>by
  have hl:(tab (.bL ps)).length=jr ps+1:=by simp only[tab,bq,iI]
  simp only[tab,bc]at h;rcases h with rfl | h
  ·exact bh _
  ·have:=vA ps 0 0 r h
   lia
theorem vA:∀(l:List Sh) (k:Nat) (a:Int),∀r∈tabs k a l,(tab r.2.2.2).length<=jr l
 | [],_,_,r,h=>by simp[tabs]at h
 | s::l,k,a,r,h=>by
  simp only[tabs,cR,bG]at h;simp only[jr];rcases h with⟨r0,h0,rfl⟩ | h
  ·have:=Fb s r0 h0;simp only[lV]
   lia
  ·have:=vA l _ _ r h
   lia
end
theorem AQ(k:Nat)(a:Int)(s:Sh)(l:List Sh):tabs k a (s::l)=(tab s).map (lV k a)++tabs (k+1) (a+sz s) l:=rfl
def UY(ks:List Rk):Prop:=∀r∈ks,E9 (c6 r.2)
theorem AR(p:List Int):eA (p.map PV.int)=0:=by
 induction p with
 | nil=>rfl
 | cons a p ih=>simp[eA,iX,ih]
mutual
def pos:Sh->Bool
 | .c7 n=>decide (0<n)
 | .bL ps=>Lw ps
 | _=>true
def Lw:List Sh->Bool
 | []=>true
 | s::r=>pos s&&Lw r
end
mutual
theorem sY:∀(s:Sh),pos s=true->∀r∈tab s,pos r.2.2.2=true
 | .num,h,r,hr=>by simp[tab]at hr;subst hr;exact h
 | .own,h,r,hr=>by simp[tab]at hr;subst hr;exact h
 | .c7 n,h,r,hr=>by simp[tab]at hr;subst hr;exact h
 | .bL ps,h,r,hr=>by
  simp only[tab,bc]at hr;rcases hr with rfl | hr
  ·exact h
  ·exact vB ps (by simpa only[pos]using h) 0 0 r hr
theorem vB:∀(l:List Sh),Lw l=true->∀(k:Nat) (a:Int),∀r∈tabs k a l,pos r.2.2.2=true
 | [],_,_,_,r,hr=>by simp[tabs]at hr
 | s::l,h,k,a,r,hr=>by
  simp only[Lw,aQ]at h;simp only[tabs,cR,bG]at hr;rcases hr with⟨r0,h0,rfl⟩ | hr
  ·exact sY s h.1 r0 h0
  ·exact vB l h.2 _ _ r hr
end
def Fc(s:Sh):Prop:=E9 s/\pos s=true
abbrev nP:PV:=.aB [.str "num"]
abbrev oP:PV:=.aB [.str "own"]
abbrev sP(n:Int):PV:=.aB [.str "strip",.int n]
abbrev tP:PV:=.aB [.str "rec",.aB [nP,nP]]
theorem e9{α:Type}{F:PV->Option bU}{e:α->PV}{G:α->PV}{f:α->Bool}:∀{l:List α},(∀x∈l,F (e x)=some (if f x=true then some (G x)else none))->kA F (l.map e)=some ((l.filter f).map G)
 | [],_=>rfl
 | x::r,h=>by
  have ih:=e9 fun y hy=>h y (bQ _ hy)
  rw[bR];show(F (e x)).bind _=_;rw[h x b6,aV,ih];cases hf:f x with
  | true=>simp[hf]
  | false=>simp[hf]
mutual
theorem yb:∀s:Sh,iX (enc s)<=2*dp s+1
 | .num=>by simp[enc,iX,eA]
 | .own=>by simp[enc,iX,eA]
 | .c7 n=>by simp[enc,iX,eA]
 | .bL ps=>by
  have:=AS ps;simp[enc,iX,eA,dp]
  lia
theorem AS:∀l:List Sh,eA (cW l)<=2*sv l+1
 | []=>by simp[cW,eA]
 | s::l=>by
  have:=yb s;have:=AS l;simp only[cW,eA,sv]
  lia
end
abbrev KL(ks:List Rk):PV:=.au (ks.map bN)
variable {ks:List Rk}
theorem Lx{s:Sp}(h:eJ ks s):iX (b9 s)<=2:=by
 have ha:=h.at_;have:iX s.a=0:=by cases h2:s.a<;>rw[h2]at ha<;>cases ha<;>rfl
 simp only[b9,EG,iX,eA,this,AR]
 lia
theorem dY{α:Type}(N:List α)(e:α->PV)(m:Int)(h:0<N.length):∃s∈N,atI (N.map e) (m%((N.map e).length:Int))=some (e s):=by
 rw[aC];have hj0:=ki m (show(N.length:Int)≠0 by lia)
 have hj1:=qJ m (show(0:Int)<(N.length:Int) by lia)
 obtain⟨j,hj⟩:=Int.eq_ofNat_of_zero_le hj0;have Y2:j<N.length:=by lia
 refine⟨N[j],vR Y2,?_⟩;rw[hj];exact dk (by rw[cu,du Y2];rfl)
theorem O8(d:Kd):t8 (.str (kw d)) (.str "lent")=some (.bl (!(kw d==(Str.ofString "lent")))):=qy
end
def nS:Sh->Bool
 | .own=>true
 | _=>false
theorem acE:((Str.ofString "num")==(Str.ofString "own"))=false:=by decide +kernel
theorem TZ(s:Sh):eqT (enc s) oP=nS s:=by
 cases s with
 | num=>simp[enc,eqT,j5,nS,acE]
 | own=>simp[enc,eqT,j5,nS]
 | c7 n=>simp[enc,eqT,j5,nS]
 | bL ps=>simp[enc,eqT,j5,nS]
theorem DE:∀l:List Sh,Cy oP (cW l)=l.any nS
 | []=>rfl
 | s::l=>by
  have:=DE l;unfold Cy at this ⊢;rw[cW,l9,l9,this,TZ]
def ZY(s:Sh):Bool:=!(lv s).any nS
theorem T1(s:Sh):pU true oP (.aB (cW (lv s)))=some (.bl (ZY s)):=by
 have hd:=sJ (xu s);show(if eA (cW (lv s))<=hJ then some (PV.bl (!Cy oP (cW (lv s))))else none)=_
 rw[if_pos (by rw[lh];lia),DE]
 rfl
def oW(s:Sh):Str:=if ZY s=true then "read" else "empty"
abbrev ux(s:Sh):Rw:=([],0,sz s,s)
def T2(x:Str)(d:Kd)(t:Str):cL:=match d with
 | .ow s=>tA (oW s) x (.ow s) (ux s) ""
 | .ho b s=>tA (if b=true then "sole" else "lend") x (.ho b s) (ux s) t
def ZZ(x:Str)(d:Kd):cL:=match d with
 | .ow s=>tA (oW s) x (.ow s) (ux s) ""
 | .ho b s=>tA "give" x (.ho b s) (ux s) ""
abbrev sI(i:Nat):Str:=Str.ofString (toString (i:Int))
def gj:Nat->List Rk->List cL
 | _,[]=>[]
 | i,r::l=>T2 r.1 r.2 (sI i)::gj (i+1) l
theorem sZ:∀(l:List Rk) (i:Nat),(gj i l).length=l.length
 | [],_=>rfl
 | r::l,i=>by simp[gj,sZ l]
def j6:Option Rk->List cL
 | none=>[]
 | some (x,.ow s)=>[tA "fill" x (.ow s) (ux s) ""]
 | some (x,.ho _ _)=>[⟨"take","",false,0,0,x⟩]
def AU:Option Rk->Str
 | none=>""
 | some r=>r.1
theorem X0(i:Nat)(h:i<1000):zB [.int (i:Int)]=some (.str (sI i)):=if_pos ⟨by lia,by lia⟩
theorem Fe{G:PV->bU}:∀(l:List Rk) (i:Nat),(∀r∈l,∀j:Nat,j<1000->G (zw (.int (j:Int)) (.str r.1))=some (fG (T2 r.1 r.2 (sI j))))->i+l.length<=1000->iB G (dR i (l.map fun r=>PV.str r.1))=some ((gj i l).map fG)
 | [],_,_,_=>rfl
 | r::l,i,h,hz=>by
  simp only[bq]at hz;rw[bR,dR,iB,h r b6 i (by lia),Fe l (i+1) (fun q hq=>h q (bQ _ hq)) (by lia)]
  rfl
theorem Ff{α β:Type}{F:PV->bU}{e:α->PV}{P:PV->β->Prop}:∀{l:List α},(∀x∈l,∃p a,F (e x)=some p/\P p a)->∃L:List (PV×β),iB F (l.map e)=some (L.map (·.1))/\(∀q∈L,P q.1 q.2)/\L.length=l.length
 | [],_=>⟨[],rfl,(fun q hq=>by cases hq),rfl⟩
 | x::r,h=>by
  obtain⟨p,a,h1,h2⟩:=h x b6;obtain⟨L,h3,h4,h5⟩:=Ff fun y hy=>h y (bQ _ hy)
  refine⟨(p,a)::L,?_,fun q hq=>?_,by simp[h5]⟩
  ·rw[bR,iB,h1,h3];rfl
  ·rcases bc.mp hq with rfl | hq
   ·exact h2
   ·exact h4 q hq
theorem X1(d:Kd)(h:E9 (c6 d))(q:PV):dU (dr d) q=some (.bl (eqT (dr d) q)):=by
 have hd:iX (dr d)<=1000:=by
  have h1:=yb (c6 d);have h2:=h.2;cases d with
  | ow s=>simp only[dr,c6]at *;lia
  | ho b s=>simp only[dr,c6,iX,eA]at *;lia
 exact C5 (by rw[lh];exact hd)
theorem QQ{s:Sh}(h:E9 s)(q:PV):dU (enc s) q=some (.bl (eqT (enc s) q)):=by
 have h1:=yb s;have h2:=h.2;exact C5 (by rw[lh];lia)
theorem yc{s:Sh}(h:E9 s){r:Rw}(hr:r∈tab s):E9 r.2.2.2:=by
 have h1:=Fb s r hr;have h2:=(xU s r hr).1;have h3:=h.1;have h4:=h.2;exact⟨by lia,by lia⟩
theorem AV(k:Nat)(s:Sh)(hd:dp s<=k)(hz:(lv s).length<=100000):run bC (k+2) "is_copied" [enc s]=some (.val (.bl (ZY s))):=by
 rw[uj,aU];have h:=fE.all (LA) s k hd hz;exact dh (rS (b2 rfl (dO (cA rfl rfl) rfl h rfl) (T1 s)))
section
variable {F:PV} {ks:List Rk} (hF:xV (run bC) F ks) (k:Nat) (hk:3<=k)
include hF hk
theorem pZ{x:Str}{s:Sh}(hx:(x,Kd.ow s)∈ks)(hs:E9 s):run bC (k+5) "owner_act" [F,.str x]=some (.val (fG (tA (oW s) x (.ow s) (ux s) ""))):=by
 rw[uv,aU];have h1:=hF (k+3) _ hx;have hl:=EY s;have h2:=AV (k+2) s (by have:=hs.2;lia) (by have:=hs.1;lia)
 have h3:=fH hF k hk (oW s) "" hx hs;have hw:t6 (toB (aD (aP 1 (run bC (k+4) "is_copied")) (aa (aD (aP 2 (run bC (k+4) "kind_of")) (aa (rd 0) (aa (rd 1) ai))) ai))) (kS "read") (kS "empty") [.val F,.val (.str x)]=some (.str (oW s)):=by
  refine iV (bT (dO (cA (dO (cA rfl (cA rfl rfl)) rfl h1 rfl) rfl) rfl h2 rfl)) ?_;unfold oW;cases ZY s<;>rfl
 exact dh (rS (dO (cA rfl (cA hw (cA rfl (cA rfl rfl)))) rfl h3 rfl))
theorem Hu{x:Str}{d:Kd}(hx:(x,d)∈ks)(hs:E9 (c6 d))(t:Str):run bC (k+6) "arg_act" [F,.str x,.str t]=some (.val (fG (T2 x d t))):=by
 rw[Az,aU];have h1:=hF (k+4) _ hx;have h2:=gV (k+4) d;have a0:bg (aD (aP 2 (run bC (k+5) "kind_of")) (aa (rd 0) (aa (rd 1) ai))) (ao 3) [.val F,.val (.str x),.val (.str t),.un]=some (.nx [.val F,.val (.str x),.val (.str t),.val (dr d)]):=aS (dO (cA rfl (cA rfl rfl)) rfl h1 rfl) rfl;have t0:j3 (toB (aD (aP 1 (run bC (k+5) "is_holder")) (aa (rd 3) ai))) [.val F,.val (.str x),.val (.str t),.val (dr d)]=some (!ie d):=nB (bT (dO (cA rfl rfl) rfl h2 rfl));cases d with
 | ow s =>
  have h3:=pZ hF k hk hx hs;exact dh (sq a0 (jq (iT t0 (rS (dO (cA rfl (cA rfl rfl)) rfl h3 rfl)))))
 | ho b s =>
  have h3:=fH hF (k+1) (by lia) (if b=true then "sole" else "lend") t hx hs
  have hw:t6 (toB (af (af (rd 3) (kI 0) aG) (kS "lent") dU)) (kS "lend") (kS "sole") [.val F,.val (.str x),.val (.str t),.val (dr (.ho b s))]=some (.str (if b=true then "sole" else "lend")):=by
   cases b with
   | false=>exact iV (b:=true) (bT (b2 (b2 rfl rfl rfl) rfl (by rw[c8];exact dy (fun z=>some (PV.bl z)) (by decide +kernel)))) rfl
   | true=>exact iV (b:=false) (bT (b2 (b2 rfl rfl rfl) rfl (by rw[c8];exact dy (fun z=>some (PV.bl z)) (by decide +kernel)))) rfl
  exact dh (sq a0 (sq (iF t0 rfl) (rS (dO (cA rfl (cA hw (cA rfl (cA rfl rfl)))) rfl h3 rfl))))
theorem AW(w:Str){x:Str}{d:Kd}(hx:(x,d)∈ks)(hs:E9 (c6 d))(hne:(x==(Str.ofString ""))=false):run bC (k+7) "give_acts" [F,.aB [.str w,.str x]]=some (.val (gw [ZZ x d])):=by
 rw[lW,aU];have h1:=hF (k+5) _ hx;have h2:=gV (k+5) d;have t0:toB (af (af (rd 1) (kI 1) aG) (kS "") dU) [.val F,.val (.aB [.str w,.str x])]=some false:=by
  refine bT (b2 (b2 rfl rfl rfl) rfl ?_);rw[c8,hne]
 have t1:toB (aD (aP 1 (run bC (k+6) "is_holder")) (aa (aD (aP 2 (run bC (k+6) "kind_of")) (aa (rd 0) (aa (af (rd 1) (kI 1) aG) ai))) ai)) [.val F,.val (.aB [.str w,.str x])]=some (ie d):=bT (dO (cA (dO (cA rfl (cA (b2 rfl rfl rfl) rfl)) rfl h1 rfl) rfl) rfl h2 rfl);cases d with
 | ow s =>
  have h3:=pZ hF (k+1) (by lia) hx hs
  exact dh (sq (iF t0 rfl) (sq (iF t1 rfl) (rS (fF (lS (cA (dO (cA rfl (cA (b2 rfl rfl rfl) rfl)) rfl h3 rfl) rfl) (by simp))))))
 | ho b s =>
  have h3:=fH hF (k+2) (by lia) "give" "" hx hs
  exact dh (sq (iF t0 rfl) (jq (iT t1 (rS (fF (lS (cA (dO (cA rfl (cA rfl (cA (b2 rfl rfl rfl) (cA rfl rfl)))) rfl h3 rfl) rfl) (by simp)))))))
theorem AX(w:Str)(fn:PV){ar:List Rk}(ha:∀r∈ar,r∈ks)(ho:UY ks)(hl:ar.length<=10){tk:Option Rk}(ht:∀r,tk=some r->r∈ks/\(r.1==(Str.ofString ""))=false):∃e,run bC (k+7) "call_acts" [F,.aB [.str w,.str (AU tk),fn,.aB (ar.map fun r=>.str r.1)]]=some e/\qa e=some (gw (gj 0 ar++gi::j6 tk)):=by
 rw[uu,aU];obtain⟨p,hp⟩:∃p,p=PV.aB [.str w,.str (AU tk),fn,.aB (ar.map fun r=>.str r.1)]:=⟨_,rfl⟩
 have i3:aG p (.int 3)=some (.aB (ar.map fun r=>.str r.1)):=by rw[hp];rfl
 have i1:aG p (.int 1)=some (.str (AU tk)):=by rw[hp];rfl
 rw[<-hp];have en:jC (af (rd 1) (kI 3) aG) [.val F,.val p,.un]=some (dR 0 (ar.map fun r=>PV.str r.1)):=by
  show((af (rd 1) (kI 3) aG) _).bind _=_;rw[b2 rfl rfl i3];rfl
 have hm:iB (fun q=>(cC 2 (ax (ao 1) (ax (ao 2) cB)) q (bj [none,none,none,some 0] [.val F,.val p,.un])).bind (aD (aP 3 (run bC (k+6) "arg_act")) (aa (rd 3) (aa (rd 2) (aa (cg zB (aa (rd 1) ai)) ai))))) (dR 0 (ar.map fun r=>PV.str r.1))=some ((gj 0 ar).map fG):=by
  refine Fe ar 0 (fun r hr j hj=>?_) (by lia)
  have t:cC 2 (ax (ao 1) (ax (ao 2) cB)) (zw (.int (j:Int)) (.str r.1)) (bj [none,none,none,some 0] [.val F,.val p,.un])=some [.un,.val (.int (j:Int)),.val (.str r.1),.val F]:=rfl;have h:=Hu hF k hk (x:=r.1) (d:=r.2) (ha r hr) (ho r (ha r hr)) (sI j);show(cC 2 _ _ _).bind _=_;rw[t,aV];exact dO (cA rfl (cA rfl (cA (bV (cA rfl rfl) (X0 j hj)) rfl))) rfl h rfl
 have le:(dR 0 (ar.map fun r=>PV.str r.1)).length<=100000:=by
  have:∀(l:az) (i:Nat),(dR i l).length=l.length:=fun l=>by
   induction l with
   | nil=>intro i;rfl
   | cons a l ih=>intro i;simp[dR,ih]
  rw[this,aC]
  lia
 have tl:=sZ ar 0;have s1:iP 2 (dD [none,none,none,some 0] (jC (af (rd 1) (kI 3) aG)) (cC 2 (ax (ao 1) (ax (ao 2) cB))) (aD (aP 3 (run bC (k+6) "arg_act")) (aa (rd 3) (aa (rd 2) (aa (cg zB (aa (rd 1) ai)) ai))))) [.val F,.val p,.un]=some (.nx [.val F,.val p,.own ((gj 0 ar).map fG)]):=sO (cV en le hm) (by simp)
 have s2:gp 2 (aa (cK (.aB [(.str "hand"),(.str ""),(.bl false),(.int 0),(.int 0),(.str "")])) ai) ml [.val F,.val p,.own ((gj 0 ar).map fG)]=some (.nx [.val F,.val p,.own ((gj 0 ar++[gi]).map fG)]):=by
  rw[cY];exact mA rfl rfl (by rw[aC];lia)
 have t0:iC (toB (af (af (rd 1) (kI 1) aG) (kS "") dU)) [.val F,.val p,.own ((gj 0 ar++[gi]).map fG)]=some (AU tk==(Str.ofString "")):=bT (b2 (b2 rfl rfl i1) rfl c8);have la:((gj 0 ar++[gi]).map fG).length<=100:=by simp[tl];lia
 have done:∀q:cL,fY (lA [2] (bz (af (rd 2) (cK (.au [fG q])) bW)) [.val F,.val p,.own ((gj 0 ar++[gi]).map fG)])=some (.val (gw (gj 0 ar++gi::[q]))):=by
  intro q;show fY (bz _ (eR (some [2]) [.val F,.val p,.own ((gj 0 ar++[gi]).map fG)]))=_;refine dh (rS ?_);refine(b2 (x:=.au ((gj 0 ar++[gi]).map fG)) (y:=.au [fG q]) rfl rfl (aL (by simp only[bq,jk];lia))).trans ?_
  simp[gw]
 cases tk with
 | none =>
  have:(AU none==(Str.ofString ""))=true:=by decide +kernel
  rw[this]at t0;exact⟨_,Ac (sq s1 (sq s2 (jq (iT t0 (Ad rfl))))),rfl⟩
 | some r =>
  obtain⟨g1,g2⟩:=ht r rfl;obtain⟨x,d⟩:=r;rw[show AU (some (x,d))=x from rfl]at t0 i1
  simp only at g2;rw[g2]at t0;have h1:=hF (k+5) _ g1;have h2:=gV (k+5) d;have t1:iC (toB (aD (aP 1 (run bC (k+6) "is_holder")) (aa (aD (aP 2 (run bC (k+6) "kind_of")) (aa (rd 0) (aa (af (rd 1) (kI 1) aG) ai))) ai))) [.val F,.val p,.own ((gj 0 ar++[gi]).map fG)]=some (ie d):=bT (dO (cA (dO (cA rfl (cA (b2 rfl rfl i1) rfl)) rfl h1 rfl) rfl) rfl h2 rfl);cases d with
  | ho b s =>
   refine⟨_,(dy fY (sq s1 (sq s2 (sq (iF t0 rfl) (jq (iT t1 (z:=some (.rt (.val (gw (gj 0 ar++gi::j6 (some (x,.ho b s))))))) ?_)))))).trans rfl,rfl⟩;show bz _ (eR (some [2]) [.val F,.val p,.own ((gj 0 ar++[gi]).map fG)])=_;refine rS ((b2 (x:=.au ((gj 0 ar++[gi]).map fG)) rfl (fF (lS (cA (tU (cA rfl (cA rfl (cA rfl (cA rfl (cA rfl (cA (b2 rfl rfl i1) rfl)))))) (by simp)) rfl) (by simp))) (aL (by simp only[bq,jk];lia))).trans ?_)
   simp[gw,j6,fG]
  | ow s =>
   have h3:=fH hF (k+2) (by lia) "fill" "" g1 (ho _ g1)
   refine⟨_,(dy fY (sq s1 (sq s2 (sq (iF t0 rfl) (sq (iF t1 rfl) (z:=some (.rt (.val (gw (gj 0 ar++gi::j6 (some (x,.ow s))))))) ?_))))).trans rfl,rfl⟩;show bz _ (eR (some [2]) [.val F,.val p,.own ((gj 0 ar++[gi]).map fG)])=_;refine rS ((b2 (x:=.au ((gj 0 ar++[gi]).map fG)) rfl (fF (lS (cA (dO (cA rfl (cA rfl (cA (b2 rfl rfl i1) (cA rfl rfl)))) rfl h3 rfl) rfl) (by simp))) (aL (by simp only[bq,jk];lia))).trans ?_)
   simp[gw,j6,c6]
end
def eN(q:Nat×cL):PV:=jw q.1 q.2
def ei:Nat->List (List cL)->List (Nat×cL)
 | _,[]=>[]
 | i,as::r=>(dP as).map (fun a=>(i,a))++ei (i+1) r
theorem nU:∀(L:List (List cL)) (i:Nat),xZ i L=(ei i L).map eN
 | [],_=>rfl
 | as::L,i=>by
  rw[xZ,ei,cY,fw,nU L (i+1)];rfl
theorem AY:∀(L:List (List cL)) (i:Nat),∀q∈ei i L,i<=q.1/\q.1<i+L.length
 | [],_,_,h=>nomatch h
 | as::L,i,q,h=>by
  rw[ei,cR]at h;rw[bq];rcases h with h | h
  ·obtain⟨a,_,rfl⟩:=bG.mp h;show i<=i/\i<i+(L.length+1)
   lia
  ·have:=AY L (i+1) q h
   lia
theorem AZ:∀(L:List (List cL)) (i j:Nat),i<=j->j<i+L.length->∃a,(j,a)∈ei i L
 | [],_,_,h1,h2=>by simp at h2;lia
 | as::L,i,j,h1,h2=>by
  rw[bq]at h2;by_cases e:j=i
  ·subst e;obtain⟨a,ha⟩:∃a,a∈dP as:=by
    cases as with
    | nil=>exact⟨Lr,b6⟩
    | cons a r=>exact⟨a,b6⟩
   exact⟨a,by rw[ei];exact ir _ (bG.mpr ⟨a,ha,rfl⟩)⟩
  ·obtain⟨a,ha⟩:=AZ L (i+1) j (by lia) (by lia)
   exact⟨a,by rw[ei];exact dC _ ha⟩
def UZ(N:Nat)(kvs:List (cy×PV)):Prop:=∀q∈kvs,∃m:Nat,q.2=.int (m:Int)/\m<N
theorem DF(kvs:List (cy×PV))(k:cy)(p:PV):(dS (kvs++[(k,p)]) k).isSome=true:=by
 unfold dS;rw[BD,List.find?_isSome];exact⟨(k,p),by simp,by simp⟩
theorem s9(kvs ms:List (cy×PV))(k:cy)(h:(dS kvs k).isSome=true):(dS (kvs++ms) k).isSome=true:=by
 unfold dS at h ⊢;rw[BD,List.find?_isSome]at h ⊢;obtain⟨x,h1,h2⟩:=h;exact⟨x,ir _ h1,h2⟩
theorem Ly{N:Nat}{kvs:List (cy×PV)}(h:UZ N kvs){k:cy}(hk:(dS kvs k).isSome=true):∃m:Nat,dS kvs k=some (.int (m:Int))/\m<N:=by
 unfold dS at hk ⊢;cases e:kvs.find? fun kv=>decide (kv.1=k)with
 | none=>rw[e]at hk;cases hk
 | some q =>
  obtain⟨m,h1,h2⟩:=h q (List.mem_of_find?_eq_some e);exact⟨m,by rw[ou,h1],h2⟩
def DG:List (Nat×cL)->Nat->List (cy×PV)->List (cy×PV)
 | [],_,kvs=>kvs
 | (j,_)::as,i,kvs=>match dS kvs (.inl (j:Int))with
  | some _=>DG as (i+1) kvs
  | none=>DG as (i+1) (kvs++[(.inl (j:Int),.int (i:Int))])
theorem kR(c:fV)(P I A:PV):∀(as:List (Nat×cL)) (i:Nat) (kvs:List (cy×PV)) (x4 x5:Ent),UZ i kvs->kvs.length<=i->i+as.length<=90000 ->
  (∃HU AO,fy (cC 2 (ax (ao 4) (ax (ao 5) cB))) (ll c) (dR i (as.map eN)) [.val P,.val I,.val A,.eW (.k kvs),x4,x5,.un]=some (.nx [.val P,.val I,.val A,.eW (.k (DG as i kvs)),HU,AO,.un]))/\UZ (i+as.length) (DG as i kvs)/\(∃ms,DG as i kvs=kvs++ms)/\∀q∈as,(dS (DG as i kvs) (.inl (q.1:Int))).isSome=true
 | [],i,kvs,x4,x5,h,_,_=>⟨⟨x4,x5,rfl⟩,h,⟨[],by simp[DG]⟩,fun _ z=>nomatch z⟩
 | (j,a)::as,i,kvs,x4,x5,h,hl,hz=>by
  rw[bq]at hz;have FL:cC 2 (ax (ao 4) (ax (ao 5) cB)) (zw (.int (i:Int)) (jw j a)) [.val P,.val I,.val A,.eW (.k kvs),x4,x5,.un]=some [.val P,.val I,.val A,.eW (.k kvs),.val (.int (i:Int)),.val (jw j a),.un]:=rfl;have hb:ll c [.val P,.val I,.val A,.eW (.k kvs),.val (.int (i:Int)),.val (jw j a),.un]=(match dS kvs (.inl (j:Int))with
    | some _=>some (.nx [.val P,.val I,.val A,.eW (.k kvs),.val (.int (i:Int)),.val (jw j a),.un])
    | none=>some (.nx [.val P,.val I,.val A,.eW (.k (kvs++[(.inl (j:Int),.int (i:Int))])),.val (.int (i:Int)),.val (jw j a),.un])):=by
   unfold ll;have hc:kvs.length<gB/\(([.val P,.val I,.val A,.eW (.k kvs),.val (.int (i:Int)),.val (jw j a),.un]:aF).set 3 .un).all EJ=true:=⟨by have:=C3;lia,rfl⟩
   show(if(kvs.length<gB/\(([.val P,.val I,.val A,.eW (.k kvs),.val (.int (i:Int)),.val (jw j a),.un]:aF).set 3 .un).all EJ=true)then _ else _)=_
   rw[if_pos hc];rfl
  cases e:dS kvs (.inl (j:Int))with
  | some v =>
   have ek:DG ((j,a)::as) i kvs=DG as (i+1) kvs:=by rw[DG,e]
   rw[e]at hb;obtain⟨⟨y4,y5,h1⟩,h2,⟨ms,h3⟩,h4⟩:=kR c P I A as (i+1) kvs (.val (.int (i:Int))) (.val (jw j a)) (fun q hq=>by obtain⟨m,z1,z2⟩:=h q hq;exact⟨m,z1,by lia⟩) (by lia) (by lia)
   rw[ek];refine⟨⟨y4,y5,fC FL hb h1⟩,?_,⟨ms,h3⟩,fun q hq=>?_⟩
   ·rw[bq,show i+(as.length+1)=i+1+as.length by lia];exact h2
   ·rcases bc.mp hq with rfl | hq
    ·rw[h3];exact s9 _ _ _ (by rw[e];rfl)
    ·exact h4 q hq
  | none =>
   have ek:DG ((j,a)::as) i kvs=DG as (i+1) (kvs++[(.inl (j:Int),.int (i:Int))]):=by rw[DG,e]
   rw[e]at hb;obtain⟨⟨y4,y5,h1⟩,h2,⟨ms,h3⟩,h4⟩:=kR c P I A as (i+1) (kvs++[(.inl (j:Int),.int (i:Int))]) (.val (.int (i:Int))) (.val (jw j a)) (fun q hq=>by
    rcases cR.mp hq with hq | hq
    ·obtain⟨m,z1,z2⟩:=h q hq;exact⟨m,z1,by lia⟩
    ·rw[cq]at hq;subst hq;exact⟨i,rfl,by lia⟩) (by rw[bK];simp;lia) (by lia)
   rw[ek];refine⟨⟨y4,y5,fC FL hb h1⟩,?_,⟨(.inl (j:Int),.int (i:Int))::ms,by rw[h3];simp⟩,fun q hq=>?_⟩
   ·rw[bq,show i+(as.length+1)=i+1+as.length by lia];exact h2
   ·rcases bc.mp hq with rfl | hq
    ·rw[h3];exact s9 _ _ _ (DF _ _ _)
    ·exact h4 q hq
def nT(l:List Nat):PV:=.aB (l.map fun m:Nat=>PV.int (m:Int))
def yd(c:fV)(b7:PV)(n:Nat)(nx:Nat->List Nat):Prop:=∀j:Nat,j<n->c "row_nexts" [b7,.int (j:Int)]=some (.val (nT (nx j)))/\(nx j).length<=2/\∀m∈nx j,m<n
def tf(kvs:List (cy×PV))(m:Nat):Nat:=match dS kvs (.inl (m:Int))with
 | some (.int v)=>v.toNat
 | _=>0
theorem A0{N:Nat}{kvs:List (cy×PV)}(h:UZ N kvs){m:Nat} (hk:(dS kvs (.inl (m:Int))).isSome=true):dS kvs (.inl (m:Int))=some (.int (tf kvs m:Int))/\tf kvs m<N:=by
 obtain⟨v,h1,h2⟩:=Ly h hk;have e:tf kvs m=v:=by unfold tf;rw[h1];rfl
 rw[e];exact⟨h1,h2⟩
def qh(as:List (Nat×cL))(kvs:List (cy×PV))(nx:Nat->List Nat)(i:Nat)(q:Nat×cL):List Nat:=if as[i+1]?.map (·.1)=some q.1 then [i+1]else(nx q.1).map (tf kvs)
def Mn(as:List (Nat×cL))(kvs:List (cy×PV))(nx:Nat->List Nat):Nat->List (Nat×cL)->List (List Nat)
 | _,[]=>[]
 | i,q::bs=>qh as kvs nx i q::Mn as kvs nx (i+1) bs
inductive Hv (kvs:List (cy×PV)):Ent->Prop
 | d:Hv kvs (.eW (.k kvs))
 | o:Hv kvs (.ob (.HR (.k kvs)))
section
variable {c:fV} {fs:az} {I:Int} {nm res b7:PV} {R1 R2:List Rk} {n:Nat} {as:List (Nat×cL)} {kvs:List (cy×PV)} {nx:Nat->List Nat}
theorem DH(hP:atI fs I=some (Dy nm res b7 R1 R2))(hR:yd c b7 n nx)(hk:UZ as.length kvs) (hf:∀j:Nat,j<n->(dS kvs (.inl (j:Int))).isSome=true) (hl:as.length<=90000)
  (i:Nat) (q:Nat×cL) (hq:as[i]?=some q) (hr:∀q∈as,q.1<n) {D:Ent} (hD:Hv kvs D) (told:az) (ht:told.length<=90000) :
  ∃(D':Ent),jH c [.val (.aB fs),.val (.int I),.val (.au (as.map eN)),D,.val (.int (i:Int)),.val (eN q),.own told]=some (.nx [.val (.aB fs),.val (.int I),.val (.au (as.map eN)),D',.val (.int (i:Int)),.val (eN q),.own (told++[nT (qh as kvs nx i q)])])/\Hv kvs D'/\(qh as kvs nx i q).length<=2/\∀m∈qh as kvs nx i q,m<as.length:=by
 have hi:i<as.length:=(cP.mp hq).1;have UI:eR none [.val (.aB fs),.val (.int I),.val (.au (as.map eN)),D,.val (.int (i:Int)),.val (eN q),.own told]=[.val (.aB fs),.val (.int I),.val (.au (as.map eN)),.ob (.HR (.k kvs)),.val (.int (i:Int)),.val (eN q),.val (.au told)]:=by
  cases hD<;>rfl
 have hfs:eR (some [3]) [.val (.aB fs),.val (.int I),.val (.au (as.map eN)),D,.val (.int (i:Int)),.val (eN q),.own told]=[.val (.aB fs),.val (.int I),.val (.au (as.map eN)),.ob (.HR (.k kvs)),.val (.int (i:Int)),.val (eN q),.own told]:=by
  cases hD<;>rfl
 have eM:∀x6:Ent,toB (af (af (rd 4) (kI 1) bW) (gP (cg cX (aa (rd 2) ai))) Er) [.val (.aB fs),.val (.int I),.val (.au (as.map eN)),.ob (.HR (.k kvs)),.val (.int (i:Int)),.val (eN q),x6]=some (decide (((i:Int)+1)<(as.length:Int))):=fun x6=>by
  refine bT (b2 (x:=.int ((i:Int)+1)) (y:=.int (as.length:Int)) rfl ?_ rfl);show some (PV.int (((as.map eN).length:Nat):Int))=_;rw[aC]
 have go:∀b:Bool,iC (gA (toB (af (af (rd 4) (kI 1) bW) (gP (cg cX (aa (rd 2) ai))) Er)) (toB (af (af (af (rd 2) (af (rd 4) (kI 1) bW) aG) (kI 0) aG) (af (rd 5) (kI 0) aG) dU))) [.val (.aB fs),.val (.int I),.val (.au (as.map eN)),D,.val (.int (i:Int)),.val (eN q),.own told]=some b->(b=true↔as[i+1]?.map (·.1)=some q.1) ->
  ∃(D':Ent),jH c [.val (.aB fs),.val (.int I),.val (.au (as.map eN)),D,.val (.int (i:Int)),.val (eN q),.own told]=some (.nx [.val (.aB fs),.val (.int I),.val (.au (as.map eN)),D',.val (.int (i:Int)),.val (eN q),.own (told++[nT (qh as kvs nx i q)])])/\Hv kvs D'/\(qh as kvs nx i q).length<=2/\∀m∈qh as kvs nx i q,m<as.length:=fun b hb h1=>by
  unfold jH;cases b with
  | true =>
   have h2:=h1.mp rfl;have h3:i+1<as.length:=by
    cases z:as[i+1]? with
    | none=>rw[z]at h2;cases h2
    | some _=>exact(cP.mp z).1
   have en:qh as kvs nx i q=[i+1]:=if_pos h2;rw[en];refine⟨D,iT hb (mA rfl (tU (cA rfl rfl) (by simp)) (by lia)),hD,by simp,fun m hm=>?_⟩
   simp at hm;lia
  | false =>
   obtain⟨r1,r2,r3⟩:=hR q.1 (hr q (cj hq));have en:qh as kvs nx i q=(nx q.1).map (tf kvs):=if_neg fun z=>nomatch h1.mpr z
   have m1:iB (fun p=>(ao 1 p (bj [none,none,some 3] [.val (.aB fs),.val (.int I),.val (.au (as.map eN)),.ob (.HR (.k kvs)),.val (.int (i:Int)),.val (eN q),.own told])).bind (getD 2 (rd 1))) ((nx q.1).map fun m:Nat=>PV.int (m:Int))=some ((nx q.1).map fun m=>PV.int (tf kvs m:Int)):=eE fun m hm=>(A0 hk (hf m (r3 m hm))).1
   rw[en];refine⟨.ob (.HR (.k kvs)),iF hb ?_,.o,by rw[aC];exact r2,fun m hm=>?_⟩
   ·show gp 6 _ ml (eR (some [3]) _)=_;rw[hfs];refine mA rfl (bV (cA (fF (cV (sV (dO (cA (b2 (b2 rfl rfl hP) rfl rfl) (cA (b2 rfl rfl K3) rfl)) rfl r1 rfl) rfl) ?_ m1)) rfl) ?_) (by lia)
    ·rw[aC];lia
    ·unfold nT;rw[fw];rfl
   ·obtain⟨x,hx,rfl⟩:=bG.mp hm;exact(A0 hk (hf x (r3 x hx))).2
 by_cases h:i+1<as.length
 ·obtain⟨q',Mj⟩:∃q',as[i+1]?=some q':=⟨_,du h⟩
  refine go (decide ((q'.1:Int)=(q.1:Int))) ?_ (by rw[Mj];simp only[gD,ou,Option.some.injEq];lia)
  show gA _ _ (eR none _)=_;rw[UI];show(toB _ _).bind _=_;rw[eM,aV,if_pos (by rw[gD];lia)]
  have e0:af (rd 2) (af (rd 4) (kI 1) bW) aG [.val (.aB fs),.val (.int I),.val (.au (as.map eN)),.ob (.HR (.k kvs)),.val (.int (i:Int)),.val (eN q),.val (.au told)]=some (eN q'):=b2 (y:=.int (((i+1:Nat):Nat):Int)) rfl (by rfl) (dk (by rw[cu,Mj];rfl))
  exact bT (b2 (x:=.int (q'.1:Int)) (y:=.int (q.1:Int)) (b2 e0 rfl rfl) (b2 rfl rfl rfl) hV)
 ·refine go false ?_ ⟨(fun z=>nomatch z),fun z=>by rw[l0 (by lia)]at z;cases z⟩
  show gA _ _ (eR none _)=_;rw[UI];show(toB _ _).bind _=_;rw[eM,aV,if_neg (by rw[gD];lia)]
theorem tj(hP:atI fs I=some (Dy nm res b7 R1 R2))(hR:yd c b7 n nx)(hk:UZ as.length kvs) (hf:∀j:Nat,j<n->(dS kvs (.inl (j:Int))).isSome=true) (hl:as.length<=40000) (hr:∀q∈as,q.1<n):∀(bs pre:List (Nat×cL)) (told:az) (D x4 x5:Ent),as=pre++bs->Hv kvs D->told.length=pre.length ->
  ∃(D' HU AO:Ent),fy (cC 2 (ax (ao 4) (ax (ao 5) cB))) (jH c) (dR pre.length (bs.map eN)) [.val (.aB fs),.val (.int I),.val (.au (as.map eN)),D,x4,x5,.own told]=some (.nx [.val (.aB fs),.val (.int I),.val (.au (as.map eN)),D',HU,AO,.own (told++(Mn as kvs nx pre.length bs).map nT)])/\(Mn as kvs nx pre.length bs).length=bs.length/\∀l∈Mn as kvs nx pre.length bs,l.length<=2/\∀m∈l,m<as.length
 | [],pre,told,D,x4,x5,_,hD,_=>⟨D,x4,x5,by simp[dR,Mn],rfl,fun _ z=>nomatch z⟩
 | q::bs,pre,told,D,x4,x5,e,hD,ht=>by
  have GI:pre.length<=as.length:=by rw[e,bK];lia
  have hq:as[pre.length]?=some q:=by rw[e];simp
  obtain⟨D1,h1,h2,h3,h4⟩:=DH hP hR hk hf (by lia) pre.length q hq hr hD told (by lia)
  obtain⟨D2,y4,y5,h5,h6,h7⟩:=tj hP hR hk hf hl hr bs (pre++[q]) (told++[nT (qh as kvs nx pre.length q)]) D1 (.val (.int (pre.length:Int))) (.val (eN q)) (by rw[e];simp) h2 (by simp[ht])
  rw[show(pre++[q]).length=pre.length+1 by simp]at h5 h6 h7
  refine⟨D2,y4,y5,?_,by simp[Mn,h6],fun x hx=>?_⟩
  ·rw[bR,dR,Mn,bR,show told++nT (qh as kvs nx pre.length q)::(Mn as kvs nx (pre.length+1) bs).map nT=told++[nT (qh as kvs nx pre.length q)]++(Mn as kvs nx (pre.length+1) bs).map nT by simp]
   exact fC rfl h1 h5
  ·rcases bc.mp hx with rfl | hx
   ·exact⟨h3,h4⟩
   ·exact h7 x hx
end
def jV(L:List (List cL))(nx:Nat->List Nat):List (List Nat):=Mn (ei 0 L) (DG (ei 0 L) 0 []) nx 0 (ei 0 L)
theorem O9(k:Nat){fs:az}{I:Int}{nm res b7:PV}{R1 R2:List Rk}{L:List (List cL)}{nx:Nat->List Nat}(hP:atI fs I=some (Dy nm res b7 R1 R2))(hA:run bC k "acts" [.aB fs,.int I]=some (.own (xZ 0 L)))(hR:yd (run bC k) b7 L.length nx)(hz:(ei 0 L).length<=40000) :
  run bC (k+1) "nexts" [.aB fs,.int I]=some (.own ((jV L nx).map nT))/\(jV L nx).length=(ei 0 L).length/\∀l∈jV L nx,l.length<=2/\∀m∈l,m<(ei 0 L).length:=by
 rw[nU]at hA;obtain⟨⟨x4,x5,h1⟩,h2,-,h4⟩:=kR (run bC k) (.aB fs) (.int I) (.au ((ei 0 L).map eN)) (ei 0 L) 0 [] .un .un (fun _ z=>nomatch z) (by simp) (by lia)
 rw[jL]at h2;obtain⟨D',y4,y5,g1,g2,g3⟩:=tj (as:=ei 0 L) hP hR h2 (fun j hj=>by
  obtain⟨a,ha⟩:=AZ L 0 j (gn _) (by lia)
  exact h4 _ ha) hz (fun q hq=>by have:=AY L 0 q hq;lia) (ei 0 L) [] [] (.eW (.k (DG (ei 0 L) 0 []))) x4 x5 rfl .d rfl
 refine⟨?_,g2,g3⟩;rw[Ha,aU];rw[gE]at g1;exact Ac (sq (aS (dO (cA rfl (cA rfl rfl)) rfl hA rfl) rfl) (sq (fj:=[.val (.aB fs),.val (.int I),.val (.au ((ei 0 L).map eN)),.eW (.k []),.un,.un,.un]) rfl (sq (fS rfl h1) (sq (sO rfl (by simp)) (sq (fS rfl g1) (Ad rfl))))))
end cz
namespace cz
open PySem L2 L2.PL mH Al
def iN(n:Nat):PV:=.int (n:Int)
structure Pb (ls:List (List Nat)) (N:Nat):Prop where
 len:ls.length=N
 ok:∀l∈ls,l.length<=2/\∀m∈l,m<N
 pos:0<N
 few:N<128
def kF(n:Nat)(x:Str)(j:Nat):List cy:=[.inl (n:Int),.inr x,.inl (j:Int)]
def pF(n:Nat)(x:Str)(j:Nat):PV:=.aB [.int (n:Int),.str x,.int (j:Int)]
structure QR (a:cL) (f m:Nat):Prop where
 ef:a.f=(f:Int)
 em:a.m=(m:Int)
 few:f+m<=1000
theorem Hw(k i:Nat){a:cL}{f m:Nat}(h:QR a f m):run bC (k+1) "touched" [jw i a]=some (.val (.au ((List.range m).map fun j=>iN (f+j)))):=by
 rw[Ar,aU];refine dh (rS (fF ?_));have e4:af (rd 0) (kI 4) aG [.val (jw i a)]=some (.int (f:Int)):=by rw[<-h.ef];rfl
 have e5:af (rd 0) (kI 5) aG [.val (jw i a)]=some (.int (m:Int)):=by rw[<-h.em];rfl
 have ha:(aa (af (rd 0) (kI 4) aG) (aa (af (af (rd 0) (kI 4) aG) (af (rd 0) (kI 5) aG) bW) ai)) [.val (jw i a)]=some [.int (f:Int),.int ((f:Int)+(m:Int))]:=cA e4 (cA (b2 e4 e5 rfl) rfl);show((aa _ _) [.val (jw i a)]).bind _=_;rw[ha,aV];have hl:S2 [.int (f:Int),.int ((f:Int)+(m:Int))]=some (PyProof.Rows.rangeInts (f:Int) 1 ((f:Int)+(m:Int)-(f:Int)).toNat):=if_pos ⟨by lia,by lia,by have:=h.few;lia⟩
 rw[hl,show((f:Int)+(m:Int)-(f:Int)).toNat=m by lia]
 show some (((List.range m).map fun(i:Nat)=>(f:Int)+(i:Int)*1).map PV.int)=_
 rw[fw]
 congr 1
 refine qG fun j _=>?_
 show PV.int ((f:Int)+(j:Int)*1)=PV.int ((f+j:Nat):Int)
 congr 1
 lia
theorem Lz{fa fb fc:FE}{ρ:aF}{f j g:Nat}(h1:fa ρ=some (.int (f:Int)))(h2:fb ρ=some (.int (j:Int)))(h3:fc ρ=some (.int (g:Int))):chain fa fb fc Nq Er ρ=some (.bl (decide (f<=j)&&decide (j<g))):=by
 rw[KN,h1,h2];simp only[aV];have e:Nq (.int (f:Int)) (.int (j:Int))=some (.bl (decide (f<=j))):=by
  show some (PV.bl (decide ((f:Int)<=(j:Int))))=_;simp
 rw[e,aV];by_cases hfj:f<=j
 ·rw[fQ hfj,KO,h3,aV,EW];simp
 ·rw[eG hfj,KP];simp
theorem QS{fa fb:FE}{ρ:aF}{b:Bool}{c:Bool}(h1:fa ρ=some (.bl b))(h2:b=true->fb ρ=some (.bl c)):zd fa fb ρ=some (.bl (b&&c)):=by
 rw[OB,h1];cases b with
 | true=>simp[h2 rfl,toBE_bl]
 | false=>simp[toBE_bl]
section
variable {X:List Str} {Bd N:Nat}
def kU(N:Nat)(X:List Str)(Bd:Nat):List (List cy):=(List.range N).flatMap fun n=>X.flatMap fun x=>(List.range Bd).map fun j=>kF n x j
theorem pd{f:List cy}:f∈kU N X Bd↔∃n x j,n<N/\x∈X/\j<Bd/\f=kF n x j:=by
 unfold kU;constructor
 ·intro h;obtain⟨n,hn,h⟩:=jg.mp h;obtain⟨x,hx,h⟩:=jg.mp h;obtain⟨j,hj,rfl⟩:=bG.mp h;exact⟨n,x,j,fU.mp hn,hx,fU.mp hj,rfl⟩
 ·rintro⟨n,x,j,hn,hx,hj,rfl⟩
  exact jg.mpr ⟨n,fU.mpr hn,jg.mpr ⟨x,hx,bG.mpr ⟨j,fU.mpr hj,rfl⟩⟩⟩
theorem vC{α:Type}(l:List α)(c:Nat):(l.map fun _=>c).sum=l.length*c:=by
 induction l with
 | nil=>simp
 | cons x l ih=>rw[bR,List.sum_cons,ih,bq,vY];lia
theorem DI:(kU N X Bd).length=N*(X.length*Bd):=by
 unfold kU;rw[List.length_flatMap];have e:((List.range N).map fun n=>(X.flatMap fun x=>(List.range Bd).map fun j=>kF n x j).length)=(List.range N).map fun _=>X.length*Bd:=qG fun n _=>by
  rw[List.length_flatMap];have e:(X.map fun x=>((List.range Bd).map fun j=>kF n x j).length)=X.map fun _=>Bd:=qG fun x _=>by simp
  rw[e,vC]
 rw[e,vC,om]
theorem A1{α β:Type}(f:α->List β)(c:Nat):∀l:List α,(∀x∈l,(f x).length<=c)->(l.flatMap f).length<=l.length*c
 | [],_=>by simp
 | x::l,h=>by
  have:=h x b6;have:=A1 f c l fun y hy=>h y (bQ _ hy)
  rw[oo,bK,bq,vY]
  lia
end
theorem A5(n:Nat):∀l:List Nat,Cy (iN n) (l.map iN)=decide (n∈l)
 | []=>rfl
 | m::l=>by
  have ih:=A5 n l;unfold Cy at ih ⊢;rw[bR,l9,ih];have e:eqT (iN m) (iN n)=decide (m=n):=by
   rw[Bool.eq_iff_iff];simp only[iN,eqT,ox,gD]
   lia
  rw[e];by_cases h:m=n
  ·simp[h]
  ·have h':¬n=m:=fun z=>h z.symm
   simp[h,h']
theorem Pc(b:Bool)(n:Nat)(l:List Nat):pU b (iN n) (nT l)=some (.bl (if b=true then !decide (n∈l)else decide (n∈l))):=by
 have hd:eA (l.map iN)<=hJ:=by
  have:=AR (l.map fun m:Nat=>(m:Int))
  rw[fw]at this;show eA (l.map (PV.int ∘ fun m:Nat=>(m:Int)))<=_
  rw[this];exact gn _
 show(if eA (l.map iN)<=hJ then some (PV.bl (if b=true then !Cy (iN n) (l.map iN)else Cy (iN n) (l.map iN)))else none)=_
 rw[if_pos hd,A5]
theorem Fg{ga gb:eP}{ρ:aF}{b c:Bool}(h1:ga ρ=some b)(h2:b=true->gb ρ=some c):gA ga gb ρ=some (b&&c):=by
 rw[Oz,h1,aV];cases b with
 | true=>rw[if_pos rfl,h2 rfl];rfl
 | false=>rfl
def fct(n:Nat)(x:Str)(j:Nat)(c:Int):PV:=.aB [.int (n:Int),.str x,.int (j:Int),.int c]
theorem LB{ga gb:eP}{ρ:aF}{b:Bool}(h1:ga ρ=some false)(h2:gb ρ=some b):zc ga gb ρ=some b:=by
 rw[KI,h1,aV,if_neg (by simp),h2]
theorem told_at{told:gK}{i n j:Nat}{x:Str}{c:Int}(h:told[i]?=some (kF n x j,c)):atI (told.map toldP) (i:Int)=some (fct n x j c):=dk (by rw[cu,h];rfl)
def lT(l:List Nat):PV:=.au (l.map iN)
def QT(acc:List (List Int))(m:Nat)(v:Int):Prop:=∃ns,acc[m]?=some ns/\v∈ns
theorem Pd{acc:List (List Int)}{j:Nat}{ns:List Int}(h:acc[j]?=some ns)(n:Int)(m:Nat)(v:Int):QT (acc.set j (ns++[n])) m v↔QT acc m v\/v=n/\m=j:=by
 have hl:=(cP.mp h).1;unfold QT;by_cases e:j=m
 ·subst e;rw[bP hl,h];constructor
  ·rintro⟨l,z,hv⟩
   cases z;rcases cR.mp hv with z | z
   ·exact .inl ⟨ns,rfl,z⟩
   ·exact .inr ⟨cq.mp z,rfl⟩
  ·rintro(⟨l,z,hv⟩ | ⟨rfl,_⟩)
   ·cases z;exact⟨_,rfl,ir _ hv⟩
   ·exact⟨_,rfl,dC _ (cq.mpr rfl)⟩
 ·rw[bx e];constructor
  ·exact .inl
  ·rintro(z | ⟨_,z⟩)
   ·exact z
   ·exact absurd z.symm e
theorem Fh(n:Int):∀(l:List Nat) (acc:List (List Int)) (C:Nat),(∀m∈l,m<acc.length)->(∀ns∈acc,ns.length<=C)->C+l.length<=1000 ->
  ∃acc',wZ n (l.map iN) acc=some acc'/\acc'.length=acc.length/\(∀ns∈acc',ns.length<=C+l.length)/\∀m v,QT acc' m v↔QT acc m v\/v=n/\m∈l
 | [],acc,C,_,hc,_=>⟨acc,rfl,rfl,by simpa using hc,by simp⟩
 | j::l,acc,C,h,hc,hz=>by
  rw[bq]at hz;have hj:=h j b6;obtain⟨ns,F6⟩:∃ns,acc[j]?=some ns:=⟨_,du hj⟩
  have GI:=hc ns (cj F6);have hA:Od n acc (iN j)=some (acc.set j (ns++[n])):=by
   show(if(0:Int)<=(j:Int)then(acc[((j:Int)).toNat]?).bind (fun ns=>if ns.length<gB then some (acc.set ((j:Int)).toNat (ns++[n]))else none)else none)=_
   rw[if_pos (by lia),fP,F6,aV,if_pos (K4 (by lia))]
  obtain⟨acc',e1,e2,e3,e4⟩:=Fh n l (acc.set j (ns++[n])) (C+1) (fun m hm=>by rw[dw];exact h m (bQ _ hm)) (fun ms hm=>by
   rcases List.mem_or_eq_of_mem_set hm with z | z
   ·have:=hc ms z;lia
   ·subst z;rw[bK];show ns.length+1<=C+1;lia) (by lia)
  refine⟨acc',?_,by rw[e2,dw],fun ms hm=>by have:=e3 ms hm;rw[bq];lia,fun m v=>?_⟩
  ·rw[bR,wZ,hA,aV];exact e1
  ·rw[e4,Pd F6];simp only[bc];constructor
   ·rintro((z | ⟨z,w⟩) | ⟨z,w⟩)
    ·exact .inl z
    ·exact .inr ⟨z,.inl w⟩
    ·exact .inr ⟨z,.inr w⟩
   ·rintro(z | ⟨z,w | w⟩)
    ·exact .inl (.inl z)
    ·exact .inl (.inr ⟨z,w⟩)
    ·exact .inr ⟨z,w⟩
theorem Fi:∀(ls:List (List Nat)) (i:Nat) (acc:List (List Int)) (C:Nat),(∀l∈ls,l.length<=2/\∀m∈l,m<acc.length)->(∀ns∈acc,ns.length<=C)->C+2*ls.length<=1000 ->
  ∃acc',w5 i (ls.map nT) acc=some acc'/\acc'.length=acc.length/\(∀ns∈acc',ns.length<=C+2*ls.length)/\∀m v,QT acc' m v↔QT acc m v\/∃(k:Nat) (l:List Nat),ls[k]?=some l/\m∈l/\v=((i+k:Nat):Int)
 | [],i,acc,C,_,hc,_=>⟨acc,rfl,rfl,by simpa using hc,by simp⟩
 | l::ls,i,acc,C,h,hc,hz=>by
  rw[bq]at hz;obtain⟨h1,h2⟩:=h l b6;obtain⟨ac,a1,a2,a3,a4⟩:=Fh (i:Int) l acc C h2 hc (by lia)
  obtain⟨acc',e1,e2,e3,e4⟩:=Fi ls (i+1) ac (C+2) (fun l' hl=>by rw[a2];exact h l' (bQ _ hl)) (fun ns hn=>by have:=a3 ns hn;lia) (by lia)
  refine⟨acc',?_,by rw[e2,a2],fun ns hn=>by have:=e3 ns hn;rw[bq];lia,fun m v=>?_⟩
  ·show(wZ (i:Int) (l.map iN) acc).bind (w5 (i+1) (ls.map nT))=_;rw[a1,aV];exact e1
  ·rw[e4,a4];constructor
   ·rintro((z | ⟨z,w⟩) | ⟨k,l',z1,z2,z3⟩)
    ·exact .inl z
    ·exact .inr ⟨0,l,rfl,w,z⟩
    ·exact .inr ⟨k+1,l',z1,z2,by rw[z3];congr 1;lia⟩
   ·rintro(z | ⟨k,l',z1,z2,z3⟩)
    ·exact .inl (.inl z)
    ·cases k with
     | zero=>cases z1;exact .inl (.inr ⟨z3,z2⟩)
     | succ k=>exact .inr ⟨k,l',z1,z2,by rw[z3];congr 1;lia⟩
theorem Pe{ls:List (List Nat)}{N:Nat}(H:Pb ls N):∃ah:List (List Nat),(∀k,run bC (k+1) "acts_ahead" [.au (ls.map nT)]=some (.val (.au (ah.map lT))))/\ah.length=N/\∀(m:Nat) (l:List Nat),ah[m]?=some l->l.length<=300/\∀n,n∈l↔∃l',ls[n]?=some l'/\m∈l':=by
 have hf:=H.few;obtain⟨acc,e1,e2,e3,e4⟩:=Fi ls 0 (List.replicate ls.length []) 0 (fun l hl=>by rw[iq,H.len];exact H.ok l hl) (fun ns hn=>by rw[(List.mem_replicate.mp hn).2];simp) (by rw[H.len];lia)
 have e4':∀m v,QT acc m v↔∃(k:Nat) (l:List Nat),ls[k]?=some l/\m∈l/\v=(k:Int):=fun m v=>by
  rw[e4];constructor
  ·rintro(⟨ns,z,w⟩ | ⟨k,l,z1,z2,z3⟩)
   ·rw[ip]at z;split at z
    ·cases z;cases w
    ·cases z
   ·exact⟨k,l,z1,z2,by rw[z3];congr 1;lia⟩
  ·rintro⟨k,l,z1,z2,z3⟩
   exact .inr ⟨k,l,z1,z2,by rw[z3];congr 1;lia⟩
 have nat:∀(m:Nat) (ns:List Int),acc[m]?=some ns->∀v∈ns,v=((v.toNat:Nat):Int):=fun m ns h v hv=>by
  obtain⟨k,l,_,_,rfl⟩:=(e4' m v).mp ⟨ns,h,hv⟩;rfl
 have ep:w6 acc=(acc.map fun ns=>ns.map Int.toNat).map lT:=by
  unfold w6;rw[fw];refine qG fun ns hn=>?_
  obtain⟨m,hm⟩:=vM hn;show PV.au _=PV.au ((ns.map Int.toNat).map iN);rw[fw]
  congr 1
  refine qG fun v hv=>?_
  show PV.int v=PV.int ((v.toNat:Nat):Int);rw[<-nat m ns hm v hv]
 refine⟨acc.map fun ns=>ns.map Int.toNat,fun k=>?_,by rw[aC,e2,iq,H.len],fun m l h=>?_⟩
 ·rw[sR,aU,<-ep];have hc:dD [none,none] (cJ (rd 0)) (ao 1) (fun _=>some PV.cG) [.val (.au (ls.map nT)),.un,.un,.un,.un]=some ((ls.map nT).map fun _=>.cG):=cV (ps:=ls.map nT) rfl (by rw[aC,H.len];lia) (z0 fun _ _=>rfl)
  have hs:Kh [none,none] (ao 1) 2 0 3 1 4 [.val (.au (ls.map nT)),.un,.un,.un,.un]=some (.nx [.val (.au (ls.map nT)),.un,.val (.au (w6 acc)),.un,.un]):=by
   show(if(((dD [none,none] (cJ (rd 0)) (ao 1) (fun _=>some PV.cG) [Ent.val (.au (ls.map nT)),.un,.un,.un,.un]).isSome&&_&&_&&_)=true)then(w5 0 (ls.map nT) (List.replicate (ls.map nT).length [])).map _ else none)=_
   rw[hc,aC,e1];rfl
  exact dh (sq hs (rS rfl))
 ·rw[cu]at h;cases z:acc[m]? with
  | none=>rw[z]at h;cases h
  | some ns =>
   rw[z]at h;cases h;have:=e3 ns (cj z);refine⟨by rw[aC];rw[H.len]at this;lia,fun n=>?_⟩
   constructor
   ·intro hn;obtain⟨v,hv,rfl⟩:=bG.mp hn;obtain⟨k,l,z1,z2,rfl⟩:=(e4' m v).mp ⟨ns,z,hv⟩;exact⟨l,z1,z2⟩
   ·rintro⟨l,z1,z2⟩
    obtain⟨ms,w1,w2⟩:=(e4' m (n:Int)).mpr ⟨n,l,z1,z2,rfl⟩;rw[z]at w1;cases w1;exact bG.mpr ⟨_,w2,rfl⟩
def ye(a:cL):Bool:=(Str.ofString "lend")==a.w || (Str.ofString "sole")==a.w
theorem yf(k i:Nat)(a:cL):run bC (k+1) "is_lending" [jw i a]=some (.val (.bl (ye a))):=by
 rw[sQ,aU];exact dh (rS (b2 (x:=.str a.w) rfl rfl (XY _ _ _)))
structure mE (X:List Str) (Bd:Nat) (a:cL):Prop where
 at_:QR a a.f.toNat a.m.toNat
 thr:a.t=true->a.n∈X/\a.f.toNat+a.m.toNat<=Bd
 few:a.m.toNat<=Bd
def pP(p:Str×Nat):PV:=.aB [.str p.1,iN p.2]
def Mo(r:Nat)(q:Nat×cL):List (Str×Nat):=if(decide (q.1=r)&&ye q.2)=true then(List.range q.2.m.toNat).map fun j=>(q.2.k,j)else []
def LC(as:List (Nat×cL))(r:Nat):List (Str×Nat):=as.flatMap (Mo r)
section
variable {X:List Str} {Bd:Nat} {as:List (Nat×cL)}
theorem Fj{q:Nat×cL}(h:mE X Bd q.2)(r:Nat):(Mo r q).length<=Bd:=by
 unfold Mo;split
 ·rw[aC,om];exact h.few
 ·simp
theorem p3(k:Nat)(L:PV)(r:Nat)(hB:Bd<=10):∀(as:List (Nat×cL)) (told:az) (x3:Ent),(∀q∈as,mE X Bd q.2)->told.length+10*as.length<=90000 ->
  ∃QU,fy (ao 3) (jR (run bC (k+1))) (as.map eN) [.val L,.val (iN r),.own told,x3]=some (.nx [.val L,.val (iN r),.own (told++(LC as r).map pP),QU])
 | [],told,x3,_,_=>⟨x3,by simp[LC]⟩
 | q::as,told,x3,h,hz=>by
  rw[bq]at hz;have ok:=h q b6;have hl:=Fj ok r;have hc:iC (gA (toB (af (af (rd 3) (kI 0) aG) (rd 1) dU)) (toB (aD (aP 1 (run bC (k+1) "is_lending")) (aa (rd 3) ai)))) [.val L,.val (iN r),.own told,.val (eN q)]=some (decide (q.1=r)&&ye q.2):=by
   show gA _ _ (eR none _)=_;refine Fg (bT (b2 (x:=.int (q.1:Int)) (y:=.int (r:Int)) rfl rfl ?_)) fun _=>bT (dO (cA rfl rfl) rfl (yf k q.1 q.2) rfl)
   rw[hV,decide_eq_decide.mpr (show(q.1:Int)=(r:Int)↔q.1=r by lia)]
  have hb:jR (run bC (k+1)) [.val L,.val (iN r),.own told,.val (eN q)]=some (.nx [.val L,.val (iN r),.own (told++(Mo r q).map pP),.val (eN q)]):=by
   unfold jR;by_cases hw:(decide (q.1=r)&&ye q.2)=true
   ·refine iT (hc.trans (by rw[hw])) ?_
    have e1:Mo r q=(List.range q.2.m.toNat).map fun j=>(q.2.k,j):=if_pos hw
    rw[e1]at hl ⊢;rw[aC,om]at hl;have e5:af (rd 3) (kI 5) aG [.val L,.val (iN r),.own told,.val (eN q)]=some (.int (q.2.m.toNat:Int)):=by rw[<-ok.at_.em];rfl
    rw[fw];refine mX rfl (fF (cV (hZ (j:=(q.2.m.toNat:Int)) (cA e5 rfl) (by lia)) (by simp;lia) ?_)) (by simp;lia)
    rw[fP];refine eE (e:=fun i:Nat=>PV.int (0+(i:Int))) fun j _=>?_
    show some (PV.aB [.str q.2.k,.int (0+(j:Int))])=_;rw[km];rfl
   ·have e1:Mo r q=[]:=if_neg hw;rw[e1];simp only[qN]at hw;refine iF (hc.trans (by rw[hw])) ?_
    simp
  obtain⟨QU,e⟩:=p3 k L r hB as (told++(Mo r q).map pP) (.val (eN q)) (fun p hp=>h p (bQ _ hp)) (by rw[bK,aC];lia)
  refine⟨QU,?_⟩;have ex:told++(LC (q::as) r).map pP=told++(Mo r q).map pP++(LC as r).map pP:=by
   unfold LC;rw[oo,cY,iw]
  rw[bR,ex];exact fC rfl hb e
theorem LD(k r:Nat)(hB:Bd<=10)(h:∀q∈as,mE X Bd q.2)(hz:as.length<=200):run bC (k+2) "handed" [.au (as.map eN),iN r]=some (.own ((LC as r).map pP)):=by
 rw[Dm,aU];obtain⟨x3,e⟩:=p3 k (.au (as.map eN)) r hB as [] .un h (by simp;lia)
 rw[gE]at e;exact Ac (sq (sO rfl (by simp)) (sq (fS (sV rfl rfl) e) (Ad rfl)))
def DJ(as:List (Nat×cL))(q:Nat×cL):List (Str×Nat):=if(q.2.w==(Str.ofString "hand"))=true then LC as q.1 else if q.2.t=true then(List.range q.2.m.toNat).map (fun j=>(q.2.n,q.2.f.toNat+j))else []
theorem A6(k:Nat)(hB:Bd<=10)(h:∀q∈as,mE X Bd q.2)(hz:as.length<=200){q:Nat×cL}(hq:q∈as):run bC (k+3) "needed_by" [.au (as.map eN),eN q]=some (.val (.au ((DJ as q).map pP))):=by
 have ok:=h q hq;rw[uw,aU];have hc:toB (af (af (rd 1) (kI 1) aG) (kS "hand") dU) [.val (.au (as.map eN)),.val (eN q)]=some (q.2.w==(Str.ofString "hand")):=bT (b2 (x:=.str q.2.w) (y:=.str "hand") rfl rfl c8);have ht:j3 (toB (af (rd 1) (kI 3) aG)) [.val (.au (as.map eN)),.val (eN q)]=some (!q.2.t):=rfl;by_cases hw:(q.2.w==(Str.ofString "hand"))=true
 ·have e1:DJ as q=LC as q.1:=if_pos hw;rw[e1];exact dh (jq (iT (hc.trans (by rw[hw])) (rS (dO (cA rfl (cA rfl rfl)) rfl (LD k q.1 hB h hz) rfl))))
 ·have hw':=hw;simp only[qN]at hw';cases th:q.2.t with
  | false =>
   have e1:DJ as q=[]:=by unfold DJ;rw[if_neg hw,th];rfl
   rw[e1];exact dh (sq (iF (hc.trans (by rw[hw'])) rfl) (jq (iT (ht.trans (by rw[th];rfl)) (rS rfl))))
  | true =>
   have e1:DJ as q=(List.range q.2.m.toNat).map (fun j=>(q.2.n,q.2.f.toNat+j)):=by unfold DJ;rw[if_neg hw,th];rfl
   have hm:=ok.few;rw[e1,fw];refine dh (sq (iF (hc.trans (by rw[hw'])) rfl) (sq (iF (ht.trans (by rw[th];rfl)) rfl) (rS (fF (cV (sV (dO (cA rfl rfl) rfl (Hw (k+1) q.1 ok.at_) rfl) rfl) (by simp;lia) ?_)))))
   exact eE (e:=fun j=>iN (q.2.f.toNat+j)) (G:=fun j=>pP (q.2.n,q.2.f.toNat+j)) fun j _=>rfl
def QV(as:List (Nat×cL))(n:Nat)(q:Nat×cL):List (List cy):=(DJ as q).map fun p=>kF n p.1 p.2
def qA(as:List (Nat×cL)):Nat->List (Nat×cL)->List (List cy)
 | _,[]=>[]
 | n,q::bs=>QV as n q++qA as (n+1) bs
theorem yg{f:List cy}:∀{bs:List (Nat×cL)} {n:Nat},f∈qA as n bs↔∃(i:Nat) (q:Nat×cL),bs[i]?=some q/\f∈QV as (n+i) q
 | [],n=>by simp[qA]
 | q::bs,n=>by
  rw[qA,cR,yg (bs:=bs)];constructor
  ·rintro(h | ⟨i,p,h1,h2⟩)
   ·exact⟨0,q,rfl,h⟩
   ·exact⟨i+1,p,h1,by rw[show n+(i+1)=n+1+i by lia];exact h2⟩
  ·rintro⟨i,p,h1,h2⟩
   cases i with
   | zero=>cases h1;exact .inl h2
   | succ i=>exact .inr ⟨i,p,h1,by rw[show n+1+i=n+(i+1) by lia];exact h2⟩
theorem Pf(h:∀q∈as,mE X Bd q.2)(r:Nat):(LC as r).length<=as.length*Bd:=A1 _ Bd as fun q hq=>Fj (h q hq) r
theorem Fl(h:∀q∈as,mE X Bd q.2){q:Nat×cL}(hq:q∈as):(DJ as q).length<=as.length*Bd+Bd:=by
 have h1:=Pf h q.1;unfold DJ;split
 ·lia
 ·split
  ·rw[aC,om];have:=(h q hq).few
   lia
  ·simp
theorem vD(k:Nat)(P I A:PV)(hB:Bd<=10)(h:∀q∈as,mE X Bd q.2)(hz:as.length<=200)(M:Nat)(hM:as.length*Bd+Bd<=M):∀(bs:List (Nat×cL)) (n:Nat) (told:az) (x3 x4:Ent),(∀q∈bs,q∈as)->told.length+bs.length*M<=90000 ->
  ∃QU HU,fy (cC 2 (ax (ao 3) (ax (ao 4) cB))) (lq (run bC (k+3))) (dR n (bs.map eN)) [.val P,.val I,.own told,x3,x4,.val A,.val (.au (as.map eN))]=some (.nx [.val P,.val I,.own (told++(qA as n bs).map fz),QU,HU,.val A,.val (.au (as.map eN))])
 | [],n,told,x3,x4,_,_=>⟨x3,x4,by simp[qA,dR]⟩
 | q::bs,n,told,x3,x4,hs,ht=>by
  rw[bq,vY]at ht;have hq:=hs q b6;have hl:=Fl h hq;have hb:lq (run bC (k+3)) [.val P,.val I,.own told,.val (.int (n:Int)),.val (eN q),.val A,.val (.au (as.map eN))]=some (.nx [.val P,.val I,.own (told++(QV as n q).map fz),.val (.int (n:Int)),.val (eN q),.val A,.val (.au (as.map eN))]):=by
   unfold lq;unfold QV;rw[fw];refine mX rfl (fF (cV (sV (dO (cA rfl (cA rfl rfl)) rfl (A6 k hB h hz hq) rfl) rfl) (by rw[aC];lia) ?_)) (by rw[aC];lia)
   exact eE fun p _=>rfl
  obtain⟨QU,HU,e⟩:=vD k P I A hB h hz M hM bs (n+1) (told++(QV as n q).map fz) (.val (.int (n:Int))) (.val (eN q)) (fun p hp=>hs p (bQ _ hp)) (by
   unfold QV;rw[bK,aC,aC]
   lia)
  refine⟨QU,HU,?_⟩;have ex:told++(qA as n (q::bs)).map fz=told++(QV as n q).map fz++(qA as (n+1) bs).map fz:=by
   rw[qA,cY,iw]
  rw[bR,dR,ex];exact fC rfl hb e
def takes(as:List (Nat×cL))(n:Nat)(x:Str):Bool:=match as[n]? with
 | some q=>q.2.k==x
 | none=>true
def Z0(as:List (Nat×cL))(l:List Nat)(x:Str)(j:Nat):List (List cy):=(l.filter fun n=>!takes as n x).map fun n=>kF n x j
theorem tq(k:Nat){l:List Nat}(hl:l.length<=300)(hn:∀n∈l,n<as.length)(m:Nat)(x:Str)(j:Nat):run bC (k+1) "needed_ahead" [.au (as.map eN),lT l,pF m x j]=some (.val (.au ((Z0 as l x j).map fz))):=by
 rw[o8,aU];unfold Z0;rw[fw];refine dh (rS (fF (cT (ps:=l.map iN) rfl (by rw[aC];lia) ?_)))
 refine e9 fun n hm=>?_
 obtain⟨q,hq⟩:∃q,as[n]?=some q:=⟨_,du (hn n hm)⟩
 have t:ao 1 (iN n) (bj [none,none,some 2,some 0] [.val (.au (as.map eN)),.val (lT l),.val (pF m x j)])=some [.un,.val (iN n),.val (pF m x j),.val (.au (as.map eN))]:=rfl;have g:toB (af (af (af (rd 3) (rd 1) aG) (kI 6) aG) (af (rd 2) (kI 1) aG) t8) [.un,.val (iN n),.val (pF m x j),.val (.au (as.map eN))]=some (!takes as n x):=by
  unfold takes;rw[hq];exact bT (b2 (x:=.str q.2.k) (y:=.str x) (b2 (b2 (x:=.au (as.map eN)) (y:=.int (n:Int)) rfl rfl (dk (v:=eN q) (by rw[cu,hq];rfl))) rfl rfl) rfl qy)
 show(ao 1 (iN n) (bj [none,none,some 2,some 0] [.val (.au (as.map eN)),.val (lT l),.val (pF m x j)])).bind _=_;rw[t,aV,g,aV];cases takes as n x<;>rfl
end
theorem Ph{α β:Type}{l:List (α×β)}(h:(l.map (·.1)).Nodup){a:α}{b c:β}(h1:(a,b)∈l)(h2:(a,c)∈l):b=c:=by
 induction l with
 | nil=>cases h1
 | cons p r ih =>
  rw[bR,fu]at h;rcases bc.mp h1 with e1 | e1
  ·rcases bc.mp h2 with e2 | e2
   ·rw[<-e1]at e2;cases e2;rfl
   ·exact absurd (bG.mpr ⟨_,e2,by rw[<-e1]⟩) h.1
  ·rcases bc.mp h2 with e2 | e2
   ·exact absurd (bG.mpr ⟨_,e1,by rw[<-e2]⟩) h.1
   ·exact ih h.2 e1 e2
theorem A7(out:List cy->Option (List (List cy)))(ez:List (List cy))(U:List (List cy))(B:Nat)(hB:U.length+B<gB)(hn:U.length<vg)(hU:∀g∈U,∃fs,out g=some fs/\(∀f∈fs,f∈U)/\fs.length<=B)(hf:∀f∈ez,f∈U) :
  ∃res,fM out vg 0 (df [] (-1) ez)=some res/\(res.map (·.1)).Nodup/\(∀t∈res,t.1∈U)/\OU out ez res/\∀f c,(f,c)∈res->f∈ez->c = -1:=by
 obtain⟨more,h1,h2⟩:=gL (-1) ez [];obtain⟨res,r1,r2,r3,r4,r5,QO,r6⟩:=pX out ez U B hB hU vg 0 (df [] (-1) ez) (by lia) (gn _) (sL _ _ _ vV) (fun t ht=>by
  rw[h1,gE]at ht;exact hf _ (h2 t ht).2) (G7 out ez) (fun j g d hj=>absurd hj (Nat.not_lt_zero _))
 refine⟨res,r1,r2,r3,r4,fun f c hc hff=>?_⟩
 obtain⟨t,ht,e⟩:=bG.mp (oU (-1) ez [] f hff);have ht2:t.2 = -1:=by
  rw[h1,gE]at ht;exact(h2 t ht).1
 obtain⟨f',c'⟩:=t;simp only at e ht2;subst e ht2;exact Ph r2 hc (by rw[r6];exact ir _ ht)
structure DK (X:List Str) (as:List (Nat×cL)):Prop where
 inX:∀q∈as,(q.2.w==(Str.ofString "hand"))=true->∀p∈as,p.1=q.1->ye p.2=true->p.2.k∈X
 one:∀q∈as,(q.2.w==(Str.ofString "hand"))=true->∀p∈as,∀p'∈as,p.1=q.1->p'.1=q.1->ye p.2=true->ye p'.2=true->p.2.k=p'.2.k->p.2.m=p'.2.m
section
variable {X:List Str} {Bd N:Nat} {as:List (Nat×cL)} {ls ah:List (List Nat)}
abbrev Hx(k:Nat)(as:List (Nat×cL))(ah:List (List Nat)):List cy->Option (List (List cy)):=zN (aD (aP 3 (run bC (k+1) "needed_ahead")) (aa (rd 2) (aa (af (rd 1) (af (rd 0) (kI 0) aG) aG) (aa (rd 0) ai)))) [.val (.au (ah.map lT)),.val (.au (as.map eN))]
theorem Fm(k:Nat){n:Nat}{l:List Nat}(hl:ah[n]?=some l)(h3:l.length<=300)(hn:∀n∈l,n<as.length)(x:Str)(j:Nat):Hx k as ah (kF n x j)=some (Z0 as l x j):=by
 refine OZ ?_ fun f hf=>?_
 ·exact dO (cA rfl (cA (b2 (x:=.au (ah.map lT)) (y:=.int (n:Int)) rfl rfl (dk (v:=lT l) (by rw[cu,hl];rfl))) (cA rfl rfl))) rfl (tq k h3 hn n x j) rfl
 ·obtain⟨m,_,rfl⟩:=bG.mp hf;show 3<1000
  lia
theorem LF{n m:Nat}{x y:Str}{i j:Nat}(h:kF n x i=kF m y j):n=m/\x=y/\i=j:=by
 unfold kF at h;injection h with e1 e2
 injection e2 with e2 e3
 injection e3 with e3 _
 injection e1 with e1
 injection e2 with e2
 injection e3 with e3
 exact⟨by lia,e2,by lia⟩
theorem Fo{r:Nat}{x:Str}{j:Nat}:(x,j)∈LC as r↔∃p∈as,p.1=r/\ye p.2=true/\p.2.k=x/\j<p.2.m.toNat:=by
 unfold LC;constructor
 ·intro h;obtain⟨p,hp,h⟩:=jg.mp h;unfold Mo at h;split at h
  ·rename_i hc;rw[aQ,gD]at hc;obtain⟨i,hi,e⟩:=bG.mp h;cases e;exact⟨p,hp,hc.1,hc.2,rfl,fU.mp hi⟩
  ·cases h
 ·rintro⟨p,hp,h1,h2,h3,h4⟩
  refine jg.mpr ⟨p,hp,?_⟩;unfold Mo;rw[if_pos (by rw[aQ,gD];exact⟨h1,h2⟩)]
  exact bG.mpr ⟨j,fU.mpr h4,by rw[h3]⟩
theorem X2(hA:∀q∈as,mE X Bd q.2)(hH:DK X as){q:Nat×cL}(hq:q∈as){x:Str}{j:Nat}(h:(x,j)∈DJ as q):x∈X/\j<Bd:=by
 unfold DJ at h;split at h
 ·rename_i hw;obtain⟨p,hp,h1,h2,rfl,h4⟩:=Fo.mp h;have:=(hA p hp).few;exact⟨hH.inX q hq hw p hp h1 h2,by lia⟩
 ·split at h
  ·rename_i ht;obtain⟨i,hi,e⟩:=bG.mp h;cases e;obtain⟨g1,g2⟩:=(hA q hq).thr ht;have:=fU.mp hi;exact⟨g1,by lia⟩
  ·cases h
theorem T3{n:Nat}{x:Str}{j:Nat}:kF n x j∈qA as 0 as↔∃q,as[n]?=some q/\(x,j)∈DJ as q:=by
 rw[yg];constructor
 ·rintro⟨i,q,h1,h2⟩
  obtain⟨p,hp,e⟩:=bG.mp h2;obtain⟨e1,e2,e3⟩:=LF e;have:i=n:=by lia
  subst this;obtain⟨p1,p2⟩:=p;simp only at e2 e3;subst e2 e3;exact⟨q,h1,hp⟩
 ·rintro⟨q,h1,h2⟩
  exact⟨n,q,h1,bG.mpr ⟨_,h2,by rw[jL]⟩⟩
theorem Pj(k:Nat){fs:az}{I:Int}(hAc:run bC (k+4) "acts" [.aB fs,.int I]=some (.own (as.map eN)))(hNx:run bC (k+4) "nexts" [.aB fs,.int I]=some (.own (ls.map nT)))
  (hAh:run bC (k+4) "acts_ahead" [.au (ls.map nT)]=some (.val (.au (ah.map lT)))) (Mh:ah.length=N) (haN:∀(m:Nat) (l:List Nat),ah[m]?=some l->l.length<=300/\∀n,n∈l->n<N)
  (hA:∀q∈as,mE X Bd q.2) (hH:DK X as) (hN:as.length=N) (hf:N<128) (hB:Bd<=3) (hU:N*(X.length*Bd)<5000) :
  ∃told:gK,run bC (k+5) "needs" [.aB fs,.int I]=some (.val (.au (told.map toldP)))/\(∀t∈told,t.1∈kU N X Bd)/\OU (Hx (k+3) as ah) (qA as 0 as) told/\(told.map (·.1)).Nodup/\∀f c,(f,c)∈told->f∈qA as 0 as->c = -1:=by
 have N2:∀g∈kU N X Bd,∃fs,Hx (k+3) as ah g=some fs/\(∀f∈fs,f∈kU N X Bd)/\fs.length<=300:=fun g hg=>by
  obtain⟨n,x,j,hn,hx,hj,rfl⟩:=pd.mp hg;obtain⟨l,hl⟩:∃l,ah[n]?=some l:=⟨_,du (by lia)⟩
  obtain⟨o1,o2⟩:=haN n l hl;refine⟨_,Fm (k+3) hl o1 (by rw[hN];exact o2) x j,fun f hf=>?_,?_⟩
  ·obtain⟨m,hm,rfl⟩:=bG.mp hf;exact pd.mpr ⟨m,x,j,o2 m (gF.mp hm).1,hx,hj,rfl⟩
  ·unfold Z0;rw[aC];exact cF (List.length_filter_le _ _) o1
 have LG:∀f∈qA as 0 as,f∈kU N X Bd:=fun f hf=>by
  obtain⟨i,q,h1,h2⟩:=yg.mp hf;obtain⟨p,hp,rfl⟩:=bG.mp h2;obtain⟨g1,g2⟩:=X2 hA hH (cj h1) (x:=p.1) (j:=p.2) hp;have:=(cP.mp h1).1;exact pd.mpr ⟨0+i,p.1,p.2,by lia,g1,g2,rfl⟩
 obtain⟨told,t1,t2,t3,t4,t5⟩:=A7 (Hx (k+3) as ah) (qA as 0 as) (kU N X Bd) 300 (by rw[DI,C3];lia) (by rw[DI];exact hU) N2 LG
 refine⟨told,?_,t3,t4,t2,t5⟩;have hm1:as.length*Bd+Bd<=400:=by
  have:as.length*Bd<=127*3:=Nat.mul_le_mul (by lia) hB
  lia
 have hm2:as.length*400<=60000:=by
  have:as.length*400<=127*400:=Nat.mul_le_mul_right _ (by lia)
  lia
 obtain⟨QU,HU,e⟩:=vD (k+1) (.aB fs) (.int I) (.au (ah.map lT)) (by lia) hA (by lia) 400 hm1 as 0 [] .un .un (fun _ z=>z) (by simp only[jk];lia)
 rw[gE]at e;have Qy:(qA as 0 as).length<=60000:=by
  have:∀(bs:List (Nat×cL)) (n:Nat),(∀q∈bs,q∈as)->(qA as n bs).length<=bs.length*400:=fun bs=>by
   induction bs with
   | nil=>intro n _;simp[qA]
   | cons q r ih =>
    intro n hs;have h1:=Fl hA (hs q b6);have h2:=ih (n+1) fun p hp=>hs p (bQ _ hp)
    rw[qA,bK,bq,vY];unfold QV;rw[aC]
    lia
  have:=this as 0 fun _ z=>z
  lia
 rw[Hg,aU];refine dh (sq (aS (dO (cA rfl (cA rfl rfl)) rfl hAc rfl) rfl) (sq (aS (dO (cA (dO (cA rfl (cA rfl rfl)) rfl hNx rfl) rfl) rfl hAh rfl) rfl) (sq (sO rfl (by simp)) (sq (fS rfl e) ?_))))
 refine rS (fF (Dd (fk:=qA as 0 as) rfl (fun f hf=>?_) (by rw[C3];lia) t1))
 obtain⟨n,x,j,_,_,_,rfl⟩:=pd.mp (LG f hf);show 3<1000
 lia
def Pk(as:List (Nat×cL))(r:Nat)(x:Str):Option (Nat×cL):=as.find? fun p=>decide (p.1=r)&&(ye p.2&&p.2.k==x)
def X3(as:List (Nat×cL))(q:Nat×cL)(x:Str)(j:Nat):Bool:=if(q.2.w==(Str.ofString "hand"))=true then(match Pk as q.1 x with | some p=>decide (j<p.2.m.toNat) | none=>false)else q.2.t&&(q.2.n==x&&(decide (q.2.f.toNat<=j)&&decide (j<q.2.f.toNat+q.2.m.toNat)))
theorem T4(hH:DK X as){q:Nat×cL}(hq:q∈as)(x:Str)(j:Nat):X3 as q x j=true↔(x,j)∈DJ as q:=by
 unfold X3 DJ;by_cases hw:(q.2.w==(Str.ofString "hand"))=true
 ·rw[if_pos hw,if_pos hw,Fo];unfold Pk;cases e:as.find? fun p=>decide (p.1=q.1)&&(ye p.2&&p.2.k==x)with
  | none =>
   refine⟨(fun z=>by cases z),?_⟩
   rintro⟨p,hp,h1,h2,h3,h4⟩
   have:=List.find?_eq_none.mp e p hp;simp[h1,h2,h3]at this
  | some p0 =>
   have hm:=List.mem_of_find?_eq_some e;have hc:=List.find?_some e;simp only[aQ,gD,ox]at hc;constructor
   ·intro h;exact⟨p0,hm,hc.1,hc.2.1,hc.2.2,qK h⟩
   ·rintro⟨p,hp,h1,h2,h3,h4⟩
    have:=hH.one q hq hw p hp p0 hm h1 hc.1 h2 hc.2.1 (h3.trans hc.2.2.symm);exact fQ (by rw[<-this];exact h4)
 ·rw[if_neg hw,if_neg hw];cases ht:q.2.t with
  | false=>simp
  | true =>
   rw[if_pos rfl,Bool.true_and,bG];simp only[aQ,ox,gD,fU];constructor
   ·rintro⟨h1,h2,h3⟩
    exact⟨j-q.2.f.toNat,by lia,by rw[h1];congr 1;lia⟩
   ·rintro⟨i,hi,e⟩
    cases e;exact⟨rfl,by lia,by lia⟩
theorem Fp(k:Nat)(n:Nat)(x:Str)(j:Nat)(q:Nat×cL)(L:PV):∀(as:List (Nat×cL)) (x5:Ent),(∀p∈as,mE X Bd p.2)->∃ρ,fy (ao 5) (jc (run bC k)) (as.map eN) [.val L,.val (iN n),.val (.str x),.val (iN j),.val (eN q),x5]=some (match Pk as q.1 x with | some p=>.rt (.val (.bl (decide (j<p.2.m.toNat)))) | none=>.nx ρ)
 | [],x5,_=>⟨[.val L,.val (iN n),.val (.str x),.val (iN j),.val (eN q),x5],rfl⟩
 | p::as,x5,h=>by
  obtain⟨ρ,e⟩:=Fp k n x j q L as (.val (eN p)) fun r hr=>h r (bQ _ hr)
  refine⟨ρ,?_⟩;have ok:=(h p b6).at_;have hc:gA (toB (af (af (rd 5) (kI 0) aG) (af (rd 4) (kI 0) aG) dU)) (gA (toB (af (af (rd 5) (kI 1) aG) (aZ (aa (kS "lend") (aa (kS "sole") ai))) (pU false))) (toB (af (af (rd 5) (kI 6) aG) (rd 2) dU))) [.val L,.val (iN n),.val (.str x),.val (iN j),.val (eN q),.val (eN p)]=some (decide (p.1=q.1)&&(ye p.2&&p.2.k==x)):=by
   refine Fg (bT (b2 (x:=.int (p.1:Int)) (y:=.int (q.1:Int)) rfl rfl ?_)) fun _=>Fg (bT (b2 (x:=.str p.2.w) (y:=.aB [.str "lend",.str "sole"]) rfl rfl (XY _ _ _))) fun _=>bT (b2 (x:=.str p.2.k) (y:=.str x) rfl rfl c8)
   rw[hV,decide_eq_decide.mpr (show(p.1:Int)=(q.1:Int)↔p.1=q.1 by lia)]
  rw[bR];by_cases hb:(decide (p.1=q.1)&&(ye p.2&&p.2.k==x))=true
  ·have ef:Pk (p::as) q.1 x=some p:=by unfold Pk;rw[kh,hb]
   rw[ef];refine fR (eu:=[.val L,.val (iN n),.val (.str x),.val (iN j),.val (eN q),.val (eN p)]) rfl ?_;unfold jc;refine iT (hc.trans (by rw[hb])) (rS ?_)
   have e5:af (rd 5) (kI 5) aG [.val L,.val (iN n),.val (.str x),.val (iN j),.val (eN q),.val (eN p)]=some (.int (p.2.m.toNat:Int)):=by rw[<-ok.em];rfl
   refine(Lz (f:=0) (j:=j) rfl rfl e5).trans ?_;rw[fQ (gn j),Bool.true_and]
  ·have ef:Pk (p::as) q.1 x=Pk as q.1 x:=by
    simp only[qN]at hb;unfold Pk;rw[kh,hb]
   rw[ef];refine fC (eu:=[.val L,.val (iN n),.val (.str x),.val (iN j),.val (eN q),.val (eN p)]) rfl ?_ e;unfold jc;simp only[qN]at hb;exact iF (hc.trans (by rw[hb])) rfl
theorem LH(k:Nat)(hA:∀q∈as,mE X Bd q.2){n:Nat}{q:Nat×cL}(hq:as[n]?=some q)(x:Str)(j:Nat):run bC (k+1) "_law_itself" [.au (as.map eN),iN n,.str x,iN j]=some (.val (.bl (X3 as q x j))):=by
 have ok:=(hA q (cj hq)).at_;rw[AG,aU];have a0:bg (af (rd 0) (rd 1) aG) (ao 4) [.val (.au (as.map eN)),.val (iN n),.val (.str x),.val (iN j),.un,.un]=some (.nx [.val (.au (as.map eN)),.val (iN n),.val (.str x),.val (iN j),.val (eN q),.un]):=aS (b2 (x:=.au (as.map eN)) (y:=.int (n:Int)) rfl rfl (dk (v:=eN q) (by rw[cu,hq];rfl))) rfl
 have hc:toB (af (af (rd 4) (kI 1) aG) (kS "hand") dU) [.val (.au (as.map eN)),.val (iN n),.val (.str x),.val (iN j),.val (eN q),.un]=some (q.2.w==(Str.ofString "hand")):=bT (b2 (x:=.str q.2.w) (y:=.str "hand") rfl rfl c8);unfold X3;by_cases hw:(q.2.w==(Str.ofString "hand"))=true
 ·rw[if_pos hw];obtain⟨ρ,e⟩:=Fp k n x j q (.au (as.map eN)) as .un hA;cases hp:Pk as q.1 x with
  | some p =>
   rw[hp]at e;exact dh (sq a0 (jq (iT (hc.trans (by rw[hw])) (jq (fS (sV rfl rfl) e)))))
  | none =>
   rw[hp]at e;exact dh (sq a0 (jq (iT (hc.trans (by rw[hw])) (sq (fS (sV rfl rfl) e) rfl))))
 ·rw[if_neg hw];simp only[qN]at hw;have e4:af (rd 4) (kI 4) aG [.val (.au (as.map eN)),.val (iN n),.val (.str x),.val (iN j),.val (eN q),.un]=some (.int (q.2.f.toNat:Int)):=by rw[<-ok.ef];rfl
  have e5:af (rd 4) (kI 5) aG [.val (.au (as.map eN)),.val (iN n),.val (.str x),.val (iN j),.val (eN q),.un]=some (.int (q.2.m.toNat:Int)):=by rw[<-ok.em];rfl
  exact dh (sq a0 (sq (iF (hc.trans (by rw[hw])) rfl) (rS (QS (b:=q.2.t) rfl fun _=>QS (b2 (x:=.str q.2.n) (y:=.str x) rfl rfl c8) fun _=>Lz e4 rfl (b2 e4 e5 rfl)))))
end
theorem nV{c:fV}(S:Ent):∀(ps:List Sh) (told:az) (x2:Ent),(∀s∈ps,c "_law_leaves" [enc s]=some (.val (.au (cW (lv s)))))->told.length+(ik ps).length<=90000->∃Z1,fy (ao 2) (ja c) (cW ps) [S,.val (.au told),x2]=some (.nx [S,.val (.au (told++cW (ik ps))),Z1])
 | [],told,x2,_,_=>⟨x2,by simp[cW,ik]⟩
 | s::ps,told,x2,h,hz=>by
  simp only[ik,bK]at hz;have hb:ja c [S,.val (.au told),.val (enc s)]=some (.nx [S,.val (.au (told++cW (lv s))),.val (enc s)]):=by
   unfold ja;exact aS (b2 rfl (dO (cA rfl rfl) rfl (h s b6) rfl) (aL (by rw[jG];lia))) rfl
  obtain⟨Z1,e⟩:=nV S ps (told++cW (lv s)) (.val (enc s)) (fun t ht=>h t (bQ _ ht)) (by rw[bK,jG];lia)
  refine⟨Z1,?_⟩;have ex:told++cW (ik (s::ps))=told++cW (lv s)++cW (ik ps):=by
   simp only[ik,gU,cY,iw]
  rw[ex];show fy _ _ (enc s::cW ps) _=_;exact fC rfl hb e
theorem jW(k:Nat){s:Sh}(h:iH s=true):run bC (k+1) "_law_leaves" [enc s]=some (.val (.au [enc s])):=by
 rw[pY,aU];have h0:af (rd 0) (kI 0) aG [.val (enc s),.un,.un]=some (.str (E4 s)):=b2 rfl rfl (kQ (.ow s));exact dh (jq (iT (bT (b2 h0 rfl ((Lu s).trans (by rw[h])))) (rS rfl)))
mutual
theorem vE:∀(s:Sh) (k:Nat),dp s<=k->(lv s).length<=90000->run bC (k+1) "_law_leaves" [enc s]=some (.val (.au (cW (lv s))))
 | .num,k,_,_=>by rw[jW k rfl];simp[lv,cW]
 | .own,k,_,_=>by rw[jW k rfl];simp[lv,cW]
 | .c7 n,k,_,_=>by rw[jW k rfl];simp[lv,cW]
 | .bL ps,0,hd,_=>by simp[dp]at hd
 | .bL ps,k+1,hd,hz=>by
  simp only[dp]at hd;simp only[lv]at hz;rw[pY,aU];have h0:af (rd 0) (kI 0) aG [.val (enc (.bL ps)),.un,.un]=some (.str (E4 (.bL ps))):=b2 rfl rfl (kQ (.ow (.bL ps)));obtain⟨Z1,e⟩:=nV (c:=run bC (k+1)) (.val (enc (.bL ps))) ps [] .un (kW ps k (by lia) hz) (by simp;lia)
  rw[gE]at e;refine dh (sq (iF (bT (b2 h0 rfl (Lu (.bL ps)))) rfl) (sq (aS (fF rfl) rfl) (sq (fS (sV (b2 rfl rfl rfl) rfl) e) (rS ?_))));simp only[lv];rfl
theorem kW:∀(ps:List Sh) (k:Nat),sv ps<=k->(ik ps).length<=90000->∀s∈ps,run bC (k+1) "_law_leaves" [enc s]=some (.val (.au (cW (lv s))))
 | [],_,_,_,s,hs=>by cases hs
 | p::r,k,hd,hz,s,hs=>by
  simp only[sv]at hd;simp only[ik,bK]at hz;rcases bc.mp hs with e | e
  ·rw[e];exact vE p k (by lia) (by lia)
  ·exact kW r k (by lia) (by lia) s e
end
abbrev LS(S W:PV)(fs:az)(as:List (Nat×cL))(ls:List (List Nat))(told:gK)(x6 x7 x8 x9 LI A8:Ent):aF :=
 [.val S,.val W,.val (.aB fs),.val (.au (as.map eN)),.val (.au (ls.map nT)),.val (.au (told.map toldP)),x6,x7,x8,x9,LI,A8]
def X4(ls ah:List (List Nat)):Prop:=∀(m:Nat) (l:List Nat),ah[m]?=some l->l.length<=300/\∀n,n∈l↔∃l',ls[n]?=some l'/\m∈l'
section
variable {X:List Str} {Bd N:Nat} {as:List (Nat×cL)} {ls ah:List (List Nat)} {told:gK} {fs:az} {S W:PV}
theorem LJ(k kk:Nat)(hA:∀q∈as,mE X Bd q.2)(hH:DK X as)(H:Pb ls N)(hN:as.length=N)(Mh:ah.length=N)(Z2:X4 ls ah)
  (hU:∀t∈told,t.1∈kU N X Bd) (hW:OU (Hx kk as ah) (qA as 0 as) told) (hF:∀f c,(f,c)∈told->f∈qA as 0 as->c = -1) (i:Nat) (hi:i<told.length) (x7 x8 x9 LI A8:Ent) :
  ∃y7 y8 y9 T5 T6,qz (run bC (k+1)) (LS S W fs as ls told (.val (iN i)) x7 x8 x9 LI A8)=some (.nx (LS S W fs as ls told (.val (iN i)) y7 y8 y9 T5 T6)):=by
 obtain⟨⟨f,c⟩,ht⟩:∃t,told[i]?=some t:=⟨_,du hi⟩
 obtain⟨n,x,j,hnN,hx,hj,rfl⟩:=pd.mp (hU (f,c) (cj ht));have uf:=told_at ht;obtain⟨q,hq⟩:∃q,as[n]?=some q:=⟨_,du (by lia)⟩
 unfold qz;have a0:bg (af (rd 5) (rd 6) aG) (cC 4 (ax (ao 7) (ax (ao 8) (ax (ao 9) (ax (ao 10) cB))))) (LS S W fs as ls told (.val (iN i)) x7 x8 x9 LI A8)=some (.nx (LS S W fs as ls told (.val (iN i)) (.val (iN n)) (.val (.str x)) (.val (iN j)) (.val (.int c)) A8)):=aS (b2 (x:=.au (told.map toldP)) (y:=.int (i:Int)) rfl rfl uf) rfl;have UX:=hW i (kF n x j) c ht;have hc:c<(i:Int)/\¬c < -1:=by
  rcases UX with⟨z,_⟩ | ⟨jj,g,d,Rc,z1,z2,_⟩<;>lia
 have a1:gk (zc (j3 (toB (aD (aP 1 (run bC (k+1) "_law_whole")) (aa (rd 10) ai)))) (zc (toB (af (rd 10) (rd 6) Qn)) (toB (af (rd 10) (Gw (kI 1)) Er)))) (bz (cK (.bl false))) (fun ρ=>some (.nx ρ)) (LS S W fs as ls told (.val (iN i)) (.val (iN n)) (.val (.str x)) (.val (iN j)) (.val (.int c)) A8)=some (.nx (LS S W fs as ls told (.val (iN i)) (.val (iN n)) (.val (.str x)) (.val (iN j)) (.val (.int c)) A8)):=by
  refine iF (LB (nB (bT (dO (cA rfl rfl) rfl (O7 k c) rfl))) (LB (bT (b2 (x:=.int c) (y:=.int (i:Int)) rfl rfl ?_)) (bT (b2 (x:=.int c) (y:=.int (-1)) rfl rfl ?_)))) rfl
  ·rw[EX,eG (by lia)]
  ·rw[EW,eG (by lia)]
 have r9:X3 as q x j=decide (c = -1):=by
  have i1:=T4 hH (cj hq) x j;rw[Bool.eq_iff_iff,gD,i1];have i2:kF n x j∈qA as 0 as↔(x,j)∈DJ as q:=by
   rw[T3];exact⟨fun⟨q',h1,h2⟩=>by rw[hq]at h1;cases h1;exact h2,fun h=>⟨q,hq,h⟩⟩
  rw[<-i2];constructor
  ·exact fun h=>hF _ c (cj ht) h
  ·intro h;rcases UX with⟨_,z⟩ | ⟨jj,g,d,Rc,z1,z2,_⟩
   ·exact z
   ·lia
 have a2:gk (toB (af (af (rd 10) (Gw (kI 1)) dU) (aD (aP 4 (run bC (k+1) "_law_itself")) (aa (rd 3) (aa (rd 7) (aa (rd 8) (aa (rd 9) ai))))) t8)) (bz (cK (.bl false))) (fun ρ=>some (.nx ρ)) (LS S W fs as ls told (.val (iN i)) (.val (iN n)) (.val (.str x)) (.val (iN j)) (.val (.int c)) A8)=some (.nx (LS S W fs as ls told (.val (iN i)) (.val (iN n)) (.val (.str x)) (.val (iN j)) (.val (.int c)) A8)):=by
  refine iF (bT (b2 (x:=.bl (decide (c = -1))) (y:=.bl (decide (c = -1))) (b2 (x:=.int c) (y:=.int (-1)) rfl rfl hV) ?_ ?_)) rfl
  ·rw[<-r9];exact dO (cA rfl (cA rfl (cA rfl (cA rfl rfl)))) rfl (LH k hA hq x j) rfl
  ·cases decide (c = -1)<;>rfl
 have hg:toB (af (rd 10) (kI 0) Qn) (LS S W fs as ls told (.val (iN i)) (.val (iN n)) (.val (.str x)) (.val (iN j)) (.val (.int c)) A8)=some (decide (0<=c)):=bT (b2 (x:=.int c) (y:=.int 0) rfl rfl EX);rcases UX with⟨z,hf⟩ | ⟨jj,g,d,Rc,z1,z2,z3,z4,z5⟩
 ·exact⟨_,_,_,_,_,sq a0 (sq a1 (sq a2 (iF (hg.trans (by rw[eG (by lia)])) rfl)))⟩
 ·obtain⟨m,x',j',hm,Ga,hj',rfl⟩:=pd.mp (hU (g,d) (cj z3));obtain⟨l,hl⟩:∃l,ah[m]?=some l:=⟨_,du (by lia)⟩
  obtain⟨l3,lm⟩:=Z2 m l hl;have hln:∀n∈l,n<as.length:=fun n hn=>by
   obtain⟨l',h1,_⟩:=(lm n).mp hn;have:=(cP.mp h1).1;rw[H.len]at this
   lia
  rw[Fm kk hl l3 hln x' j']at z4;cases z4;obtain⟨n',Vf,e⟩:=bG.mp z5;obtain⟨e1,e2,e3⟩:=LF e;subst e1 e2 e3;obtain⟨hnl,X5⟩:=gF.mp Vf;obtain⟨la,Mp,hma⟩:=(lm n').mp hnl;have X5:(q.2.k==x')=false:=by
   unfold takes at X5;rw[hq]at X5;simpa using X5
  have acI:=told_at z3;refine⟨_,_,_,_,.val (fct m x' j' d),sq a0 (sq a1 (sq a2 (iT (hg.trans (by rw[fQ (by lia)])) (sq (aS (b2 (x:=.au (told.map toldP)) (y:=.int c) rfl rfl (by rw[z2];exact acI)) rfl) (iF ?_ rfl)))))⟩
  refine LB (bT (b2 (x:=.str x') (y:=.str x') rfl rfl ?_)) (LB (bT (b2 (x:=.int (j':Int)) (y:=.int (j':Int)) rfl rfl ?_)) (LB (bT (b2 (x:=iN m) (y:=nT la) rfl (b2 (x:=.au (ls.map nT)) (y:=.int (n':Int)) rfl rfl (dk (v:=nT la) (by rw[cu,Mp];rfl))) ((Pc true m la).trans ?_))) (bT (b2 (x:=.str q.2.k) (y:=.str x') (b2 (b2 (x:=.au (as.map eN)) (y:=.int (n':Int)) rfl rfl (dk (v:=eN q) (by rw[cu,hq];rfl))) rfl rfl) rfl ?_))))
  ·rw[qy,vQ];rfl
  ·rw[OS,fQ rfl];rfl
  ·rw[if_pos rfl,fQ hma];rfl
  ·rw[c8,X5]
theorem A9(k kk:Nat)(hA:∀q∈as,mE X Bd q.2)(hH:DK X as)(H:Pb ls N)(hN:as.length=N)(Mh:ah.length=N)(Z2:X4 ls ah)
  (hU:∀t∈told,t.1∈kU N X Bd) (hW:OU (Hx kk as ah) (qA as 0 as) told) (hF:∀f c,(f,c)∈told->f∈qA as 0 as->c = -1):∀(L:List Nat),(∀i∈L,i<told.length)->∀(x6 x7 x8 x9 LI A8:Ent),
  ∃y6 y7 y8 y9 T5 T6,fy (ao 6) (qz (run bC (k+1))) (L.map fun(i:Nat)=>.int (0+(i:Int))) (LS S W fs as ls told x6 x7 x8 x9 LI A8)=some (.nx (LS S W fs as ls told y6 y7 y8 y9 T5 T6))
 | [],_,x6,x7,x8,x9,LI,A8=>⟨x6,x7,x8,x9,LI,A8,rfl⟩
 | i::L,hL,x6,x7,x8,x9,LI,A8=>by
  obtain⟨y7,y8,y9,T5,T6,e⟩:=LJ (S:=S) (W:=W) (fs:=fs) k kk hA hH H hN Mh Z2 hU hW hF i (hL i b6) x7 x8 x9 LI A8;obtain⟨z6,z7,z8,z9,z10,z11,e2⟩:=A9 k kk hA hH H hN Mh Z2 hU hW hF L (fun m hm=>hL m (bQ _ hm)) (.val (iN i)) y7 y8 y9 T5 T6
  refine⟨z6,z7,z8,z9,z10,z11,?_⟩;rw[bR,show(PV.int (0+(i:Int)))=iN i by rw[km];rfl]
  exact fC (eu:=LS S W fs as ls told (.val (iN i)) x7 x8 x9 LI A8) rfl e e2
end
structure p4 (n j:Nat) (p:PV):Prop where
 ok:∃s,aG p (.int 0)=some (.str s)/\((s==(Str.ofString "go"))=true->∃m:Nat,aG p (.int 1)=some (iN m)/\m<n)/\((s==(Str.ofString "if"))=true->∃m:Nat,aG p (.int 3)=some (iN m)/\m<n)/\((s==(Str.ofString "give"))=false->(s==(Str.ofString "go"))=false->j+1<n)
def two(a b:Int):List Int:=if b<a then [b,a]else if a<b then [a,b]else [a]
theorem LM(a b:Int):nE (oO (fun i=>[a,b].getD i 0) 2)=two a b:=by
 have e:oO (fun i=>[a,b].getD i 0) 2=if b=a then [a]else [a,b]:=by
  show lQ (lQ [] a) b=_;unfold lQ;by_cases h:b=a
  ·simp[h]
  ·simp[h]
 rw[e];unfold two;by_cases h1:b<a
 ·rw[if_pos h1,if_neg (by lia)]
  show(if a<=b then [a,b]else [b,a])=_
  rw[if_neg (by lia)]
 ·rw[if_neg h1];by_cases h2:a<b
  ·rw[if_pos h2,if_neg (by lia)]
   show(if a<=b then [a,b]else [b,a])=_
   rw[if_pos (by lia)]
  ·rw[if_neg h2,if_pos (by lia)]
   rfl
def DL(a b:Nat):List Nat:=if b<a then [b,a]else if a<b then [a,b]else [a]
theorem X6(a b:Nat):two (a:Int) (b:Int)=(DL a b).map fun n:Nat=>(n:Int):=by
 unfold two DL;by_cases h1:b<a
 ·rw[if_pos (by lia),if_pos h1];rfl
 ·rw[if_neg (by lia),if_neg h1]
  by_cases h2:a<b
  ·rw[if_pos (by lia),if_pos h2];rfl
  ·rw[if_neg (by lia),if_neg h2];rfl
theorem Hy(k:Nat){R:az}{n:Nat}(hn:n<=60)(hR:R.length=n)(h:∀(j:Nat) (p:PV),R[j]?=some p->p4 n j p)(i:Nat)(hi:i<n):∃l:List Nat,run bC (k+1) "row_nexts" [.aB R,.int (i:Int)]=some (.val (nT l))/\l.length<=2/\∀m∈l,m<n:=by
 obtain⟨p,hp⟩:∃p,R[i]?=some p:=⟨_,du (by lia)⟩
 have ha:atI R (i:Int)=some p:=dk hp;obtain⟨s,h0,hgo,hif,hot⟩:=(h i p hp).ok;rw[js,aU];have a1:bg (af (rd 0) (rd 1) aG) (ao 2) [.val (.aB R),.val (.int (i:Int)),.un]=some (.nx [.val (.aB R),.val (.int (i:Int)),.val p]):=aS (b2 (x:=.aB R) (y:=.int (i:Int)) rfl rfl ha) rfl;have w:=fun v:Str=>(bT (b2 (b2 (x:=p) (y:=.int 0) rfl rfl h0) rfl c8):toB (af (af (rd 2) (kI 0) aG) (kS v) dU) [.val (.aB R),.val (.int (i:Int)),.val p]=some (s==v))
 have wg:=w "give";have wo:=w "go";have wi:=w "if"
 have k1:af (rd 1) (kI 1) bW [.val (.aB R),.val (.int (i:Int)),.val p]=some (iN (i+1)):=b2 rfl rfl iG;cases qg:(s==(Str.ofString "give"))with
 | true =>
  rw[qg]at wg;exact⟨[],dh (sq a1 (jq (iT wg (rS rfl)))),by simp,fun _ z=>nomatch z⟩
 | false =>
  rw[qg]at wg;cases qo:(s==(Str.ofString "go"))with
  | true =>
   rw[qo]at wo;obtain⟨m,hm,hmn⟩:=hgo qo;have x1:af (rd 2) (kI 1) aG [.val (.aB R),.val (.int (i:Int)),.val p]=some (iN m):=b2 (x:=p) rfl rfl hm;refine⟨[m],dh (sq a1 (sq (iF wg rfl) (jq (iT wo (rS (tU (ps:=[iN m]) (cA x1 rfl) (by simp))))))),by simp,fun q hq=>?_⟩
   rw[cq]at hq
   lia
  | false =>
   rw[qo]at wo;have hj:=hot qg qo;cases qi:(s==(Str.ofString "if"))with
   | true =>
    rw[qi]at wi;obtain⟨m,hm,hmn⟩:=hif qi;have x3:af (rd 2) (kI 3) aG [.val (.aB R),.val (.int (i:Int)),.val p]=some (iN m):=b2 (x:=p) rfl rfl hm;have hs:J5 (aa (af (rd 1) (kI 1) bW) (aa (af (rd 2) (kI 3) aG) ai)) [.val (.aB R),.val (.int (i:Int)),.val p]=some (.au ((DL (i+1) m).map iN)):=by
     unfold J5;rw[cA k1 (cA x3 rfl),aV,show iY [iN (i+1),iN m]=some [((i+1:Nat):Int),(m:Int)]from rfl,aV]
     rw[if_pos ⟨by simp,by
      simp only[gY,List.all_nil,Bool.and_true,aQ,gD];exact⟨by lia,by lia⟩⟩]
     rw[show [((i+1:Nat):Int),(m:Int)].length=2 from rfl,LM,X6,fw]
     rfl
    refine⟨DL (i+1) m,dh (sq a1 (sq (iF wg rfl) (sq (iF wo rfl) (jq (iT wi (rS (bV (as:=[.au ((DL (i+1) m).map iN)]) (cA hs rfl) rfl))))))),?_,fun q hq=>?_⟩
    ·unfold DL;split
     ·simp
     ·split<;>simp
    ·unfold DL at hq;split at hq
     ·simp at hq;lia
     ·split at hq
      ·simp at hq;lia
      ·simp at hq;lia
   | false =>
    rw[qi]at wi;refine⟨[i+1],dh (sq a1 (sq (iF wg rfl) (sq (iF wo rfl) (sq (iF wi rfl) (rS (tU (ps:=[iN (i+1)]) (cA k1 rfl) (by simp))))))),by simp,fun q hq=>?_⟩
    rw[cq]at hq
    lia
theorem Pl{R:az}{n:Nat}(hn:n<=60)(hR:R.length=n)(h:∀(j:Nat) (p:PV),R[j]?=some p->p4 n j p):∃nx:Nat->List Nat,∀k,yd (run bC (k+1)) (.aB R) n nx:=by
 have e:∀i:Nat,∃l:List Nat,i<n->run bC (0+1) "row_nexts" [.aB R,.int (i:Int)]=some (.val (nT l))/\l.length<=2/\∀m∈l,m<n:=fun i=>by
  by_cases hi:i<n
  ·obtain⟨l,hl⟩:=Hy 0 hn hR h i hi;exact⟨l,fun _=>hl⟩
  ·exact⟨[],fun z=>absurd z hi⟩
 obtain⟨nx,hx⟩:=Classical.axiomOfChoice e;refine⟨nx,fun k j hj=>?_⟩
 have s:run bC (k+1) "row_nexts" [.aB R,.int (j:Int)]=run bC (0+1) "row_nexts" [.aB R,.int (j:Int)]:=by
  rw[js,js];rfl
 rw[s];exact hx j hj
def X7(X:List Str)(as:List cL):Prop:=(∃a∈as,(a.w==(Str.ofString "hand"))=true)->(∀a∈as,ye a=true->a.k∈X)/\∀a∈as,∀b∈as,ye a=true->ye b=true->a.k=b.k->a.m=b.m
structure T7 (X:List Str) (Bd:Nat) (fs:az) (nm res:PV) (R1 R2:List Rk) (L:List (PV×List cL)):Prop where
 at_:atI fs 1=some (Dy nm res (.aB (L.map (·.1))) R1 R2)
 made:∀K,12<=K->∀q∈L,Hs (run bC K) (Dy nm res (.aB (L.map (·.1))) R1 R2) q.1 q.2
 pos:0<L.length
 few:L.length<=20
 six:∀q∈L,q.2.length<=6
 row:∀(j:Nat) (p:PV),(L.map (·.1))[j]?=some p->p4 L.length j p
 acts:∀q∈L,∀a∈dP q.2,mE X Bd a
 hand:∀q∈L,X7 X q.2
 bd:Bd<=3
 all:6*L.length*(X.length*Bd)<5000
theorem Ba:∀(L:List (List cL)) (i:Nat),(∀a∈L,a.length<=6)->(ei i L).length<=6*L.length/\L.length<=(ei i L).length
 | [],i,_=>by simp[ei]
 | as::L,i,h=>by
  have h1:=h as b6;have h2:=Ba L (i+1) fun a ha=>h a (bQ _ ha)
  have YU:(dP as).length<=6/\1<=(dP as).length:=by
   cases as with
   | nil=>simp[dP]
   | cons a r=>exact⟨h1,by simp[dP]⟩
  simp only[ei,bK,aC,bq]
  lia
theorem Bb:∀(L:List (List cL)) (i:Nat),∀q∈ei i L,∃as∈L,q.2∈dP as
 | [],_,_,h=>nomatch h
 | as::L,i,q,h=>by
  rw[ei,cR]at h;rcases h with h | h
  ·obtain⟨a,ha,rfl⟩:=bG.mp h;exact⟨as,b6,ha⟩
  ·obtain⟨bs,hb,hq⟩:=Bb L (i+1) q h;exact⟨bs,bQ _ hb,hq⟩
theorem yh:∀(L:List (List cL)) (i:Nat),∀q∈ei i L,∃as,L[q.1-i]?=some as/\i<=q.1/\q.2∈dP as
 | [],_,_,h=>nomatch h
 | as::L,i,q,h=>by
  rw[ei,cR]at h;rcases h with h | h
  ·obtain⟨a,ha,rfl⟩:=bG.mp h;exact⟨as,by show(as::L)[i-i]?=_;rw[Nat.sub_self];rfl,bh _,ha⟩
  ·obtain⟨bs,h1,h2,h3⟩:=yh L (i+1) q h;refine⟨bs,?_,by lia,h3⟩
   rw[show q.1-i=(q.1-(i+1))+1 by lia]
   exact h1
theorem X8{X:List Str}{L:List (List cL)}(h:∀as∈L,X7 X as):DK X (ei 0 L):=by
 have key:∀q∈ei 0 L,(q.2.w==(Str.ofString "hand"))=true->∃as∈L,(∃a∈as,(a.w==(Str.ofString "hand"))=true)/\∀p∈ei 0 L,p.1=q.1->p.2∈as:=fun q hq hw=>by
  obtain⟨as,h1,_,h3⟩:=yh L 0 q hq;cases as with
  | nil =>
   simp only[dP,cq]at h3;rw[h3]at hw;exact absurd (show(Str.ofString _==Str.ofString _)=true from hw) (by decide +kernel)
  | cons a r =>
   refine⟨a::r,cj h1,⟨q.2,h3,hw⟩,fun p hp e=>?_⟩
   obtain⟨bs,g1,_,g3⟩:=yh L 0 p hp;rw[e,h1]at g1;cases g1;exact g3
 refine⟨fun q hq hw p hp e hl=>?_,fun q hq hw p hp p' Ct e e' hl hl' ek=>?_⟩
 ·obtain⟨as,ha,hh,hm⟩:=key q hq hw;exact(h as ha hh).1 p.2 (hm p hp e) hl
 ·obtain⟨as,ha,hh,hm⟩:=key q hq hw;exact(h as ha hh).2 p.2 (hm p hp e) p'.2 (hm p' Ct e') hl hl' ek
abbrev Z3:List Str:=["put","set","fill","copy","move","drop","lend","lend","lend","lend","call","call"]
abbrev w19:List Str:=["put","set","fill","copy","move","drop","lend","lend","lend","lend","call","call","call","if","if","go","say","put","give"]
theorem T8(k:Nat)(hk:20<=k)(ns:List Int){X:List Str}{Bd:Nat}{fs:az}{nm res:PV}{R1 R2:List Rk}{L:List (PV×List cL)}
  (hM:run bC k "_law_program" [zW ns,.int 16,.au (w19.map .str)]=some (.val (.aB fs))) (P:T7 X Bd fs nm res R1 R2 L):run bC (k+1) "law" [zW ns]=some (.val (.bl true)):=by
 obtain⟨k,rfl⟩:∃m,k=m+10:=⟨k-10,by lia⟩
 have dm:((L.map (·.2)).length)=L.length:=aC ..;obtain⟨n1,n2⟩:=Ba (L.map (·.2)) 0 fun a ha=>by
  obtain⟨q,hq,rfl⟩:=bG.mp ha;exact P.six q hq
 rw[dm]at n1 n2;have hp:=P.pos;have hf:=P.few;obtain⟨nx,hnx⟩:=Pl (R:=L.map (·.1)) (n:=L.length) (by lia) (aC ..) P.row
 have LN:∀m,13<=m->run bC m "acts" [.aB fs,.int 1]=some (.own (xZ 0 (L.map (·.2)))):=fun m hm=>by
  obtain⟨m,rfl⟩:∃q,m=q+1:=⟨m-1,by lia⟩
  exact TY m P.at_ rfl (P.made m (by lia)) (by lia)
 have DM:∀m,14<=m->run bC m "nexts" [.aB fs,.int 1]=some (.own ((jV (L.map (·.2)) nx).map nT))/\Pb (jV (L.map (·.2)) nx) (ei 0 (L.map (·.2))).length:=fun m hm=>by
  obtain⟨m,rfl⟩:∃q,m=q+2:=⟨m-2,by lia⟩
  obtain⟨h1,h2,h3⟩:=O9 (m+1) P.at_ (LN (m+1) (by lia)) (by rw[dm];exact hnx m) (by lia)
  exact⟨h1,⟨h2,h3,by lia,by lia⟩⟩
 have H:=(DM 14 (by lia)).2
 have hA:∀q∈ei 0 (L.map (·.2)),mE X Bd q.2:=fun q hq=>by
  obtain⟨as,ha,hq⟩:=Bb _ 0 q hq;obtain⟨p,hp,rfl⟩:=bG.mp ha;exact P.acts p hp q.2 hq
 have hH:DK X (ei 0 (L.map (·.2))):=X8 fun as ha=>by
  obtain⟨p,hp,rfl⟩:=bG.mp ha;exact P.hand p hp
 obtain⟨ah,a1,a2,a3⟩:=Pe H;have m9:(ei 0 (L.map (·.2))).length*(X.length*Bd)<5000:=jJ (Nat.mul_le_mul_right _ n1) P.all;have haN:∀(m:Nat) (l:List Nat),ah[m]?=some l->l.length<=300/\∀n,n∈l->n<(ei 0 (L.map (·.2))).length:=fun m l hl=>⟨(a3 m l hl).1,fun n hn=>by
  obtain⟨l',h1,_⟩:=((a3 m l hl).2 n).mp hn;have:=(cP.mp h1).1;rw[H.len]at this;exact this⟩
 obtain⟨told,t1,t2,t3,t4,t5⟩:=Pj (as:=ei 0 (L.map (·.2))) (X:=X) (Bd:=Bd) (k+5) (by rw[<-nU];exact LN (k+5+4) (by lia)) (DM (k+5+4) (by lia)).1 (a1 _) a2 haN hA hH rfl H.few P.bd m9
 have htl:told.length<5000:=by
  have:=oT (told.map (·.1)) (kU (ei 0 (L.map (·.2))).length X Bd) t4 fun f hf=>by
   obtain⟨t,ht,rfl⟩:=bG.mp hf;exact t2 t ht
  rw[aC,DI]at this
  lia
 have hac:=LN (k+10) (by lia)
 rw[nU]at hac;obtain⟨y6,y7,y8,y9,T5,T6,e⟩:=A9 (S:=zW ns) (W:=.au (Z3.map .str)) (fs:=fs) (k+9) (k+5+3) hA hH H rfl a2 a3 t2 t3 t5 (List.range told.length) (fun i hi=>fU.mp hi) .un .un .un .un .un .un
 have hr:gG (aa (cg cX (aa (rd 5) ai)) ai) (LS (zW ns) (.au (Z3.map .str)) fs (ei 0 (L.map (·.2))) (jV (L.map (·.2)) nx) told .un .un .un .un .un .un)=some ((List.range (told.length:Int).toNat).map fun(i:Nat)=>PV.int (0+(i:Int))):=hZ (j:=(told.length:Int)) (cA (bV (as:=[.au (told.map toldP)]) (cA rfl rfl) (by rw[Ab,aC])) rfl) (by lia)
 rw[fP]at hr;rw[O4,aU];exact dh (sq (aS (p:=.au (Z3.map .str)) rfl rfl) (sq (aS (dO (cA rfl (cA rfl (cA (b2 rfl rfl (aL (by simp))) rfl))) rfl hM rfl) rfl) (sq (aS (dO (cA rfl (cA rfl rfl)) rfl hac rfl) rfl) (sq (aS (dO (cA rfl (cA rfl rfl)) rfl (DM (k+10) (by lia)).1 rfl) rfl) (sq (aS (dO (cA rfl (cA rfl rfl)) rfl t1 rfl) rfl) (sq (fj:=LS (zW ns) (.au (Z3.map .str)) fs (ei 0 (L.map (fun q:PV×List cL=>q.2))) (jV (L.map (fun q:PV×List cL=>q.2)) nx) told y6 y7 y8 y9 T5 T6) (fS hr e) (rS rfl)))))))
def mxA:Nat->Int×Int
 | 0=>(48271,2147483647)
 | 1=>(69621,998244353)
 | 2=>(40692,1000000007)
 | _=>(16807,2147483629)
def Hz(c:Int)(i:Nat):Int:=(c%1000000000039+(i:Int))*(mxA i).1%(mxA i).2
theorem nW(k:Nat)(c:Int){i:Nat}(hi:i<4):run bC (k+1) "_law_mixed" [.int c,.int (i:Int)]=some (.val (.int (Hz c i))):=by
 rw[Dn,aU];have h0:=ki c (show(1000000000039:Int)≠0 by decide)
 have h1:=qJ c (show(0:Int)<1000000000039 by decide)
 have hm:b8 (.int c) (.int 1000000000039)=some (.int (c%1000000000039)):=dB (by decide)
 match i,hi with
 | 0,_=>exact dh (sq (aS (p:=.aB [.int 48271,.int 2147483647]) rfl rfl) (rS (b2 (b2 (b2 (b2 rfl rfl hm) rfl rfl) rfl (kO (by decide))) rfl (dB (by decide)))))
 | 1,_=>exact dh (sq (aS (p:=.aB [.int 69621,.int 998244353]) rfl rfl) (rS (b2 (b2 (b2 (b2 rfl rfl hm) rfl rfl) rfl (kO (by decide))) rfl (dB (by decide)))))
 | 2,_=>exact dh (sq (aS (p:=.aB [.int 40692,.int 1000000007]) rfl rfl) (rS (b2 (b2 (b2 (b2 rfl rfl hm) rfl rfl) rfl (kO (by decide))) rfl (dB (by decide)))))
 | 3,_=>exact dh (sq (aS (p:=.aB [.int 16807,.int 2147483629]) rfl rfl) (rS (b2 (b2 (b2 (b2 rfl rfl hm) rfl rfl) rfl (kO (by decide))) rfl (dB (by decide)))))
 | n+4,h=>lia
abbrev Bc:PV:=.str "abcdefghijklmnopqrstuvwxyz"
def T9(B:List Int)(pl q i:Nat):Nat:=cp (B.getD i 0+(q:Int)*(if i=pl then 1 else 0))
def Fq(B:List Int)(pl q:Nat):Str:=gu ((List.range B.length).map (T9 B pl q))
section
variable (c:fV) (x0 x1:Ent) (B:List Int) (pl q:Nat)
theorem Be(F:az)(i:Nat)(hi:i<B.length)(N:List Nat)(hN:N.length<=100)(hq:q<=100):jS c [x0,x1,.val Bc,.val (iN B.length),.val (iN pl),.val (iN i),.val (.au (B.map .int)),.own F,.val (iN q),.val (.str (gu N))]=some (.nx [x0,x1,.val Bc,.val (iN B.length),.val (iN pl),.val (iN i),.val (.au (B.map .int)),.own F,.val (iN q),.val (.str (gu (N++[T9 B pl q i])))]):=by
 unfold jS;have hb:atI (B.map PV.int) (i:Int)=some (.int (B.getD i 0)):=dk (by rw[cu,Bo,du hi];rfl)
 have he:wM [.bl (decide ((i:Int)=(pl:Int)))]=some (.int (if i=pl then 1 else 0)):=by
  by_cases h:i=pl
  ·rw[fQ (by lia),if_pos h];rfl
  ·rw[eG (by lia),if_neg h];rfl
 have hm:jB (.int (q:Int)) (.int (if i=pl then 1 else 0))=some (.int ((q:Int)*(if i=pl then 1 else 0))):=kO (by split<;>decide)
 have hs:bW (.str (gu N)) (.str (lt (B.getD i 0+(q:Int)*(if i=pl then 1 else 0))))=some (.str (gu (N++[T9 B pl q i]))):=by
  rw[Ln,XW,C9,E2,E2,oS (lU (by simp;lia))]
  rfl
 refine aS (b2 (x:=.str (gu N)) rfl (b2 (x:=Bc) rfl (b2 (b2 (b2 (x:=.au (B.map .int)) (y:=.int (i:Int)) rfl rfl hb) (b2 (x:=.int (q:Int)) rfl (bV (cA (b2 (x:=.int (i:Int)) (y:=.int (pl:Int)) rfl rfl hV) rfl) he) hm) iG) rfl (dB (by decide))) (G6 _)) hs) rfl
theorem p5(F:az)(hq:q<=100):∀(Bm pre:List Nat) (x5:Ent),List.range B.length=pre++Bm->B.length<=50->∃AO,fy (ao 5) (jS c) (Bm.map fun(i:Nat)=>PV.int (0+(i:Int))) [x0,x1,.val Bc,.val (iN B.length),.val (iN pl),x5,.val (.au (B.map .int)),.own F,.val (iN q),.val (.str (gu (pre.map (T9 B pl q))))]=some (.nx [x0,x1,.val Bc,.val (iN B.length),.val (iN pl),AO,.val (.au (B.map .int)),.own F,.val (iN q),.val (.str (Fq B pl q))])
 | [],pre,x5,e,_=>⟨x5,by unfold Fq;rw[e,gX];rfl⟩
 | i::Bm,pre,x5,e,hl=>by
  have hi:i<B.length:=fU.mp (by rw[e];simp)
  have hp:pre.length<=B.length:=by
   have:=dy List.length e;rw[om,bK]at this
   lia
  have hb:=Be c x0 x1 B pl q F i hi (pre.map (T9 B pl q)) (by rw[aC];lia) hq
  obtain⟨AO,h⟩:=p5 F hq Bm (pre++[i]) (.val (iN i)) (by rw[e];simp) hl
  rw[cY]at h;refine⟨AO,?_⟩;rw[bR,km];exact fC rfl hb h
theorem HA(F:az)(hF:F.length<=100)(hq:q<=100)(hl:B.length<=50)(x5 x9:Ent):∃AO,jT c [x0,x1,.val Bc,.val (iN B.length),.val (iN pl),x5,.val (.au (B.map .int)),.own F,.val (iN q),x9]=some (.nx [x0,x1,.val Bc,.val (iN B.length),.val (iN pl),AO,.val (.au (B.map .int)),.own (F++[.str (Fq B pl q)]),.val (iN q),.val (.str (Fq B pl q))]):=by
 obtain⟨AO,h⟩:=p5 c x0 x1 B pl q F hq (List.range B.length) [] x5 rfl hl;refine⟨AO,?_⟩;unfold jT;have e0:bg (kS "") (ao 9) [x0,x1,.val Bc,.val (iN B.length),.val (iN pl),x5,.val (.au (B.map .int)),.own F,.val (iN q),x9]=some (.nx [x0,x1,.val Bc,.val (iN B.length),.val (iN pl),x5,.val (.au (B.map .int)),.own F,.val (iN q),.val (.str (gu []))]):=by
  rw[<-E1];rfl
 have hr:gG (aa (rd 3) ai) [x0,x1,.val Bc,.val (iN B.length),.val (iN pl),x5,.val (.au (B.map .int)),.own F,.val (iN q),.val (.str (gu []))]=some ((List.range B.length).map fun(i:Nat)=>PV.int (0+(i:Int))):=by
  rw[hZ (j:=(B.length:Int)) rfl (by lia),fP]
 exact sq e0 (sq (fS hr h) (mA (ps:=F) rfl rfl (by lia)))
end
theorem tu(c:fV)(x0 x1:Ent)(B:List Int)(pl:Nat)(hl:B.length<=50):∀(qs:List Nat) (F:az) (x5 x8 x9:Ent),(∀q∈qs,q<=100)->F.length+qs.length<=100->∃AO x8' x9',fy (ao 8) (jT c) (qs.map fun(i:Nat)=>PV.int (0+(i:Int))) [x0,x1,.val Bc,.val (iN B.length),.val (iN pl),x5,.val (.au (B.map .int)),.own F,x8,x9]=some (.nx [x0,x1,.val Bc,.val (iN B.length),.val (iN pl),AO,.val (.au (B.map .int)),.own (F++qs.map fun q=>PV.str (Fq B pl q)),x8',x9'])
 | [],F,x5,x8,x9,_,_=>⟨x5,x8,x9,by simp⟩
 | q::qs,F,x5,x8,x9,hq,hz=>by
  rw[bq]at hz;obtain⟨y5,h⟩:=HA c x0 x1 B pl q F (by lia) (hq q b6) hl x5 x9
  obtain⟨z5,z8,z9,h2⟩:=tu c x0 x1 B pl hl qs (F++[.str (Fq B pl q)]) y5 (.val (iN q)) (.val (.str (Fq B pl q))) (fun r hr=>hq r (bQ _ hr)) (by simp;lia)
  refine⟨z5,z8,z9,?_⟩;rw[bR,km,bR,show F++PV.str (Fq B pl q)::qs.map (fun q=>PV.str (Fq B pl q))=F++[PV.str (Fq B pl q)]++qs.map (fun q=>PV.str (Fq B pl q)) by simp]
  exact fC rfl h h2
theorem Pm{B:List Int}{pl q q':Nat}(hp:pl<B.length)(h1:q<26)(h2:q'<26)(h:Fq B pl q=Fq B pl q'):q=q':=by
 have h:=vp h;have at_:∀q:Nat,((List.range B.length).map (T9 B pl q))[pl]?=some (cp (B.getD pl 0+(q:Int))):=fun q=>by
  rw[cu,qI hp];simp[T9]
 have e:=dy (fun l=>l[pl]?) h
 simp only[at_]at e;have:=TN (bD e)
 lia
mutual
theorem Fs:∀(s:Sh),∀r∈tab s,0<=r.2.1/\0<=r.2.2.1/\r.2.1+r.2.2.1<=((lv s).length:Int)
 | .num,r,h=>by simp only[tab,cq]at h;subst h;simp[lv]
 | .own,r,h=>by simp only[tab,cq]at h;subst h;simp[lv]
 | .c7 n,r,h=>by simp only[tab,cq]at h;subst h;simp[lv]
 | .bL ps,r,h=>by
  simp only[tab,bc]at h;rcases h with h | h
  ·subst h;simp[lv]
  ·have:=Bf ps 0 0 r h (by lia)
   simp only[lv]
   lia
theorem Bf:∀(l:List Sh) (k:Nat) (a:Int),∀r∈tabs k a l,0<=a->0<=r.2.1/\0<=r.2.2.1/\r.2.1+r.2.2.1<=a+((ik l).length:Int)
 | [],_,_,_,h,_=>nomatch h
 | s::l,k,a,r,h,ha=>by
  rw[AQ,cR]at h;simp only[ik,bK];rcases h with h | h
  ·obtain⟨q,hq,rfl⟩:=bG.mp h;have:=Fs s q hq;simp only[lV]
   lia
  ·have:=Bf l (k+1) (a+sz s) r h (by simp only[sz];lia)
   simp only[sz]at this
   lia
end
structure qB (ks:List Rk):Prop where
 nd:(ks.map (·.1)).Nodup
 good:∀q∈ks,Fc (c6 q.2)/\(lv (c6 q.2)).length<=3
 few:ks.length<=10
 ne:∀q∈ks,(q.1==(Str.ofString ""))=false
theorem qB.ok{ks:List Rk}(K:qB ks):UY ks:=fun q hq=>(K.good q hq).1.1
abbrev dgs:List Str:=[sI 0,sI 1,sI 2,sI 3]
abbrev Bn(ks:List Rk):List Str:=ks.map (·.1)++dgs
structure j7 (ks:List Rk) (M:Nat) (p:PV) (as:List cL):Prop where
 made:∀F K,xV (run bC) F ks->12<=K->Hs (run bC K) F p as
 six:as.length<=6
 nx:∀j,j+1<M->p4 M j p
 ok:∀a∈as,mE (Bn ks) 3 a
 hand:X7 (Bn ks) as
section
variable {ks:List Rk}
theorem Ft{F p:PV}{as:List cL}{w fn:Str}{rest:az}{c:fV}(hp:p=.aB (.str w::rest))(h1:iJ.lookup w=some fn)(h2:Lb.lookup fn=some 2)(h6:as.length<=6)(h:∃e,c fn [F,p]=some e/\qa e=some (gw as)):Hs c F p as:=⟨⟨w,fn,rest,hp,h1,h2,h⟩,by lia⟩
theorem j1{M:Nat}{w:Str}{rest:az}(h1:(w==(Str.ofString "go"))=false)(h2:(w==(Str.ofString "if"))=false):∀j,j+1<M->p4 M j (.aB (.str w::rest)):=fun j hj=>⟨w,K3,(fun z=>by rw[h1]at z;cases z),(fun z=>by rw[h2]at z;cases z),fun _ _=>hj⟩
theorem vF(K:qB ks)(w:Str){x:Str}{d:Kd}(hx:(x,d)∈ks){r:Rw}(hr:r∈tab (c6 d))(t:Str):mE (Bn ks) 3 (tA w x d r t):=by
 obtain⟨g1,g2,g3⟩:=Fs _ r hr;have g4:=(K.good _ hx).2;simp only at g4;refine⟨⟨?_,?_,?_⟩,fun _=>⟨ir _ (bG.mpr ⟨_,hx,rfl⟩),?_⟩,?_⟩
 ·show r.2.1=((r.2.1.toNat:Nat):Int);lia
 ·show r.2.2.1=((r.2.2.1.toNat:Nat):Int);lia
 ·show r.2.1.toNat+r.2.2.1.toNat<=1000;lia
 ·show r.2.1.toNat+r.2.2.1.toNat<=3;lia
 ·show r.2.2.1.toNat<=3;lia
theorem jX(K:qB ks)(w:Str){s:Sp}(hs:eJ ks s)(t:Str):mE (Bn ks) 3 (AJ w s t):=vF K w hs.mem hs.row t
theorem LO(a:PV):∀q∈Mm a,mE (Bn ks) 3 q:=fun q hq=>by
 unfold Mm at hq;split at hq
 ·rw[cq]at hq;subst hq;exact⟨⟨rfl,rfl,kc rfl⟩,(fun z=>by cases z),kc rfl⟩
 ·cases hq
theorem tw(K:qB ks){o:Op}(ho:mD ks o):∀q∈sX o,mE (Bn ks) 3 q:=fun q hq=>by
 cases o with
 | n i=>cases hq
 | s s =>
  rcases cR.mp hq with h | h
  ·exact LO _ q h
  ·rw[cq]at h;subst h;exact jX K _ ho _
theorem LP(K:qB ks){s:Sp}(hs:eJ ks s):∀q∈DA s,mE (Bn ks) 3 q:=fun q hq=>by
 unfold DA at hq;split at hq
 ·rw[cq]at hq;subst hq;exact jX K _ hs _
 ·rcases cR.mp hq with h | h
  ·exact LO _ q h
  ·rw[cq]at h;subst h;exact jX K _ hs _
theorem Ua(K:qB ks){r:Rk}(hr:r∈ks)(t:Str):mE (Bn ks) 3 (T2 r.1 r.2 t):=by
 obtain⟨x,d⟩:=r;cases d with
 | ow s=>exact vF K _ hr (iL s) _
 | ho b s=>exact vF K _ hr (iL s) _
theorem Ub(K:qB ks){r:Rk}(hr:r∈ks):mE (Bn ks) 3 (ZZ r.1 r.2):=by
 obtain⟨x,d⟩:=r;cases d with
 | ow s=>exact vF K _ hr (iL s) _
 | ho b s=>exact vF K _ hr (iL s) _
theorem LQ:mE (Bn ks) 3 Lr:=⟨⟨rfl,rfl,kc rfl⟩,(fun z=>by cases z),kc rfl⟩
theorem HB{as:List cL}(h:∀a∈as,mE (Bn ks) 3 a):∀a∈dP as,mE (Bn ks) 3 a:=fun a ha=>by
 cases as with
 | nil =>
  simp only[dP,cq]at ha;subst ha;exact LQ
 | cons b l=>exact h a ha
theorem Fu(K:qB ks):∀(l:List Rk) (i:Nat),(∀r∈l,r∈ks)->∀q∈gj i l,mE (Bn ks) 3 q
 | [],_,_,_,h=>nomatch h
 | r::l,i,hl,q,h=>by
  simp only[gj,bc]at h;rcases h with h | h
  ·subst h;exact Ua K (hl r b6) _
  ·exact Fu K l (i+1) (fun s hs=>hl s (bQ _ hs)) q h
theorem Pn(K:qB ks){tk:Option Rk}(ht:∀r,tk=some r->r∈ks):∀q∈j6 tk,mE (Bn ks) 3 q:=fun q hq=>by
 cases tk with
 | none=>cases hq
 | some r =>
  have hr:=ht r rfl;obtain⟨x,d⟩:=r;cases d with
  | ow s =>
   simp only[j6,cq]at hq;subst hq;exact vF K _ hr (iL s) _
  | ho b s =>
   simp only[j6,cq]at hq;subst hq;exact⟨⟨rfl,rfl,kc rfl⟩,(fun z=>by cases z),kc rfl⟩
theorem tx{X:List Str}{Bd:Nat}{a b:List cL}(h1:∀q∈a,mE X Bd q)(h2:∀q∈b,mE X Bd q):∀q∈a++b,mE X Bd q:=fun q hq=>(cR.mp hq).elim (h1 q) (h2 q)
abbrev nh(a:cL):Prop:=(a.w==(Str.ofString "hand"))=false
theorem kX{X:List Str}{as:List cL}(h:∀a∈as,nh a):X7 X as:=by
 rintro⟨a,ha,hw⟩
 have:=h a ha;unfold nh at this;rw[this]at hw;cases hw
theorem ph{a b:List cL}(h1:∀q∈a,nh q)(h2:∀q∈b,nh q):∀q∈a++b,nh q:=fun q hq=>(cR.mp hq).elim (h1 q) (h2 q)
theorem mF{a:cL}(h:nh a):∀q∈[a],nh q:=fun q hq=>by rw[cq]at hq;subst hq;exact h
theorem LR{a b:cL}(h:nh a)(h':nh b):∀q∈[a,b],nh q:=fun q hq=>by
 rcases bc.mp hq with rfl | hq
 ·exact h
 ·exact mF h' q hq
theorem tD{w:Str}(h:(w==(Str.ofString "hand"))=false)(x:Str)(d:Kd)(r:Rw)(t:Str):nh (tA w x d r t):=h
theorem LU(a:PV):∀q∈Mm a,nh q:=fun q hq=>by
 unfold Mm at hq;split at hq
 ·rw[cq]at hq;subst hq;exact(by decide +kernel:((Str.ofString "read")==(Str.ofString "hand"))=false)
 ·cases hq
theorem tH(o:Op):∀q∈sX o,nh q:=by
 cases o with
 | n i=>exact fun _ h=>nomatch h
 | s s=>exact ph (LU _) (mF (tD (by decide +kernel) ..))
theorem LV(s:Sp):∀q∈DA s,nh q:=by
 unfold DA;split
 ·exact mF (tD (by decide +kernel) ..)
 ·exact ph (LU _) (mF (tD (by decide +kernel) ..))
theorem X9(s:Sh):(oW s==(Str.ofString "hand"))=false:=by
 unfold oW;split<;>decide +kernel
theorem Uc(x:Str)(d:Kd):nh (ZZ x d):=by
 cases d with
 | ow s=>exact tD (X9 s) ..
 | ho b s=>exact tD (by decide +kernel) ..
theorem Ud{i j:Nat}(hi:i<4)(hj:j<4)(h:sI i=sI j):i=j:=by
 have hi:i=0\/i=1\/i=2\/i=3:=by lia
 have hj:j=0\/j=1\/j=2\/j=3:=by lia
 rcases hi with rfl | rfl | rfl | rfl<;>rcases hj with rfl | rfl | rfl | rfl<;>first | rfl | exact absurd h (by decide +kernel)
theorem Yb{i:Nat}(hi:i<4):sI i∈dgs:=by
 have hi:i=0\/i=1\/i=2\/i=3:=by lia
 rcases hi with rfl | rfl | rfl | rfl<;>simp[dgs]
theorem Yc(s:Sh)(x:Str)(r:Rw)(t:Str):ye (tA (oW s) x (.ow s) r t)=false:=by
 show((Str.ofString "lend")==oW s || (Str.ofString "sole")==oW s)=false;unfold oW;split<;>decide +kernel
theorem LW:∀(l:List Rk) (i:Nat) (a:cL),a∈gj i l->ye a=true->∃(j:Nat) (r:Rk),l[j]?=some r/\a=T2 r.1 r.2 (sI (i+j))/\a.k=sI (i+j)
 | [],_,_,h,_=>nomatch h
 | r::l,i,a,h,hl=>by
  simp only[gj,bc]at h;rcases h with h | h
  ·refine⟨0,r,rfl,h,?_⟩;obtain⟨x,d⟩:=r;cases d with
   | ow s =>
    rw[h]at hl;have:=Yc s x (ux s) "";rw[show T2 x (.ow s) (sI i)=tA (oW s) x (.ow s) (ux s) "" from rfl,this]at hl
    cases hl
   | ho b s=>rw[h];rfl
  ·obtain⟨j,r',h1,h2,h3⟩:=LW l (i+1) a h hl;exact⟨j+1,r',h1,by rw[h2,show i+1+j=i+(j+1) by lia],by rw[h3,show i+1+j=i+(j+1) by lia]⟩
theorem Po{tk:Option Rk}{a:cL}(h:a∈gi::j6 tk):ye a=false:=by
 rcases bc.mp h with rfl | h
 ·decide +kernel
 ·cases tk with
  | none=>cases h
  | some r =>
   obtain⟨x,d⟩:=r;cases d with
   | ow s=>simp only[j6,cq]at h;subst h;exact(by decide +kernel:((Str.ofString "lend")==(Str.ofString "fill") || (Str.ofString "sole")==(Str.ofString "fill"))=false)
   | ho b s=>simp only[j6,cq]at h;subst h;exact(by decide +kernel:((Str.ofString "lend")==(Str.ofString "take") || (Str.ofString "sole")==(Str.ofString "take"))=false)
theorem Pp{X:List Str}(hX:∀i,i<4->sI i∈X){ar:List Rk}(Mh:ar.length<=4)(tk:Option Rk):X7 X (gj 0 ar++gi::j6 tk):=fun _=>by
 have Ml:∀a∈gj 0 ar++gi::j6 tk,ye a=true->∃(j:Nat) (r:Rk),ar[j]?=some r/\a=T2 r.1 r.2 (sI j)/\a.k=sI j/\j<4:=fun a ha hl=>by
  rcases cR.mp ha with h | h
  ·obtain⟨j,r,h1,h2,h3⟩:=LW ar 0 a h hl;rw[jL]at h2 h3;have:=(cP.mp h1).1;exact⟨j,r,h1,h2,h3,by lia⟩
  ·rw[Po h]at hl;cases hl
 refine⟨fun a ha hl=>?_,fun a ha b hb Mp hlb e=>?_⟩
 ·obtain⟨j,r,_,_,h3,h4⟩:=Ml a ha hl;rw[h3];exact hX j h4
 ·obtain⟨j,r,h1,h2,h3,h4⟩:=Ml a ha Mp;obtain⟨j',r',g1,g2,g3,g4⟩:=Ml b hb hlb;have ej:=Ud h4 g4 (by rw[<-h3,<-g3,e])
  subst ej;rw[h1]at g1;cases g1;rw[h2,g2]
theorem K7{K:Nat}(h:12<=K):∃k,K=k+7/\3<=k:=⟨K-7,by lia,by lia⟩
variable (K:qB ks) (M:Nat)
include K
theorem Fv{s:Sp}(hs:eJ ks s){o:Op}(ho:mD ks o){w:Str}(hw:w="put"\/w="fill"):j7 ks M (.aB [.str w,b9 s,iM o]) (sX o++DA s):=by
 have l1:=jv o;have l2:=xX s;have l6:(sX o++DA s).length<=6:=by rw[bK];lia
 refine⟨fun F k hF hk=>?_,l6,?_,tx (tw K ho) (LP K hs),kX (ph (tH o) (LV s))⟩
 ·obtain⟨k,rfl,h3⟩:=K7 hk;have h:=DB hF k h3 w hs ho;rcases hw with rfl | rfl
  ·exact Ft rfl (by kernel_rfl) (by kernel_rfl) l6 ⟨_,h,rfl⟩
  ·exact Ft rfl (by kernel_rfl) (by kernel_rfl) l6 ⟨_,h,rfl⟩
 ·rcases hw with rfl | rfl
  ·exact j1 (by decide +kernel) (by decide +kernel)
  ·exact j1 (by decide +kernel) (by decide +kernel)
theorem Pq{s:Sp}(hs:eJ ks s)(q:PV){a b:Op}(ha:mD ks a)(hb:mD ks b):j7 ks M (.aB [.str "set",b9 s,q,iM a,iM b]) (sX a++sX b++DA s):=by
 have l1:=jv a;have l2:=jv b;have l3:=xX s;have l6:(sX a++sX b++DA s).length<=6:=by simp only[bK];lia
 refine⟨fun F k hF hk=>?_,l6,j1 (by decide +kernel) (by decide +kernel),tx (tx (tw K ha) (tw K hb)) (LP K hs),kX (ph (ph (tH a) (tH b)) (LV s))⟩
 obtain⟨k,rfl,h3⟩:=K7 hk;exact Ft rfl (by kernel_rfl) (by kernel_rfl) l6 ⟨_,DC hF k h3 "set" hs q ha hb,rfl⟩
theorem Ue{a:Op}(ha:mD ks a)(i:Int){m:Nat}(hm:m<M):j7 ks M (.aB [.str "if",iM a,.int i,iN m]) (sX a++[]):=by
 have l1:=jv a;have l6:(sX a++[]).length<=6:=by simp only[gX];lia
 refine⟨fun F k hF hk=>?_,l6,fun j hj=>⟨"if",rfl,fun z=>absurd z (by decide +kernel),fun _=>⟨m,rfl,hm⟩,fun _ _=>hj⟩,tx (tw K ha) (fun _ h=>nomatch h),kX (ph (tH a) fun _ h=>nomatch h)⟩
 obtain⟨k,rfl,h3⟩:=K7 hk;exact Ft rfl (by kernel_rfl) (by kernel_rfl) l6 ⟨_,Hq hF k h3 "if" (iN m) ha (b:=.n i) trivial,rfl⟩
theorem Fw{a:Op}(ha:mD ks a):j7 ks M (.aB [.str "say",iM a]) (sX a):=by
 have l1:=jv a;have l6:(sX a).length<=6:=by lia
 refine⟨fun F k hF hk=>?_,l6,j1 (by decide +kernel) (by decide +kernel),tw K ha,kX (tH a)⟩
 obtain⟨k,rfl,h3⟩:=K7 hk;exact Ft rfl (by kernel_rfl) (by kernel_rfl) l6 ⟨_,DD hF k h3 "say" ha,rfl⟩
theorem Ug{m:Nat}(hm:m<M):j7 ks M (.aB [.str "go",iN m]) []:=by
 refine⟨fun F k hF hk=>?_,by simp,fun j hj=>⟨"go",rfl,fun _=>⟨m,rfl,hm⟩,fun z=>absurd z (by decide +kernel),fun _ z=>absurd z (by decide +kernel)⟩,(fun _ h=>nomatch h),kX fun _ h=>nomatch h⟩
 obtain⟨k,rfl,h3⟩:=K7 hk;exact Ft rfl (by kernel_rfl) (by kernel_rfl) (by simp) ⟨_,Hr k _,rfl⟩
theorem HC:j7 ks M (.aB [.str "give",.str ""]) []:=by
 refine⟨fun F k hF hk=>?_,by simp,j1 (by decide +kernel) (by decide +kernel),(fun _ h=>nomatch h),kX fun _ h=>nomatch h⟩
 obtain⟨k,rfl,h3⟩:=K7 hk;exact Ft rfl (by kernel_rfl) (by kernel_rfl) (by simp) ⟨_,xY k "give",rfl⟩
theorem LX{r:Rk}(hr:r∈ks):j7 ks M (.aB [.str "give",.str r.1]) [ZZ r.1 r.2]:=by
 refine⟨fun F k hF hk=>?_,by simp,j1 (by decide +kernel) (by decide +kernel),fun q hq=>?_,kX (mF (Uc r.1 r.2))⟩
 ·obtain⟨k,rfl,h3⟩:=K7 hk;exact Ft rfl (by kernel_rfl) (by kernel_rfl) (by simp) ⟨_,AW hF k h3 "give" (x:=r.1) (d:=r.2) hr (K.ok _ hr) (K.ne _ hr),rfl⟩
 ·rw[cq]at hq;subst hq;exact Ub K hr
theorem LY{s t:Sp}(hs:eJ ks s)(ht:eJ ks t):j7 ks M (.aB [.str "copy",b9 s,b9 t]) [AJ "read" t "",AJ "fill" s ""]:=by
 refine⟨fun F k hF hk=>?_,by simp,j1 (by decide +kernel) (by decide +kernel),fun q hq=>?_,kX (LR (tD (by decide +kernel) ..) (tD (by decide +kernel) ..))⟩
 ·obtain⟨k,rfl,h3⟩:=K7 hk;exact Ft rfl (by kernel_rfl) (by kernel_rfl) (by simp) ⟨_,AK hF k h3 "copy" hs ht,rfl⟩
 ·simp only[bc,eF,eH]at hq;rcases hq with rfl | rfl
  ·exact jX K _ ht _
  ·exact jX K _ hs _
theorem LZ{s t:Sp}(hs:eJ ks s)(ht:eJ ks t):j7 ks M (.aB [.str "move",b9 s,b9 t]) [AJ "empty" t "",AJ "fill" s ""]:=by
 refine⟨fun F k hF hk=>?_,by simp,j1 (by decide +kernel) (by decide +kernel),fun q hq=>?_,kX (LR (tD (by decide +kernel) ..) (tD (by decide +kernel) ..))⟩
 ·obtain⟨k,rfl,h3⟩:=K7 hk;exact Ft rfl (by kernel_rfl) (by kernel_rfl) (by simp) ⟨_,AL hF k h3 "move" hs ht,rfl⟩
 ·simp only[bc,eF,eH]at hq;rcases hq with rfl | rfl
  ·exact jX K _ ht _
  ·exact jX K _ hs _
theorem L0{s:Sp}(hs:eJ ks s):j7 ks M (.aB [.str "drop",b9 s]) [AJ "empty" s ""]:=by
 refine⟨fun F k hF hk=>?_,by simp,j1 (by decide +kernel) (by decide +kernel),fun q hq=>?_,kX (mF (tD (by decide +kernel) ..))⟩
 ·obtain⟨k,rfl,h3⟩:=K7 hk;exact Ft rfl (by kernel_rfl) (by kernel_rfl) (by simp) ⟨_,AM hF k h3 "drop" hs,rfl⟩
 ·rw[cq]at hq;subst hq;exact jX K _ hs _
theorem L1{w:Str}(hw:w="lend"\/w="sole")(x:Str){s:Sp}(hs:eJ ks s):j7 ks M (.aB [.str w,.str x,b9 s]) [AJ w s x]:=by
 refine⟨fun F k hF hk=>?_,by simp,?_,fun q hq=>?_,kX (mF (tD (by rcases hw with rfl | rfl<;>decide +kernel) ..))⟩
 ·obtain⟨k,rfl,h3⟩:=K7 hk;have h:=AN hF k h3 w x hs;rcases hw with rfl | rfl
  ·exact Ft rfl (by kernel_rfl) (by kernel_rfl) (by simp) ⟨_,h,rfl⟩
  ·exact Ft rfl (by kernel_rfl) (by kernel_rfl) (by simp) ⟨_,h,rfl⟩
 ·rcases hw with rfl | rfl
  ·exact j1 (by decide +kernel) (by decide +kernel)
  ·exact j1 (by decide +kernel) (by decide +kernel)
 ·rw[cq]at hq;subst hq;exact jX K _ hs _
theorem tJ(fn:PV){ar:List Rk}(ha:∀r∈ar,r∈ks)(Mh:ar.length<=4){tk:Option Rk}(ht:∀r,tk=some r->r∈ks):j7 ks M (.aB [.str "call",.str (AU tk),fn,.aB (ar.map fun r=>.str r.1)]) (gj 0 ar++gi::j6 tk):=by
 have tl:=sZ ar 0;have tkl:(j6 tk).length<=1:=by
  cases tk with
  | none=>simp[j6]
  | some r=>obtain⟨x,d⟩:=r;cases d<;>simp[j6]
 have l6:(gj 0 ar++gi::j6 tk).length<=6:=by rw[bK,bq,tl];lia
 refine⟨fun F k hF hk=>?_,l6,j1 (by decide +kernel) (by decide +kernel),tx (Fu K ar 0 ha) fun q hq=>?_,Pp (fun i hi=>dC _ (Yb hi)) Mh tk⟩
 ·obtain⟨k,rfl,h3⟩:=K7 hk;obtain⟨e,h1,h2⟩:=AX hF k h3 "call" fn ha K.ok (by lia) (tk:=tk) (fun r hr=>⟨ht r hr,K.ne r (ht r hr)⟩)
  exact Ft rfl (by kernel_rfl) (by kernel_rfl) l6 ⟨e,h1,h2⟩
 ·rcases bc.mp hq with rfl | h
  ·exact⟨⟨rfl,rfl,kc rfl⟩,(fun z=>by cases z),kc rfl⟩
  ·exact Pn K ht q h
end
def yi(C:Int):Nat:=(1+C%8).toNat
def Pr(C:Int):List Int:=(List.range (yi C)).map fun(i:Nat)=>(C/(64+9*(i:Int)*i)+5*(i:Int))%26
def Uh(C:Int):Nat:=(C/8%(yi C:Int)).toNat
theorem qC(C:Int):(Pr C).length=yi C:=by simp[Pr]
theorem yj(C:Int):1<=yi C/\yi C<=8/\(yi C:Int)=1+C%8:=by unfold yi;lia
theorem L3(C:Int):Uh C<(Pr C).length/\(Uh C:Int)=C/8%(yi C:Int):=by
 have h:=yj C;have h0:=ki (C/8) (show(yi C:Int)≠0 by lia)
 have h1:=qJ (C/8) (show(0:Int)<(yi C:Int) by lia)
 rw[qC];unfold Uh
 lia
def cm(C:Int)(q:Nat):Str:=Fq (Pr C) (Uh C) q
theorem Pt{C:Int}{q q':Nat}(h1:q<26)(h2:q'<26)(h:cm C q=cm C q'):q=q':=Pm (L3 C).1 h1 h2 h
theorem Ui(C:Int)(q:Nat):(cm C q==(Str.ofString ""))=false:=by
 rw[E1,qH];intro h;have:=dy List.length (vp h);rw[aC,om,qC]at this;have:=yj C;simp at *
 lia
theorem HE(C:Int)(x1 x2 x4 x5 x6 x7 x8 x9:Ent):bH (dD [none,none,some 0] (gG (aa (rd 3) ai)) (ao 1) (af (af (af (rd 2) (af (kI 64) (af (af (kI 9) (rd 1) jB) (rd 1) jB) bW) de) (af (kI 5) (rd 1) jB) bW) (kI 26) b8)) [.val (.int C),x1,x2,.val (iN (yi C)),x4,x5,x6,x7,x8,x9]=some (.au ((Pr C).map .int)):=by
 have hl:=yj C;have hr:gG (aa (rd 3) ai) [.val (.int C),x1,x2,.val (iN (yi C)),x4,x5,x6,x7,x8,x9]=some ((List.range (yi C)).map fun(i:Nat)=>PV.int (0+(i:Int))):=by
  rw[hZ (j:=(yi C:Int)) rfl (by lia),fP]
 have hm:iB (fun p=>(ao 1 p [Ent.un,.un,.val (.int C)]).bind (af (af (af (rd 2) (af (kI 64) (af (af (kI 9) (rd 1) jB) (rd 1) jB) bW) de) (af (kI 5) (rd 1) jB) bW) (kI 26) b8)) ((List.range (yi C)).map fun(i:Nat)=>PV.int (0+(i:Int)))=some ((Pr C).map .int):=by
  unfold Pr;rw[fw];refine eE fun i hi=>?_
  have hi:=fU.mp hi;have hi7:i<=7:=by lia
  rw[km];have h9:jB (.int 9) (.int (i:Int))=some (.int (9*(i:Int))):=kO (by lia)
  have hmm:jB (.int (9*(i:Int))) (.int (i:Int))=some (.int (9*(i:Int)*i)):=kO (by lia)
  have h5:jB (.int 5) (.int (i:Int))=some (.int (5*(i:Int))):=kO (by lia)
  have Y4:0<=9*(i:Int)*i/\9*(i:Int)*i<=441:=by
   have:i=0\/i=1\/i=2\/i=3\/i=4\/i=5\/i=6\/i=7:=by lia
   rcases this with rfl | rfl | rfl | rfl | rfl | rfl | rfl | rfl<;>simp
  show(ao 1 (.int (i:Int)) [Ent.un,.un,.val (.int C)]).bind _=_;have t:ao 1 (.int (i:Int)) [Ent.un,.un,.val (.int C)]=some [.un,.val (.int (i:Int)),.val (.int C)]:=rfl;rw[t,aV];exact b2 (b2 (b2 rfl (b2 rfl (b2 (b2 rfl rfl h9) rfl hmm) rfl) (ya (by lia))) (b2 rfl rfl h5) rfl) rfl (dB (by lia))
 exact fF (cV hr (by simp;lia) hm)
theorem Pu(k:Nat)(C:Int):run bC (k+1) "_law_names" [.int C,.int 13]=some (.own ((List.range 13).map fun q=>.str (cm C q))):=by
 have hl:=yj C;have hp:=L3 C;rw[Dp,aU];obtain⟨x5,x8,x9,h⟩:=tu (run bC k) (.val (.int C)) (.val (.int 13)) (Pr C) (Uh C) (by rw[qC];lia) (List.range 13) [] .un .un .un (fun q hq=>by have:=fU.mp hq;lia) (by simp)
 rw[qC,gE]at h;have a1:bg (af (kI 1) (af (rd 0) (kI 8) b8) bW) (ao 3) [.val (.int C),.val (.int 13),.val Bc,.un,.un,.un,.un,.un,.un,.un]=some (.nx [.val (.int C),.val (.int 13),.val Bc,.val (iN (yi C)),.un,.un,.un,.un,.un,.un]):=by
  unfold iN;rw[hl.2.2];exact aS (b2 rfl (b2 rfl rfl (dB (by decide))) rfl) rfl
 have a2:bg (af (af (rd 0) (kI 8) de) (rd 3) b8) (ao 4) [.val (.int C),.val (.int 13),.val Bc,.val (iN (yi C)),.un,.un,.un,.un,.un,.un]=some (.nx [.val (.int C),.val (.int 13),.val Bc,.val (iN (yi C)),.val (iN (Uh C)),.un,.un,.un,.un,.un]):=by
  unfold iN;rw[hp.2];exact aS (b2 (b2 rfl rfl (ya (by decide))) rfl (dB (by lia))) rfl
 have hr:gG (aa (rd 1) ai) [.val (.int C),.val (.int 13),.val Bc,.val (iN (yi C)),.val (iN (Uh C)),.un,.val (.au ((Pr C).map .int)),.own [],.un,.un]=some ((List.range 13).map fun(i:Nat)=>PV.int (0+(i:Int))):=hZ (j:=13) rfl (by decide)
 exact Ac (sq (aS rfl rfl) (sq a1 (sq a2 (sq (aS (HE C _ _ _ _ _ _ _ _) rfl) (sq (sO rfl (by simp)) (sq (fS hr h) (Ad rfl)))))))
def ig(c:Int):Sh:=match(c%7).toNat with
 | 0=>.bL [.num,.num]
 | 1=>.own
 | 2=>.c7 (1+c/7%8)
 | 3=>.num
 | 4=>.bL [.num,.own]
 | 5=>.bL [.c7 (1+c/7%8),.own]
 | _=>.bL [.bL [.num,.num],.c7 (1+c/7%8)]
def gy(s:Sh):Prop:=Fc s/\(lv s).length<=3
theorem lr(c:Int):gy (ig c):=by
 have h8:0<1+c/7%8/\1+c/7%8<=8:=by lia
 have:c%7=0\/c%7=1\/c%7=2\/c%7=3\/c%7=4\/c%7=5\/c%7=6:=by lia
 unfold ig;rcases this with h | h | h | h | h | h | h<;>rw[h]<;>simp[gy,Fc,E9,tab,tabs,dp,sv,pos,Lw,lv,ik,h8]
theorem L4:gy .num:=by simp[gy,Fc,E9,tab,dp,pos,lv]
theorem L5{s:Sh}(h:gy s){r:Rw}(hr:r∈tab s):gy r.2.2.2:=by
 obtain⟨⟨h1,h2⟩,h3⟩:=h;exact⟨⟨yc h1 hr,sY s h2 r hr⟩,cF (xU s r hr).2 h3⟩
theorem Pw(k:Nat)(c:Int):run bC (k+1) "_law_shape" [.int c]=some (.val (enc (ig c))):=by
 rw[Dq,aU];obtain⟨n,hn⟩:∃n,n=1+c/7%8:=⟨_,rfl⟩
 have a1:bg (aZ (aa (kS "strip") (aa (af (kI 1) (af (af (rd 0) (kI 7) de) (kI 8) b8) bW) ai))) (ao 1) [.val (.int c),.un,.un,.un]=some (.nx [.val (.int c),.val (sP n),.un,.un]):=by
  rw[hn];exact aS (tU (cA rfl (cA (b2 rfl (b2 (b2 rfl rfl (ya (by decide))) rfl (dB (by decide))) rfl) rfl)) (by simp)) rfl
 have hi:aG (.au ([tP,oP,sP n,nP,.aB [.str "rec",.aB [nP,oP]],.aB [.str "rec",.aB [sP n,oP]]]++[.aB [.str "rec",.aB [tP,sP n]]])) (.int (c%7))=some (enc (ig c)):=by
  have:c%7=0\/c%7=1\/c%7=2\/c%7=3\/c%7=4\/c%7=5\/c%7=6:=by lia
  unfold ig;rcases this with h | h | h | h | h | h | h<;>rw[h,hn]<;>rfl
 exact dh (sq a1 (sq (aS (p:=tP) rfl rfl) (sq (aS (p:=.au [tP,oP,sP n,nP,.aB [.str "rec",.aB [nP,oP]],.aB [.str "rec",.aB [sP n,oP]]]) rfl rfl) (rS (b2 (b2 (x:=.au [tP,oP,sP n,nP,.aB [.str "rec",.aB [nP,oP]],.aB [.str "rec",.aB [sP n,oP]]]) (y:=.au [.aB [.str "rec",.aB [tP,sP n]]]) rfl rfl (aL (by simp))) (b2 rfl rfl (dB (by decide))) hi)))))
def jx(r:Rw):PV:=.aB [.aB (r.1.map .int),enc r.2.2.2]
theorem tK(c:fV)(S:Ent):∀(Bm:List Sh) (i:Nat) (acc:List Rw) (a:Int) (o2 o3:Ent),(∀s∈Bm,c "_law_parts" [enc s]=some (.val (.au ((tab s).map jx))))->acc.length+jr Bm<=1000 ->
  ∃Uj Uk,fy (cC 2 (ax (ao 2) (ax (ao 3) cB))) (jU c) (dR i (cW Bm)) [S,.val (.au (acc.map jx)),o2,o3]=some (.nx [S,.val (.au ((acc++tabs i a Bm).map jx)),Uj,Uk])
 | [],i,acc,a,o2,o3,_,_=>⟨o2,o3,by simp[cW,dR,tabs]⟩
 | s::Bm,i,acc,a,o2,o3,h,hz=>by
  have h1:=h s b6;simp only[jr]at hz;obtain⟨Uj,Uk,e⟩:=tK c S Bm (i+1) (acc++(tab s).map (lV i a)) (a+sz s) (.val (.int (i:Int))) (.val (enc s)) (fun s hs=>h s (bQ _ hs)) (by rw[bK,aC];lia)
  refine⟨Uj,Uk,?_⟩;rw[AQ,<-iw];have hp:∀r∈tab s,r.1.length<=1000:=fun r hr=>by have:=EZ s r hr;have:=QN s;lia
  have hm:iB (fun p=>(cC 2 (ax (ao 1) (ax (ao 2) cB)) p (bj [none,none,none,some 2] [S,.val (.au (acc.map jx)),.val (.int (i:Int)),.val (enc s)])).bind (aZ (aa (af (aZ (aa (rd 3) ai)) (rd 1) bW) (aa (rd 2) ai)))) ((tab s).map jx)=some (((tab s).map (lV i a)).map jx):=by
   rw[fw];refine eE fun r hr=>?_
   have hl:=hp r hr;have t:cC 2 (ax (ao 1) (ax (ao 2) cB)) (jx r) (bj [none,none,none,some 2] [S,.val (.au (acc.map jx)),.val (.int (i:Int)),.val (enc s)])=some [.un,.val (.aB (r.1.map .int)),.val (enc r.2.2.2),.val (.int (i:Int))]:=rfl;rw[t,aV];exact tU (cA (b2 (tU (cA rfl rfl) (by simp)) rfl (aT (by simp only[bq,jk,aC];lia))) (cA rfl rfl)) (by simp)
  have body:jU c [S,.val (.au (acc.map jx)),.val (.int (i:Int)),.val (enc s)]=some (.nx [S,.val (.au ((acc++(tab s).map (lV i a)).map jx)),.val (.int (i:Int)),.val (enc s)]):=by
   unfold jU;rw[cY];exact aS (b2 rfl (fF (cV (sV (dO (cA rfl rfl) rfl h1 rfl) rfl) (by simp only[aC];lia) hm)) (aL (by simp only[aC];lia))) rfl
  exact fC (eu:=[S,.val (.au (acc.map jx)),.val (.int (i:Int)),.val (enc s)]) rfl body e
theorem p8(s:Sh)(x1 x2 x3:Ent):bg (bH (cw (aa (aZ (aa (aZ ai) (aa (rd 0) ai))) ai))) (ao 1) [.val (enc s),x1,x2,x3]=some (.nx [.val (enc s),.val (.au [jx ([],0,sz s,s)]),x2,x3]):=aS (fF (lS (cA (tU (cA rfl (cA rfl rfl)) (by simp)) rfl) (by simp))) rfl
theorem mG(k:Nat){s:Sh}(h:iH s=true):run bC (k+1) "_law_parts" [enc s]=some (.val (.au ((tab s).map jx))):=by
 rw[sT,aU];have he:=Lv s;rw[h]at he;rw[K8 h];exact dh (sq (p8 s .un .un .un) (sq (iF (bT (b2 (b2 rfl rfl (AH s)) rfl he)) rfl) (rS rfl)))
theorem HF(k:Nat){ps:List Sh} (h:∀s∈ps,run bC k "_law_parts" [enc s]=some (.val (.au ((tab s).map jx)))) (hl:jr ps<=900):run bC (k+1) "_law_parts" [enc (.bL ps)]=some (.val (.au ((tab (.bL ps)).map jx))):=by
 rw[sT,aU];have he:=Lv (.bL ps);obtain⟨o2,o3,e⟩:=tK (run bC k) (.val (enc (.bL ps))) ps 0 [([],0,sz (.bL ps),.bL ps)] 0 .un .un h (by simp;lia)
 have ht:tab (.bL ps)=[([],0,sz (.bL ps),.bL ps)]++tabs 0 0 ps:=by simp[tab,sz,lv]
 rw[ht];refine dh (sq (p8 (.bL ps) .un .un .un) (sq (iT (bT (b2 (b2 rfl rfl (AH (.bL ps))) rfl he)) (fS ?_ e)) (rS rfl)));show((af (rd 0) (kI 1) aG) _).bind _=_;rw[b2 rfl rfl (show aG (enc (.bL ps)) (.int 1)=some (.aB (cW ps)) by simp[enc])]
 rfl
mutual
theorem yk:∀(s:Sh) (k:Nat),dp s<=k->(tab s).length<=900->run bC (k+1) "_law_parts" [enc s]=some (.val (.au ((tab s).map jx)))
 | .num,k,_,_=>mG k rfl
 | .own,k,_,_=>mG k rfl
 | .c7 n,k,_,_=>mG k rfl
 | .bL ps,0,hd,_=>by simp[dp]at hd
 | .bL ps,k+1,hd,hz=>by
  have hl:(tab (.bL ps)).length=jr ps+1:=by simp only[tab,bq,iI]
  have yE:sv ps<=k:=by simp only[dp]at hd;lia
  exact HF (k+1) (fun s hs=>Bg ps k yE (by lia) s hs) (by lia)
theorem Bg:∀(ps:List Sh) (k:Nat),sv ps<=k->jr ps<=900->∀s∈ps,run bC (k+1) "_law_parts" [enc s]=some (.val (.au ((tab s).map jx)))
 | [],_,_,_,s,hs=>by cases hs
 | p::r,k,hd,hz,s,hs=>by
  simp only[sv]at hd;simp only[jr]at hz;rcases bc.mp hs with e | e
  ·rw[e];exact yk p k (by lia) (by lia)
  ·exact Bg r k (by lia) (by lia) s e
end
def may(d:Kd):Bool:=!(kw d==(Str.ofString "lent"))
def j8(ks:List Rk):List Sp:=ks.flatMap fun q=>(tab (c6 q.2)).map fun r=>⟨q.1,q.2,r,.cG⟩
def iQ(s:Sp):PV:=.aB [b9 s,enc s.r.2.2.2,.bl (may s.d)]
theorem DN{ks:List Rk}(h:UY ks):∀s∈j8 ks,eJ ks s/\s.a=.cG:=by
 intro s hs;obtain⟨q,hq,hs⟩:=jg.mp hs;obtain⟨r,hr,rfl⟩:=bG.mp hs;exact⟨⟨hq,h q hq,hr,.cG⟩,rfl⟩
theorem ym{ks:List Rk}(h:UY ks):(j8 ks).length<=100*ks.length:=by
 induction ks with
 | nil=>simp[j8]
 | cons q ks ih =>
  have h1:=(h q b6).1;have h2:=ih fun r hr=>h r (bQ _ hr)
  simp only[j8,oo,bK,aC,bq]at h2 ⊢
  lia
theorem nX{ks:List Rk}{q:Rk}(hq:q∈ks):(⟨q.1,q.2,ux (c6 q.2),.cG⟩:Sp)∈j8 ks:=jg.mpr ⟨q,hq,bG.mpr ⟨_,iL _,rfl⟩⟩
theorem L6(c:fV)(S:Ent)(x:Str)(d:Kd)(o5:Ent)(T:List Rw):∀(acc:az) (o6 o7:Ent),acc.length+T.length<=90000 ->
  ∃HG Px,fy (cC 2 (ax (ao 6) (ax (ao 7) cB))) (mz c) (T.map jx) [S,.own acc,.val (.str x),.val (dr d),.val (.bl (ie d)),o5,o6,o7]=some (.nx [S,.own (acc++T.map fun r=>iQ ⟨x,d,r,.cG⟩),.val (.str x),.val (dr d),.val (.bl (ie d)),o5,HG,Px]):=by
 induction T with
 | nil=>exact fun acc o6 o7 _=>⟨o6,o7,by simp⟩
 | cons r T ih =>
  intro acc o6 o7 hz;simp only[bq]at hz;obtain⟨HG,Px,e⟩:=ih (acc++[iQ ⟨x,d,r,.cG⟩]) (.val (.aB (r.1.map .int))) (.val (enc r.2.2.2)) (by simp;lia)
  refine⟨HG,Px,?_⟩;rw[iw]at e;rw[bR,bR];refine fC (eu:=[S,.own acc,.val (.str x),.val (dr d),.val (.bl (ie d)),o5,.val (.aB (r.1.map .int)),.val (enc r.2.2.2)]) rfl ?_ e;unfold mz;exact mA rfl (tU (cA (tU (cA rfl (cA rfl (cA rfl (cA rfl rfl)))) (by simp)) (cA rfl (cA (b2 (b2 rfl rfl (kQ d)) rfl (O8 d)) rfl))) (by simp)) (by lia)
theorem HH(k:Nat)(hk:3<=k)(S:Ent)(ks:List Rk):∀(acc:az) (o2 o3 o4 o5 o6 o7:Ent),UY ks->acc.length+100*ks.length<=80000 ->
  ∃Uj Uk Ul Um HG Px,fy (cC 2 (ax (ao 2) (ax (ao 3) cB))) (mB (run bC (k+1))) (ks.map bN) [S,.own acc,o2,o3,o4,o5,o6,o7]=some (.nx [S,.own (acc++(j8 ks).map iQ),Uj,Uk,Ul,Um,HG,Px]):=by
 induction ks with
 | nil=>exact fun acc o2 o3 o4 o5 o6 o7 _ _=>⟨o2,o3,o4,o5,o6,o7,by simp[j8]⟩
 | cons q ks ih =>
  intro acc o2 o3 o4 o5 o6 o7 ho hz;simp only[bq]at hz;obtain⟨h1,h2⟩:=ho q b6;obtain⟨p6,p7,EC⟩:=L6 (run bC (k+1)) S q.1 q.2 (.val (enc (c6 q.2))) (tab (c6 q.2)) acc o6 o7 (by lia)
  obtain⟨Uj,Uk,Ul,Um,HG,Px,e⟩:=ih (acc++(tab (c6 q.2)).map fun r=>iQ ⟨q.1,q.2,r,.cG⟩) (.val (.str q.1)) (.val (dr q.2)) (.val (.bl (ie q.2))) (.val (enc (c6 q.2))) p6 p7 (fun r hr=>ho r (bQ _ hr)) (by rw[bK,aC];lia)
  refine⟨Uj,Uk,Ul,Um,HG,Px,?_⟩;have m6:(j8 (q::ks)).map iQ=((tab (c6 q.2)).map fun r=>iQ ⟨q.1,q.2,r,.cG⟩)++(j8 ks).map iQ:=by
   simp[j8,oo,cY,fw,Function.comp_def]
  rw[m6,<-iw];have ht:=yk (c6 q.2) k (by lia) (by lia)
  refine fC (eu:=[S,.own acc,.val (.str q.1),.val (dr q.2),o4,o5,o6,o7]) rfl ?_ e;unfold mB;have a5:gk (iC (toB (rd 4))) (bg (af (rd 3) (kI 1) aG) (ao 5)) (fun ρ=>some (.nx ρ)) [S,.own acc,.val (.str q.1),.val (dr q.2),.val (.bl (ie q.2)),.val (dr q.2),o6,o7]=some (.nx [S,.own acc,.val (.str q.1),.val (dr q.2),.val (.bl (ie q.2)),.val (enc (c6 q.2)),o6,o7]):=by
   obtain⟨x,d⟩:=q;cases d with
   | ow s=>exact iF rfl rfl
   | ho b s=>exact iT rfl (aS (b2 rfl rfl rfl) rfl)
  exact sq (aS (b2 (b2 rfl rfl (kQ q.2)) rfl (xQ q.2)) rfl) (sq (aS rfl rfl) (sq a5 (fS (sV (dO (cA rfl rfl) rfl ht rfl) rfl) EC)))
theorem Py(k:Nat)(hk:3<=k)(ks:List Rk)(h:UY ks)(hl:ks.length<=100):run bC (k+2) "_law_spots" [.au (ks.map bN)]=some (.own ((j8 ks).map iQ)):=by
 rw[Dr,aU];obtain⟨o2,o3,o4,o5,o6,o7,e⟩:=HH k hk (.val (.au (ks.map bN))) ks [] .un .un .un .un .un .un h (by simp;lia)
 rw[gE]at e;exact Ac (sq (sO rfl (by simp)) (sq (fS rfl e) (Ad rfl)))
def fI(s:Sp):PV:=.aB [b9 s,.bl (may s.d)]
def jy(x:Str)(dg:Int)(s:Sp):List Sp:=match s.r.2.2.2 with
 | .num=>[s]
 | .own=>[s]
 | .c7 n=>[{s with a:=if dg/8%2=0 then .int (dg%n)else .str x}]
 | .bL _=>[]
def acL:Sh->Bool
 | .num=>true
 | .own=>true
 | _=>false
def acM:Sh->Bool
 | .c7 _=>true
 | _=>false
theorem Yd(s:Sh):pU false (.str (E4 s)) (.aB [.str "num",.str "own"])=some (.bl (acL s)):=by
 rw[XY];refine dy (fun b=>some (PV.bl b)) ?_
 cases s with
 | num=>decide +kernel
 | own=>decide +kernel
 | c7 n=>exact(by decide +kernel:(Str.ofString "num"==Str.ofString "strip" || Str.ofString "own"==Str.ofString "strip")=false)
 | bL ps=>exact(by decide +kernel:(Str.ofString "num"==Str.ofString "rec" || Str.ofString "own"==Str.ofString "rec")=false)
theorem Ye(s:Sh):dU (.str (E4 s)) (.str "strip")=some (.bl (acM s)):=by
 rw[c8];refine dy (fun b=>some (PV.bl b)) ?_
 cases s with
 | num=>decide +kernel
 | own=>decide +kernel
 | c7 n=>exact(by decide +kernel:(Str.ofString "strip"==Str.ofString "strip")=true)
 | bL ps=>exact(by decide +kernel:(Str.ofString "rec"==Str.ofString "strip")=false)
theorem L7(c:fV)(S:Ent)(x:Str)(dg:Int){s:Sp}(hp:pos s.r.2.2.2=true)(hn:s.a=.cG)(acc:az)(hl:acc.length<90000):ib c [S,.val (.str x),.val (.int dg),.own acc,.val (b9 s),.val (enc s.r.2.2.2),.val (.bl (may s.d))]=some (.nx [S,.val (.str x),.val (.int dg),.own (acc++(jy x dg s).map fI),.val (b9 s),.val (enc s.r.2.2.2),.val (.bl (may s.d))]):=by
 unfold ib;have t1:=fun acc:az=>(bT (b2 (b2 rfl rfl (AH s.r.2.2.2)) rfl (Yd s.r.2.2.2)):toB (af (af (rd 5) (kI 0) aG) (aZ (aa (kS "num") (aa (kS "own") ai))) (pU false)) [S,.val (.str x),.val (.int dg),.val (.au acc),.val (b9 s),.val (enc s.r.2.2.2),.val (.bl (may s.d))]=some _)
 have t2:=fun acc:az=>(bT (b2 (b2 rfl rfl (AH s.r.2.2.2)) rfl (Ye s.r.2.2.2)):toB (af (af (rd 5) (kI 0) aG) (kS "strip") dU) [S,.val (.str x),.val (.int dg),.val (.au acc),.val (b9 s),.val (enc s.r.2.2.2),.val (.bl (may s.d))]=some _)
 cases he:s.r.2.2.2 with
 | num =>
  rw[he]at t1 t2;rw[show jy x dg s=[s] by unfold jy;rw[he]]
  exact sq (iT (t1 acc) (mA rfl (tU (cA rfl (cA rfl rfl)) (by simp)) (by lia))) (iF (t2 (acc++[fI s])) rfl)
 | own =>
  rw[he]at t1 t2;rw[show jy x dg s=[s] by unfold jy;rw[he]]
  exact sq (iT (t1 acc) (mA rfl (tU (cA rfl (cA rfl rfl)) (by simp)) (by lia))) (iF (t2 (acc++[fI s])) rfl)
 | bL ps =>
  rw[he]at t1 t2;rw[show jy x dg s=[] by unfold jy;rw[he],qR,gX]
  exact sq (iF (t1 acc) rfl) (iF (t2 acc) rfl)
 | c7 n =>
  rw[he]at t1 t2 hp;have hp:0<n:=by simpa[pos]using hp
  rw[show jy x dg s=[{s with a:=if dg/8%2=0 then .int (dg%n)else .str x}] by unfold jy;rw[he]]
  refine sq (iF (t1 acc) rfl) (iT (t2 acc) ?_);have hx:af (bH (cw (aa (af (rd 2) (af (rd 5) (kI 1) aG) b8) (aa (rd 1) ai)))) (af (af (rd 2) (kI 8) de) (kI 2) b8) aG [S,.val (.str x),.val (.int dg),.own acc,.val (b9 s),.val (enc (.c7 n)),.val (.bl (may s.d))]=some (if dg/8%2=0 then .int (dg%n)else .str x):=by
   refine b2 (x:=.au [.int (dg%n),.str x]) (fF (lS (cA (b2 rfl (b2 rfl rfl rfl) (dB hp)) (cA rfl rfl)) (by simp))) (b2 (b2 rfl rfl (ya (by decide))) rfl (dB (by decide))) ?_
   have:dg/8%2=0\/dg/8%2=1:=by lia
   rcases this with h | h
   ·rw[h];rfl
   ·rw[h];rfl
  obtain⟨a,ha⟩:∃a,a=(if dg/8%2=0 then PV.int (dg%n)else .str x):=⟨_,rfl⟩
  rw[<-ha]at hx ⊢;exact mA rfl (tU (cA (b2 (x:=.aB [.str s.x,.bl (ie s.d),.aB (s.r.1.map .int)]) (y:=.aB [a]) rfl (tU (cA hx rfl) (by simp)) (aT (by simp))) (cA rfl rfl)) (by simp)) (by lia)
theorem Bh(c:fV)(S:Ent)(x:Str)(dg:Int):∀(T:List Sp) (acc:az) (o4 o5 o6:Ent),(∀s∈T,pos s.r.2.2.2=true/\s.a=.cG)->acc.length+T.length<=80000 ->
  ∃Ul Um HG,fy (cC 3 (ax (ao 4) (ax (ao 5) (ax (ao 6) cB)))) (ib c) (T.map iQ) [S,.val (.str x),.val (.int dg),.own acc,o4,o5,o6]=some (.nx [S,.val (.str x),.val (.int dg),.own (acc++(T.flatMap (jy x dg)).map fI),Ul,Um,HG])
 | [],acc,o4,o5,o6,_,_=>⟨o4,o5,o6,by simp⟩
 | s::T,acc,o4,o5,o6,h,hz=>by
  simp only[bq]at hz;obtain⟨h1,h2⟩:=h s b6;have hb:=L7 c S x dg h1 h2 acc (by lia)
  have GI:(jy x dg s).length<=1:=by
   unfold jy;split<;>simp
  obtain⟨Ul,Um,HG,e⟩:=Bh c S x dg T (acc++(jy x dg s).map fI) (.val (b9 s)) (.val (enc s.r.2.2.2)) (.val (.bl (may s.d))) (fun t ht=>h t (bQ _ ht)) (by rw[bK,aC];lia)
  refine⟨Ul,Um,HG,?_⟩;rw[oo,cY,<-iw];exact fC (eu:=[S,.val (.str x),.val (.int dg),.own acc,.val (b9 s),.val (enc s.r.2.2.2),.val (.bl (may s.d))]) rfl hb e
abbrev yr(ks:List Rk)(x:Str)(dg:Int):List Sp:=(j8 ks).flatMap (jy x dg)
theorem Pz{ks:List Rk}{x:Str}(hx:(x,Kd.ow .num)∈ks){dg:Int}{s:Sp}(hs:eJ ks s):∀t∈jy x dg s,eJ ks t/\t.d=s.d:=fun t ht=>by
 unfold jy at ht;split at ht
 ·rw[cq]at ht;subst ht;exact⟨hs,rfl⟩
 ·rw[cq]at ht;subst ht;exact⟨hs,rfl⟩
 ·rw[cq]at ht;subst ht;refine⟨⟨hs.mem,hs.ok,hs.row,?_⟩,rfl⟩;show Ho ks (if dg/8%2=0 then _ else _)
  split
  ·exact .int _
  ·exact .str _ hx
 ·cases ht
theorem Uo{ks:List Rk}(K:qB ks){x:Str}(hx:(x,Kd.ow .num)∈ks)(dg:Int):(∀t∈yr ks x dg,eJ ks t)/\(yr ks x dg).length<=1000/\∃t∈yr ks x dg,may t.d=true:=by
 refine⟨fun t ht=>?_,?_,?_⟩
 ·obtain⟨s,hs,ht⟩:=jg.mp ht;exact(Pz hx (DN K.ok s hs).1 t ht).1
 ·have h1:=ym K.ok;have h2:=K.few;have:∀T:List Sp,(T.flatMap (jy x dg)).length<=T.length:=fun T=>by
   induction T with
   | nil=>simp
   | cons s T ih =>
    have GI:(jy x dg s).length<=1:=by
     unfold jy;split<;>simp
    rw[oo,bK,bq]
    lia
  have:=this (j8 ks);show(List.flatMap (jy x dg) (j8 ks)).length<=1000
  lia
 ·refine⟨⟨x,.ow .num,ux .num,.cG⟩,jg.mpr ⟨_,nX hx,?_⟩,?_⟩
  ·simp[jy,c6]
  ·show(!((Str.ofString "num")==(Str.ofString "lent")))=true;decide +kernel
theorem HI(k:Nat){ks:List Rk}(K:qB ks)(x:Str)(dg:Int):run bC (k+1) "_law_numbers" [.au ((j8 ks).map iQ),.str x,.int dg]=some (.own ((yr ks x dg).map fI)):=by
 rw[xJ,aU];have m6:=ym K.ok;have hf:=K.few;obtain⟨o4,o5,o6,e⟩:=Bh (run bC k) (.val (.au ((j8 ks).map iQ))) x dg (j8 ks) [] .un .un .un (fun s hs=>by
  obtain⟨g1,g2⟩:=DN K.ok s hs;exact⟨sY _ (K.good _ g1.mem).1.2 _ g1.row,g2⟩) (by simp;lia)
 rw[gE]at e;exact Ac (sq (sO rfl (by simp)) (sq (fS rfl e) (Ad rfl)))
theorem Yg:zq (.int 10) (.int 30)=some (.int (10^30)):=by
 rw[Aa,if_pos (by decide)]
 rfl
theorem vG(k:Nat){ks:List Rk}{N:List Sp}(h:∀s∈N,eJ ks s)(h0:0<N.length)(C m:Int):∃o,run bC (k+1) "_law_operand" [.int C,.int m,.au (N.map fI)]=some (.val (iM o))/\mD ks o:=by
 rw[xK,aU];obtain⟨s,hs,uf⟩:=dY N fI (m/20) h0;have hz:0<((N.map fI).length:Int):=by rw[aC];lia
 have t1:toB (af (af (af (rd 1) (kI 5) de) (kI 4) b8) (kI 0) dU) [.val (.int C),.val (.int m),.val (.au (N.map fI))]=some (decide (m/5%4=0)):=bT (b2 (b2 (b2 rfl rfl (ya (by decide))) rfl (dB (by decide))) rfl hV)
 by_cases hm:m/5%4=0
 ·rw[fQ hm]at t1;exact⟨.n (C%10^30),dh (jq (iT t1 (rS (b2 rfl (b2 rfl rfl Yg) (dB (by decide)))))),trivial⟩
 ·rw[eG hm]at t1;exact⟨.s s,dh (sq (iF t1 rfl) (rS (b2 (b2 (x:=.au (N.map fI)) rfl (b2 (b2 rfl rfl (ya (by decide))) (bV (cA rfl rfl) rfl) (dB hz)) uf) rfl rfl))),h s hs⟩
def Rt(P:PV->Prop)(x:Option n4):Prop:=∃p,x=some (.rt (.val p))/\P p
theorem Rt.run{x:Option n4}{P:PV->Prop}(h:Rt P x):∃p,fY x=some (.val p)/\P p:=by
 obtain⟨p,a,b⟩:=h;exact⟨p,dh a,b⟩
theorem xS{f g:FS}{ρ fj:aF}{P:PV->Prop}(h:f ρ=some (.nx fj))(k:Rt P (g fj)):Rt P (aH f g ρ):=by
 obtain⟨p,a,b⟩:=k;exact⟨p,sq h a,b⟩
theorem xI{gc:eP}{f h:FS}{ρ:aF}{b:Bool}{P:PV->Prop}(hc:gc ρ=some b)(ht:b=true->Rt P (f ρ))(hf:b=false->Rt P (h ρ)):Rt P (aH (gk gc f fun ρ=>some (.nx ρ)) h ρ):=by
 cases b with
 | true =>
  obtain⟨p,a,c⟩:=ht rfl;exact⟨p,jq (iT hc a),c⟩
 | false =>
  obtain⟨p,a,c⟩:=hf rfl;exact⟨p,sq (iF hc rfl) a,c⟩
theorem xR{fa:FE}{ρ:aF}{p:PV}{P:PV->Prop}(h:fa ρ=some p)(k:P p):Rt P (bz fa ρ):=⟨p,rS h,k⟩
theorem oB{f g:eP}{ρ:aF}{a b:Bool}(h1:f ρ=some a)(h2:g ρ=some b):zc f g ρ=some (a || b):=by
 rw[KI,h1,aV];cases a with
 | true=>rfl
 | false=>rw[if_neg (by decide),h2];rfl
theorem nD{f g:eP}{ρ:aF}{a b:Bool}(h1:f ρ=some a)(h2:g ρ=some b):gA f g ρ=some (a&&b):=Fg h1 fun _=>h2
def DO(ks:List Rk)(M:Nat)(p:PV):Prop:=∃as,j7 ks M p as
theorem PC(s:Sh):pU false oP (.au (cW (lv s)))=some (.bl ((lv s).any nS)):=by
 have hd:=sJ (xu s);show(if eA (cW (lv s))<=hJ then some (PV.bl (Cy oP (cW (lv s))))else none)=_
 rw[if_pos (by rw[lh];lia),DE]
theorem L8{ks:List Rk}{N:List Sp}(h:∀s∈N,eJ ks s):eA (N.map b9)<=2:=sG fun x hx=>by
 obtain⟨s,hs,rfl⟩:=bG.mp hx;exact Lx (h s hs)
theorem PD{ks:List Rk}{N:List Sp}(h:∀s∈N,eJ ks s):dU (.au (N.map b9)) (.au [])=some (.bl N.isEmpty):=by
 have hd:=L8 h;rw[C5 (by simp only[iX,lh];lia)]
 cases N<;>rfl
theorem PF{ks:List Rk}{N:List Sp}(h:∀s∈N,eJ ks s):t8 (.au (N.map b9)) (.au [])=some (.bl (!N.isEmpty)):=by
 have hd:=L8 h;rw[TL (by simp only[iX,lh];lia)]
 cases N<;>rfl
theorem yn{α:Type}{l:List α}(h:l.isEmpty=false):0<l.length:=by
 cases l with
 | nil=>cases h
 | cons a l=>simp
theorem jY{α:Type}{l:List α}{x:α}(h:x∈l):0<l.length:=by
 cases l with
 | nil=>cases h
 | cons a l=>simp
section
variable {ks:List Rk} (K:qB ks) (M:Nat)
abbrev SL(ks:List Rk):PV:=.au ((j8 ks).map iQ)
theorem tL(K:qB ks):∀s∈j8 ks,eJ ks s:=fun s hs=>(DN K.ok s hs).1
theorem tM(K:qB ks):(j8 ks).length<=1000:=by
 have h1:=ym K.ok;have h2:=K.few
 lia
theorem Bi{l:List Sp}{f:Sp->Bool}(h:∀s∈l,eJ ks s):∀s∈l.filter f,eJ ks s:=fun s hs=>h s (gF.mp hs).1
def Fx(s t:Sp):Bool:=eqT (enc t.r.2.2.2) (enc s.r.2.2.2)&&may t.d
theorem HJ(K:qB ks){s:Sp}(x0 x1 x2 x4 x6 x7 x8:Ent):bH (eQ [none,none,none,none,some 5] (cJ (rd 3)) (cC 3 (ax (ao 1) (ax (ao 2) (ax (ao 3) cB)))) (gA (toB (af (rd 2) (rd 4) dU)) (toB (rd 3))) (rd 1)) [x0,x1,x2,.val (SL ks),x4,.val (enc s.r.2.2.2),x6,x7,x8]=some (.au (((j8 ks).filter (Fx s)).map b9)):=by
 have hl:=tM K;refine fF (cT (ps:=(j8 ks).map iQ) rfl (by rw[aC];lia) ?_)
 refine e9 fun t ht=>?_
 have ok:=tL K t ht;have t0:cC 3 (ax (ao 1) (ax (ao 2) (ax (ao 3) cB))) (iQ t) (bj [none,none,none,none,some 5] [x0,x1,x2,.val (SL ks),x4,.val (enc s.r.2.2.2),x6,x7,x8])=some [.un,.val (b9 t),.val (enc t.r.2.2.2),.val (.bl (may t.d)),.val (enc s.r.2.2.2)]:=rfl;have g:gA (toB (af (rd 2) (rd 4) dU)) (toB (rd 3)) [.un,.val (b9 t),.val (enc t.r.2.2.2),.val (.bl (may t.d)),.val (enc s.r.2.2.2)]=some (Fx s t):=nD (bT (b2 rfl rfl (QQ (yc ok.ok ok.row) _))) (bT rfl);rw[t0,aV,g,aV];cases Fx s t<;>rfl
include K in
theorem HK(k:Nat)(hk:3<=k)(w:Str)(a b:Int)(h0:0<(j8 ks).length):∃p,run bC (k+2) "_law_carried" [.str w,.int a,.int b,SL ks]=some (.val p)/\DO ks M p:=by
 rw[xM,aU];refine Rt.run ?_;obtain⟨s,hs,uf⟩:=dY (j8 ks) iQ a h0;have ok:=tL K s hs;have hz:0<(((j8 ks).map iQ).length:Int):=by rw[aC];lia
 have h3:=(yc ok.ok ok.row);have hlv:=vE s.r.2.2.2 k (by have:=h3.2;lia) (by have:=h3.1;have:=EY s.r.2.2.2;lia)
 obtain⟨G,hG⟩:∃G,G=(j8 ks).filter (Fx s):=⟨_,rfl⟩
 have gc:=HJ K (s:=s) (.val (.str w)) (.val (.int a)) (.val (.int b)) (.val (b9 s)) (.val (.bl (may s.d))) .un .un;rw[<-hG]at gc;have hGs:∀t∈G,eJ ks t:=by rw[hG];exact Bi (tL K)
 obtain⟨o,ho⟩:∃o,o=(lv s.r.2.2.2).any nS:=⟨_,rfl⟩
 have io:=PC s.r.2.2.2;rw[<-ho]at io;have a1:bg (af (rd 3) (af (rd 1) (cg cX (aa (rd 3) ai)) b8) aG) (cC 3 (ax (ao 4) (ax (ao 5) (ax (ao 6) cB)))) [.val (.str w),.val (.int a),.val (.int b),.val (SL ks),.un,.un,.un,.un,.un]=some (.nx [.val (.str w),.val (.int a),.val (.int b),.val (SL ks),.val (b9 s),.val (enc s.r.2.2.2),.val (.bl (may s.d)),.un,.un]):=aS (b2 (x:=SL ks) rfl (b2 rfl (bV (cA rfl rfl) rfl) (dB hz)) uf) rfl;refine xS a1 (xS (aS gc rfl) (xS (aS (b2 (x:=oP) rfl (dO (cA rfl rfl) rfl hlv rfl) io) rfl) ?_));refine xI (oB (bT (b2 (x:=.au (G.map b9)) (y:=.au []) rfl rfl (PD hGs))) (nD (bT (b:=ie s.d) rfl) (bT (b:=o) rfl))) (fun _=>?_) fun hc=>?_
 ·exact xR (tU (cA rfl (cA rfl rfl)) (by simp)) ⟨_,Fw K M (a:=.n a) trivial⟩
 ·have hGe:G.isEmpty=false:=(Bool.or_eq_false_iff.mp hc).1;obtain⟨t,ht,hgt⟩:=dY G b9 b (yn hGe);have Up:0<((G.map b9).length:Int):=by have:=yn hGe;rw[aC];lia
  have gx:af (rd 7) (af (rd 2) (cg cX (aa (rd 7) ai)) b8) aG [.val (.str w),.val (.int a),.val (.int b),.val (SL ks),.val (b9 s),.val (enc s.r.2.2.2),.val (.bl (may s.d)),.val (.au (G.map b9)),.val (.bl o)]=some (b9 t):=b2 (x:=.au (G.map b9)) rfl (b2 rfl (bV (cA rfl rfl) rfl) (dB Up)) hgt;refine xI (oB (bT (b:=o) rfl) (nD (bT (b2 (x:=.str w) rfl rfl c8)) (nB (bT (b:=ie s.d) rfl)))) (fun _=>?_) fun _=>?_
  ·exact xR (tU (cA rfl (cA gx (cA rfl rfl))) (by simp)) ⟨_,LZ K M (hGs t ht) ok⟩
  ·exact xR (tU (cA rfl (cA gx (cA rfl rfl))) (by simp)) ⟨_,LY K M (hGs t ht) ok⟩
def PH(s:Sh)(w:Str)(t:Sp):Bool:=eqT (enc t.r.2.2.2) (enc s)&&(may t.d || w==(Str.ofString "lend"))
theorem L9(K:qB ks)(b:Bool)(s:Sh)(w:Str)(x0 x1 x2 x4 x5 x8:Ent):bH (eQ [none,none,none,none,some 6,some 7] (cJ (rd 3)) (cC 3 (ax (ao 1) (ax (ao 2) (ax (ao 3) cB)))) (gA (toB (af (rd 2) (af (rd 4) (kI 1) aG) dU)) (zc (toB (rd 3)) (toB (af (rd 5) (kS "lend") dU)))) (rd 1)) [x0,x1,x2,.val (SL ks),x4,x5,.val (dr (.ho b s)),.val (.str w),x8]=some (.au (((j8 ks).filter (PH s w)).map b9)):=by
 have hl:=tM K;refine fF (cT (ps:=(j8 ks).map iQ) rfl (by rw[aC];lia) ?_)
 refine e9 fun t ht=>?_
 have ok:=tL K t ht;have t0:cC 3 (ax (ao 1) (ax (ao 2) (ax (ao 3) cB))) (iQ t) (bj [none,none,none,none,some 6,some 7] [x0,x1,x2,.val (SL ks),x4,x5,.val (dr (.ho b s)),.val (.str w),x8])=some [.un,.val (b9 t),.val (enc t.r.2.2.2),.val (.bl (may t.d)),.val (dr (.ho b s)),.val (.str w)]:=rfl;have g:gA (toB (af (rd 2) (af (rd 4) (kI 1) aG) dU)) (zc (toB (rd 3)) (toB (af (rd 5) (kS "lend") dU))) [.un,.val (b9 t),.val (enc t.r.2.2.2),.val (.bl (may t.d)),.val (dr (.ho b s)),.val (.str w)]=some (PH s w t):=nD (bT (b2 rfl (b2 rfl rfl (TU b s)) (QQ (yc ok.ok ok.row) _))) (oB (bT rfl) (bT (b2 rfl rfl c8)));rw[t0,aV,g,aV];cases PH s w t<;>rfl
theorem HL(K:qB ks)(x0 x1 x3 x4 x5 x6 x7 x8:Ent):bH (eQ [none,none] (cJ (rd 2)) (ao 1) (toB (af (af (af (rd 1) (kI 1) aG) (kI 0) aG) (aZ (aa (kS "lent") (aa (kS "sole") ai))) (pU false))) (rd 1)) [x0,x1,.val (KL ks),x3,x4,x5,x6,x7,x8]=some (.au ((ks.filter fun q=>ie q.2).map bN)):=by
 have hl:=K.few;refine fF (cT (ps:=ks.map bN) rfl (by rw[aC];lia) ?_)
 refine e9 fun q hq=>?_
 have t0:ao 1 (bN q) (bj [none,none] [x0,x1,.val (KL ks),x3,x4,x5,x6,x7,x8])=some [.un,.val (bN q)]:=rfl;have g:toB (af (af (af (rd 1) (kI 1) aG) (kI 0) aG) (aZ (aa (kS "lent") (aa (kS "sole") ai))) (pU false)) [.un,.val (bN q)]=some (ie q.2):=bT (b2 (b2 (b2 rfl rfl rfl) rfl (kQ q.2)) rfl (xQ q.2));rw[t0,aV,g,aV];cases ie q.2<;>rfl
include K in
theorem HM(k:Nat)(a b:Int)(hh:∃q∈ks,ie q.2=true):∃p,run bC (k+1) "_law_lending" [.int a,.int b,KL ks,SL ks]=some (.val p)/\DO ks M p:=by
 rw[xN,aU];refine Rt.run ?_;obtain⟨q0,hq0,hi0⟩:=hh;have h0:0<(ks.filter fun q=>ie q.2).length:=jY (gF.mpr ⟨hq0,hi0⟩)
 obtain⟨q,hq,uf⟩:=dY (ks.filter fun q=>ie q.2) bN a h0
 obtain⟨hqk,hqi⟩:=gF.mp hq;have hz:0<(((ks.filter fun q=>ie q.2).map bN).length:Int):=by rw[aC];lia
 obtain⟨G,hG⟩:∃G,G=(ks.filter fun q=>ie q.2).map bN:=⟨_,rfl⟩
 have sc:=HL K (.val (.int a)) (.val (.int b)) (.val (SL ks)) .un .un .un .un .un;rw[<-hG]at sc uf hz;obtain⟨x,d⟩:=q;cases d with
 | ow s=>cases hqi
 | ho bb s =>
  obtain⟨w,hw,hwb,e1⟩:∃w:Str,(w="lend"\/w="sole")/\(may (.ho bb s) || w==(Str.ofString "lend"))=true/\af (bH (cw (aa (kS "lend") (aa (kS "sole") ai)))) (cg wM (aa (af (af (rd 6) (kI 0) aG) (kS "sole") dU) ai)) aG [.val (.int a),.val (.int b),.val (KL ks),.val (SL ks),.val (.au G),.val (.str x),.val (dr (.ho bb s)),.un,.un]=some (.str w):=by
   cases bb with
   | true=>exact⟨"sole",.inr rfl,by show(!((Str.ofString "sole")==(Str.ofString "lent")) || _)=true;decide +kernel,b2 rfl (bV (cA (b2 (b2 rfl rfl (kQ _)) rfl c8) rfl) rfl) (by kernel_rfl)⟩
   | false=>exact⟨"lend",.inl rfl,by show(!((Str.ofString "lent")==(Str.ofString "lent")) || _)=true;decide +kernel,b2 rfl (bV (cA (b2 (b2 rfl rfl (kQ _)) rfl c8) rfl) rfl) (by kernel_rfl)⟩
  have fc:=L9 K bb s w (.val (.int a)) (.val (.int b)) (.val (KL ks)) (.val (.au G)) (.val (.str x)) .un;obtain⟨T,hT⟩:∃T,T=(j8 ks).filter (PH s w):=⟨_,rfl⟩
  have Yh:0<T.length:=by
   rw[hT];refine jY (gF.mpr ⟨nX hqk,?_⟩);show(eqT (enc s) (enc s)&&(may (.ho bb s) || _))=true;rw[kD,hwb];rfl
  have Jh:∀t∈T,eJ ks t:=by rw[hT];exact Bi (tL K)
  rw[<-hT]at fc;obtain⟨t,ht,Yi⟩:=dY T b9 b Yh;have Up:0<((T.map b9).length:Int):=by rw[aC];lia
  refine xS (aS sc rfl) (xS (aS (b2 (x:=.au G) rfl (b2 rfl (bV (cA rfl rfl) rfl) (dB hz)) uf) rfl) (xS (aS e1 rfl) (xS (aS fc rfl) (xR (tU (cA rfl (cA rfl (cA (b2 (x:=.au (T.map b9)) rfl (b2 rfl (bV (cA rfl rfl) rfl) (dB Up)) Yi) rfl))) (by simp)) ⟨_,L1 K M hw x (Jh t ht)⟩))))
include K in
theorem PJ(k:Nat)(w:Str)(a:Int){o:Op}(ho:mD ks o)(hw:∃q∈ks,ie q.2=false):∃p,run bC (k+1) "_law_small_row" [.str w,.int a,iM o,SL ks]=some (.val p)/\DO ks M p:=by
 rw[sU,aU];refine Rt.run ?_;have hl:=tM K;refine xI (bT (b2 (x:=.str w) rfl rfl c8)) (fun _=>?_) fun _=>?_
 ·have c1:bH (eQ [none,none,none,none] (cJ (rd 3)) (cC 3 (ax (ao 1) (ax (ao 2) (ax (ao 3) cB)))) (j3 (toB (af (rd 1) (kI 1) aG))) (rd 1)) [.val (.str w),.val (.int a),.val (iM o),.val (SL ks),.un,.un]=some (.au (((j8 ks).filter fun t=>!ie t.d).map b9)):=by
   refine fF (cT (ps:=(j8 ks).map iQ) rfl (by rw[aC];lia) ?_)
   refine e9 fun t ht=>?_
   have t0:cC 3 (ax (ao 1) (ax (ao 2) (ax (ao 3) cB))) (iQ t) (bj [none,none,none,none] [.val (.str w),.val (.int a),.val (iM o),.val (SL ks),.un,.un])=some [.un,.val (b9 t),.val (enc t.r.2.2.2),.val (.bl (may t.d))]:=rfl;have g:j3 (toB (af (rd 1) (kI 1) aG)) [.un,.val (b9 t),.val (enc t.r.2.2.2),.val (.bl (may t.d))]=some (!ie t.d):=nB (bT rfl);rw[t0,aV,g,aV];cases(!ie t.d)<;>rfl
  obtain⟨q,hq,hqi⟩:=hw;obtain⟨T,hT⟩:∃T,T=(j8 ks).filter fun t=>!ie t.d:=⟨_,rfl⟩
  have Yh:0<T.length:=by
   rw[hT];exact jY (gF.mpr ⟨nX hq,by show(!ie q.2)=true;rw[hqi];rfl⟩)
  have Jh:∀t∈T,eJ ks t:=by rw[hT];exact Bi (tL K)
  rw[<-hT]at c1;obtain⟨t,ht,Yi⟩:=dY T b9 a Yh;have Up:0<((T.map b9).length:Int):=by rw[aC];lia
  exact xS (aS c1 rfl) (xR (tU (cA rfl (cA (b2 (x:=.au (T.map b9)) rfl (b2 rfl (bV (cA rfl rfl) rfl) (dB Up)) Yi) rfl)) (by simp)) ⟨_,L0 K M (Jh t ht)⟩)
 ·have c1:bH (eQ [none,none,none,none] (cJ (rd 3)) (cC 3 (ax (ao 1) (ax (ao 2) (ax (ao 3) cB)))) (gA (toB (af (af (rd 2) (kI 0) aG) (kS "strip") dU)) (toB (rd 3))) (rd 1)) [.val (.str w),.val (.int a),.val (iM o),.val (SL ks),.un,.un]=some (.au (((j8 ks).filter fun t=>(E4 t.r.2.2.2==(Str.ofString "strip"))&&may t.d).map b9)):=by
   refine fF (cT (ps:=(j8 ks).map iQ) rfl (by rw[aC];lia) ?_)
   refine e9 fun t ht=>?_
   have t0:cC 3 (ax (ao 1) (ax (ao 2) (ax (ao 3) cB))) (iQ t) (bj [none,none,none,none] [.val (.str w),.val (.int a),.val (iM o),.val (SL ks),.un,.un])=some [.un,.val (b9 t),.val (enc t.r.2.2.2),.val (.bl (may t.d))]:=rfl;have g:gA (toB (af (af (rd 2) (kI 0) aG) (kS "strip") dU)) (toB (rd 3)) [.un,.val (b9 t),.val (enc t.r.2.2.2),.val (.bl (may t.d))]=some ((E4 t.r.2.2.2==(Str.ofString "strip"))&&may t.d):=nD (bT (b2 (b2 rfl rfl (AH _)) rfl c8)) (bT rfl);rw[t0,aV,g,aV];cases((E4 t.r.2.2.2==(Str.ofString "strip"))&&may t.d)<;>rfl
  obtain⟨T,hT⟩:∃T,T=(j8 ks).filter fun t=>(E4 t.r.2.2.2==(Str.ofString "strip"))&&may t.d:=⟨_,rfl⟩
  have Jh:∀t∈T,eJ ks t:=by rw[hT];exact Bi (tL K)
  rw[<-hT]at c1;refine xS (aS c1 rfl) (xI (nD (bT (b2 (x:=.str w) rfl rfl c8)) (bT (b2 (x:=.au (T.map b9)) (y:=.au []) rfl rfl (PF Jh)))) (fun hc=>?_) fun _=>?_)
  ·have hTe:T.isEmpty=false:=by
    have:=(By.mp hc).2;cases h:T.isEmpty
    ·rfl
    ·rw[h]at this;cases this
   obtain⟨t,ht,Yi⟩:=dY T b9 a (yn hTe);have Up:0<((T.map b9).length:Int):=by have:=yn hTe;rw[aC];lia
   exact xR (tU (cA rfl (cA (b2 (x:=.au (T.map b9)) rfl (b2 rfl (bV (cA rfl rfl) rfl) (dB Up)) Yi) (cA rfl rfl))) (by simp)) ⟨_,Fv K M (Jh t ht) ho (.inr rfl)⟩
  ·exact xR (tU (cA rfl (cA rfl rfl)) (by simp)) ⟨_,Fw K M ho⟩
abbrev dt(r:Rk):PV:=.str r.1
abbrev gz(r:Option Rk):PV:=.str (AU r)
structure Uq (ks:List Rk) (LK OT OW:List Rk) (BK:List (Option Rk)):Prop where
 lk:(∀r∈LK,r∈ks)/\0<LK.length
 ot:(∀r∈OT,r∈ks)/\0<OT.length
 ow:(∀r∈OW,r∈ks)/\0<OW.length
 bk:(∀o∈BK,∀r,o=some r->r∈ks)/\0<BK.length
include K in
theorem CI(k:Nat)(a b:Int)(f0 f1 f2:PV){LK OT OW:List Rk}{BK:List (Option Rk)}(C:Uq ks LK OT OW BK)(pl:Int)(hp:0<=pl/\pl<6):∃p,run bC (k+1) "_law_call" [.int a,.int b,.aB [.au [f0,f1,f2],.au (LK.map dt),.au (OT.map dt),.au (OW.map dt),.au (BK.map gz),.int pl]]=some (.val p)/\DO ks M p:=by
 rw[Hj,aU];refine Rt.run ?_;obtain⟨l1,hl1,al1⟩:=dY LK dt b C.lk.2;obtain⟨o1,ho1,ao1⟩:=dY OW dt (b/8) C.ow.2;obtain⟨t1,ht1,at1⟩:=dY OT dt (b/8) C.ot.2;obtain⟨o2,ho2,ao2⟩:=dY OW dt (b/64) C.ow.2;obtain⟨l2,Ng,al2⟩:=dY LK dt (a/4) C.lk.2;obtain⟨k1,hk1,ak1⟩:=dY BK gz (a/4) C.bk.2;have zl:0<((LK.map dt).length:Int):=by have:=C.lk.2;rw[aC];lia
 have zo:0<((OW.map dt).length:Int):=by have:=C.ow.2;rw[aC];lia
 have zt:0<((OT.map dt).length:Int):=by have:=C.ot.2;rw[aC];lia
 have zk:0<((BK.map gz).length:Int):=by have:=C.bk.2;rw[aC];lia
 have hL:∀r∈LK,r∈ks:=C.lk.1
 have hO:∀r∈OW,r∈ks:=C.ow.1
 have hT:∀r∈OT,r∈ks:=C.ot.1
 have hB:∀o∈BK,∀r,o=some r->r∈ks:=C.bk.1
 obtain⟨L,eL⟩:∃L,L=LK.map dt:=⟨_,rfl⟩
 obtain⟨O,eO⟩:∃O,O=OW.map dt:=⟨_,rfl⟩
 obtain⟨T,eT⟩:∃T,T=OT.map dt:=⟨_,rfl⟩
 obtain⟨B,eB⟩:∃B,B=BK.map gz:=⟨_,rfl⟩
 rw[<-eL]at al1 al2 zl;rw[<-eO]at ao1 ao2 zo;rw[<-eT]at at1 zt;rw[<-eB]at ak1 zk;rw[<-eL,<-eO,<-eT,<-eB];obtain⟨CA,Yj⟩:∃CA,CA=PV.aB [.au [f0,f1,f2],.au L,.au T,.au O,.au B,.int pl]:=⟨_,rfl⟩
 have e1:bg (rd 2) (cC 6 (ax (ao 3) (ax (ao 4) (ax (ao 5) (ax (ao 6) (ax (ao 7) (ax (ao 8) cB))))))) [.val (.int a),.val (.int b),.val CA,.un,.un,.un,.un,.un,.un,.un]=some (.nx [.val (.int a),.val (.int b),.val CA,.val (.au [f0,f1,f2]),.val (.au L),.val (.au T),.val (.au O),.val (.au B),.val (.int pl),.un]):=by rw[Yj];exact aS rfl rfl
 rw[<-Yj];have d4:∀(v:Int) (X:Ent),toB (af (af (rd 0) (kI 4) b8) (cK (.int v)) dU) (eR none [.val (.int a),.val (.int b),.val CA,.val (.au [f0,f1,f2]),.val (.au L),.val (.au T),.val (.au O),.val (.au B),.val (.int pl),X])=some (decide (a%4=v)):=fun v X=>bT (b2 (b2 (x:=.int a) rfl rfl (dB (by decide))) rfl hV)
 refine xS e1 (xI (d4 0 .un) (fun _=>?_) fun _=>?_)
 ·exact xR (tU (cA rfl (cA rfl (cA (b2 (x:=.au [f0,f1,f2]) rfl rfl rfl) (cA rfl rfl)))) (by simp)) ⟨_,tJ K M f0 (ar:=[]) (fun _ h=>nomatch h) (by simp) (tk:=none) (fun _ h=>nomatch h)⟩
 refine xS (sO (ps:=[dt l1,dt o1]) (lS (cA (b2 (x:=.au L) rfl (b2 (x:=.int b) rfl (show gP (cg cX (aa _ ai)) _=some (.int (L.length:Int))from rfl) (dB zl)) al1) (cA (b2 (x:=.au O) rfl (b2 (b2 (x:=.int b) rfl rfl (ya (by decide))) (show gP (cg cX (aa _ ai)) _=some (.int (O.length:Int))from rfl) (dB zo)) ao1) rfl)) (by simp)) (by simp)) ?_
 refine xI (d4 1 (.own [dt l1,dt o1])) (fun _=>?_) fun _=>?_
 ·have d2:iC (toB (af (af (rd 8) (kI 2) b8) (kI 1) dU)) [.val (.int a),.val (.int b),.val CA,.val (.au [f0,f1,f2]),.val (.au L),.val (.au T),.val (.au O),.val (.au B),.val (.int pl),.own [dt l1,dt o1]]=some (decide (pl%2=1)):=bT (b2 (b2 (x:=.int pl) rfl rfl (dB (by decide))) rfl hV)
  have fin:∀(r1 r2:Rk),r1∈ks->r2∈ks->Rt (DO ks M) (lA [9] (bz (aZ (aa (kS "call") (aa (af (rd 7) (af (af (rd 0) (kI 4) de) (gP (cg cX (aa (rd 7) ai))) b8) aG) (aa (af (rd 3) (kI 1) aG) (aa (cg lD (aa (rd 9) ai)) ai)))))) [.val (.int a),.val (.int b),.val CA,.val (.au [f0,f1,f2]),.val (.au L),.val (.au T),.val (.au O),.val (.au B),.val (.int pl),.own [dt r1,dt r2]]):=by
   intro r1 r2 h1 h2;show Rt _ (bz _ (eR (some [9]) [.val (.int a),.val (.int b),.val CA,.val (.au [f0,f1,f2]),.val (.au L),.val (.au T),.val (.au O),.val (.au B),.val (.int pl),.own [dt r1,dt r2]]));refine xR (tU (ps:=[.str "call",gz k1,f1,.aB ([r1,r2].map dt)]) (cA rfl (cA (b2 (x:=.au B) rfl (b2 (b2 (x:=.int a) rfl rfl (ya (by decide))) (show gP (cg cX (aa _ ai)) _=some (.int (B.length:Int))from rfl) (dB zk)) ak1) (cA (b2 (x:=.au [f0,f1,f2]) rfl rfl rfl) (cA (bV (as:=[.au ([r1,r2].map dt)]) (cA rfl rfl) rfl) rfl)))) (by simp)) ⟨_,tJ K M f1 (ar:=[r1,r2]) (fun r hr=>?_) (by simp) (tk:=k1) (fun r hr=>hB k1 hk1 r hr)⟩
   simp only[bc,eF,eH]at hr;rcases hr with rfl | rfl
   ·exact h1
   ·exact h2
  by_cases hb:pl%2=1
  ·rw[fQ hb]at d2;exact xS (iT d2 (z:=some (.nx [.val (.int a),.val (.int b),.val CA,.val (.au [f0,f1,f2]),.val (.au L),.val (.au T),.val (.au O),.val (.au B),.val (.int pl),.own [dt o1,dt l1]])) rfl) (fin o1 l1 (hO _ ho1) (hL _ hl1))
  ·rw[eG hb]at d2;exact xS (iF d2 rfl) (fin l1 o1 (hL _ hl1) (hO _ ho1))
 ·refine xS (fj:=[.val (.int a),.val (.int b),.val CA,.val (.au [f0,f1,f2]),.val (.au L),.val (.au T),.val (.au O),.val (.au B),.val (.int pl),.own [dt l1,dt t1]]) (sO (ps:=[dt l1,dt t1]) (lS (cA (b2 (x:=.au L) rfl (b2 (x:=.int b) rfl (show gP (cg cX (aa _ ai)) _=some (.int (L.length:Int))from rfl) (dB zl)) al1) (cA (b2 (x:=.au T) rfl (b2 (b2 (x:=.int b) rfl rfl (ya (by decide))) (show gP (cg cX (aa _ ai)) _=some (.int (T.length:Int))from rfl) (dB zt)) at1) rfl)) (by simp)) (by simp)) ?_
  obtain⟨j,hj,hj2⟩:∃j:Nat,pl/2=(j:Int)/\j<=2:=⟨(pl/2).toNat,by lia,by lia⟩
  have acQ:gp 9 (aa (af (rd 8) (kI 2) de) (aa (af (rd 6) (af (af (rd 1) (kI 64) de) (gP (cg cX (aa (rd 6) ai))) b8) aG) ai)) wX [.val (.int a),.val (.int b),.val CA,.val (.au [f0,f1,f2]),.val (.au L),.val (.au T),.val (.au O),.val (.au B),.val (.int pl),.own [dt l1,dt t1]]=some (.nx [.val (.int a),.val (.int b),.val CA,.val (.au [f0,f1,f2]),.val (.au L),.val (.au T),.val (.au O),.val (.au B),.val (.int pl),.own (([l1,t1].take j++o2::[l1,t1].drop j).map dt)]):=by
   have ar:(aa (af (rd 8) (kI 2) de) (aa (af (rd 6) (af (af (rd 1) (kI 64) de) (gP (cg cX (aa (rd 6) ai))) b8) aG) ai)) [.val (.int a),.val (.int b),.val CA,.val (.au [f0,f1,f2]),.val (.au L),.val (.au T),.val (.au O),.val (.au B),.val (.int pl),.own [dt l1,dt t1]]=some [.int (j:Int),dt o2]:=by
    rw[<-hj];exact cA (b2 (x:=.int pl) rfl rfl (ya (by decide))) (cA (b2 (x:=.au O) rfl (b2 (b2 (x:=.int b) rfl rfl (ya (by decide))) (show gP (cg cX (aa _ ai)) _=some (.int (O.length:Int))from rfl) (dB zo)) ao2) rfl)
   rw[qw];show OM 9 _ wX _ (some (.own [dt l1,dt t1]))=_;rw[nM,ar,aV];have:j=0\/j=1\/j=2:=by lia
   rcases this with rfl | rfl | rfl<;>rfl
  refine xS acQ ?_;obtain⟨ar,har⟩:∃ar,ar=[l1,t1].take j++o2::[l1,t1].drop j:=⟨_,rfl⟩
  rw[<-har];have ham:(∀r∈ar,r∈ks)/\ar.length<=4:=by
   have:j=0\/j=1\/j=2:=by lia
   rcases this with rfl | rfl | rfl
   all_goals
    rw[har];refine⟨fun r hr=>?_,by simp⟩
    simp at hr;rcases hr with rfl | rfl | rfl
    all_goals first | exact hL _ hl1 | exact hT _ ht1 | exact hO _ ho2
  show Rt _ (bz _ (eR (some [9]) [.val (.int a),.val (.int b),.val CA,.val (.au [f0,f1,f2]),.val (.au L),.val (.au T),.val (.au O),.val (.au B),.val (.int pl),.own (ar.map dt)]));exact xR (tU (ps:=[.str "call",dt l2,f2,.aB (ar.map dt)]) (cA rfl (cA (b2 (x:=.au L) rfl (b2 (b2 (x:=.int a) rfl rfl (ya (by decide))) (show gP (cg cX (aa _ ai)) _=some (.int (L.length:Int))from rfl) (dB zl)) al2) (cA (b2 (x:=.au [f0,f1,f2]) rfl rfl rfl) (cA (bV (as:=[.au (ar.map dt)]) (cA rfl rfl) rfl) rfl)))) (by simp)) ⟨_,tJ K M f2 (ar:=ar) ham.1 ham.2 (tk:=some l2) (fun r hr=>by cases hr;exact hL _ Ng)⟩
end
theorem PK(m:Int):∃y:Str,aG (.str "+-*") (.int (m%3))=some (.str y):=by
 have:m%3=0\/m%3=1\/m%3=2:=by lia
 rcases this with h | h | h<;>rw[h]
 ·exact⟨"+",by kernel_rfl⟩
 ·exact⟨"-",by kernel_rfl⟩
 ·exact⟨"*",by kernel_rfl⟩
theorem Ma{N:List Sp}(hl:N.length<=1000)(x0 x1 x2 x3 x4 x5:Ent)(r:aF):bH (eQ [none,none,none] (cJ (rd 6)) (cC 2 (ax (ao 1) (ax (ao 2) cB))) (toB (rd 2)) (rd 1)) (x0::x1::x2::x3::x4::x5::.val (.au (N.map fI))::r)=some (.au ((N.filter fun t=>may t.d).map b9)):=by
 refine fF (cT (ps:=N.map fI) rfl (by rw[aC];lia) ?_)
 refine e9 fun s hs=>?_
 have t:cC 2 (ax (ao 1) (ax (ao 2) cB)) (fI s) (bj [none,none,none] (x0::x1::x2::x3::x4::x5::.val (.au (N.map fI))::r))=some [.un,.val (b9 s),.val (.bl (may s.d))]:=rfl;have g:toB (rd 2) [.un,.val (b9 s),.val (.bl (may s.d))]=some (may s.d):=bT rfl;rw[t,aV,g,aV];cases may s.d<;>rfl
abbrev Z4(W:List Str)(ks:List Rk)(x:Str)(dg:Int)(CA jZ:PV):PV:=.aB [.au (W.map .str),KL ks,SL ks,.au ((yr ks x dg).map fI),CA,jZ]
abbrev Z5(f0 f1 f2:PV)(LK OT OW:List Rk)(BK:List (Option Rk))(pl:Int):PV:=.aB [.au [f0,f1,f2],.au (LK.map dt),.au (OT.map dt),.au (OW.map dt),.au (BK.map gz),.int pl]
theorem Yk(k:Nat)(hk:3<=k){ks:List Rk}(K:qB ks){M:Nat}(hM:0<M){W:List Str}(hW:0<W.length){x:Str}(hx:(x,Kd.ow .num)∈ks)(hh:∃q∈ks,ie q.2=true)(dg:Int)(f0 f1 f2:PV){LK OT OW:List Rk}{BK:List (Option Rk)}(Q:Uq ks LK OT OW BK){pl:Int}(hp:0<=pl/\pl<6){jZ:PV}(Mp:DO ks M jZ)(C:Int) :
  ∃p,run bC (k+3) "_law_row" [.int C,.int (M:Int),Z4 W ks x dg (Z5 f0 f1 f2 LK OT OW BK pl) jZ]=some (.val p)/\DO ks M p:=by
 obtain⟨n1,n2,n3⟩:=Uo K hx dg;obtain⟨tm,htm,hmy⟩:=n3;obtain⟨N,hN⟩:∃N,N=yr ks x dg:=⟨_,rfl⟩
 rw[<-hN]at n1 n2 htm;have hN0:=jY htm;have h0:0<(j8 ks).length:=jY (nX hx);have hz:0<((W.map PV.str).length:Int):=by rw[aC];lia
 obtain⟨w,_,hwa⟩:=dY W PV.str (Hz C 0) hW;obtain⟨a,ha⟩:∃a,a=Hz C 1:=⟨_,rfl⟩
 obtain⟨b,hb⟩:∃b,b=Hz C 2:=⟨_,rfl⟩
 have ma:=nW (k+1) C (i:=1) (by decide)
 have mb:=nW (k+1) C (i:=2) (by decide)
 have m0:=nW (k+1) C (i:=0) (by decide)
 rw[<-ha]at ma;rw[<-hb]at mb;obtain⟨one,e1,o1⟩:=vG (ks:=ks) (k+1) n1 hN0 C b;obtain⟨two,e2,o2⟩:=vG (ks:=ks) (k+1) n1 hN0 (C/7) a;obtain⟨pc,c1,c2⟩:=HK K M k hk w a b h0;obtain⟨pl',l1,l2⟩:=HM K M (k+1) a b hh;obtain⟨pq,q1,q2⟩:=CI K M (k+1) a b f0 f1 f2 Q pl hp;obtain⟨ps,s1,s2⟩:=PJ K M (k+1) w a o1 ⟨_,hx,rfl⟩;obtain⟨T,hT⟩:∃T,T=N.filter fun t=>may t.d:=⟨_,rfl⟩
 have Yh:0<T.length:=by rw[hT];exact jY (gF.mpr ⟨htm,hmy⟩)
 have Jh:∀t∈T,eJ ks t:=by rw[hT];exact Bi n1
 obtain⟨t,ht,hta⟩:=dY T b9 a Yh;have hTz:0<((T.map b9).length:Int):=by rw[aC];lia
 obtain⟨pm,hpm⟩:=PK b;obtain⟨j,hj,hjM⟩:∃j:Nat,a%(M:Int)=(j:Int)/\j<M:=⟨(a%(M:Int)).toNat,by
  have:=ki a (show(M:Int)≠0 by lia)
  lia,by
  have:=qJ a (show(0:Int)<(M:Int) by lia)
  have:=ki a (show(M:Int)≠0 by lia)
  lia⟩
 have gm:b8 (.int a) (.int (M:Int))=some (iN j):=by
  unfold iN;rw[<-hj];exact dB (by lia)
 unfold Z4;rw[<-hN];obtain⟨CA,Yj⟩:∃CA,CA=Z5 f0 f1 f2 LK OT OW BK pl:=⟨_,rfl⟩
 rw[<-Yj];have q1:run bC (k+2) "_law_call" [.int a,.int b,CA]=some (.val pq):=by rw[Yj];exact q1
 obtain⟨md,Yl⟩:∃md,md=PV.aB [.au (W.map .str),KL ks,SL ks,.au (N.map fI),CA,jZ]:=⟨_,rfl⟩
 rw[Ll,aU];refine Rt.run ?_;have a0:bg (rd 2) (cC 6 (ax (ao 3) (ax (ao 4) (ax (ao 5) (ax (ao 6) (ax (ao 7) (ax (ao 8) cB))))))) [.val (.int C),.val (.int (M:Int)),.val md,.un,.un,.un,.un,.un,.un,.un,.un,.un,.un,.un]=some (.nx [.val (.int C),.val (.int (M:Int)),.val md,.val (.au (W.map .str)),.val (KL ks),.val (SL ks),.val (.au (N.map fI)),.val CA,.val jZ,.un,.un,.un,.un,.un]):=by rw[Yl];exact aS rfl rfl
 rw[<-Yl];have oc:=Ma n2 (.val (.int C)) (.val (.int (M:Int))) (.val md) (.val (.au (W.map .str))) (.val (KL ks)) (.val (SL ks)) [.val CA,.val jZ,.val (.int a),.val (.int b),.val (.str w),.un,.un];rw[<-hT]at oc;refine xS a0 (xS (aS (dO (cA rfl (cA rfl rfl)) rfl ma rfl) rfl) (xS (aS (dO (cA rfl (cA rfl rfl)) rfl mb rfl) rfl) (xS (aS (b2 (x:=.au (W.map .str)) rfl (b2 (dO (cA rfl (cA rfl rfl)) rfl m0 rfl) (bV (as:=[.au (W.map .str)]) (cA rfl rfl) rfl) (dB hz)) hwa) rfl) (xS (aS oc rfl) (xS (aS (dO (cA rfl (cA rfl (cA rfl rfl))) rfl e1 rfl) rfl) ?_)))));have wd:∀v:Str,toB (af (rd 11) (kS v) dU) [Ent.val (.int C),.val (.int (M:Int)),.val md,.val (.au (W.map .str)),.val (KL ks),.val (SL ks),.val (.au (N.map fI)),.val CA,.val jZ,.val (.int a),.val (.int b),.val (.str w),.val (.au (T.map b9)),.val (iM one)]=some (w==v):=fun v=>bT (b2 rfl rfl c8)
 have ot:af (rd 12) (af (rd 9) (cg cX (aa (rd 12) ai)) b8) aG [Ent.val (.int C),.val (.int (M:Int)),.val md,.val (.au (W.map .str)),.val (KL ks),.val (SL ks),.val (.au (N.map fI)),.val CA,.val jZ,.val (.int a),.val (.int b),.val (.str w),.val (.au (T.map b9)),.val (iM one)]=some (b9 t):=b2 (x:=.au (T.map b9)) rfl (b2 rfl (bV (as:=[.au (T.map b9)]) (cA rfl rfl) rfl) (dB hTz)) hta;refine xI (wd "put") (fun _=>?_) fun _=>?_
 ·exact xR (tU (cA rfl (cA ot (cA rfl rfl))) (by simp)) ⟨_,Fv K M (Jh t ht) o1 (.inl rfl)⟩
 refine xI (wd "set") (fun _=>?_) fun _=>?_
 ·exact xR (tU (ps:=[.str "set",b9 t,.str pm,iM one,iM two]) (cA rfl (cA ot (cA (b2 rfl (b2 rfl rfl (dB (by decide))) hpm) (cA rfl (cA (dO (cA (b2 rfl rfl (ya (by decide))) (cA rfl (cA rfl rfl))) rfl e2 rfl) rfl))))) (by simp)) ⟨_,Pq K M (Jh t ht) (.str pm) o1 o2⟩
 refine xI (bT (b2 (x:=.str w) (y:=.aB [.str "copy",.str "move"]) rfl rfl (XY _ _ _))) (fun _=>?_) fun _=>?_
 ·exact xR (dO (cA rfl (cA rfl (cA rfl (cA rfl rfl)))) rfl c1 rfl) c2
 refine xI (wd "lend") (fun _=>?_) fun _=>?_
 ·exact xR (dO (cA rfl (cA rfl (cA rfl (cA rfl rfl)))) rfl l1 rfl) l2
 refine xI (wd "call") (fun _=>?_) fun _=>?_
 ·exact xR (dO (cA rfl (cA rfl (cA rfl rfl))) rfl q1 rfl) q2
 refine xI (wd "give") (fun _=>?_) fun _=>?_
 ·exact xR rfl Mp
 refine xI (wd "go") (fun _=>?_) fun _=>?_
 ·exact xR (tU (cA rfl (cA (b2 rfl rfl gm) rfl)) (by simp)) ⟨_,Ug K M hjM⟩
 refine xI (wd "if") (fun _=>?_) fun _=>?_
 ·exact xR (tU (cA rfl (cA rfl (cA (b2 rfl rfl (dB (by decide))) (cA (b2 rfl rfl gm) rfl)))) (by simp)) ⟨_,Ue K M o1 (b%97) hjM⟩
 ·exact xR (dO (cA rfl (cA rfl (cA rfl (cA rfl rfl)))) rfl s1 rfl) s2
def mC(ns:List Int)(i:Nat):Int:=Hz (cell ns (1+i)) (i%4)
abbrev NM(C:Int):PV:=.au ((List.range 13).map fun q=>.str (cm C q))
abbrev CE(ns:List Int):PV:=.au ((List.range 7).map fun i=>.int (mC ns i))
def HV(ns:List Int):List Sh:=[.num,ig (mC ns 0),ig (mC ns 1),ig (mC ns 2)]
abbrev OE(ns:List Int):PV:=.au ((HV ns).map enc)
theorem kY(C:Int){q:Nat}(h:q<13):aG (NM C) (.int (q:Int))=some (.str (cm C q)):=dk (by rw[cu,qI h];rfl)
theorem QW(ns:List Int){q:Nat}(h:q<7):aG (CE ns) (.int (q:Int))=some (.int (mC ns q)):=dk (by rw[cu,qI h];rfl)
theorem Ur(ns:List Int):∀s∈HV ns,gy s:=fun s hs=>by
 simp only[HV,bc,eF,eH]at hs;rcases hs with rfl | rfl | rfl | rfl
 ·exact L4
 ·exact lr _
 ·exact lr _
 ·exact lr _
theorem nY(k:Nat)(hk:3<=k)(C:Int)(ns:List Int)(S:Ent){i:Nat}(hi:i<4)(acc:az)(ha:acc.length<=100)(o6 o7:Ent):∃(d:Kd) (HG Px:Ent),o9 (run bC (k+1)) [S,.val (NM C),.val (.int (i:Int)),.val (CE ns),.val (OE ns),.own acc,o6,o7]=some (.nx [S,.val (NM C),.val (.int (i:Int)),.val (CE ns),.val (OE ns),.own (acc++[bN (cm C (4+i),d)]),HG,Px])/\ie d=true/\gy (c6 d):=by
 obtain⟨m,hm⟩:∃m,m=mC ns (3+i):=⟨_,rfl⟩
 have hc:=QW ns (q:=3+i) (by lia)
 rw[<-hm]at hc;obtain⟨CC,Ym⟩:∃CC,CC=CE ns:=⟨_,rfl⟩
 rw[<-Ym]at hc;rw[<-Ym];have hn:=kY C (q:=4+i) (by lia)
 obtain⟨NN,yt⟩:∃NN,NN=NM C:=⟨_,rfl⟩
 rw[<-yt]at hn;rw[<-yt];have h3:bW (.int 3) (.int (i:Int))=some (.int ((3+i:Nat):Int)):=by
  rw[iG];exact dy (fun z=>some (PV.int z)) (by lia)
 have h4:bW (.int 4) (.int (i:Int))=some (.int ((4+i:Nat):Int)):=by
  rw[iG];exact dy (fun z=>some (PV.int z)) (by lia)
 obtain⟨s,hs,uf⟩:∃s∈HV ns,aG (OE ns) (.int (1+m%3))=some (enc s):=by
  have:m%3=0\/m%3=1\/m%3=2:=by lia
  rcases this with h | h | h
  ·rw[h];exact⟨ig (mC ns 0),by simp[HV],(dk (j:=1) rfl:atI ((HV ns).map enc) ((1:Nat):Int)=_)⟩
  ·rw[h];exact⟨ig (mC ns 1),by simp[HV],(dk (j:=2) rfl:atI ((HV ns).map enc) ((2:Nat):Int)=_)⟩
  ·rw[h];exact⟨ig (mC ns 2),by simp[HV],(dk (j:=3) rfl:atI ((HV ns).map enc) ((3:Nat):Int)=_)⟩
 have fs:=Ur ns s hs;obtain⟨OO,Yn⟩:∃OO,OO=OE ns:=⟨_,rfl⟩
 rw[<-Yn]at uf;rw[<-Yn];have hp:=yk s k (by have:=fs.1.1.2;lia) (by have:=fs.1.1.1;lia)
 obtain⟨r,hr,hra⟩:=dY (tab s) jx (m/9) (xx s);have hz:0<(((tab s).map jx).length:Int):=by have:=xx s;rw[aC];lia
 obtain⟨T,hT⟩:∃T,T=(tab s).map jx:=⟨_,rfl⟩
 rw[<-hT]at hp hra hz;obtain⟨b,hb⟩:∃b:Bool,aG (.au [.str "lent",.str "sole",.str "sole"]) (.int (m/3%3))=some (.str (hw b)):=by
  have:m/3%3=0\/m/3%3=1\/m/3%3=2:=by lia
  rcases this with h | h | h
  ·rw[h];exact⟨false,rfl⟩
  ·rw[h];exact⟨true,rfl⟩
  ·rw[h];exact⟨true,rfl⟩
 refine⟨.ho b r.2.2.2,.val (.au T),.val (.str (hw b)),?_,rfl,L5 fs hr⟩;unfold o9;have c0:∀(x6 x7:Ent),af (rd 3) (af (kI 3) (rd 2) bW) aG [S,.val NN,.val (.int (i:Int)),.val CC,.val OO,.own acc,x6,x7]=some (.int m):=fun x6 x7=>b2 (x:=CC) rfl (b2 (x:=.int 3) (y:=.int (i:Int)) rfl rfl h3) hc
 refine sq (aS (dO (as:=[enc s]) (cA (b2 (x:=OO) rfl (b2 (x:=.int 1) rfl (b2 (c0 _ _) rfl (dB (by decide))) iG) uf) rfl) rfl hp rfl) rfl) (sq (aS (b2 (x:=.au [.str "lent",.str "sole",.str "sole"]) rfl (b2 (b2 (c0 _ _) rfl (ya (by decide))) rfl (dB (by decide))) hb) rfl) ?_)
 exact mA rfl (tU (cA (b2 (x:=NN) rfl (b2 (x:=.int 4) (y:=.int (i:Int)) rfl rfl h4) hn) (cA (tU (cA rfl (cA (b2 (b2 (x:=.au T) rfl (b2 (b2 (c0 _ _) rfl (ya (by decide))) (show gP (cg cX (aa (rd 6) ai)) _=some (.int (T.length:Int))from rfl) (dB hz)) hra) rfl rfl) rfl)) (by simp)) rfl)) (by simp)) (by lia)
theorem Us(k:Nat)(hk:3<=k)(C:Int)(ns:List Int):∃d4 d5 d6 d7:Kd,run bC (k+2) "_law_lets" [zW ns,NM C]=some (.own (([(cm C 0,.ow .num),(cm C 1,.ow (ig (mC ns 0))),(cm C 2,.ow (ig (mC ns 1))),(cm C 3,.ow (ig (mC ns 2))),(cm C 4,d4),(cm C 5,d5),(cm C 6,d6),(cm C 7,d7)]:List Rk).map bN))/\(ie d4=true/\gy (c6 d4))/\(ie d5=true/\gy (c6 d5))/\(ie d6=true/\gy (c6 d6))/\(ie d7=true/\gy (c6 d7)):=by
 obtain⟨S,hS⟩:∃S,S=zW ns:=⟨_,rfl⟩
 have ku:∀i:Nat,run bC (k+1) "_law_cell_at" [S,.int (i:Int)]=some (.val (.int (cell ns i))):=fun i=>by rw[hS];exact Ls k ns i
 obtain⟨acc,ue⟩:∃acc,acc=(([(cm C 0,.ow .num),(cm C 1,.ow (ig (mC ns 0))),(cm C 2,.ow (ig (mC ns 1))),(cm C 3,.ow (ig (mC ns 2)))]:List Rk).map bN):=⟨_,rfl⟩
 have Mh:acc.length=4:=by rw[ue];rfl
 obtain⟨d4,x6,x7,h4,i4⟩:=nY k hk C ns (.val S) (i:=0) (by decide) acc (by lia) .un .un
 obtain⟨d5,y6,y7,h5,i5⟩:=nY k hk C ns (.val S) (i:=1) (by decide) (acc++[bN (cm C 4,d4)]) (by simp;lia) x6 x7
 obtain⟨d6,z6,z7,h6,i6⟩:=nY k hk C ns (.val S) (i:=2) (by decide) (acc++[bN (cm C 4,d4)]++[bN (cm C 5,d5)]) (by simp;lia) y6 y7
 obtain⟨d7,v6,v7,h7,i7⟩:=nY k hk C ns (.val S) (i:=3) (by decide) (acc++[bN (cm C 4,d4)]++[bN (cm C 5,d5)]++[bN (cm C 6,d6)]) (by simp;lia) z6 z7
 refine⟨d4,d5,d6,d7,?_,i4,i5,i6,i7⟩;rw[Hi,aU,<-hS];have c1:bH (dD [none,none,some 0] (gG (aa (kI 7) ai)) (ao 1) (aD (aP 2 (run bC (k+1) "_law_mixed")) (aa (aD (aP 2 (run bC (k+1) "_law_cell_at")) (aa (rd 2) (aa (af (kI 1) (rd 1) bW) ai))) (aa (af (rd 1) (kI 4) b8) ai)))) [.val S,.val (NM C),.un,.un,.un,.un,.un,.un]=some (CE ns):=by
  have hr:gG (aa (kI 7) ai) [.val S,.val (NM C),.un,.un,.un,.un,.un,.un]=some ((List.range 7).map fun(i:Nat)=>PV.int (0+(i:Int))):=hZ (j:=7) rfl (by decide)
  refine fF (cV hr (by simp) (eE fun i hi=>?_))
  rw[km];have t:ao 1 (.int (i:Int)) (bj [none,none,some 0] [.val S,.val (NM C),.un,.un,.un,.un,.un,.un])=some [.un,.val (.int (i:Int)),.val S]:=rfl;rw[t,aV];have h1:bW (.int 1) (.int (i:Int))=some (.int ((1+i:Nat):Int)):=by
   rw[iG];exact dy (fun z=>some (PV.int z)) (by lia)
  have h2:b8 (.int (i:Int)) (.int 4)=some (.int ((i%4:Nat):Int)):=by
   rw[dB (by decide)]
   exact dy (fun z=>some (PV.int z)) (by lia)
  exact dO (cA (dO (cA rfl (cA (b2 rfl rfl h1) rfl)) rfl (ku (1+i)) rfl) (cA (b2 rfl rfl h2) rfl)) rfl (nW k (cell ns (1+i)) (i:=i%4) (by lia)) rfl
 have c2:af (bH (cw (aa (aZ (aa (kS "num") ai)) ai))) (bH (dD [none,none,some 3] (gG (aa (kI 3) ai)) (ao 1) (aD (aP 1 (run bC (k+1) "_law_shape")) (aa (af (rd 2) (rd 1) aG) ai)))) bW [.val S,.val (NM C),.un,.val (CE ns),.un,.un,.un,.un]=some (OE ns):=by
  have hr:gG (aa (kI 3) ai) [.val S,.val (NM C),.un,.val (CE ns),.un,.un,.un,.un]=some ((List.range 3).map fun(i:Nat)=>PV.int (0+(i:Int))):=hZ (j:=3) rfl (by decide)
  have hm:bH (dD [none,none,some 3] (gG (aa (kI 3) ai)) (ao 1) (aD (aP 1 (run bC (k+1) "_law_shape")) (aa (af (rd 2) (rd 1) aG) ai))) [.val S,.val (NM C),.un,.val (CE ns),.un,.un,.un,.un]=some (.au ((List.range 3).map fun i=>enc (ig (mC ns i)))):=by
   refine fF (cV hr (by simp) (eE fun i hi=>?_))
   have hi:=fU.mp hi;rw[km];have hc:=QW ns (q:=i) (by lia)
   obtain⟨CC,Ym⟩:∃CC,CC=CE ns:=⟨_,rfl⟩
   rw[<-Ym]at hc;rw[<-Ym];have t:ao 1 (.int (i:Int)) (bj [none,none,some 3] [.val S,.val (NM C),.un,.val CC,.un,.un,.un,.un])=some [.un,.val (.int (i:Int)),.val CC]:=rfl;rw[t,aV];exact dO (cA (b2 (x:=CC) rfl rfl hc) rfl) rfl (Pw k (mC ns i)) rfl
  exact b2 (x:=.au [nP]) rfl hm (aL (by simp))
 have c3:iP 5 (dD [none,none,some 1,some 4] (gG (aa (kI 4) ai)) (ao 1) (aZ (aa (af (rd 2) (rd 1) aG) (aa (af (rd 3) (rd 1) aG) ai)))) [.val S,.val (NM C),.un,.val (CE ns),.val (OE ns),.un,.un,.un]=some (.nx [.val S,.val (NM C),.un,.val (CE ns),.val (OE ns),.own acc,.un,.un]):=by
  have hr:gG (aa (kI 4) ai) [.val S,.val (NM C),.un,.val (CE ns),.val (OE ns),.un,.un,.un]=some ((List.range 4).map fun(i:Nat)=>PV.int (0+(i:Int))):=hZ (j:=4) rfl (by decide)
  refine sO (cV hr (by simp) ?_) (by simp)
  have:acc=(List.range 4).map fun i=>PV.aB [.str (cm C i),enc ((HV ns).getD i .num)]:=by rw[ue];rfl
  rw[this];refine eE fun i hi=>?_
  have hi:=fU.mp hi;rw[km];have hn:=kY C (q:=i) (by lia)
  have ho:aG (OE ns) (.int (i:Int))=some (enc ((HV ns).getD i .num)):=dk (by
   have:i=0\/i=1\/i=2\/i=3:=by lia
   rcases this with rfl | rfl | rfl | rfl<;>rfl)
  obtain⟨NN,yt⟩:∃NN,NN=NM C:=⟨_,rfl⟩
  rw[<-yt]at hn;rw[<-yt];obtain⟨OO,Yn⟩:∃OO,OO=OE ns:=⟨_,rfl⟩
  rw[<-Yn]at ho;rw[<-Yn];have t:ao 1 (.int (i:Int)) (bj [none,none,some 1,some 4] [.val S,.val NN,.un,.val (CE ns),.val OO,.un,.un,.un])=some [.un,.val (.int (i:Int)),.val NN,.val OO]:=rfl;rw[t,aV];exact tU (cA (b2 (x:=NN) rfl rfl hn) (cA (b2 (x:=OO) rfl rfl ho) rfl)) (by simp)
 have hr:gG (aa (kI 4) ai) [.val S,.val (NM C),.un,.val (CE ns),.val (OE ns),.own acc,.un,.un]=some [.int ((0:Nat):Int),.int ((1:Nat):Int),.int ((2:Nat):Int),.int ((3:Nat):Int)]:=hZ (j:=4) rfl (by decide)
 have hl:acc++[bN (cm C 4,d4)]++[bN (cm C 5,d5)]++[bN (cm C 6,d6)]++[bN (cm C 7,d7)]=([(cm C 0,.ow .num),(cm C 1,.ow (ig (mC ns 0))),(cm C 2,.ow (ig (mC ns 1))),(cm C 3,.ow (ig (mC ns 2))),(cm C 4,d4),(cm C 5,d5),(cm C 6,d6),(cm C 7,d7)]:List Rk).map bN:=by rw[ue];rfl
 rw[<-hl];exact Ac (sq (aS c1 rfl) (sq (aS c2 rfl) (sq c3 (sq (fS hr (fC rfl h4 (fC rfl h5 (fC rfl h6 (fC rfl h7 rfl))))) (Ad rfl)))))
def fk(ks:List Rk)(d:Kd):List Rk:=ks.filter fun q=>eqT (dr q.2) (dr d)
theorem Fy{ks:List Rk}{r:Rk}(h:r∈ks):(∀q∈fk ks r.2,q∈ks)/\0<(fk ks r.2).length:=⟨fun q hq=>(gF.mp hq).1,jY (gF.mpr ⟨h,kD _⟩)⟩
theorem qD{ks:List Rk}(K:qB ks){ρ:aF}{LL:PV}(h8:rd 8 ρ=some (KL ks))(EC:bj [none,none,none,some 4] ρ=[.un,.un,.un,.val LL]){j:Int}{q0:Rk}(hj:aG LL (.int j)=some (bN q0)):bH (eQ [none,none,none,some 4] (cJ (rd 8)) (cC 2 (ax (ao 1) (ax (ao 2) cB))) (toB (af (rd 2) (af (af (rd 3) (cK (.int j)) aG) (kI 1) aG) dU)) (rd 1)) ρ=some (.au ((fk ks q0.2).map dt)):=by
 have hl:=K.few;refine fF (cT (ps:=ks.map bN) (sV h8 rfl) (by rw[aC];lia) ?_)
 rw[EC];refine e9 fun q hq=>?_
 have t0:cC 2 (ax (ao 1) (ax (ao 2) cB)) (bN q) [.un,.un,.un,.val LL]=some [.un,.val (.str q.1),.val (dr q.2),.val LL]:=rfl;have g:toB (af (rd 2) (af (af (rd 3) (cK (.int j)) aG) (kI 1) aG) dU) [.un,.val (.str q.1),.val (dr q.2),.val LL]=some (eqT (dr q.2) (dr q0.2)):=bT (b2 rfl (b2 (b2 (x:=LL) rfl rfl hj) rfl rfl) (X1 q.2 (K.ok q hq) _));rw[t0,aV,g,aV];cases eqT (dr q.2) (dr q0.2)<;>rfl
theorem mI{n:Nat}{fa fb:FE}{ρ:aF}{ps:az}{i:Int}{p:PV}(h0:ρ[n]?=some (.own ps))(h:fa ρ=some (.int i))(h2:fb ρ=some p)(hi:0<=i/\i<=1000000)(hl:ps.length<100000):gp n (aa fa (aa fb ai)) wX ρ=some (.nx (ρ.set n (.own (ps.take i.toNat++p::ps.drop i.toNat)))):=by
 have e:wX ps [.int i,p]=some (ps.take i.toNat++p::ps.drop i.toNat):=if_pos ⟨hi.1,hi.2,K4 hl⟩;rw[qw,h0,nM,cA h (cA h2 rfl),aV,e];rfl
theorem HN(ns:List Int):∃cs:List Int,jo (ns.map PV.int) (some 8) (some 24)=cs.map .int/\cs.length<=16:=by
 have e1:=HT.qm (ns.map PV.int).length 0 8;have e2:=HT.qm (ns.map PV.int).length (ns.map PV.int).length 24;unfold jo;rw[show(some 8:Option Int)=some ((8:Nat):Int)from rfl,show(some 24:Option Int)=some ((24:Nat):Int)from rfl,e1,e2,<-List.map_drop,<-List.map_take]
 exact⟨_,rfl,by rw[oq];lia⟩
theorem DP(C:Int):∀l:List (Fin 26),l.Nodup->(l.map fun i=>cm C i.1).Nodup
 | [],_=>vV
 | i::l,h=>by
  rw[fu]at h;rw[bR,fu];refine⟨fun hm=>?_,DP C l h.2⟩
  obtain⟨j,hj,e⟩:=bG.mp hm;have:=Pt j.2 i.2 e;exact h.1 (by rw[<-Fin.ext this];exact hj)
def Mb(C:Int)(pl:Int)(d1 d4:Kd):List Rk:=if pl%2=1 then [(cm C 9,d1),(cm C 8,d4)]else [(cm C 8,d4),(cm C 9,d1)]
abbrev Z6(C:Int)(s1 s2 s3:Sh)(d4 d5 d6 d7:Kd):List Rk:=[(cm C 0,.ow .num),(cm C 1,.ow s1),(cm C 2,.ow s2),(cm C 3,.ow s3),(cm C 4,d4),(cm C 5,d5),(cm C 6,d6),(cm C 7,d7)]
theorem Yo(C pl:Int){s1 s2 s3:Sh}{d4 d5 d6 d7:Kd}(f1:gy s1)(f2:gy s2)(f3:gy s3)(f4:gy (c6 d4))(f5:gy (c6 d5))(f6:gy (c6 d6))(f7:gy (c6 d7)):qB (Mb C pl (.ow s1) d4++Z6 C s1 s2 s3 d4 d5 d6 d7)/\(Mb C pl (.ow s1) d4++Z6 C s1 s2 s3 d4 d5 d6 d7).length=10:=by
 have L2:(Mb C pl (.ow s1) d4++Z6 C s1 s2 s3 d4 d5 d6 d7).length=10:=by
  unfold Mb;split<;>rfl
 refine⟨⟨?_,?_,by lia,?_⟩,L2⟩
 ·by_cases h:pl%2=1
  ·have:=DP C [9,8,0,1,2,3,4,5,6,7] (by decide)
   unfold Mb;rw[if_pos h];exact this
  ·have:=DP C [8,9,0,1,2,3,4,5,6,7] (by decide)
   unfold Mb;rw[if_neg h];exact this
 ·intro q hq;rcases cR.mp hq with hq | hq
  ·unfold Mb at hq;split at hq
   all_goals
    simp only[bc,eF,eH]at hq;rcases hq with rfl | rfl
    all_goals first | exact f1 | exact f4
  ·simp only[bc,eF,eH]at hq;rcases hq with rfl | rfl | rfl | rfl | rfl | rfl | rfl | rfl
   ·exact L4
   ·exact f1
   ·exact f2
   ·exact f3
   ·exact f4
   ·exact f5
   ·exact f6
   ·exact f7
 ·intro q hq;have:∃i,q.1=cm C i:=by
   rcases cR.mp hq with hq | hq
   ·unfold Mb at hq;split at hq
    all_goals
     simp only[bc,eF,eH]at hq;rcases hq with rfl | rfl
     all_goals exact⟨_,rfl⟩
   ·simp only[bc,eF,eH]at hq;rcases hq with rfl | rfl | rfl | rfl | rfl | rfl | rfl | rfl
    all_goals exact⟨_,rfl⟩
  obtain⟨i,hi⟩:=this;rw[hi];exact Ui C i
theorem Mc{ks:List Rk}(K:qB ks){z:Option Rk}(hz:∀r,z=some r->r∈ks):∃as,(∀M,j7 ks M (.aB [.str "give",gz z]) as)/\∀M j,p4 M j (.aB [.str "give",gz z]):=by
 have nx:∀M j,p4 M j (.aB [.str "give",gz z]):=fun M j=>⟨"give",rfl,fun h=>absurd h (by decide +kernel),fun h=>absurd h (by decide +kernel),fun h=>absurd h (by decide +kernel)⟩
 cases z with
 | none=>exact⟨_,fun M=>HC K M,nx⟩
 | some r=>exact⟨_,fun M=>LX K M (hz r rfl),nx⟩
theorem Yp{ks R1 R2:List Rk}(K:qB ks)(zL:ks=R1++R2)(hl:ks.length=10){n0 n2 nm res jZ:PV}{Ut:List cL}(Mp:∀M,j7 ks M jZ Ut)(hnx:∀M j,p4 M j jZ){L:List (PV×List cL)}(hL:∀q∈L,j7 ks (L.length+1) q.1 q.2)(h16:L.length<=16):T7 (Bn ks) 3 [n0,Dy nm res (.aB (L.map (·.1)++[jZ])) R1 R2,n2] nm res R1 R2 (L++[(jZ,Ut)]):=by
 have dm:(L++[(jZ,Ut)]).length=L.length+1:=by simp
 have m9:∀q∈L++[(jZ,Ut)],j7 ks (L.length+1) q.1 q.2:=fun q hq=>by
  rcases cR.mp hq with h | h
  ·exact hL q h
  ·rw[cq]at h;subst h;exact Mp _
 have em:(L++[(jZ,Ut)]).map (fun q:PV×List cL=>q.1)=L.map (fun q:PV×List cL=>q.1)++[jZ]:=by rw[cY];rfl
 have hr2:∀r∈R2,r∈ks:=fun r hr=>by rw[zL];exact dC _ hr
 refine⟨?_,fun k hk q hq=>?_,by lia,by lia,fun q hq=>(m9 q hq).six,fun j p hp=>?_,fun q hq=>HB (m9 q hq).ok,fun q hq=>(m9 q hq).hand,by decide,?_⟩
 ·rw[em];rfl
 ·refine(m9 q hq).made _ k ?_ hk;rw[zL];refine Ec _ _ _ R1 R2 ?_ (by rw[<-zL];exact K.nd)
  have:=dy List.length zL;rw[bK]at this
  lia
 ·rw[dm];by_cases hj:j<L.length
  ·have Ct:(L.map (fun q:PV×List cL=>q.1))[j]?=some p:=by
    rw[em,il (by rw[aC];exact hj)]at hp
    exact hp
   obtain⟨q,hq,rfl⟩:=bG.mp (cj Ct);exact(hL q hq).nx j (by lia)
  ·rw[em,j9 (by rw[aC];lia),aC]at hp
   have:p=jZ:=by
    have:=cj hp;simpa using this
   rw[this];exact hnx _ _
 ·rw[dm,Bn,bK,aC,hl];show 6*(L.length+1)*((10+4)*3)<5000
  lia
theorem Yq:zq (.int 10) (.int 12)=some (.int (10^12)):=by
 rw[Aa,if_pos (by decide)]
 rfl
theorem qE(m:Int):m%4=0\/m%4=1\/m%4=2\/m%4=3:=by lia
def PrX(p:PV):Prop:=∃X fs nm res R1 R2 L,p=.aB fs/\T7 X 3 fs nm res R1 R2 L
theorem HP(k:Nat)(hk:3<=k)(ns:List Int){W:List Str}(hW:0<W.length):∃p,run bC (k+4) "_law_program" [zW ns,.int 16,.au (W.map .str)]=some (.val p)/\PrX p:=by
 obtain⟨S,hS⟩:∃S,S=zW ns:=⟨_,rfl⟩
 have ku:run bC (k+3) "_law_cell_at" [S,.int 0]=some (.val (.int (cell ns 0))):=by rw[hS];exact Ls (k+2) ns 0
 obtain⟨C,hC⟩:∃C,C=cell ns 0%10^12:=⟨_,rfl⟩
 have hn:=Pu (k+2) C;obtain⟨d4,d5,d6,d7,GI,i4,i5,i6,i7⟩:=Us (k+1) (by lia) C ns
 obtain⟨cE,Yr⟩:∃cE,cE=Hz (cell ns 0) 3:=⟨_,rfl⟩
 have hb:=nW (k+2) (cell ns 0) (i:=3) (by decide)
 rw[<-Yr]at hb;obtain⟨pl,oG⟩:∃pl,pl=cE/1024%6:=⟨_,rfl⟩
 have hp6:0<=pl/\pl<6:=by lia
 have f1:=lr (mC ns 0);have f2:=lr (mC ns 1);have f3:=lr (mC ns 2);obtain⟨s1,e1⟩:∃s,s=ig (mC ns 0):=⟨_,rfl⟩
 obtain⟨s2,e2⟩:∃s,s=ig (mC ns 1):=⟨_,rfl⟩
 obtain⟨s3,e3⟩:∃s,s=ig (mC ns 2):=⟨_,rfl⟩
 rw[<-e1]at f1;rw[<-e2]at f2;rw[<-e3]at f3;rw[<-e1,<-e2,<-e3]at GI;obtain⟨K,hkl⟩:=Yo C pl f1 f2 f3 i4.2 i5.2 i6.2 i7.2;obtain⟨LT,HW⟩:∃LT,LT=Z6 C s1 s2 s3 d4 d5 d6 d7:=⟨_,rfl⟩
 obtain⟨P,hP⟩:∃P,P=Mb C pl (.ow s1) d4:=⟨_,rfl⟩
 obtain⟨ks,zL⟩:∃ks,ks=P++LT:=⟨_,rfl⟩
 have GI:run bC (k+1+2) "_law_lets" [zW ns,NM C]=some (.own (LT.map bN)):=by rw[HW];exact GI
 rw[<-HW,<-hP,<-zL]at K hkl;have hPl:P.length=2:=by rw[hP];unfold Mb;split<;>rfl
 have hLl:LT.length=8:=by rw[HW];rfl
 have m0:(cm C 0,Kd.ow .num)∈ks:=by rw[zL,HW];exact dC _ (by simp)
 have m1:((cm C 1,Kd.ow s1):Rk)∈ks:=by rw[zL,HW];exact dC _ (by simp)
 have m2:((cm C 2,Kd.ow s2):Rk)∈ks:=by rw[zL,HW];exact dC _ (by simp)
 have m4:((cm C 4,d4):Rk)∈ks:=by rw[zL,HW];exact dC _ (by simp)
 have m5:((cm C 5,d5):Rk)∈ks:=by rw[zL,HW];exact dC _ (by simp)
 obtain⟨LL,Uu⟩:∃LL,LL=PV.au (LT.map bN):=⟨_,rfl⟩
 have l1:aG LL (.int 1)=some (bN (cm C 1,.ow s1)):=by rw[Uu,HW];rfl
 have l2:aG LL (.int 2)=some (bN (cm C 2,.ow s2)):=by rw[Uu,HW];rfl
 have l4:aG LL (.int 4)=some (bN (cm C 4,d4)):=by rw[Uu,HW];rfl
 have l5:aG LL (.int 5)=some (bN (cm C 5,d5)):=by rw[Uu,HW];rfl
 obtain⟨NN,yt⟩:∃NN,NN=NM C:=⟨_,rfl⟩
 have n0:aG NN (.int 0)=some (.str (cm C 0)):=by rw[yt];exact kY C (q:=0) (by decide)
 have n1:aG NN (.int 1)=some (.str (cm C 1)):=by rw[yt];exact kY C (q:=1) (by decide)
 have n2:aG NN (.int 2)=some (.str (cm C 2)):=by rw[yt];exact kY C (q:=2) (by decide)
 have n5:aG NN (.int 5)=some (.str (cm C 5)):=by rw[yt];exact kY C (q:=5) (by decide)
 have n8:aG NN (.int 8)=some (.str (cm C 8)):=by rw[yt];exact kY C (q:=8) (by decide)
 have n9:aG NN (.int 9)=some (.str (cm C 9)):=by rw[yt];exact kY C (q:=9) (by decide)
 have n10:aG NN (.int 10)=some (.str (cm C 10)):=by rw[yt];exact kY C (q:=10) (by decide)
 have n11:aG NN (.int 11)=some (.str (cm C 11)):=by rw[yt];exact kY C (q:=11) (by decide)
 have n12:aG NN (.int 12)=some (.str (cm C 12)):=by rw[yt];exact kY C (q:=12) (by decide)
 have acS:Nt (some 10) none NN=some (.au [.str (cm C 10),.str (cm C 11),.str (cm C 12)]):=by
  rw[yt];show some (PV.au (jo _ (some ((10:Nat):Int)) none))=_;rw[K6];rfl
 obtain⟨cs,UB,agM⟩:=HN ns;have acT:Nt (some 8) (some 24) S=some (.au (cs.map .int)):=by
  rw[hS];show some (PV.au (jo (ns.map .int) (some 8) (some 24)))=_;rw[UB]
 obtain⟨b5,t5,e5⟩:∃b5 t5,dr d5=.aB [.str (hw b5),enc t5]:=by
  cases d5 with
  | ow s=>cases i5.1
  | ho b s=>exact⟨b,s,rfl⟩
 obtain⟨b4,t4,e4⟩:∃b4 t4,dr d4=.aB [.str (hw b4),enc t4]:=by
  cases d4 with
  | ow s=>cases i4.1
  | ho b s=>exact⟨b,s,rfl⟩
 obtain⟨res,acU⟩:∃res,aG (.au [.cG,.aB [.str (hw b5),enc t5,.aB []],.aB [.str (hw b5),enc t5,.aB [.str (cm C 8)]],dr (.ow s2)]) (.int (cE%4))=some res:=by
  rcases qE cE with h | h | h | h<;>rw[h]<;>exact⟨_,rfl⟩
 obtain⟨z,hz,hzk⟩:∃z:Option Rk,aG (.au [.str "",.str (cm C 5),.str (cm C 5),.str (cm C 2)]) (.int (cE%4))=some (gz z)/\∀r,z=some r->r∈ks:=by
  rcases qE cE with h | h | h | h<;>rw[h]
  ·exact⟨none,rfl,fun r hr=>by cases hr⟩
  ·exact⟨some _,rfl,fun r hr=>by cases hr;exact m5⟩
  ·exact⟨some _,rfl,fun r hr=>by cases hr;exact m5⟩
  ·exact⟨some _,rfl,fun r hr=>by cases hr;exact m2⟩
 obtain⟨Ut,Mp,WZ⟩:=Mc K hzk;obtain⟨BK,hBK,hB1,hB2⟩:∃BK:List (Option Rk),aG (.au [.au [.str ""],.au ((fk ks d5).map dt),.au ((fk ks d5).map dt),.au ((fk ks (.ow s2)).map dt)]) (.int (cE%4))=some (.au (BK.map gz))/\(∀o∈BK,∀r,o=some r->r∈ks)/\0<BK.length:=by
  have sm:∀{r:Rk},r∈ks->(∀o∈(fk ks r.2).map some,∀q,o=some q->q∈ks)/\0<((fk ks r.2).map some).length:=fun {r} hr=>by
   obtain⟨g1,g2⟩:=Fy hr;refine⟨fun o ho q hq=>?_,by rw[aC];exact g2⟩
   obtain⟨q',Mj,rfl⟩:=bG.mp ho;cases hq;exact g1 _ Mj
  have mm:∀l:List Rk,(l.map some).map gz=l.map dt:=fun l=>by rw[fw];rfl
  rcases qE cE with h | h | h | h<;>rw[h]
  ·refine⟨[none],rfl,fun o ho r hr=>?_,by simp⟩
   rw[cq]at ho;rw[ho]at hr;cases hr
  ·exact⟨(fk ks d5).map some,by rw[mm];rfl,sm m5⟩
  ·exact⟨(fk ks d5).map some,by rw[mm];rfl,sm m5⟩
  ·exact⟨(fk ks (.ow s2)).map some,by rw[mm];rfl,sm m2⟩
 have CO:Uq ks (fk ks d4) (fk ks d5) (fk ks (.ow s1)) BK:=⟨Fy m4,Fy m5,Fy m1,hB1,hB2⟩;obtain⟨DQ,acV⟩:∃v,aG (.au [.aB [],.aB [.str (cm C 0)],.aB [.str (cm C 1)],.aB [.str (cm C 0),.str (cm C 1)]]) (.int (cE/4%4))=some v:=by
  rcases qE (cE/4)with h | h | h | h<;>rw[h]<;>exact⟨_,rfl⟩
 have acW:=Py (k+1) (by lia) ks K.ok (by lia)
 have acX:=HI (k+2) K (cm C 0) (cE/16%64);have Ys:=fun c:Int=>Yk k hk K (M:=cs.length+1) (by lia) hW m0 ⟨_,m4,i4.1⟩ (cE/16%64) (.str (cm C 10)) (.str (cm C 11)) (.str (cm C 12)) CO hp6 ⟨Ut,Mp _⟩ c
 obtain⟨md,Yl⟩:∃md,md=Z4 W ks (cm C 0) (cE/16%64) (Z5 (.str (cm C 10)) (.str (cm C 11)) (.str (cm C 12)) (fk ks d4) (fk ks d5) (fk ks (.ow s1)) BK pl) (.aB [.str "give",gz z]):=⟨_,rfl⟩
 rw[<-Yl]at Ys;have Yt:∃L:List (PV×List cL),iB (fun p=>(ao 1 p [.un,.un,.val (.au (cs.map .int)),.val md]).bind (aD (aP 3 (run bC (k+3) "_law_row")) (aa (rd 1) (aa (af (cg cX (aa (rd 2) ai)) (kI 1) bW) (aa (rd 3) ai))))) (cs.map .int)=some (L.map (·.1))/\(∀q∈L,j7 ks (cs.length+1) q.1 q.2)/\L.length=cs.length:=by
  refine Ff fun c hc=>?_
  obtain⟨p,h1,as,h2⟩:=Ys c;refine⟨p,as,?_,h2⟩;have t:ao 1 (.int c) [.un,.un,.val (.au (cs.map .int)),.val md]=some [.un,.val (.int c),.val (.au (cs.map .int)),.val md]:=rfl;rw[t,aV];have hl1:af (cg cX (aa (rd 2) ai)) (kI 1) bW [.un,.val (.int c),.val (.au (cs.map .int)),.val md]=some (.int ((cs.length+1:Nat):Int)):=by
   refine b2 (bV (as:=[.au (cs.map .int)]) (cA rfl rfl) (by rw[Ab,aC])) rfl ?_
   rw[iG];exact dy (fun z=>some (PV.int z)) (by lia)
  exact dO (cA rfl (cA hl1 (cA rfl rfl))) rfl h1 rfl
 obtain⟨L,hL1,hL2,hL3⟩:=Yt;have hLn:L.length<=16:=by lia
 rw[xP,aU,<-hS];obtain⟨WW,hWW⟩:∃WW,WW=PV.au (W.map .str):=⟨_,rfl⟩
 rw[<-hWW];refine Rt.run ?_;have Vf:run bC (k+3) "_law_names" [.int (cell ns 0%10^12),.int 13]=some (.own ((List.range 13).map fun q=>.str (cm C q))):=by rw[<-hC];exact hn
 rw[<-hS,<-yt]at GI;have fN:qa (.own ((List.range 13).map fun q=>.str (cm C q)))=some NN:=by rw[yt];rfl
 have fL:qa (.own (LT.map bN))=some LL:=by rw[Uu];rfl
 have hkk:ks.map bN=P.map bN++LT.map bN:=by rw[zL,cY]
 have fd:b8 (.int (cE/1024)) (.int 6)=some (.int pl):=by rw[oG];exact dB (by decide)
 refine xS (fj:=[.val S,.val (.int 16),.val WW,.val NN,.un,.un,.un,.un,.un,.un,.un,.un,.un,.un,.un,.un,.un,.un,.un,.un,.un,.un,.un,.un]) (aS (p:=NN) (dO (cA (b2 (dO (cA rfl (cA rfl rfl)) rfl ku rfl) (b2 rfl rfl Yq) (dB (by decide))) (cA rfl rfl)) rfl Vf fN) rfl) ?_
 refine xS (fj:=[.val S,.val (.int 16),.val WW,.val NN,.val LL,.un,.un,.un,.un,.un,.un,.un,.un,.un,.un,.un,.un,.un,.un,.un,.un,.un,.un,.un]) (aS (p:=LL) (dO (cA rfl (cA rfl rfl)) rfl GI fL) rfl) ?_;refine xS (fj:=[.val S,.val (.int 16),.val WW,.val NN,.val LL,.val (.int cE),.un,.un,.un,.un,.un,.un,.un,.un,.un,.un,.un,.un,.un,.un,.un,.un,.un,.un]) (aS (p:=(.int cE)) (dO (cA (dO (cA rfl (cA rfl rfl)) rfl ku rfl) (cA rfl rfl)) rfl hb rfl) rfl) ?_;refine xS (fj:=[.val S,.val (.int 16),.val WW,.val NN,.val LL,.val (.int cE),.val (.int pl),.un,.un,.un,.un,.un,.un,.un,.un,.un,.un,.un,.un,.un,.un,.un,.un,.un]) (aS (p:=(.int pl)) (b2 (b2 rfl rfl (ya (by decide))) rfl fd) rfl) ?_
 refine xS (fj:=[.val S,.val (.int 16),.val WW,.val NN,.val LL,.val (.int cE),.val (.int pl),.own [bN (cm C 8,d4),bN (cm C 9,.ow s1)],.un,.un,.un,.un,.un,.un,.un,.un,.un,.un,.un,.un,.un,.un,.un,.un]) (sO (ps:=[bN (cm C 8,d4),bN (cm C 9,.ow s1)]) (lS (cA (tU (cA (b2 (x:=NN) rfl rfl n8) (cA (b2 (b2 (x:=LL) rfl rfl l4) rfl rfl) rfl)) (by simp)) (cA (tU (cA (b2 (x:=NN) rfl rfl n9) (cA (b2 (b2 (x:=LL) rfl rfl l1) rfl rfl) rfl)) (by simp)) rfl)) (by simp)) (by simp)) ?_
 refine xS (fj:=[.val S,.val (.int 16),.val WW,.val NN,.val LL,.val (.int cE),.val (.int pl),.own (P.map bN),.un,.un,.un,.un,.un,.un,.un,.un,.un,.un,.un,.un,.un,.un,.un,.un]) ?_ ?_
 ·have d2:iC (toB (af (af (rd 6) (kI 2) b8) (kI 1) dU)) [.val S,.val (.int 16),.val WW,.val NN,.val LL,.val (.int cE),.val (.int pl),.own [bN (cm C 8,d4),bN (cm C 9,.ow s1)],.un,.un,.un,.un,.un,.un,.un,.un,.un,.un,.un,.un,.un,.un,.un,.un]=some (decide (pl%2=1)):=bT (b2 (b2 (x:=.int pl) rfl rfl (dB (by decide))) rfl hV)
  rw[hP];unfold Mb;by_cases h:pl%2=1
  ·rw[fQ h]at d2;rw[if_pos h];exact iT d2 rfl
  ·rw[eG h]at d2;rw[if_neg h];exact iF d2 rfl
 refine xS (fj:=[.val S,.val (.int 16),.val WW,.val NN,.val LL,.val (.int cE),.val (.int pl),.val (.au (P.map bN)),.val (KL ks),.un,.un,.un,.un,.un,.un,.un,.un,.un,.un,.un,.un,.un,.un,.un]) ?_ ?_
 ·show bg _ _ (eR (some [7]) [.val S,.val (.int 16),.val WW,.val NN,.val LL,.val (.int cE),.val (.int pl),.own (P.map bN),.un,.un,.un,.un,.un,.un,.un,.un,.un,.un,.un,.un,.un,.un,.un,.un])=_;unfold KL;rw[hkk];exact aS (p:=.au (P.map bN++LT.map bN)) (b2 (x:=.au (P.map bN)) (y:=.au (LT.map bN)) rfl (by rw[Uu];rfl) (aL (by rw[aC,aC];lia))) rfl
 refine xS (fj:=[.val S,.val (.int 16),.val WW,.val NN,.val LL,.val (.int cE),.val (.int pl),.val (.au (P.map bN)),.val (KL ks),.val res,.un,.un,.un,.un,.un,.un,.un,.un,.un,.un,.un,.un,.un,.un]) (aS (p:=res) (b2 (x:=.au [.cG,.aB [.str (hw b5),enc t5,.aB []],.aB [.str (hw b5),enc t5,.aB [.str (cm C 8)]],dr (.ow s2)]) (fF (lS (cA rfl (cA (b2 (x:=.aB [.str (hw b5),enc t5]) (y:=.aB [.aB []]) (b2 (b2 (x:=LL) rfl rfl l5) rfl (dy some e5)) rfl (aT (by simp))) (cA (b2 (x:=.aB [.str (hw b5),enc t5]) (y:=.aB [.aB [.str (cm C 8)]]) (b2 (b2 (x:=LL) rfl rfl l5) rfl (dy some e5)) (tU (cA (tU (cA (b2 (x:=NN) rfl rfl n8) rfl) (by simp)) rfl) (by simp)) (aT (by simp))) (cA (b2 (b2 (x:=LL) rfl rfl l2) rfl rfl) rfl)))) (by simp))) (b2 (x:=.int cE) rfl rfl (dB (by decide))) acU) rfl) ?_
 refine xS (fj:=[.val S,.val (.int 16),.val WW,.val NN,.val LL,.val (.int cE),.val (.int pl),.val (.au (P.map bN)),.val (KL ks),.val res,.val (.aB [.str "give",gz z]),.un,.un,.un,.un,.un,.un,.un,.un,.un,.un,.un,.un,.un]) (aS (p:=(.aB [.str "give",gz z])) (tU (cA rfl (cA (b2 (x:=.au [.str "",.str (cm C 5),.str (cm C 5),.str (cm C 2)]) (fF (lS (cA rfl (cA (b2 (x:=NN) rfl rfl n5) (cA (b2 (x:=NN) rfl rfl n5) (cA (b2 (x:=NN) rfl rfl n2) rfl)))) (by simp))) (b2 (x:=.int cE) rfl rfl (dB (by decide))) hz) rfl)) (by simp)) rfl) ?_
 refine xS (fj:=[.val S,.val (.int 16),.val WW,.val NN,.val LL,.val (.int cE),.val (.int pl),.val (.au (P.map bN)),.val (KL ks),.val res,.val (.aB [.str "give",gz z]),.val (.au ((fk ks d4).map dt)),.un,.un,.un,.un,.un,.un,.un,.un,.un,.un,.un,.un]) (aS (p:=(.au ((fk ks d4).map dt))) (qD K (LL:=LL) rfl rfl l4) rfl) ?_;refine xS (fj:=[.val S,.val (.int 16),.val WW,.val NN,.val LL,.val (.int cE),.val (.int pl),.val (.au (P.map bN)),.val (KL ks),.val res,.val (.aB [.str "give",gz z]),.val (.au ((fk ks d4).map dt)),.val (.au ((fk ks d5).map dt)),.un,.un,.un,.un,.un,.un,.un,.un,.un,.un,.un]) (aS (p:=(.au ((fk ks d5).map dt))) (qD K (LL:=LL) rfl rfl l5) rfl) ?_;refine xS (fj:=[.val S,.val (.int 16),.val WW,.val NN,.val LL,.val (.int cE),.val (.int pl),.val (.au (P.map bN)),.val (KL ks),.val res,.val (.aB [.str "give",gz z]),.val (.au ((fk ks d4).map dt)),.val (.au ((fk ks d5).map dt)),.val (.au ((fk ks (.ow s1)).map dt)),.un,.un,.un,.un,.un,.un,.un,.un,.un,.un]) (aS (p:=(.au ((fk ks (.ow s1)).map dt))) (qD K (LL:=LL) rfl rfl l1) rfl) ?_;refine xS (fj:=[.val S,.val (.int 16),.val WW,.val NN,.val LL,.val (.int cE),.val (.int pl),.val (.au (P.map bN)),.val (KL ks),.val res,.val (.aB [.str "give",gz z]),.val (.au ((fk ks d4).map dt)),.val (.au ((fk ks d5).map dt)),.val (.au ((fk ks (.ow s1)).map dt)),.val (.au (BK.map gz)),.un,.un,.un,.un,.un,.un,.un,.un,.un]) (aS (p:=(.au (BK.map gz))) (b2 (x:=.au [.au [.str ""],.au ((fk ks d5).map dt),.au ((fk ks d5).map dt),.au ((fk ks (.ow s2)).map dt)]) (fF (lS (cA rfl (cA rfl (cA rfl (cA (qD K (LL:=LL) rfl rfl l2) rfl)))) (by simp))) (b2 (x:=.int cE) rfl rfl (dB (by decide))) hBK) rfl) ?_
 refine xS (fj:=[.val S,.val (.int 16),.val WW,.val NN,.val LL,.val (.int cE),.val (.int pl),.val (.au (P.map bN)),.val (KL ks),.val res,.val (.aB [.str "give",gz z]),.val (.au ((fk ks d4).map dt)),.val (.au ((fk ks d5).map dt)),.val (.au ((fk ks (.ow s1)).map dt)),.val (.au (BK.map gz)),.val (SL ks),.un,.un,.un,.un,.un,.un,.un,.un]) (aS (p:=(SL ks)) (dO (as:=[KL ks]) (cA rfl rfl) rfl acW rfl) rfl) ?_;refine xS (fj:=[.val S,.val (.int 16),.val WW,.val NN,.val LL,.val (.int cE),.val (.int pl),.val (.au (P.map bN)),.val (KL ks),.val res,.val (.aB [.str "give",gz z]),.val (.au ((fk ks d4).map dt)),.val (.au ((fk ks d5).map dt)),.val (.au ((fk ks (.ow s1)).map dt)),.val (.au (BK.map gz)),.val (SL ks),.val (.au ((yr ks (cm C 0) (cE/16%64)).map fI)),.un,.un,.un,.un,.un,.un,.un]) (aS (p:=(.au ((yr ks (cm C 0) (cE/16%64)).map fI))) (dO (as:=[SL ks,.str (cm C 0),.int (cE/16%64)]) (cA rfl (cA (b2 (x:=NN) rfl rfl n0) (cA (b2 (b2 (x:=.int cE) rfl rfl (ya (by decide))) rfl (dB (by decide))) rfl))) rfl acX rfl) rfl) ?_
 refine xS (fj:=[.val S,.val (.int 16),.val WW,.val NN,.val LL,.val (.int cE),.val (.int pl),.val (.au (P.map bN)),.val (KL ks),.val res,.val (.aB [.str "give",gz z]),.val (.au ((fk ks d4).map dt)),.val (.au ((fk ks d5).map dt)),.val (.au ((fk ks (.ow s1)).map dt)),.val (.au (BK.map gz)),.val (SL ks),.val (.au ((yr ks (cm C 0) (cE/16%64)).map fI)),.val md,.un,.un,.un,.un,.un,.un]) (aS (p:=md) ?_ rfl) ?_
 ·rw[Yl];unfold Z4 Z5;rw[<-hWW];exact tU (cA rfl (cA rfl (cA rfl (cA rfl (cA (tU (cA (x:=.au [.str (cm C 10),.str (cm C 11),.str (cm C 12)]) acS (cA rfl (cA rfl (cA rfl (cA rfl (cA rfl rfl)))))) (by simp)) (cA rfl rfl)))))) (by simp)
 refine xS (fj:=[.val S,.val (.int 16),.val WW,.val NN,.val LL,.val (.int cE),.val (.int pl),.val (.au (P.map bN)),.val (KL ks),.val res,.val (.aB [.str "give",gz z]),.val (.au ((fk ks d4).map dt)),.val (.au ((fk ks d5).map dt)),.val (.au ((fk ks (.ow s1)).map dt)),.val (.au (BK.map gz)),.val (SL ks),.val (.au ((yr ks (cm C 0) (cE/16%64)).map fI)),.val md,.val (.au (cs.map .int)),.un,.un,.un,.un,.un]) (aS (p:=(.au (cs.map .int))) (acT) rfl) ?_;refine xS (fj:=[.val S,.val (.int 16),.val WW,.val NN,.val LL,.val (.int cE),.val (.int pl),.val (.au (P.map bN)),.val (KL ks),.val res,.val (.aB [.str "give",gz z]),.val (.au ((fk ks d4).map dt)),.val (.au ((fk ks d5).map dt)),.val (.au ((fk ks (.ow s1)).map dt)),.val (.au (BK.map gz)),.val (SL ks),.val (.au ((yr ks (cm C 0) (cE/16%64)).map fI)),.val md,.val (.au (cs.map .int)),.val (.au (L.map (fun q:PV×List cL=>q.1)++[.aB [.str "give",gz z]])),.un,.un,.un,.un]) (aS (p:=(.au (L.map (fun q:PV×List cL=>q.1)++[.aB [.str "give",gz z]]))) (b2 (fF (cV (ps:=cs.map .int) rfl (by rw[aC];lia) hL1)) (fF (lS (cA rfl rfl) (by simp))) (aL (by simp only[aC,bq,jk];lia))) rfl) ?_
 refine xS (fj:=[.val S,.val (.int 16),.val WW,.val NN,.val LL,.val (.int cE),.val (.int pl),.val (.au (P.map bN)),.val (KL ks),.val res,.val (.aB [.str "give",gz z]),.val (.au ((fk ks d4).map dt)),.val (.au ((fk ks d5).map dt)),.val (.au ((fk ks (.ow s1)).map dt)),.val (.au (BK.map gz)),.val (SL ks),.val (.au ((yr ks (cm C 0) (cE/16%64)).map fI)),.val md,.val (.au (cs.map .int)),.val (.au (L.map (fun q:PV×List cL=>q.1)++[.aB [.str "give",gz z]])),.val DQ,.un,.un,.un]) (aS (p:=DQ) (b2 (x:=.au [.aB [],.aB [.str (cm C 0)],.aB [.str (cm C 1)],.aB [.str (cm C 0),.str (cm C 1)]]) (fF (lS (cA rfl (cA (tU (cA (b2 (x:=NN) rfl rfl n0) rfl) (by simp)) (cA (tU (cA (b2 (x:=NN) rfl rfl n1) rfl) (by simp)) (cA (tU (cA (b2 (x:=NN) rfl rfl n0) (cA (b2 (x:=NN) rfl rfl n1) rfl)) (by simp)) rfl)))) (by simp))) (b2 (b2 (x:=.int cE) rfl rfl (ya (by decide))) rfl (dB (by decide))) acV) rfl) ?_
 refine xS (fj:=[.val S,.val (.int 16),.val WW,.val NN,.val LL,.val (.int cE),.val (.int pl),.val (.au (P.map bN)),.val (KL ks),.val res,.val (.aB [.str "give",gz z]),.val (.au ((fk ks d4).map dt)),.val (.au ((fk ks d5).map dt)),.val (.au ((fk ks (.ow s1)).map dt)),.val (.au (BK.map gz)),.val (SL ks),.val (.au ((yr ks (cm C 0) (cE/16%64)).map fI)),.val md,.val (.au (cs.map .int)),.val (.au (L.map (fun q:PV×List cL=>q.1)++[.aB [.str "give",gz z]])),.val DQ,.own [bN (cm C 0,d4),bN (cm C 1,d5)],.un,.un]) (sO (ps:=[bN (cm C 0,d4),bN (cm C 1,d5)]) (lS (cA (tU (cA (b2 (x:=NN) rfl rfl n0) (cA (b2 (b2 (x:=LL) rfl rfl l4) rfl rfl) rfl)) (by simp)) (cA (tU (cA (b2 (x:=NN) rfl rfl n1) (cA (b2 (b2 (x:=LL) rfl rfl l5) rfl rfl) rfl)) (by simp)) rfl)) (by simp)) (by simp)) ?_
 obtain⟨hd,hhd⟩:∃hd,hd=[bN (cm C 0,d4),bN (cm C 1,d5)].take (pl/2).toNat++PV.aB [.str (cm C 2),dr (.ow s1)]::[bN (cm C 0,d4),bN (cm C 1,d5)].drop (pl/2).toNat:=⟨_,rfl⟩
 refine xS (fj:=[.val S,.val (.int 16),.val WW,.val NN,.val LL,.val (.int cE),.val (.int pl),.val (.au (P.map bN)),.val (KL ks),.val res,.val (.aB [.str "give",gz z]),.val (.au ((fk ks d4).map dt)),.val (.au ((fk ks d5).map dt)),.val (.au ((fk ks (.ow s1)).map dt)),.val (.au (BK.map gz)),.val (SL ks),.val (.au ((yr ks (cm C 0) (cE/16%64)).map fI)),.val md,.val (.au (cs.map .int)),.val (.au (L.map (fun q:PV×List cL=>q.1)++[.aB [.str "give",gz z]])),.val DQ,.own hd,.un,.un]) ?_ ?_
 ·rw[hhd];exact mI (ps:=[bN (cm C 0,d4),bN (cm C 1,d5)]) (i:=pl/2) rfl (b2 (x:=.int pl) rfl rfl (ya (by decide))) (tU (cA (b2 (x:=NN) rfl rfl n2) (cA (b2 (b2 (x:=LL) rfl rfl l1) rfl rfl) rfl)) (by simp)) (by lia) (by simp)
 refine xS (fj:=[.val S,.val (.int 16),.val WW,.val NN,.val LL,.val (.int cE),.val (.int pl),.val (.au (P.map bN)),.val (KL ks),.val res,.val (.aB [.str "give",gz z]),.val (.au ((fk ks d4).map dt)),.val (.au ((fk ks d5).map dt)),.val (.au ((fk ks (.ow s1)).map dt)),.val (.au (BK.map gz)),.val (SL ks),.val (.au ((yr ks (cm C 0) (cE/16%64)).map fI)),.val md,.val (.au (cs.map .int)),.val (.au (L.map (fun q:PV×List cL=>q.1)++[.aB [.str "give",gz z]])),.val DQ,.val (.au hd),.val (.aB [.str (cm C 12),.aB hd,.aB [.str (hw b4),enc t4,DQ],.aB [],.aB [.aB [.str "give",.str (cm C 0)]]]),.un]) ?_ ?_
 ·show bg _ _ (eR (some [21]) [.val S,.val (.int 16),.val WW,.val NN,.val LL,.val (.int cE),.val (.int pl),.val (.au (P.map bN)),.val (KL ks),.val res,.val (.aB [.str "give",gz z]),.val (.au ((fk ks d4).map dt)),.val (.au ((fk ks d5).map dt)),.val (.au ((fk ks (.ow s1)).map dt)),.val (.au (BK.map gz)),.val (SL ks),.val (.au ((yr ks (cm C 0) (cE/16%64)).map fI)),.val md,.val (.au (cs.map .int)),.val (.au (L.map (fun q:PV×List cL=>q.1)++[.aB [.str "give",gz z]])),.val DQ,.own hd,.un,.un])=_
  exact aS (p:=(.aB [.str (cm C 12),.aB hd,.aB [.str (hw b4),enc t4,DQ],.aB [],.aB [.aB [.str "give",.str (cm C 0)]]])) (tU (cA (b2 (x:=NN) rfl rfl n12) (cA (x:=.aB hd) (bV (as:=[.au hd]) (cA rfl rfl) rfl) (cA (x:=.aB [.str (hw b4),enc t4,DQ]) (b2 (x:=.aB [.str (hw b4),enc t4]) (y:=.aB [DQ]) (b2 (b2 (x:=LL) rfl rfl l4) rfl (dy some e4)) (tU (cA rfl rfl) (by simp)) (aT (by simp))) (cA rfl (cA (tU (cA (tU (cA rfl (cA (b2 (x:=NN) rfl rfl n0) rfl)) (by simp)) rfl) (by simp)) rfl))))) (by simp)) rfl
 refine xS (fj:=[.val S,.val (.int 16),.val WW,.val NN,.val LL,.val (.int cE),.val (.int pl),.val (.au (P.map bN)),.val (KL ks),.val res,.val (.aB [.str "give",gz z]),.val (.au ((fk ks d4).map dt)),.val (.au ((fk ks d5).map dt)),.val (.au ((fk ks (.ow s1)).map dt)),.val (.au (BK.map gz)),.val (SL ks),.val (.au ((yr ks (cm C 0) (cE/16%64)).map fI)),.val md,.val (.au (cs.map .int)),.val (.au (L.map (fun q:PV×List cL=>q.1)++[.aB [.str "give",gz z]])),.val DQ,.val (.au hd),.val (.aB [.str (cm C 12),.aB hd,.aB [.str (hw b4),enc t4,DQ],.aB [],.aB [.aB [.str "give",.str (cm C 0)]]]),.val (Dy (.str (cm C 11)) res (.aB (L.map (fun q:PV×List cL=>q.1)++[.aB [.str "give",gz z]])) P LT)]) ?_ ?_
 ·show bg _ _ (eR (some [7]) [.val S,.val (.int 16),.val WW,.val NN,.val LL,.val (.int cE),.val (.int pl),.val (.au (P.map bN)),.val (KL ks),.val res,.val (.aB [.str "give",gz z]),.val (.au ((fk ks d4).map dt)),.val (.au ((fk ks d5).map dt)),.val (.au ((fk ks (.ow s1)).map dt)),.val (.au (BK.map gz)),.val (SL ks),.val (.au ((yr ks (cm C 0) (cE/16%64)).map fI)),.val md,.val (.au (cs.map .int)),.val (.au (L.map (fun q:PV×List cL=>q.1)++[.aB [.str "give",gz z]])),.val DQ,.val (.au hd),.val (.aB [.str (cm C 12),.aB hd,.aB [.str (hw b4),enc t4,DQ],.aB [],.aB [.aB [.str "give",.str (cm C 0)]]]),.un])=_
  exact aS (p:=(Dy (.str (cm C 11)) res (.aB (L.map (fun q:PV×List cL=>q.1)++[.aB [.str "give",gz z]])) P LT)) (tU (cA (b2 (x:=NN) rfl rfl n11) (cA (x:=.aB (P.map bN)) (bV (as:=[.au (P.map bN)]) (cA rfl rfl) rfl) (cA rfl (cA (x:=.aB (LT.map bN)) (bV (as:=[.au (LT.map bN)]) (cA (by rw[Uu];rfl) rfl) rfl) (cA (x:=.aB (L.map (fun q:PV×List cL=>q.1)++[.aB [.str "give",gz z]])) (bV (as:=[.au (L.map (fun q:PV×List cL=>q.1)++[.aB [.str "give",gz z]])]) (cA rfl rfl) rfl) rfl))))) (by simp)) rfl
 refine xR (tU (ps:=[.aB [.str (cm C 10),.aB [],.cG,.aB [],.aB [.aB [.str "give",.str ""]]],(Dy (.str (cm C 11)) res (.aB (L.map (fun q:PV×List cL=>q.1)++[.aB [.str "give",gz z]])) P LT),(.aB [.str (cm C 12),.aB hd,.aB [.str (hw b4),enc t4,DQ],.aB [],.aB [.aB [.str "give",.str (cm C 0)]]])]) (cA (tU (cA (b2 (x:=NN) rfl rfl n10) (cA rfl (cA rfl (cA rfl (cA rfl rfl))))) (by simp)) (cA rfl (cA rfl rfl))) (by simp)) ⟨_,_,_,_,_,_,_,rfl,Yp K zL hkl Mp WZ ?_ hLn⟩
 rw[hL3];exact hL2
theorem Md(ns:List Int)(h:ns.length<=63):run bC 30 "law" [zW ns]=some (.val (.bl true)):=by
 obtain⟨p,hp,X,fs,nm,res,R1,R2,L,rfl,ok⟩:=HP 25 (by decide) ns (W:=w19) (by decide)
 exact T8 29 (by decide) ns hp ok
end cz
namespace cz
open PySem L2 L2.PL
def acY:List Pos:=[⟨49,11,49,17⟩,⟨49,19,49,27⟩,⟨50,4,50,8⟩,⟨50,11,50,13⟩,⟨50,4,50,13⟩,⟨51,4,51,9⟩,⟨51,12,51,14⟩,⟨51,4,51,14⟩,⟨52,4,52,12⟩,⟨52,13,52,17⟩,⟨52,19,52,24⟩,⟨52,26,52,32⟩,⟨52,35,52,36⟩,⟨52,34,52,36⟩,⟨52,4,52,37⟩,⟨52,4,52,37⟩,⟨53,4,53,5⟩,⟨53,8,53,9⟩,⟨53,4,53,9⟩,⟨54,10,54,11⟩,⟨54,14,54,17⟩,⟨54,18,54,22⟩,⟨54,14,54,23⟩,⟨54,10,54,23⟩,⟨55,8,55,16⟩,⟨55,17,55,21⟩,⟨55,23,55,28⟩,⟨55,30,55,38⟩,⟨55,39,55,43⟩,⟨55,44,55,45⟩,⟨55,39,55,46⟩,⟨55,49,55,50⟩,⟨55,48,55,50⟩,⟨55,47,55,50⟩,⟨55,39,55,51⟩,⟨55,30,55,52⟩,⟨55,54,55,55⟩,⟨55,8,55,56⟩,⟨55,8,55,56⟩,⟨56,8,56,9⟩,⟨56,13,56,14⟩,⟨56,8,56,14⟩,⟨54,4,56,14⟩,⟨57,11,57,15⟩,⟨57,4,57,15⟩,⟨49,0,57,15⟩]
def acZ:List Pos:=[⟨58,13,58,17⟩,⟨58,19,58,24⟩,⟨58,26,58,31⟩,⟨58,33,58,37⟩,⟨59,8,59,12⟩,⟨59,16,59,21⟩,⟨60,11,60,15⟩,⟨60,23,60,28⟩,⟨60,11,60,28⟩,⟨61,12,61,17⟩,⟨61,18,61,22⟩,⟨61,12,61,23⟩,⟨61,26,61,30⟩,⟨61,12,61,30⟩,⟨62,12,62,16⟩,⟨62,12,62,23⟩,⟨62,24,62,28⟩,⟨62,32,62,36⟩,⟨62,31,62,38⟩,⟨62,24,62,38⟩,⟨62,12,62,39⟩,⟨62,12,62,39⟩,⟨60,8,62,39⟩,⟨59,4,62,39⟩,⟨58,0,62,39⟩]
theorem ac0:KH bC:=⟨by kernel_rfl,.inr ⟨fun i=>acY.getD i ⟨0,0,0,0⟩,fun i=>acZ.getD i ⟨0,0,0,0⟩,by kernel_rfl,by kernel_rfl,by kernel_rfl,by kernel_rfl⟩⟩
end cz
open PySem PySem.W PyProof.Rows PySem.Calls
theorem PySem.Challenge.cw_lendrule_k26_whole_why_it_is_needed_holds : PySem.Challenge.rw_lendrule_k26_whole_why_it_is_needed.Holds := by
 exact cz.fin fun d h1 h2=>L2.PL.G1 (P:=cz.bC) (N:=30) (st:=cz.IJ) (x:="_law_script") (l:=PySem.Challenge.rw_lendrule_k26_whole_why_it_is_needed) (by kernel_rfl) (by kernel_rfl) rfl h1 h2 ⟨rfl,by decide,by decide⟩ cz.ac0 (fun w h Y=>Y) cz.Md
end
