import PyProof.Rows.All
import Wide.All
import OpenK.AllK
import Wide.FinOn
import Lean
import PyProof.EqAt
import PyProof.EqKinds
import PyProof.TupleCall
import PyProof.NeKinds
import PySem.Challenge.RW_lendrule_k22_whole_why_it_is_empty
set_option Elab.async false
set_option linter.all false
set_option maxRecDepth 100000
noncomputable section
section
open PySem PySem.Spec PyProof.Rows
def J7:=@List.findIdx?_eq_some_iff_getElem
def pK:=@PyProof.Rows.slot_tuple_getitem
def J8:=@PyProof.Rows.callWith_builtin1
def J9:=@List.eq_nil_of_length_eq_zero
def Ka:=@PySem.F.slot_dict_setdefault
def Kb:=@F.args_tuple_iterator_next_1
def Kc:=@F.entry_tuple_iterator_next
def pM:=@PyProof.Rows.callWith_type1
def ly:=@List.getElem?_append_right
def Ke:=@Calls.Name_function_global
def sg:=@Array.perm_iff_toList_perm
def Kf:=@wpAny_newFunctionEnv_cells
def C4:=@List.getD_eq_getElem?_getD
def xq:=@F.slot_tuple_iterator_next
def C5:=@List.drop_eq_getElem_cons
def sh:=@List.getElem?_eq_none_iff
def xt:=@Array.getElem?_eq_getElem
def jd:=@List.getElem?_append_left
def fU:=@List.getElem?_eq_some_iff
def C6:=@PySem.F.args_tuple_add_2
def cJ:=@List.getElem?_eq_getElem
def C7:=@List.getElem?_take_of_lt
def lz:=@AutoSeq1.wpAny_loadPart'
def C8:=@decide_eq_false_iff_not
def pN:=@List.getElem?_replicate
def xu:=@Option.bind_eq_some_iff
def C9:=@PySem.F.entry_tuple_add
def Dc:=@F.plain_set_update_loop
def si:=@PySem.F.plainAttrs_list
def nj:=@wpAny_callSpecial?_slot
def nk:=@List.take_of_length_le
def Dd:=@PySem.F.slot_tuple_add
def ku:=@Option.map_eq_some_iff
def cD:=@Heap.get?_push_of_some
def cL:=@List.getElem?_set_self
def De:=@Heap.get?_update_other
def xw:=@Nat.le_of_ble_eq_true
def dZ:=@List.mem_append_right
def pO:=@List.getElem?_eq_none
def Df:=@List.length_replicate
def xx:=@Heap.get?_update_self
def Dg:=@Obj.isFreed_of_fields
def xy:=@List.perm_append_comm
def ig:=@Array.getElem?_toList
def xA:=@List.take_append_drop
def kx:=@Array.toList_extract
def sj:=@List.pairwise_append
def Dh:=@List.mem_iff_getElem
def cn:=@List.mem_cons_of_mem
def Di:=@List.mem_of_mem_take
def kz:=@List.mem_append_left
def Dj:=@Bool.and_eq_true_iff
def Dl:=@Around.under_plainId
def cQ:=@List.mem_of_getElem?
def b9:=@List.getElem?_set_ne
def sk:=@List.map_congr_left
def pP:=@Heap.SameBut.update
def Dm:=@List.length_flatMap
def eJ:=@PySem.mem_of_lookup
def su:=@beq_eq_false_iff_ne
def jP:=@Array.toList_append
def sv:=@List.getElem?_range
def d3:=@Heap.get?_push_size
def xB:=@Int.toNat_of_nonneg
def Dn:=@List.filterMap_cons
def dw:=@Array.length_toList
def xC:=@Array.size_extract
def xD:=@List.mem_filterMap
def kA:=@Nat.lt_of_le_of_lt
def pQ:=@Obj.data_mapFields
def cq:=@List.mem_cons_self
def sx:=@Int.emod_lt_of_pos
def nq:=@wpAny_Call_Name_kw
def cW:=@List.mem_singleton
def dy:=@Nat.lt_of_lt_of_le
def xE:=@List.pairwise_cons
def bU:=@List.length_append
def Dp:=@List.Pairwise.drop
def je:=@Bool.false_ne_true
def xF:=@List.getElem?_drop
def sy:=@Bool.false_eq_true
def xG:=@List.take_add_one
def kB:=@decide_eq_true_eq
def pS:=@List.length_range
def xH:=@Nat.lt_succ_of_lt
def lA:=@wpAny_setState_of
def Dq:=@wpAny_pyIter_list
def Dr:=@Option.isSome_map
def xJ:=@List.reverse_cons
def jQ:=@wpAny_newObj_type
def xK:=@Bool.not_eq_true'
def d8:=@List.append_assoc
def Ds:=@List.reverse_perm
def bJ:=@List.size_toArray
def sE:=@Classical.not_not
def nr:=@Array.toList_push
def gM:=@Int.toNat_natCast
def Dt:=@PassesOwn.leaving
def cu:=@List.getElem?_map
def lB:=@List.flatMap_cons
def jR:=@of_decide_eq_true
def Du:=@Obj.cls_mapFields
def kC:=@wpAny_truthy_bool
def jS:=@List.map_inj_left
def aY:=@Option.bind_some
def Dv:=@Heap.size_update
def sG:=@Bool.not_eq_true
def Dw:=@wpAny_isInstance
def kD:=@List.length_take
def eY:=@List.not_mem_nil
def gN:=@List.mem_flatMap
def Dx:=@Option.getD_none
def lC:=@List.length_drop
def xM:=@List.mem_reverse
def Dy:=@Nat.max_eq_right
def Dz:=@Nat.le_of_not_lt
def aZ:=@Bool.and_eq_true
def DA:=@wpAny_askSetting
def pT:=@beq_self_eq_true
def lD:=@Around.in1_units
def xN:=@List.getElem_mem
def bA:=@List.length_cons
def DB:=@Nat.lt_succ_self
def jT:=@List.lookup_cons
def gu:=@List.all_eq_true
def sH:=@List.drop_length
def DC:=@noFill_tuple_add
def jf:=@wpAny_call_entry
def DD:=@Nat.min_eq_right
def iO:=@List.nil_append
def jg:=@List.mem_filter
def pU:=@Option.map_some
def jU:=@List.nodup_cons
def bW:=@Option.some.inj
def DE:=@Nat.not_lt_zero
def xO:=@List.of_mem_zip
def aE:=@List.length_map
def iP:=@List.append_nil
def kE:=@List.length_nil
def pV:=@List.find?_cons
def c8:=@List.map_append
def eZ:=@decide_eq_false
def c9:=@List.mem_append
def lE:=@Int.emod_nonneg
def DF:=@Nat.min_eq_left
def nt:=@wpAny_passesOwn
def kG:=@List.length_set
def xP:=@codeAny_builtin
def xQ:=@wpAny_execs_nil
def DG:=@wpAny_ite_split
def sJ:=@wpAny_setField
def d9:=@List.mem_range
def sL:=@Heap.size_push
def dm:=@decide_eq_true
def xT:=@List.nodup_nil
def xU:=@wpAny_attempt
def bB:=@List.mem_cons
def jV:=@List.all_cons
def lF:=@Prod.mk.injEq
def jh:=@Nat.lt_irrefl
def xV:=@Paired.length
def jW:=@wpAny_holding
def bK:=@List.map_cons
def nu:=@List.any_cons
def fV:=@Nat.zero_add
def cX:=@Nat.ne_of_lt
def sM:=@Nat.ne_of_gt
def nv:=@Nat.le_of_eq
def ny:=@Int.le_of_lt
def e9:=@wpS_forRange
def nz:=@Nat.le_of_lt
def xW:=@wpAny_typeOf
def cz:=@Nat.le_trans
def xX:=@Nat.add_zero
def bX:=@Heap.lt_size
def lG:=@Int.zero_add
def eK:=@List.map_map
def sN:=@List.map_nil
def nA:=@codeAny_mono
def jX:=@Int.le_trans
def bF:=@List.mem_map
def nC:=@Int.le_refl
def sQ:=@Nat.le_succ
def gO:=@Nat.zero_le
def aV:=@Nat.le_refl
def lH:=@wpAny_field
def xY:=@IsRange.new
def ij:=@wpS_modify
def iQ:=@wpAny_rule
def aJ:=@wpAny_pure
def pW:=@call_meets
def au:=@wpAny_bind
def bN:=@beq_iff_eq
def lI:=@wpAny_mono
def b6:=@eq_of_beq
def di:=@congrArg
def fg:=@or_false
def fj:=@wpS_mono
def aC:=@wpS_bind
def lJ:=@wpS_lift
def kH:=@if_false
def aK:=@wpS_pure
def kJ:=@if_true
def fW:=@wpS_get
def eP:=@Ne.symm
abbrev cR:=Value->Shared->Prop
abbrev ee:=Str->Option Value
abbrev cj:=List Value
abbrev nE:=Option Value
abbrev ak:=PySem.W.Frag
abbrev av:=PySem.Shared
abbrev ai:=PySem.Value
abbrev af:=PySem.Addr
abbrev ao:=PySem.Expr
abbrev aG:=PySem.Stmt
abbrev aW:=PySem.World
abbrev bR:=PySem.Around
abbrev bG:=PySem.Program
abbrev er:=PySem.FuncData
end
namespace nZ
end nZ
section
namespace L2
open PySem PySem.Spec PyProof.Rows
abbrev cC:=Sum Int Str
inductive V where
  | df | bl (b:Bool) | int (i:Int) | str (x:Str) | WD (b:Array UInt8) | flt (b:UInt64) | ref (a:af) | ty (n:String)
  deriving DecidableEq
def RelV:V->ai->Prop
  | .df,u=>u=Value.none
  | .bl b,u=>u=Value.bool b
  | .int i,u=>∃t,u=Value.int i t
  | .str x,u=>∃t,u=Value.str x t
  | .WD b,u=>∃t,u=Value.bytes b t
  | .flt b,u=>∃t,u=Value.float b t
  | .ref a,u=>u=Value.ref a
  | .ty n,u=>u=Value.type n
abbrev Vals:List V->cj->Prop:=Paired RelV
inductive HO where
  /-- a list -/
  | aq (xs:List V)
  /-- a tuple (never Z1) -/
  | aA (xs:List V)
  /-- a dict WE keys are ints and WG;one WE keys are tuples of ints and WG (RC empty one is af4) -/
  | dK (kvs:List (cC×V)) | dT (xs:List (List cC×af×ai))
  /-- a set of ints: bg Z2,bg size -/
  | set (S:Int->Bool) (n:Nat)
  /-- an instance of RC class at C,bg dict at dx,bg SW -/
  | SX (C dx:af) (fs:List (Str×V))
  /-- RC dict of RC instance at x -/
  | own (x:af)
  /-- RC dict of an Wa -/
  | xd (fs:List (Str×V))
  /-- a bound method,f of x -/
  | met (f x:af)
  /-- a range Kg lo,lo+1,.. below hi -/
  | rng (lo hi:Int)
  /-- a WH af5 is aeK to RC Kg (RC abE;a dict while a loop aeL it): af6,never written while it is so -/
  | nF (o:Obj) (u:HO)
  /-- a code WI table -/
  | Af (q:Str)
  /-- any other WH,by what is true of bg one Kg (a def of aeM own: af7 a S n:=HO.ext fun h=>..) -/
  | ext (φ:Heap->Prop)
abbrev Hp:=af->Option HO
def Rd(H:Hp)(a:af)(u:HO):Prop:=H a=some u\/∃o,H a=some (.nF o u)
def eE:List Str:=["arrivals","empties","needs","held"]
def jY(K:ak)(H:Hp)(a:af)(xs:List V):Prop :=
  Rd H a (.aA xs) \/
    ∃(o:Obj) (bg:Array ai) (n:Nat),K.lookup a=some o/\o.cls=.type "tuple"/\o.data=.seq bg n/\bg.size<=sizeLine/\Vals xs bg.toList
def rG(K:ak)(H:Hp)(a:af)(xs:List V):Prop :=
  Rd H a (.aq xs)\/∃(bg:cj) (n:Nat),K.lookup a=some {cls:=.type "list",data:=.seq bg.toArray n}/\bg.length<=sizeLine/\Vals xs bg
structure Wb (K:ak) (C:af):Prop where
  pg:W.plainGet K C Str.empty=true
  hd:W.hasDictIn K C=true
  po:W.plainOver K C=true
  sa:W.findIn K (.ref C) "__setattr__"=some (some (.builtin "object.__setattr__"))
def pX(K:ak)(C:af)(f:Str):Prop:=W.findIn K (.ref C) f=some none
section
variable {X:Cx} {CX:FJ} {k:Nat} {f C:af} {fd:er} {ps:List Str} {sp:Sp} {Oc:List V} {ds:cj} {E:XK} {x m:Str} {p pos HC:Pos} {e o:ao} {es:List ao} {ta:TE} {t:TA}
structure Mk (K:ak) (C f:af):Prop where
  makes:W.makesIn K C=true
  init:W.findIn K (.ref C) "__init__"=some (some (.ref f))
  fn:W.isFn K (.ref f)=true
  kp:W.keepIn K (.ref C)=true
end
structure ez (N P:List Str) (sc:Scope):Prop where
  kind:sc.kind=.function
  co:sc.isCoroutine=false
  gen:sc.isGenerator=false
  nd:N.Nodup
  pre:N.take P.length=P
  par:∀x∈P,sc.names.lookup x=some .local\/sc.names.lookup x=some .cell
  nofree:∀y∈sc.names,y.2≠.free
def jD(s:aG):Arguments:=match s with
  | .FunctionDef _ a _ _ _ _ _ _ _ _=>a
  | _=>{posonlyargs:=[],args:=[],vararg:=none,kwonlyargs:=[],kw_defaults:=[],kwarg:=none,defaults:=[]}
def dH(s:aG):List aG:=match s with
  | .FunctionDef _ _ b _ _ _ _ _ _ _=>b
  | _=>[]
noncomputable def aO(s:aG):Scope:=match s with
  | .FunctionDef _ _ _ _ _ _ sc _ _ _=>sc
  | _=>{kind:=.function,names:=[],isGenerator:=false,isCoroutine:=false}
structure DH (K:ak) (x qual:Str) (st:aG) (f:af) (fd:er):Prop where
  ex:∃(oc:ai) (od:Option af) (kV doc pm:ai) (an:Option af) (dR ct:ai) (vp:Array nE),
    fd=W.fnOf x qual (jD st) (dH st) (aO st) .none kV doc pm an dR ct/\K.lookup f=some ⟨oc,od,.func fd,vp⟩/\W.codeIn K dR qual=true
  kp:W.keepIn K (.ref f)=true
section
variable {P:bG} {w:aW} {K:ak} {mg:ee} {base:Heap}
theorem Kh{x qual:Str}{st:aG}{f:af}{oc:ai}{od an:Option af}{vp:Array nE}{kV doc pm dR ct:ai}(l:K.lookup f=some ⟨oc,od,.func (W.fnOf x qual (jD st) (dH st) (aO st) .none kV doc pm an dR ct),vp⟩)
    (c:W.codeIn K dR qual=true) (k:W.keepIn K (.ref f)=true):DH K x qual st f (W.fnOf x qual (jD st) (dH st) (aO st) .none kV doc pm an dR ct):=⟨⟨oc,od,kV,doc,pm,an,dR,ct,vp,rfl,l,c⟩,k⟩
end
end L2
namespace L2.PL
open PySem PySem.Spec PyProof.Rows
inductive PV where
 | df | bl (b:Bool) | int (i:Int) | str (x:Str) | aA (xs:List PV) | aq (xs:List PV)
mutual
def dB(K:ak)(F:Hp):PV->V->Prop
 | .df,v=>v=.df
 | .bl b,v=>v=.bl b
 | .int i,v=>v=.int i
 | .str x,v=>v=.str x
 | .aA ps,v=>∃a vs,v=.ref a/\jY K F a vs/\bC K F ps vs
 | .aq ps,v=>∃a vs,v=.ref a/\rG K F a vs/\bC K F ps vs
def bC(K:ak)(F:Hp):List PV->List V->Prop
 | [],vs=>vs=[]
 | p::ps,vs=>∃v r,vs=v::r/\dB K F p v/\bC K F ps r
end
section
variable {K:ak} {F F' H H':Hp}
theorem bC.nil:bC K F [] []:=by simp[bC]
theorem bC.cons{p:PV}{ps:List PV}{v:V}{vs:List V}(h:dB K F p v)(t:bC K F ps vs):bC K F (p::ps) (v::vs):=by
 simp only[bC];exact⟨v,vs,rfl,h,t⟩
theorem dP{v:V}:dB K F .df v↔v=.df:=by simp only[dB]
theorem cb{b:Bool}{v:V}:dB K F (.bl b) v↔v=.bl b:=by simp only[dB]
theorem aN{i:Int}{v:V}:dB K F (.int i) v↔v=.int i:=by simp only[dB]
theorem cS{i:Str}{v:V}:dB K F (.str i) v↔v=.str i:=by simp only[dB]
theorem bY{ps:List PV}{v:V}:dB K F (.aA ps) v↔∃a vs,v=.ref a/\jY K F a vs/\bC K F ps vs:=by simp only[dB]
end
def ClsAt(K:ak)(C:Str)(cls:ai):Prop:=W.nsIn K mainGlobals C=some (some cls)
section
variable {X:Cx} {H₀ ae:Hp}
def Ki:cj:=[.type "ValueError",.type "Exception",.type "BaseException",.type "object"]
structure abF (K:ak) (C:af):Prop where
 ga:W.findIn K (.ref C) "__getattribute__"=some (some (.builtin "BaseException.__getattribute__"))
 noHook:W.findIn K (.ref C) "__getattr__"=some none
 cl:W.findIn K (.ref C) "__class__"=some (some (.builtin "object.__class__"))
 get:W.specialIn K (.builtin "object.__class__") "__get__"=some (some (.builtin "getset_descriptor.__get__"))
 takes:W.takesIn K (.builtin "object.__class__")=some true
 obj:W.mroIn K C (.type "object")=some true
 af8:W.mroIn K C (.type "BaseException")=some true
def vR(K:ak)(C:Str):Prop:=∃Ca,ClsAt K C (.ref Ca)/\W.excIn K Ca Ki "ValueError.__new__"=true/\abF K Ca
end
structure Pg where
 defs:List (Str×aG)
 cons:List (Str×PV)
 eQ:List Str
 exc:List Str:=[]
 sub:List ((Str×Str)×Bool):=[]
 tabs:List (Str×List (Str×Str)):=[]
 own:List (Str×List Str):=[]
 bO:List Str:=[]
 obs:List (Str×List Str):=[]
 cls:List (Str×aG):=[]
 flds:List Str:=[]
 gB:List (Str×List (Str×PV)):=[]
 n6:List Str:=[]
 RD:List (Str×List Str):=[]
def params(st:aG):List Str:=(jD st).args.map fun a=>a.arg
def WJ:NameKind->Bool
 | .local=>true
 | .cell=>true
 | _=>false
def dC(st:aG):List Str:=params st++((aO st).names.filter fun y=>WJ y.2&&!(params st).contains y.1).map fun y=>y.1
structure Kj (K:ak) (x:Str) (st:aG):Prop where
 ex:∃f fd,W.nsIn K mainGlobals x=some (some (.ref f))/\DH K x x st f fd/\∀us:cj,us.length=(params st).length->bindArgs fd ⟨us,[]⟩=pure ((params st).zip us)
 sc:ez (dC st) (params st) (aO st)
def DI(K:ak)(C D:Str)(b:Bool):Prop:=∃cls dv,ClsAt K C cls/\(W.nsIn K mainGlobals D=some (some dv)\/(W.nsIn K mainGlobals D=some none/\bootBuiltins D=some dv/\D≠"__name__"))/\((∃Da,dv=.ref Da)\/∃T,dv=.type T)/\W.exmOne K cls dv=some b/\W.kitOne K cls dv=some b
theorem Kk{K:ak}{C D:Str}{b:Bool}{cls:ai}{Da:af}(a:W.nsIn K mainGlobals C=some (some cls))(d:W.nsIn K mainGlobals D=some (some (.ref Da)))(e:W.exmOne K cls (.ref Da)=some b)(k:W.kitOne K cls (.ref Da)=some b):DI K C D b:=⟨cls,_,a,.inl d,.inl ⟨_,rfl⟩,e,k⟩
theorem Kl{K:ak}{C D:Str}{b:Bool}{cls:ai}{T:String}(a:W.nsIn K mainGlobals C=some (some cls))(d:W.nsIn K mainGlobals D=some none)(v:bootBuiltins D=some (.type T))(n:D≠"__name__")(e:W.exmOne K cls (.type T)=some b)(k:W.kitOne K cls (.type T)=some b):DI K C D b:=⟨cls,_,a,.inr ⟨d,v,n⟩,.inr ⟨_,rfl⟩,e,k⟩
theorem WK{K:ak}{C:Str}{Ca:af}(a:W.nsIn K mainGlobals C=some (some (.ref Ca)))(q:W.excIn K Ca Ki "ValueError.__new__"=true)(k1:W.findIn K (.ref Ca) "__getattribute__"=some (some (.builtin "BaseException.__getattribute__")))(k2:W.findIn K (.ref Ca) "__getattr__"=some none)
  (k3:W.findIn K (.ref Ca) "__class__"=some (some (.builtin "object.__class__"))) (k4:W.specialIn K (.builtin "object.__class__") "__get__"=some (some (.builtin "getset_descriptor.__get__"))) (k5:W.takesIn K (.builtin "object.__class__")=some true) (k6:W.mroIn K Ca (.type "object")=some true) (k7:W.mroIn K Ca (.type "BaseException")=some true):vR K C :=
 ⟨Ca,a,q,⟨k1,k2,k3,k4,k5,k6,k7⟩⟩
def HE(K:ak)(P:Params)(T:Str)(ck:List (Str×Str)):Prop :=
 ∃a es n,W.nsIn K mainGlobals T=some (some (.ref a))/\K.lookup a=some ⟨.type "dict",none,.dict es n,#[]⟩/\W.KeysLit P es.toList/\∀d∈ck,∃f,W.nsIn K a d.1=some (some (.ref f))/\W.nsIn K mainGlobals d.2=some (some (.ref f))
theorem abG{K:ak}{P:Params}{T:Str}{ck:List (Str×Str)}{a:af}{es:Array DictEntry}{n:Nat}(h1:W.nsIn K mainGlobals T=some (some (.ref a)))(h2:K.lookup a=some ⟨.type "dict",none,.dict es n,#[]⟩)(h3:W.KeysLit P es.toList)
  (h4:∀d∈ck,∃f,W.nsIn K a d.1=some (some (.ref f))/\W.nsIn K mainGlobals d.2=some (some (.ref f))):HE K P T ck:=⟨a,es,n,h1,h2,h3,h4⟩
noncomputable def flatIs:List PV->cj->Bool
 | [],[]=>true
 | .int i::r,.int j _::q=>(i==j)&&flatIs r q
 | .str x::r,.str y _::q=>(x==y)&&flatIs r q
 | .bl a::r,.bool b::q=>(a==b)&&flatIs r q
 | .df::r,.none::q=>flatIs r q
 | _,_=>false
theorem oe{K:ak}:∀{ps:List PV} {us:cj},flatIs ps us=true->∃vs,Vals vs us/\∀F,bC K F ps vs
 | [],[],_=>⟨[],.nil,fun _=>.nil⟩
 | .int i::r,.int j t::q,h=>by
  simp only[flatIs,aZ,bN]at h;obtain⟨vs,h1,h2⟩:=oe h.2;exact⟨.int i::vs,.cons ⟨t,by rw[h.1]⟩ h1,fun F=>.cons (aN.mpr rfl) (h2 F)⟩
 | .str x::r,.str y t::q,h=>by
  simp only[flatIs,aZ]at h;have e:=b6 h.1;obtain⟨vs,h1,h2⟩:=oe h.2;exact⟨.str x::vs,.cons ⟨t,by rw[e]⟩ h1,fun F=>.cons (cS.mpr rfl) (h2 F)⟩
 | .bl a::r,.bool b::q,h=>by
  simp only[flatIs,aZ,bN]at h;obtain⟨vs,h1,h2⟩:=oe h.2;exact⟨.bl a::vs,.cons (by rw[h.1];rfl) h1,fun F=>.cons (cb.mpr rfl) (h2 F)⟩
 | .df::r,.none::q,h=>by
  simp only[flatIs]at h;obtain⟨vs,h1,h2⟩:=oe h;exact⟨.df::vs,.cons rfl h1,fun F=>.cons (dP.mpr rfl) (h2 F)⟩
theorem Od{K:ak}{g:af}{x:Str}{a:af}{ps:List PV}{us:cj}{n:Nat}{dd:Option af}{sl:Array nE}(h1:W.nsIn K g x=some (some (.ref a)))(h2:K.lookup a=some ⟨.type "tuple",dd,.seq us.toArray n,sl⟩)(h3:flatIs ps us=true)(h4:us.length<=100) :
  ∃u v,W.nsIn K g x=some (some u)/\RelV v u/\∀F,dB K F (.aA ps) v:=by
 obtain⟨vs,r,b⟩:=oe (K:=K) h3;exact⟨_,.ref a,h1,rfl,fun F=>bY.mpr ⟨a,vs,rfl,.inr ⟨_,us.toArray,n,h2,rfl,rfl,by rw[bJ];exact cz h4 (by decide),by simpa using r⟩,b F⟩⟩
theorem Oe{K:ak}{g:af}{x:Str}{y:Str}{t:Tok}(a:W.nsIn K g x=some (some (.str y t))):∃u v,W.nsIn K g x=some (some u)/\RelV v u/\∀F,dB K F (.str y) v:=⟨_,.str y,a,⟨t,rfl⟩,fun F=>cS.mpr rfl⟩
def SY(K:ak)(C:Str)(st:aG)(flds:List Str):Prop:=∃Ca f fd,W.nsIn K mainGlobals C=some (some (.ref Ca))/\Mk K Ca f/\Wb K Ca/\(∀g∈flds,pX K Ca g)/\DH K "__init__" (C++".__init__") st f fd/\(∀us:cj,us.length=(params st).length->bindArgs fd ⟨us,[]⟩=pure ((params st).zip us))/\ez (dC st) (params st) (aO st)
def Ag(K:ak)(P:Params)(T:Str)(ck:List (Str×PV)):Prop :=
 ∃a es n,W.nsIn K mainGlobals T=some (some (.ref a))/\K.lookup a=some ⟨.type "dict",none,.dict es n,#[]⟩/\W.KeysLit P es.toList/\∀d∈ck,∃u v,W.nsIn K a d.1=some (some u)/\RelV v u/\∀F,dB K F d.2 v
def S0(K:ak)(x:Str):Prop:=x∈eE/\∃c T,W.tabIn K x=some (c,T)/\W.codeHdIn K c T=true
def Km(K:ak):Prop:=∃bm o,W.nsIn K mainGlobals "__builtins__"=some (some (.ref bm))/\bm≠builtinsNs/\bm≠mainGlobals/\K.lookup bm=some o/\o.cls=.type "module"/\o.dict=some builtinsNs/\o.data=.plain
structure og (K:ak) (h:Heap):Prop where
 at_:∀x∈eE,∀c T,W.tabIn K x=some (c,T)->W.codeHdIn K c T=true/\h.get? T=some {cls:=.none,data:=.fields #[]}/\K.lookup T=none
 nd:(eE.filterMap fun x=>(W.tabIn K x).map (·.2)).Nodup
theorem og.keeps{K:ak}{h h':Heap}(t:og K h)(k:∀b o,h.get? b=some o->h'.get? b=some o):og K h':=⟨fun x hx c T e=>let ⟨h1,h2,h3⟩:=t.at_ x hx c T e;⟨h1,k _ _ h2,h3⟩,t.nd⟩
theorem Of{K:ak}{g:af}{x:Str}{i:Int}{t:Tok}(a:W.nsIn K g x=some (some (.int i t))):∃u v,W.nsIn K g x=some (some u)/\RelV v u/\∀F,dB K F (.int i) v:=⟨_,.int i,a,⟨t,rfl⟩,fun F=>aN.mpr rfl⟩
structure Kn (P:Pg) (w:aW) (K:ak):Prop where
 hd:∀d∈P.defs,Kj K d.1 d.2
 hc:∀d∈P.cons,∃u v,W.nsIn K mainGlobals d.1=some (some u)/\RelV v u/\∀F,dB K F d.2 v
 hb:∀x∈P.eQ,W.nsIn K mainGlobals x=some none
 he:∀C∈P.exc,vR K C
 hs:∀d∈P.sub,DI K d.1.1 d.1.2 d.2
 ht:∀d∈P.tabs,HE K w.params d.1 d.2
 hcl:∀d∈P.cls,SY K d.1 d.2 P.flds
 hct:∀d∈P.gB,Ag K w.params d.1 d.2
 hlm:∀x∈P.n6,S0 K x
 hbm:P.n6≠[]->Km K
noncomputable def Ko:ai->List af
 | .ref a=>[a]
 | _=>[]
def FK:Option Obj->List af
 | some ⟨_,_,.dict es _,_⟩=>es.toList.flatMap fun e=>Ko e.val
 | some ⟨_,_,.func fd,_⟩=>Ko fd.code
 | some ⟨_,_,.cls cd,_⟩=>cd.ns::cd.mro.flatMap Ko
 | _=>[]
def fragOf(h:Heap):List af->ak
 | []=>[]
 | a::r=>match h.get? a with
  | some o=>(a,o)::fragOf h r
  | none=>fragOf h r
theorem pY(h:Heap):∀as:List af,(fragOf h as).In h
 | []=>fun _ _ e=>by cases e
 | a::r=>fun b o e=>by
  unfold fragOf at e;split at e
  ·rename_i o' ho;rw[jT]at e;cases z:b==a with
   | true =>
    rw[z]at e;cases e;rw[b6 z];exact ho
   | false =>
    rw[z]at e;exact pY h r b o e
  ·exact pY h r b o e
def nsO:Option Obj->List af
 | some ⟨_,_,.cls cd,_⟩=>[cd.ns]
 | _=>[]
def abI(h:Heap)(a:af):List af:=a::(FK (h.get? a)++(nsO (h.get? a)).flatMap fun b=>(FK (h.get? b)).flatMap fun c=>c::FK (h.get? c))
def fY(h:Heap):ak:=fragOf h (mainGlobals::(FK (h.get? mainGlobals)).flatMap (abI h))
def chFn(K:ak)(x:Str):Option er:=match W.nsIn K mainGlobals x with
 | some (some (.ref f))=>(match K.lookup f with
  | some ⟨_,_,.func fd,_⟩=>(match W.codeIn K fd.code x with
   | true=>some {fd with kwdefaults:=.none,doc:=.none,pyModule:=.none,annotations:=none,code:=.none,closureTuple:=.none}
   | false=>none)
  | _=>none)
 | _=>none
def oh(x:Str)(st:aG):er:=W.fnOf x x (jD st) (dH st) (aO st) .none .none .none .none none .none .none
theorem Og{K:ak}{x:Str}{st:aG}(h:chFn K x=some (oh x st)):∃f fd,W.nsIn K mainGlobals x=some (some (.ref f))/\DH K x x st f fd:=by
 unfold chFn at h;split at h
 ·rename_i f hf;split at h
  ·rename_i oc od fd vp hl;split at h
   ·rename_i hc;have h:=bW h;obtain⟨a1,a2,a3,a4,a5,a6,a7,a8,a9,a10,a11,a12,a13,a14,a15⟩:=fd;unfold oh at h;simp only[FuncData.mk.injEq]at h;obtain⟨e1,e2,e3,e4,e5,e6,e7,e8,-,-,-,-,-,-,e15⟩:=h;subst e1 e2 e3 e4 e5 e6 e7 e8 e15;exact⟨f,_,hf,Kh hl hc (by unfold W.keepIn;dsimp only;rw[hl])⟩
   ·cases h
  ·cases h
 ·cases h
def vS(K:ak)(g:af)(d:Str×PV):Bool:=match W.nsIn K g d.1 with
 | some (some (.int j _))=>(match d.2 with | .int i=>i==j | _=>false)
 | some (some (.str y _))=>(match d.2 with | .str x=>x==y | _=>false)
 | some (some (.ref a))=>(match K.lookup a with
  | some ⟨.type t,_,.seq us _,_⟩=>(match d.2 with | .aA ps=>(t=="tuple")&&(flatIs ps us.toList&&decide (us.toList.length<=100)) | _=>false)
  | _=>false)
 | _=>false
theorem Ah{K:ak}{g:af}{x:Str}{p:PV}(h:vS K g (x,p)=true):∃u v,W.nsIn K g x=some (some u)/\RelV v u/\∀F,dB K F p v:=by
 unfold vS at h;dsimp only at h
 split at h
 ·rename_i j t hn;split at h
  ·rename_i i;obtain rfl:=b6 h;exact Of hn
  ·cases h
 ·rename_i y t hn;split at h
  ·rename_i i;obtain rfl:=b6 h;exact Oe hn
  ·cases h
 ·rename_i a hn;split at h
  ·rename_i t dd us n sl hl;split at h
   ·rename_i ps;rw[aZ,aZ]at h;obtain⟨h1,h2,h3⟩:=h;obtain rfl:=b6 h1;obtain⟨us⟩:=us;exact Od hn hl h2 (jR h3)
   ·cases h
  ·cases h
 ·cases h
def Ai(K:ak)(x:Str):Bool:=match W.nsIn K mainGlobals x with
 | some none=>true
 | _=>false
theorem Kp{K:ak}{x:Str}(h:Ai K x=true):W.nsIn K mainGlobals x=some none:=by
 unfold Ai at h;split at h
 ·assumption
 ·cases h
abbrev OV:=Option nE
def Aj(K:ak)(C:Str):Option (Bool×OV×OV×OV×OV×Option Bool×Option Bool×Option Bool):=match W.nsIn K mainGlobals C with
 | some (some (.ref a))=>some (W.excIn K a Ki "ValueError.__new__",W.findIn K (.ref a) "__getattribute__",W.findIn K (.ref a) "__getattr__",W.findIn K (.ref a) "__class__",W.specialIn K (.builtin "object.__class__") "__get__",W.takesIn K (.builtin "object.__class__"),W.mroIn K a (.type "object"),W.mroIn K a (.type "BaseException"))
 | _=>none
def sS:Option (Bool×OV×OV×OV×OV×Option Bool×Option Bool×Option Bool):=some (true,some (some (.builtin "BaseException.__getattribute__")),some none,some (some (.builtin "object.__class__")),some (some (.builtin "getset_descriptor.__get__")),some true,some true,some true)
theorem Kq{K:ak}{C:Str}(h:Aj K C=sS):vR K C:=by
 unfold Aj sS at h;split at h
 ·rename_i a hn;have h:=bW h;simp only[lF]at h;obtain⟨h1,h2,h3,h4,h5,h6,h7,h8⟩:=h;exact WK hn h1 h2 h3 h4 h5 h6 h7 h8
 ·cases h
def Ak(K:ak)(C D:Str):Option (Option Bool×Option Bool):=match W.nsIn K mainGlobals C with
 | some (some cls)=>(match W.nsIn K mainGlobals D with
  | some (some (.ref a))=>some (W.exmOne K cls (.ref a),W.kitOne K cls (.ref a))
  | some none=>(match bootBuiltins D with
   | some (.type T)=>(match decide (D="__name__")with
    | true=>none
    | false=>some (W.exmOne K cls (.type T),W.kitOne K cls (.type T)))
   | _=>none)
  | _=>none)
 | _=>none
theorem Kr{K:ak}{C D:Str}{b:Bool}(h:Ak K C D=some (some b,some b)):DI K C D b:=by
 unfold Ak at h;split at h
 ·rename_i cls hc;split at h
  ·rename_i a hd;have h:=bW h;rw[lF]at h;exact Kk hc hd h.1 h.2
  ·rename_i hd;split at h
   ·rename_i T hT;split at h
    ·cases h
    ·rename_i hD;have h:=bW h;rw[lF]at h;exact Kl hc hd hT (of_decide_eq_false hD) h.1 h.2
   ·cases h
  ·cases h
 ·cases h
def FL(e:DictEntry):Option Str×Int:=(match e.key with
 | .str x _=>some x
 | _=>none,e.hash)
def Ks(K:ak)(a:af)(d:Str×Str):Bool:=match W.nsIn K a d.1,W.nsIn K mainGlobals d.2 with
 | some (some (.ref f)),some (some (.ref g))=>f==g
 | _,_=>false
def Al(K:ak)(T:Str)(ck:List (Str×Str)):Option (ai×Option af×Array nE×List (Option Str×Int)×Bool):=match W.nsIn K mainGlobals T with
 | some (some (.ref a))=>(match K.lookup a with
  | some ⟨c,dd,.dict es _,sl⟩=>some (c,dd,sl,es.toList.map FL,ck.all (Ks K a))
  | _=>none)
 | _=>none
def sT(P:Params)(ck:List (Str×Str)):Option (ai×Option af×Array nE×List (Option Str×Int)×Bool):=some (.type "dict",none,#[],ck.map (fun d=>(some d.1,PyData.keyHash P d.1)),true)
theorem sU{β:Type}{P:Params}:∀{es:List DictEntry} {ck:List (Str×β)},es.map FL=ck.map (fun d=>(some d.1,PyData.keyHash P d.1))->W.KeysLit P es
 | [],_,_=>trivial
 | _::_,[],h=>by cases h
 | e::es,d::ck,h=>by
  rw[bK,bK,List.cons.injEq]at h;obtain⟨h1,h2⟩:=h;refine⟨?_,sU h2⟩;unfold FL at h1;rw[lF]at h1;obtain⟨h3,h4⟩:=h1;split at h3
  ·rename_i x t hk;cases h3;exact⟨_,t,hk,h4⟩
  ·cases h3
theorem Kt{K:ak}{a:af}{d:Str×Str}(h:Ks K a d=true):∃f,W.nsIn K a d.1=some (some (.ref f))/\W.nsIn K mainGlobals d.2=some (some (.ref f)):=by
 unfold Ks at h;split at h
 ·rename_i f g h1 h2;obtain rfl:=b6 h;exact⟨_,h1,h2⟩
 ·cases h
theorem Ku{K:ak}{P:Params}{T:Str}{ck:List (Str×Str)}(h:Al K T ck=sT P ck):HE K P T ck:=by
 unfold Al sT at h;split at h
 ·rename_i a hn;split at h
  ·rename_i c dd es n sl hl;have h:=bW h;simp only[lF]at h;obtain⟨rfl,rfl,rfl,h4,h5⟩:=h;exact abG hn hl (sU h4) fun d hd=>Kt (gu.mp h5 d hd)
  ·cases h
 ·cases h
abbrev Oh:=Option (ai×Option af×Array nE×List (Option Str×Int)×Bool)
def sW(K:ak)(T:Str)(ck:List (Str×PV)):Oh:=match W.nsIn K mainGlobals T with
 | some (some (.ref a))=>(match K.lookup a with
  | some ⟨c,dd,.dict es _,sl⟩=>some (c,dd,sl,es.toList.map FL,ck.all (vS K a))
  | _=>none)
 | _=>none
def oi(P:Params)(ck:List (Str×PV)):Oh:=some (.type "dict",none,#[],ck.map (fun d=>(some d.1,PyData.keyHash P d.1)),true)
theorem HF{K:ak}{P:Params}{T:Str}{ck:List (Str×PV)}(h:sW K T ck=oi P ck):Ag K P T ck:=by
 unfold sW oi at h;split at h
 ·rename_i a hn;split at h
  ·rename_i c dd es n sl hl;have h:=bW h;simp only[lF]at h;obtain⟨rfl,rfl,rfl,h4,h5⟩:=h;exact⟨a,es,n,hn,hl,sU h4,fun d hd=>Ah (gu.mp h5 d hd)⟩
  ·cases h
 ·cases h
noncomputable def DJ(K:ak)(f:af)(qual:Str):Option er:=match K.lookup f with
 | some ⟨_,_,.func fd,_⟩=>(match W.codeIn K fd.code qual with
  | true=>some {fd with kwdefaults:=.none,doc:=.none,pyModule:=.none,annotations:=none,code:=.none,closureTuple:=.none}
  | false=>none)
 | _=>none
def Kv(x qual:Str)(st:aG):er:=W.fnOf x qual (jD st) (dH st) (aO st) .none .none .none .none none .none .none
theorem HG{K:ak}{x qual:Str}{st:aG}{f:af}(h:DJ K f qual=some (Kv x qual st)):∃fd,DH K x qual st f fd:=by
 unfold DJ at h;split at h
 ·rename_i oc od fd vp hl;split at h
  ·rename_i hc;have h:=bW h;obtain⟨a1,a2,a3,a4,a5,a6,a7,a8,a9,a10,a11,a12,a13,a14,a15⟩:=fd;unfold Kv at h;simp only[FuncData.mk.injEq]at h;obtain⟨e1,e2,e3,e4,e5,e6,e7,e8,-,-,-,-,-,-,e15⟩:=h;subst e1 e2 e3 e4 e5 e6 e7 e8 e15;exact⟨_,Kh hl hc (by unfold W.keepIn;dsimp only;rw[hl])⟩
  ·cases h
 ·cases h
abbrev S2:=Option (Bool×OV×List OV×Option er)
def Am(K:ak)(flds:List Str)(C:Str):S2:=match W.nsIn K mainGlobals C with
 | some (some (.ref a))=>(match W.findIn K (.ref a) "__init__" with
  | some (some (.ref f))=>some (W.makesIn K a&&(W.isFn K (.ref f)&&(W.keepIn K (.ref a)&&(W.plainGet K a Str.empty&&(W.hasDictIn K a&&W.plainOver K a)))),W.findIn K (.ref a) "__setattr__",flds.map (fun g=>W.findIn K (.ref a) g),DJ K f (C++".__init__"))
  | _=>none)
 | _=>none
def sX(flds:List Str)(C:Str)(st:aG):S2:=some (true,some (some (.builtin "object.__setattr__")),flds.map (fun _=>some none),some (Kv "__init__" (C++".__init__") st))
def xZ:List Str->Bool
 | []=>true
 | x::r=>!r.contains x&&xZ r
theorem vT:∀{l:List Str},xZ l=true->l.Nodup
 | [],_=>xT
 | x::r,h=>by
  simp only[xZ,aZ,xK,List.contains_eq_mem,C8]at h;exact jU.mpr ⟨h.1,vT h.2⟩
def abK:Option NameKind->Bool
 | some .local=>true
 | some .cell=>true
 | _=>false
def WL:NameKind->Bool
 | .free=>false
 | _=>true
def WM:ScopeKind->Bool
 | .function=>true
 | _=>false
def Oi(st:aG):Bool:=WM (aO st).kind&&(!(aO st).isCoroutine&&(!(aO st).isGenerator&&(xZ (dC st)&&((params st).all (fun x=>abK ((aO st).names.lookup x))&&(aO st).names.all fun y=>WL y.2))))
theorem Kw{st:aG}(h:Oi st=true):ez (dC st) (params st) (aO st):=by
 unfold Oi at h;rw[aZ,aZ,aZ,aZ,aZ]at h;obtain⟨h1,h2,h3,h4,h5,h6⟩:=h;refine⟨?_,by simpa using h2,by simpa using h3,vT h4,?_,fun x hx=>?_,fun y hy=>?_⟩
 ·cases z:(aO st).kind<;>rw[z]at h1<;>first | rfl | cases h1
 ·unfold dC;exact List.take_left
 ·have k:=gu.mp h5 x hx;cases z:(aO st).names.lookup x with
  | none=>rw[z]at k;cases k
  | some b =>
   rw[z]at k;cases b<;>first | exact .inl rfl | exact .inr rfl | cases k
 ·have k:=gu.mp h6 y hy;intro z;rw[z]at k;cases k
def FN(P:Pg):Prop:=∀(kV doc pm:ai) (an:Option af) (dR ct:ai) (u:Nat->ai),
 P.defs.map (fun d=>bindArgs (W.fnOf d.1 d.1 (jD d.2) (dH d.2) (aO d.2) .none kV doc pm an dR ct) ⟨(List.range (params d.2).length).map u,[]⟩)=P.defs.map fun d=>pure ((params d.2).zip ((List.range (params d.2).length).map u))
theorem An{us:cj}{n:Nat}(h:us.length=n):(List.range n).map (fun i=>us.getD i .none)=us:=by
 subst h;apply List.ext_getElem
 ·simp
 ·intro i h1 h2;simp[C4,h2]
theorem S3{K:ak}{x:Str}{st:aG}{f:af}{fd:er}{P:Pg}(hb:FN P)(hd:(x,st)∈P.defs)(F:DH K x x st f fd)(us:cj)(hl:us.length=(params st).length):bindArgs fd ⟨us,[]⟩=pure ((params st).zip us):=by
 obtain⟨oc,od,kV,doc,pm,an,dR,ct,vp,rfl,lk,vU⟩:=F.ex;have k:=jS.mp (hb kV doc pm an dR ct fun i=>us.getD i .none) (x,st) hd
 dsimp only at k
 rw[An hl]at k;exact k
def Oj(P:Pg):Prop:=∀(kV doc pm:ai) (an:Option af) (dR ct:ai) (u:Nat->ai),
 P.cls.map (fun d=>bindArgs (W.fnOf "__init__" (d.1++".__init__") (jD d.2) (dH d.2) (aO d.2) .none kV doc pm an dR ct) ⟨(List.range (params d.2).length).map u,[]⟩)=P.cls.map fun d=>pure ((params d.2).zip ((List.range (params d.2).length).map u))
theorem Kx{K:ak}{P:Pg}{C:Str}{st:aG}(S4:Oi st=true)(hb:Oj P)(hd:(C,st)∈P.cls)(h:Am K P.flds C=sX P.flds C st):SY K C st P.flds:=by
 unfold Am sX at h;split at h
 ·rename_i a hn;split at h
  ·rename_i f hf;have h:=bW h;simp only[lF,aZ]at h;obtain⟨⟨h1,h2,h3,h4,h5,h6⟩,h7,h8,h9⟩:=h;obtain⟨fd,F⟩:=HG h9;refine⟨a,f,fd,hn,⟨h1,hf,h2,h3⟩,⟨h4,h5,h6,h7⟩,fun g hg=>jS.mp h8 g hg,F,fun us hl=>?_,Kw S4⟩
   obtain⟨oc,od,kV,doc,pm,an,dR,ct,vp,rfl,lk,vU⟩:=F.ex;have k:=jS.mp (hb kV doc pm an dR ct fun i=>us.getD i .none) (C,st) hd
   dsimp only at k
   rw[An hl]at k;exact k
  ·cases h
 ·cases h
abbrev S5:=List (Option er)×List (Option er)×Bool×List (Option (Bool×OV×OV×OV×OV×Option Bool×Option Bool×Option Bool))×List (Option (Option Bool×Option Bool))×List Oh×List S2×List Oh
def DK(K:ak)(h:Heap)(x:Str):Bool:=match W.tabIn K x with
 | none=>true
 | some (c,T)=>W.codeHdIn K c T&&((K.lookup T).isNone&&(match h.get? T with
  | some ⟨.none,none,.fields vs,sl⟩=>vs.isEmpty&&sl.isEmpty
  | _=>false))
def S6(K:ak):Bool:=match W.nsIn K mainGlobals "__builtins__" with
 | some (some (.ref bm))=>!(bm==builtinsNs)&&(!(bm==mainGlobals)&&(match K.lookup bm with
  | some ⟨.type m,some d,.plain,_⟩=>(m=="module")&&(d==builtinsNs)
  | _=>false))
 | _=>false
def Ao(P:Pg)(K:ak)(h:Heap):Bool:=eE.all (DK K h)&&(decide (eE.filterMap fun x=>(W.tabIn K x).map (·.2)).Nodup&&((P.n6.isEmpty || S6 K)&&P.n6.all fun x=>eE.contains x&&(W.tabIn K x).isSome))
theorem vV{K:ak}{h:Heap}{x:Str}{c T:af}(e:DK K h x=true)(t:W.tabIn K x=some (c,T)):W.codeHdIn K c T=true/\h.get? T=some {cls:=.none,data:=.fields #[]}/\K.lookup T=none:=by
 unfold DK at e;rw[t]at e;simp only[aZ]at e;obtain⟨h1,h2,h3⟩:=e;refine⟨h1,?_,by simpa using h2⟩
 split at h3
 ·rename_i vs sl z;rw[aZ]at h3;rw[z];have e1:vs=#[]:=by simpa using h3.1
  have e2:sl=#[]:=by simpa using h3.2
  rw[e1,e2]
 ·cases h3
theorem Ol{K:ak}(e:S6 K=true):Km K:=by
 unfold S6 at e;split at e
 ·rename_i bm hb;simp only[aZ]at e;obtain⟨h1,h2,h3⟩:=e;split at h3
  ·rename_i m d sl z;rw[aZ]at h3;obtain rfl:=b6 h3.1;obtain rfl:=b6 h3.2;exact⟨bm,_,hb,by simpa using h1,by simpa using h2,z,rfl,rfl,rfl⟩
  ·cases h3
 ·cases e
theorem Ky{P:Pg}{K:ak}{h:Heap}(e:Ao P K h=true):og K h/\(∀x∈P.n6,S0 K x)/\(P.n6≠[]->Km K):=by
 unfold Ao at e;simp only[aZ]at e;obtain⟨h1,h2,h3,h4⟩:=e;have all:=gu.mp h1;refine⟨⟨fun x hx c T t=>vV (all x hx) t,jR h2⟩,fun x hx=>?_,fun z=>?_⟩
 ·have:=gu.mp h4 x hx;rw[aZ]at this;have hm:x∈eE:=by simpa using this.1
  cases t:W.tabIn K x with
  | none=>rw[t]at this;cases this.2
  | some cT=>exact⟨hm,cT.1,cT.2,t,(vV (all x hm) t).1⟩
 ·rcases Bool.or_eq_true_iff.mp h3 with y | y
  ·exact absurd (List.isEmpty_iff.mp y) z
  ·exact Ol y
def DL(P:Pg)(K:ak)(hp:Heap):S5:=((P.defs.take 26).map (fun d=>chFn K d.1),(P.defs.drop 26).map (fun d=>chFn K d.1),P.cons.all (vS K mainGlobals)&&(P.eQ.all (Ai K)&&Ao P K hp),P.exc.map (Aj K),P.sub.map (fun d=>Ak K d.1.1 d.1.2),P.tabs.map (fun d=>Al K d.1 d.2),P.cls.map (fun d=>Am K P.flds d.1),P.gB.map fun d=>sW K d.1 d.2)
def DM(P:Pg)(w:aW):S5:=((P.defs.take 26).map (fun d=>some (oh d.1 d.2)),(P.defs.drop 26).map (fun d=>some (oh d.1 d.2)),true,P.exc.map (fun _=>sS),P.sub.map (fun d=>some (some d.2,some d.2)),P.tabs.map (fun d=>sT w.params d.2),P.cls.map (fun d=>sX P.flds d.1 d.2),P.gB.map fun d=>oi w.params d.2)
theorem HH{P:Pg}{w:aW}{K:ak}(S4:P.defs.all (fun d=>Oi d.2)=true)(WN:FN P)(Kz:P.cls.all (fun d=>Oi d.2)=true)(KA:Oj P){hp:Heap}(h:DL P K hp=DM P w):Kn P w K/\og K hp:=by
 unfold DL DM at h;simp only[lF]at h;obtain⟨h1,h0,h2,h3,h4,h5,h6,h7⟩:=h;rw[aZ,aZ]at h2;obtain⟨l1,l2,l3⟩:=Ky h2.2.2;refine⟨⟨fun d hd=>?_,fun d hd=>Ah (gu.mp h2.1 d hd),fun x hx=>Kp (gu.mp h2.2.1 x hx),fun C hC=>Kq (jS.mp h3 C hC),fun d hd=>Kr (jS.mp h4 d hd),fun d hd=>Ku (jS.mp h5 d hd),fun d hd=>Kx (gu.mp Kz d hd) KA hd (jS.mp h6 d hd),fun d hd=>HF (jS.mp h7 d hd),l2,l3⟩,l1⟩
 have hh:chFn K d.1=some (oh d.1 d.2):=by
  have Ap:=hd;rw[<-xA 26 P.defs]at Ap;rcases c9.mp Ap with z | z
  ·exact jS.mp h1 d z
  ·exact jS.mp h0 d z
 obtain⟨f,fd,a,F⟩:=Og hh;exact⟨⟨f,fd,a,F,fun us hl=>S3 WN hd F us hl⟩,Kw (gu.mp S4 d hd)⟩
theorem oj{α β γ:Type}{o:Option α}{f:α->β}{g:α->γ}{a:β}{b:γ}(h1:o.map f=some a)(h2:o.map g=some b):o.map (fun s=>(f s,g s))=some (a,b):=by
 cases o with
 | none=>cases h1
 | some s=>cases h1;cases h2;rfl
def Om(P:Pg)(S4:P.defs.all (fun d=>Oi d.2)=true)(WN:FN P)(Kz:P.cls.all (fun d=>Oi d.2)=true)(KA:Oj P):W.Hook :=
 ⟨S5,fun s=>DL P (fY s.heap) s.heap,fun w=>DM P w,fun w h=>∃K:ak,K.In h/\Kn P w K/\og K h,fun w s e=>⟨_,pY _ _,HH S4 WN Kz KA e⟩,fun _ _ _ ⟨K,a,b,c⟩ k=>⟨K,a.keeps k,b,c.keeps k⟩⟩
def om(p:bG)(row:String)(b:Bool)(N:Nat)(w:aW):Option av:=(W.fencedOpening treeTable p w N).bind fun s₀=>W.topFrom treeTable p (w.withFollow row b) N s₀
theorem HI{p q:bG}{loose:List Str}{Xt:av->Bool}{α:Type}{Yf:av->α}{Ya:aW->α}{N:Nat}{g0:Bool}(row:String)
  (h1:∀w,(om p row false N w).map (W.openSeen q loose (importedModules p.main.body) Xt g0)=some (W.openGood q loose)) (h2:∀w,(om p row true N w).map (W.openSeen q loose (importedModules p.main.body) Xt g0)=some (W.openGood q loose))
  (h3:∀w,(om p row false N w).map Yf=some (Ya (w.withFollow row false))) (h4:∀w,(om p row true N w).map Yf=some (Ya (w.withFollow row true))):W.LeftO p q loose Xt Yf Ya N g0:=by
 refine W.LeftO.of_split row fun w=>?_
 obtain⟨sA,a1,a2⟩:=ku.mp (h1 w);obtain⟨sB,b1,b2⟩:=ku.mp (h2 w);obtain⟨sC,c1,c2⟩:=ku.mp (h3 w);obtain⟨sD,d1,d2⟩:=ku.mp (h4 w);rw[a1]at c1;rw[b1]at d1;cases c1;cases d1;obtain⟨s0,f0,tA⟩:=xu.mp a1;obtain⟨s1,f1,tB⟩:=xu.mp b1;rw[f0]at f1;cases f1;rw[f0,pU,tA,tB,pU,pU,a2,b2,c2,d2]
end L2.PL
namespace cE
open PySem L2 L2.PL nZ
noncomputable def top(i:Nat):aG:=PySem.Challenge.pw_lendrule_k22_whole_why_it_is_empty.main.body.getD i (.Pass ⟨0,0,0,0⟩)
abbrev Aq:aG:=top 5
abbrev oo:aG:=top 6
abbrev KC:aG:=top 7
abbrev FP:aG:=top 8
abbrev qC:aG:=top 9
abbrev vW:aG:=top 12
abbrev qD:aG:=top 13
abbrev sY:aG:=top 14
abbrev KD:aG:=top 16
abbrev DN:aG:=top 17
abbrev qE:aG:=top 28
abbrev KH:aG:=top 29
abbrev FQ:aG:=top 30
abbrev vX:aG:=top 31
abbrev sZ:aG:=top 32
abbrev vY:aG:=top 33
abbrev vZ:aG:=top 34
abbrev FU:aG:=top 35
abbrev mN:aG:=top 36
abbrev v5:aG:=top 37
abbrev lK:aG:=top 38
abbrev mO:aG:=top 39
abbrev s9:aG:=top 40
abbrev tf:aG:=top 41
abbrev qF:aG:=top 42
abbrev qG:aG:=top 43
abbrev qH:aG:=top 44
abbrev qI:aG:=top 45
abbrev qJ:aG:=top 46
abbrev v9:aG:=top 47
abbrev qK:aG:=top 48
abbrev wa:aG:=top 49
abbrev wb:aG:=top 50
abbrev tj:aG:=top 51
abbrev qL:aG:=top 52
abbrev wc:aG:=top 55
abbrev kh:aG:=top 56
abbrev we:aG:=top 57
abbrev mP:aG:=top 58
abbrev FV:aG:=top 59
abbrev tq:aG:=top 61
abbrev Ar:aG:=top 62
abbrev As:aG:=top 63
abbrev Au:aG:=top 64
abbrev wj:aG:=top 65
abbrev Av:aG:=top 66
abbrev FW:aG:=top 67
abbrev Aw:aG:=top 68
abbrev tu:aG:=top 69
abbrev tw:aG:=top 70
abbrev tx:aG:=top 71
abbrev tD:aG:=top 72
abbrev FX:aG:=top 73
abbrev oq:aG:=top 74
abbrev KI:aG:=top 75
abbrev tH:aG:=top 76
abbrev Ax:aG:=top 77
abbrev FY:aG:=top 78
abbrev wm:aG:=top 79
abbrev tJ:aG:=top 80
abbrev KJ:aG:=top 81
def bt:Pg where
 defs:=(("leaves":Str),Aq)::(("check_part":Str),oo)::(("part":Str),KC)::(("first":Str),FP)::(("is_copied":Str),qC)::(("kind_of":Str),vW)::(("is_holder":Str),qD)::(("shape_of":Str),sY)::(("spread":Str),KD)::(("tell_new":Str),DN)::(("row_nexts":Str),qE)::(("acts":Str),KH)::(("nexts":Str),FQ)::(("come_to":Str),vX)::(("arrivals":Str),sZ)::(("touched":Str),vY)::(("touches":Str),vZ)::(("touch":Str),FU)::(("touch_whole":Str),mN)::(("at_acts":Str),v5)::(("operand_acts":Str),lK)::(("target_acts":Str),mO)::(("put_acts":Str),s9)::(("set_acts":Str),tf)::(("copy_acts":Str),qF)::(("move_acts":Str),qG)::(("drop_acts":Str),qH)::(("lend_acts":Str),qI)::(("call_acts":Str),qJ)::(("arg_act":Str),v9)::(("owner_act":Str),qK)::(("if_acts":Str),wa)::(("go_acts":Str),wb)::(("say_acts":Str),tj)::(("give_acts":Str),qL)::(("empties":Str),wc)::(("empty_at_first":Str),kh)::(("emptied":Str),we)::(("stays_empty":Str),mP)::(("fills":Str),FV)::(("_law_cell_at":Str),tq)::(("_law_mixed":Str),Ar)::(("_law_names":Str),As)::(("_law_shape":Str),Au)::(("_law_leaves":Str),wj)::(("_law_parts":Str),Av)::(("_law_lets":Str),FW)::(("_law_spots":Str),Aw)::(("_law_numbers":Str),tu)::(("_law_operand":Str),tw)::(("_law_carried":Str),tx)::(("_law_lending":Str),tD)::(("_law_call":Str),FX)::(("_law_small_row":Str),oq)::(("_law_row":Str),KI)::(("_law_program":Str),tH)::(("_law_whole":Str),Ax)::(("_law_ends":Str),FY)::(("_law_is_let":Str),wm)::(("_law_is_left":Str),tJ)::(("law":Str),KJ)::[]
 cons:=[("HOLDER_WORDS",(.aA [(.str "lent"),(.str "sole")])),("ROW",(.int 0)),("ACT",(.int 1)),("NAME",(.int 2)),("THROUGH",(.int 3)),("FIRST",(.int 4)),("MANY",(.int 5)),("TAKER",(.int 6)),("REST",(.aA [(.str "rest"),(.str ""),(.bl false),(.int 0),(.int 0),(.str "")])),("HAND",(.aA [(.str "hand"),(.str ""),(.bl false),(.int 0),(.int 0),(.str "")]))]
 eQ:=["bool","enumerate","int","isinstance","len","list","range","set","sorted","str","sum","tuple"]
 exc:=["NoPart","NoName"]
 sub:=[]
 tabs:=[("MAKERS",[("put","put_acts"),("set","set_acts"),("fill","put_acts"),("copy","copy_acts"),("move","move_acts"),("drop","drop_acts"),("lend","lend_acts"),("sole","lend_acts"),("call","call_acts"),("if","if_acts"),("go","go_acts"),("say","say_acts"),("give","give_acts")])]
 own:=[]
 bO:=[]
 obs:=[]
 cls:=[]
 flds:=[]
 gB:=[]
 n6:=["arrivals","empties"]
 RD:=[("nexts",["firsts"])]
end cE
namespace cE
open PySem L2 L2.PL
theorem S4:bt.defs.all (fun d=>Oi d.2)=true:=by kernel_rfl
theorem WN:FN bt:=by
 intro kV doc pm an dR ct u;kernel_rfl
theorem Kz:bt.cls.all (fun d=>Oi d.2)=true:=by kernel_rfl
theorem KA:Oj bt:=by
 intro kV doc pm an dR ct u;kernel_rfl
def qv:bG:=W.view (W.OpenLaw.prog PySem.Challenge.rw_lendrule_k22_whole_why_it_is_empty) [81]
def lo:List Str:=(W.OpenLaw.prog PySem.Challenge.rw_lendrule_k22_whole_why_it_is_empty).boundNames.filter (· != "law")
def Xt(s:av):Bool:=W.xlAt qv [] s&&W.recOk (W.RowW.records (W.OpenRow.toRowW (W.OpenLaw.row PySem.Challenge.rw_lendrule_k22_whole_why_it_is_empty))) s
abbrev hk:W.Hook:=Om bt S4 WN Kz KA
theorem e1(w:aW):(om (W.OpenLaw.prog PySem.Challenge.rw_lendrule_k22_whole_why_it_is_empty) "special-get-raises" false 5000 w).map (W.openSeen qv lo (importedModules (W.OpenLaw.prog PySem.Challenge.rw_lendrule_k22_whole_why_it_is_empty).main.body) Xt true)=some (W.openGood qv lo):=by kernel_rfl
theorem e2(w:aW):(om (W.OpenLaw.prog PySem.Challenge.rw_lendrule_k22_whole_why_it_is_empty) "special-get-raises" true 5000 w).map (W.openSeen qv lo (importedModules (W.OpenLaw.prog PySem.Challenge.rw_lendrule_k22_whole_why_it_is_empty).main.body) Xt true)=some (W.openGood qv lo):=by kernel_rfl
theorem abL(w:aW):(om (W.OpenLaw.prog PySem.Challenge.rw_lendrule_k22_whole_why_it_is_empty) "special-get-raises" false 5000 w).map (fun s:av=>(bt.defs.take 26).map (fun d=>chFn (fY s.heap) d.1))=some ((bt.defs.take 26).map (fun d=>some (oh d.1 d.2))):=by kernel_rfl
theorem abM(w:aW):(om (W.OpenLaw.prog PySem.Challenge.rw_lendrule_k22_whole_why_it_is_empty) "special-get-raises" false 5000 w).map (fun s:av=>(bt.defs.drop 26).map (fun d=>chFn (fY s.heap) d.1))=some ((bt.defs.drop 26).map (fun d=>some (oh d.1 d.2))):=by kernel_rfl
theorem abN(w:aW):(om (W.OpenLaw.prog PySem.Challenge.rw_lendrule_k22_whole_why_it_is_empty) "special-get-raises" false 5000 w).map (fun s:av=>(bt.cons.all (vS (fY s.heap) mainGlobals)&&(bt.eQ.all (Ai (fY s.heap))&&Ao bt (fY s.heap) s.heap),bt.exc.map (Aj (fY s.heap)),bt.sub.map (fun d=>Ak (fY s.heap) d.1.1 d.1.2),bt.tabs.map (fun d=>Al (fY s.heap) d.1 d.2),bt.cls.map (fun d=>Am (fY s.heap) bt.flds d.1),bt.gB.map fun d=>sW (fY s.heap) d.1 d.2))=some ((true,bt.exc.map (fun _=>sS),bt.sub.map (fun d=>some (some d.2,some d.2)),bt.tabs.map (fun d=>sT (w.withFollow "special-get-raises" false).params d.2),bt.cls.map (fun d=>sX bt.flds d.1 d.2),bt.gB.map fun d=>oi (w.withFollow "special-get-raises" false).params d.2)):=by kernel_rfl
theorem e3(w:aW):(om (W.OpenLaw.prog PySem.Challenge.rw_lendrule_k22_whole_why_it_is_empty) "special-get-raises" false 5000 w).map (W.Hook.obs hk)=some (W.Hook.val hk (w.withFollow "special-get-raises" false)):=oj (abL w) (oj (abM w) (abN w))
theorem abO(w:aW):(om (W.OpenLaw.prog PySem.Challenge.rw_lendrule_k22_whole_why_it_is_empty) "special-get-raises" true 5000 w).map (fun s:av=>(bt.defs.take 26).map (fun d=>chFn (fY s.heap) d.1))=some ((bt.defs.take 26).map (fun d=>some (oh d.1 d.2))):=by kernel_rfl
theorem abP(w:aW):(om (W.OpenLaw.prog PySem.Challenge.rw_lendrule_k22_whole_why_it_is_empty) "special-get-raises" true 5000 w).map (fun s:av=>(bt.defs.drop 26).map (fun d=>chFn (fY s.heap) d.1))=some ((bt.defs.drop 26).map (fun d=>some (oh d.1 d.2))):=by kernel_rfl
theorem abQ(w:aW):(om (W.OpenLaw.prog PySem.Challenge.rw_lendrule_k22_whole_why_it_is_empty) "special-get-raises" true 5000 w).map (fun s:av=>(bt.cons.all (vS (fY s.heap) mainGlobals)&&(bt.eQ.all (Ai (fY s.heap))&&Ao bt (fY s.heap) s.heap),bt.exc.map (Aj (fY s.heap)),bt.sub.map (fun d=>Ak (fY s.heap) d.1.1 d.1.2),bt.tabs.map (fun d=>Al (fY s.heap) d.1 d.2),bt.cls.map (fun d=>Am (fY s.heap) bt.flds d.1),bt.gB.map fun d=>sW (fY s.heap) d.1 d.2))=some ((true,bt.exc.map (fun _=>sS),bt.sub.map (fun d=>some (some d.2,some d.2)),bt.tabs.map (fun d=>sT (w.withFollow "special-get-raises" true).params d.2),bt.cls.map (fun d=>sX bt.flds d.1 d.2),bt.gB.map fun d=>oi (w.withFollow "special-get-raises" true).params d.2)):=by kernel_rfl
theorem e4(w:aW):(om (W.OpenLaw.prog PySem.Challenge.rw_lendrule_k22_whole_why_it_is_empty) "special-get-raises" true 5000 w).map (W.Hook.obs hk)=some (W.Hook.val hk (w.withFollow "special-get-raises" true)):=oj (abO w) (oj (abP w) (abQ w))
theorem ws:W.OpenLaw.wellSaid PySem.Challenge.rw_lendrule_k22_whole_why_it_is_empty=true:=by kernel_rfl
end cE
open PySem PySem.W PyProof.Rows PySem.Calls
set_option maxRecDepth 100000 in
set_option maxHeartbeats 0 in
theorem cE.fin(hc:∀d:DefRec,d.name="law"->d.params.defaults=[]->W.WalkO cE.qv cE.lo (XL cE.qv []) (Hook.says cE.hk) (W.OpenRow.toRowW (W.OpenLaw.row PySem.Challenge.rw_lendrule_k22_whole_why_it_is_empty)) d [] (fun f vs=>PySem.call f vs)):PySem.Challenge.rw_lendrule_k22_whole_why_it_is_empty.Holds:=by
 w_on;refine W.holds_law cE.ws fun agg=>?_
 refine W.holds_open (q:=cE.qv) (loose:=cE.lo) (Xt:=cE.Xt) (XP:=XL cE.qv []) (Yf:=Hook.obs cE.hk) (Ya:=Hook.val cE.hk) (YP:=Hook.says cE.hk) (N:=5000) (L2.PL.HI "special-get-raises" cE.e1 cE.e2 cE.e3 cE.e4) (Hook.of _) (Hook.keeps _) (fun s e=>xl_of s (Dj.mp e).1) XL.keeps (by rfl) (by rfl) (by rfl) (fun s e=>recFacts_of (Dj.mp e).2) (by rfl) (by first | assumption | decide +kernel) (by decide +kernel) ⟨rfl,rfl,rfl,rfl,rfl,by decide +kernel⟩ ?hw (hc _ rfl rfl)
 case hw=>w_witness2
end
namespace L2
open PySem PySem.Spec PyProof.Rows
def wq:cC->ai->Bool
  | .inl k,v=>Value.isInt k v
  | .inr x,v=>Value.isStrOf x v
def abR(w:aW):cC->Int
  | .inl k=>hashInt k
  | .inr x=>hashStr w x
theorem dU:∀{k:cC} {v:ai},wq k v=true->(∃i t,k=Sum.inl i/\v=Value.int i t)\/(∃x t,k=Sum.inr x/\v=Value.str x t)
  | .inl i,v,h=>by
    obtain⟨t,e⟩:=Value.isInt_shape (k:=i) (v:=v) h;exact .inl ⟨i,t,rfl,e⟩
  | .inr x,v,h=>by
    obtain⟨t,e⟩:=Value.isStrOf_shape (x:=x) (v:=v) h;exact .inr ⟨x,t,rfl,e⟩
theorem HJ(i:Int)(t:Tok):wq (.inl i) (.int i t)=true:=by simp[wq,Value.isInt]
theorem HK(x:Str)(t:Tok):wq (.inr x) (.str x t)=true:=by simp[wq,Value.isStrOf]
theorem S7(a b:Int):decide ((Sum.inl a:cC)=Sum.inl b)=(a==b):=by
  by_cases e:a=b
  · subst e;simp
  · have h:¬(Sum.inl a:cC)=Sum.inl b:=fun q=>e (Sum.inl.inj q)
    rw[eZ h];exact(su.mpr e).symm
theorem S8(a b:Str):decide ((Sum.inr a:cC)=Sum.inr b)=decide (a=b):=by
  by_cases e:a=b
  · subst e;simp
  · have h:¬(Sum.inr a:cC)=Sum.inr b:=fun q=>e (Sum.inr.inj q)
    rw[eZ h,eZ e]
theorem S9(a:Int)(b:Str):decide ((Sum.inl a:cC)=Sum.inr b)=false:=eZ (fun q=>nomatch q)
theorem Ta(a:Str)(b:Int):decide ((Sum.inr a:cC)=Sum.inl b)=false:=eZ (fun q=>nomatch q)
def gj(prog:bG)(w:aW):PySem.KeyKind prog w cC where
  is:=wq
  hash:=abR w
  inj:=fun v a b ha hb=>by
    rcases dU ha with⟨i,t,rfl,rfl⟩ | ⟨x,t,rfl,rfl⟩
    · rcases dU hb with⟨j,u,rfl,e⟩ | ⟨y,u,rfl,e⟩
      · injection e with e1 _;rw[e1]
      · exact nomatch e
    · rcases dU hb with⟨j,u,rfl,e⟩ | ⟨y,u,rfl,e⟩
      · exact nomatch e
      · injection e with e1 _;rw[e1]
  byValue:=fun k v h=>by
    rcases dU h with⟨i,t,rfl,rfl⟩ | ⟨x,t,rfl,rfl⟩<;>rfl
  pyHash:=fun hv h=>by
    rcases dU hv with⟨i,t,rfl,rfl⟩ | ⟨x,t,rfl,rfl⟩
    · exact wpAny_pyHash_int h
    · exact wpAny_pyHash_str h
  eqBool:=fun hu hv h=>by
    rcases dU hu with⟨i,t,rfl,rfl⟩ | ⟨x,t,rfl,rfl⟩
    · rcases dU hv with⟨j,u,rfl,rfl⟩ | ⟨y,u,rfl,rfl⟩
      · rw[S7]at h;exact wpAny_eqBool_int h
      · rw[S9]at h;exact SeqAt.EqAt.int_str i t y u _ _ _ _ h
    · rcases dU hv with⟨j,u,rfl,rfl⟩ | ⟨y,u,rfl,rfl⟩
      · rw[Ta]at h;exact SeqAt.EqAt.str_int x t j u _ _ _ _ h
      · rw[S8]at h;exact wpAny_eqBool_str h
  «strs» := fun k x t v h=>by
    rcases dU h with⟨i,u,rfl,e⟩ | ⟨y,u,rfl,e⟩
    · exact nomatch e
    · injection e with e1 _
      subst e1;cases v<;>rfl
theorem Ay(prog:bG)(w:aW)(i:Int)(t:Tok):(gj prog w).is (.inl i) (.int i t)=true:=HJ i t
theorem Az(prog:bG)(w:aW)(x:Str)(t:Tok):(gj prog w).is (.inr x) (.str x t)=true:=HK x t
theorem Vals.length{xs:List V}{us:cj}(r:Vals xs us):xs.length=us.length:=xV r
theorem Vals.get:∀{xs:List V} {us:cj} {i:Nat} {x:V},Vals xs us->xs[i]?=some x->∃u,us[i]?=some u/\RelV x u
  | _,_,_,_,.nil,e=>by simp at e
  | _,_,0,_,.cons r _,e=>by simp at e;subst e;exact⟨_,rfl,r⟩
  | _,_,i+1,x,.cons _ t,e=>by
    obtain⟨u,h1,h2⟩:=Vals.get (i:=i) (x:=x) t (by simpa using e)
    exact⟨u,by simpa using h1,h2⟩
theorem Vals.append:∀{xs ys:List V} {us ws:cj},Vals xs us->Vals ys ws->Vals (xs++ys) (us++ws)
  | _,_,_,_,.nil,s=>s
  | _,_,_,_,.cons r t,s=>.cons r (Vals.append t s)
theorem Vals.take:∀{xs:List V} {us:cj} (n:Nat),Vals xs us->Vals (xs.take n) (us.take n)
  | _,_,0,_=>.nil
  | _,_,_+1,.nil=>.nil
  | _,_,n+1,.cons r t=>.cons r (Vals.take n t)
theorem Vals.drop:∀{xs:List V} {us:cj} (n:Nat),Vals xs us->Vals (xs.drop n) (us.drop n)
  | _,_,0,r=>r
  | _,_,_+1,.nil=>.nil
  | _,_,n+1,.cons _ t=>Vals.drop n t
def HL:Option V->nE->Prop
  | some v,some u=>RelV v u
  | none,none=>True
  | _,_=>False
def KV{κ:Type}:List (κ×V)->List (κ×ai)->Prop:=Paired fun(p:κ×V) (q:κ×ai)=>p.1=q.1/\RelV p.2 q.2
def kV:cC->V
  | .inl i=>.int i
  | .inr x=>.str x
def eI(H:Hp)(a:af)(o:HO):Hp:=fun b=>if b=a then some o else H b
theorem bo{H:Hp}{a:af}{o:HO}:eI H a o a=some o:=by unfold eI;rw[if_pos rfl]
theorem aX{H:Hp}{a b:af}{o:HO}(h:b≠a):eI H a o b=H b:=by unfold eI;rw[if_neg h]
theorem KN{H:Hp}{a b:af}{o u:HO}(h:H a=some o)(h':H b=some u)(d:o≠u):a≠b:=by
  intro e;subst e;rw[h]at h';exact d (bW h')
theorem bP{H:Hp}{a b:af}{o:HO}(h:H a=some o)(h':H b=none):a≠b:=by
  intro e;subst e;rw[h]at h';cases h'
section
variable (P:bG) (w:aW)
def fM(H:Hp)(h:Heap)(a:af):HO->Prop
  | .aq xs=>xs.length<=sizeLine/\∃(bg:cj) (n:Nat),Vals xs bg/\h.get? a=some {cls:=.type "list",data:=.seq bg.toArray n}
  | .aA xs=>xs.length<=sizeLine/\∃bg:cj,Vals xs bg/\IsTup h a bg.toArray
  | .dK kvs=>kvs.length<=sizeLine/\(a==sysModules)=false/\∃vs,KV kvs vs/\h.DictOf (gj P w) a vs
  | .dT xs=>xs.length<=sizeLine/\(a==sysModules)=false/\∃o es ep,h.get? a=some o/\o.ExactDict/\o.data=.dict es ep/\es.toList=xs.map (entryOfKey (tupleKind (gj P w)))/\(xs.map (·.1)).Nodup
  | .set S n=>h.SetOf (intKind P w) a S n
  | .SX C dx fs=>H dx=some (.own a)/\fs.length<=1000/\dx≠a/\h.get? a=some (W.instObj C dx) /\
      ∃mA,h.Ns1 dx mA/\(∀f,HL (fs.lookup f) (mA f))/\PySem.Within mA (fs.map (·.1))
  | .own _=>∃o,h.get? a=some o
  | .xd fs=>∃mA,h.Ns1 a mA/\∀f,HL (fs.lookup f) (mA f)
  | .rng lo hi=>∃t u v,h.get? a=some {cls:=.type "range",data:=.fields #[.int lo t,.int hi u,.int 1 v]}
  | .nF o u=>h.get? a=some o/\fM H h a u
  | .Af q=>∃ps:Array ai,h.get? a=some {cls:=.none,data:=.fields ps}/\TriplesOk ps.toList/\∀(pos:Pos) (cv:ai),codeAmong pos ps.toList=some cv ->
      ∃(c:af) (oc:Obj) (u:HO) (vs:Array ai) (t:Tok),cv=.ref c/\H c=some (.nF oc u)/\oc.data=.fields vs/\vs[1]?=some (.str q t)
  | .met f x=>h.get? a=some (W.methodObj (.ref f) (.ref x))
  | .ext φ=>φ h/\(∃o,h.get? a=some o)/\∀h1 h2:Heap,φ h1->(∀o,h1.get? a=some o->h2.get? a=some o)->φ h2
def pH(H:Hp)(h:Heap):Prop:=∀a o,H a=some o->fM P w H h a o
end
section
variable {P:bG} {w:aW} {H H':Hp} {h h':Heap} {a:af} {o:HO}
theorem fM.lt(x:fM P w H h a o):a<h.objs.size:=by
  cases o with
  | aq xs=>obtain⟨_,_,_,_,e⟩:=x;exact bX e
  | aA xs=>obtain⟨_,_,_,p⟩:=x;exact p.lt
  | dK kvs=>obtain⟨_,_,_,_,o,_,_,e,_⟩:=x;exact bX e
  | dT kvs=>obtain⟨_,_,o,_,_,e,_⟩:=x;exact bX e
  | set S n=>obtain⟨o,_,_,_,e,_⟩:=x;exact bX e
  | SX C dx fs=>obtain⟨_,_,_,e,_⟩:=x;exact bX e
  | own y=>obtain⟨_,e⟩:=x;exact bX e
  | xd fs=>obtain⟨_,⟨_,_,_,e,_⟩,_⟩:=x;exact bX e
  | rng lo hi=>obtain⟨_,_,_,e⟩:=x;exact bX e
  | nF ob u=>obtain⟨e,_⟩:=x;exact bX e
  | Af q=>obtain⟨_,e,_⟩:=x;exact bX e
  | met f y=>exact bX (show h.get? a=some _ from x)
  | ext φ=>obtain⟨_,⟨_,e⟩,_⟩:=x;exact bX e
theorem Paired.Tb{α β:Type}{F G:α->β->Prop}:∀{l₁:List α} {l₂:List β},Paired F l₁ l₂->(∀a b,F a b->G a b)->Paired G l₁ l₂
  | _,_,.nil,_=>.nil
  | _,_,.cons r t,f=>.cons (f _ _ r) (Paired.Tb t f)
theorem fM.AA(x:fM P w H h a o)(k:∀b u,(b=a\/H b=some (.own a))->h.get? b=some u->h'.get? b=some u)
    (ho:∀b,H b=some (.own a)->H' b=some (.own a)) (ht:∀b xs,H b=some (.aA xs)->H' b=some (.aA xs)) (hz:∀b ob u,H b=some (.nF ob u)->H' b=some (.nF ob u)):fM P w H' h' a o:=by
  induction o with
  | aq xs=>obtain⟨z,bg,n,r,e⟩:=x;exact⟨z,bg,n,r,k _ _ (.inl rfl) e⟩
  | aA xs=>obtain⟨z,bg,r,ob,e,c⟩:=x;exact⟨z,bg,r,ob,k _ _ (.inl rfl) e,c⟩
  | dK kvs=>obtain⟨z,y,vs,r,ob,es,ep,e,c⟩:=x;exact⟨z,y,vs,r,ob,es,ep,k _ _ (.inl rfl) e,c⟩
  | dT kvs=>obtain⟨z,y,ob,es,ep,e,c⟩:=x;exact⟨z,y,ob,es,ep,k _ _ (.inl rfl) e,c⟩
  | set S n=>obtain⟨ob,es,ep,t,e,c⟩:=x;exact⟨ob,es,ep,t,k _ _ (.inl rfl) e,c⟩
  | SX C dx fs =>
    obtain⟨d,z,ne,e,mA,⟨od,es,ep,e2,c⟩,r⟩:=x;exact⟨ho _ d,z,ne,k _ _ (.inl rfl) e,mA,⟨od,es,ep,k _ _ (.inr d) e2,c⟩,r⟩
  | own y=>obtain⟨ob,e⟩:=x;exact⟨ob,k _ _ (.inl rfl) e⟩
  | xd fs=>obtain⟨mA,⟨od,es,ep,e,c⟩,r⟩:=x;exact⟨mA,⟨od,es,ep,k _ _ (.inl rfl) e,c⟩,r⟩
  | rng lo hi=>obtain⟨t,u,v,e⟩:=x;exact⟨t,u,v,k _ _ (.inl rfl) e⟩
  | nF ob u ih=>obtain⟨e,q⟩:=x;exact⟨k _ _ (.inl rfl) e,ih q⟩
  | Af q =>
    obtain⟨ps,e,t,c⟩:=x;exact⟨ps,k _ _ (.inl rfl) e,t,fun pos cv z=>let ⟨c,oc,u,vs,tk,h1,h2,h3⟩:=c pos cv z;⟨c,oc,u,vs,tk,h1,hz _ _ _ h2,h3⟩⟩
  | met f y =>
    have e:h.get? a=some (W.methodObj (.ref f) (.ref y)):=x;show h'.get? a=some (W.methodObj (.ref f) (.ref y));exact k a _ (.inl rfl) e
  | ext φ=>obtain⟨p,⟨o,e⟩,st⟩:=x;exact⟨st _ _ p fun o q=>k _ _ (.inl rfl) q,⟨o,k _ _ (.inl rfl) e⟩,st⟩
theorem pH.lt(x:pH P w H h)(e:H a=some o):a<h.objs.size:=(x a o e).lt
theorem pH.fresh(x:pH P w H h)(e:h.objs.size<=a):H a=none:=by
  cases q:H a with
  | none=>rfl
  | some u=>exact absurd (dy (x.lt q) e) (jh _)
theorem pH.kept(x:pH P w H h)(k:∀b u,h.get? b=some u->h'.get? b=some u):pH P w H h':=fun a o e =>
  (x a o e).AA (fun b u _ q=>k b u q) (fun _ q=>q) (fun _ _ q=>q) fun _ _ _ q=>q
theorem pH.laid(x:pH P w H h)(k:∀b u,h.get? b=some u->h'.get? b=some u)(hp:h.objs.size<=a)(new:fM P w (eI H a o) h' a o):pH P w (eI H a o) h':=fun b u e=>by
  have hn:=x.fresh hp;by_cases hb:b=a
  · subst hb;rw[bo]at e;cases e;exact new
  · rw[aX hb]at e
    exact(x b u e).AA (fun c v _ q=>k c v q) (fun c q=>by rw[aX (bP q hn)];exact q) (fun c xs q=>by rw[aX (bP q hn)];exact q) fun c ob v q=>by rw[aX (bP q hn)];exact q
end
theorem Rd.ok{P:bG}{w:aW}{H:Hp}{h:Heap}{a:af}{u:HO}(r:Rd H a u)(x:pH P w H h):fM P w H h a u:=by
  rcases r with r | ⟨o,r⟩
  · exact x a u r
  · obtain⟨_,q⟩:=x a _ r
    exact q
def Z3:Option HO->Prop
  | some (.aq _)=>True
  | some (.dK _)=>True
  | some (.dT _)=>True
  | some (.set _ _)=>True
  | some (.SX _ _ _)=>True
  | some (.ext _)=>True
  | _=>False
section
variable {P:bG} {w:aW} {H:Hp} {h h':Heap} {x e:af} {o':HO}
theorem pH.write(ok:pH P w H h)(mu:Z3 (H x))(he:e=x\/H e=some (.own x))(k:∀b u,b≠e->h.get? b=some u->h'.get? b=some u)(Wc:∃u,h'.get? e=some u)
    (new:fM P w (eI H x o') h' x o'):pH P w (eI H x o') h':=fun b u q=>by
  have WO:∀c y,H c=some (.own y)->c≠x:=fun c y r z=>by subst z;rw[r]at mu;exact mu
  have abS:∀c xs,H c=some (.aA xs)->c≠x:=fun c xs r z=>by subst z;rw[r]at mu;exact mu
  have abT:∀c ob v,H c=some (.nF ob v)->c≠x:=fun c ob v r z=>by subst z;rw[r]at mu;exact mu
  by_cases hb:b=x
  · subst hb;rw[bo]at q;cases q;exact new
  · rw[aX hb]at q
    by_cases Tc:b=e
    · have q':H b=some (.own x):=by
        rcases he with z | z
        · exact absurd (Tc.trans z) hb
        · rw[Tc];exact z
      rw[q]at q';cases q';obtain⟨v,hv⟩:=Wc;exact⟨v,by rw[Tc];exact hv⟩
    · refine(ok b u q).AA (fun c v hc r=>k c v ?_ r) (fun c r=>by rw[aX (WO c b r)];exact r) (fun c xs r=>by rw[aX (abS c xs r)];exact r) fun c ob v r=>by rw[aX (abT c ob v r)];exact r
      rcases hc with rfl | hc
      · exact Tc
      · rintro rfl
        rcases he with z | z
        · exact WO c b hc z
        · rw[hc]at z;cases z;exact hb rfl
end
structure Un (fs ex:List af) (H H':Hp) (h h':Heap):Prop where
  keep:∀b o,h.get? b=some o->H b=none->b∉fs->b∉ex->h'.get? b=some o
  slot:∀b o,h.get? b=some o->H b=none->b∈fs->b∉ex->∃sl,h'.get? b=some {o with slots:=sl}
  free:∀b o,h.get? b=some o->H b=none->b∉ex->H' b=none
  there:∀b o,h.get? b=some o->b∉ex->∃o',h'.get? b=some o'
  tups:∀b xs,H b=some (.aA xs)->H' b=some (.aA xs)
  frzs:∀b o u,H b=some (.nF o u)->H' b=some (.nF o u)
  tbls:∀b q,H b=some (.Af q)->H' b=some (.Af q)
section
variable {fs Wd ex ex':List af} {H H1 H2:Hp} {h h1 h2 h':Heap} {a x e:af} {o:HO}
theorem Un.any(u:Un fs ex H H1 h h1){b:af}{ob:Obj}(q:h.get? b=some ob)(n:H b=none)(hx:b∉ex):∃sl,h1.get? b=some {ob with slots:=sl}:=by
  by_cases hb:b∈fs
  · exact u.slot b ob q n hb hx
  · exact⟨ob.slots,u.keep b ob q n hb hx⟩
theorem Un.kept(k:∀b u,h.get? b=some u->h'.get? b=some u):Un fs ex H H h h' :=
  ⟨fun b ob q _ _ _=>k b ob q,fun b ob q _ _ _=>⟨ob.slots,k b ob q⟩,fun _ _ _ n _=>n,fun b ob q _=>⟨ob,k b ob q⟩,fun _ _ q=>q,fun _ _ _ q=>q,fun _ _ q=>q⟩
theorem Un.refl:Un fs ex H H h h:=Un.kept fun _ _ q=>q
theorem Un.laid(k:∀b u,h.get? b=some u->h'.get? b=some u)(hp:h.objs.size<=a)(hn:H a=none):Un fs ex H (eI H a o) h h' where
  keep:=fun b u q _ _ _=>k b u q
  slot:=fun b u q _ _ _=>⟨u.slots,k b u q⟩
  free:=fun b u q n _=>by rw[aX (cX (dy (bX q) hp))];exact n
  there:=fun b u q _=>⟨u,k b u q⟩
  tups:=fun b xs q=>by rw[aX (bP q hn)];exact q
  frzs:=fun b u xs q=>by rw[aX (bP q hn)];exact q
  tbls:=fun b ps q=>by rw[aX (bP q hn)];exact q
theorem Un.write(mu:Z3 (H x))(he:e=x\/H e=some (.own x))(k:∀b u,b≠e->h.get? b=some u->h'.get? b=some u)(Wc:∃u,h'.get? e=some u):Un fs ex H (eI H x o) h h':=by
  have hx:∀b,H b=none->b≠x:=fun b n z=>by subst z;rw[n]at mu;exact mu
  have hb:∀b,H b=none->b≠e:=fun b n z=>by
    subst z;rcases he with r | r
    · exact hx b n r
    · rw[n]at r;cases r
  have hm:∀b u,H b=some u->¬Z3 (some u)->b≠x:=fun b u q nm z=>by subst z;rw[q]at mu;exact nm mu
  refine⟨fun b u q n _ _=>k b u (hb b n) q,fun b u q n _ _=>⟨u.slots,k b u (hb b n) q⟩,fun b u q n _=>by rw[aX (hx b n)];exact n,fun b u q _=>?_,
    fun b xs q=>by rw[aX (hm b _ q fun z=>z)];exact q,fun b u xs q=>by rw[aX (hm b _ q fun z=>z)];exact q,fun b ps q=>by rw[aX (hm b _ q fun z=>z)];exact q⟩
  by_cases Tc:b=e
  · subst Tc;exact Wc
  · exact⟨u,k b u Tc q⟩
end
def Z4(h:Heap)(H:Hp):List af:=(List.range h.objs.size).filter fun a=>(H a).isSome
def AB(h:Heap)(H:Hp):Heap:=W.hideAll h (Z4 h H)
theorem HM(h:Heap)(H:Hp):(AB h H).objs.size=h.objs.size:=W.hideAll_size _ _
theorem hidT_get{h:Heap}{H:Hp}{b:af}{o:Obj}(e:h.get? b=some o)(n:H b=none):(AB h H).get? b=some o :=
  W.hideAll_get _ e fun hm=>by
    have q:(H b).isSome=true:=(jg.mp hm).2;rw[n]at q;simp at q
theorem of_hidT{h:Heap}{H:Hp}{b:af}{o:Obj}(e:(AB h H).get? b=some o):h.get? b=some o/\H b=none:=by
  have e':h.get? b=some o:=W.of_hideAll (Z4 h H) e;refine⟨e',?_⟩;cases q:H b with
  | none=>rfl
  | some x =>
    have hm:b∈Z4 h H:=jg.mpr ⟨d9.mpr (bX e'),by simp[q]⟩
    have z:(AB h H).get? b=none:=W.hideAll_none (Z4 h H) hm;rw[z]at e;cases e
structure Mod (K:ak) (mg:ee) (base:Heap):Prop where
  kin:K.In base
  glob:base.Ns mainGlobals mg
  blt:∃mb,base.Ns builtinsNs mb/\∀x:Str,x≠"__name__"->mb x=bootBuiltins x
  nolimit:base.NoLimit
structure Cx where
  prog:bG
  w:aW
  K:ak
  mg:ee
  base:Heap
  A:bR
  N:List Str
  s₀:av
  H₀:Hp
  env:Env
  outer:List Env
  stack:List Env
  ex:List af
  fn:Str->Bool
  calm:Bool
  pn:List (af×Obj)
  xe:cR
def C0(l:List Env):List af:=l.filterMap (·.frame)
abbrev Cx.fs(X:Cx):List af:=C0 X.outer
def We(sc:Scope)(x:Str):Prop:=sc.names.lookup x=some .local\/sc.names.lookup x=some .cell\/sc.names.lookup x=some .free
def RE(sc:Scope)(x:Str):Prop:=sc.names.lookup x=some .local\/sc.names.lookup x=some .cell
def abU(env:Env)(h:Heap)(m:ee)(x:Str)(u:ai):Prop :=
  (env.kindOf x=some .local/\m x=some u)\/((env.kindOf x=some .cell\/env.kindOf x=some .free)/\∃c,env.cells.lookup x=some c/\h.IsCell c (some u))
def vq(x:Str):Str:=x++".<locals>."++"<lambda>"
def tK(K:ak)(H:Hp):Prop:=∀x∈eE,∀c T,W.tabIn K x=some (c,T)->H T=some (.Af (vq x))
structure Cx.Ok (X:Cx):Prop where
  mod:Mod X.K X.mg X.base
  kind:X.env.scope.kind=.function
  glob:X.env.globals=mainGlobals
  blt:X.env.builtins=builtinsNs
  above:X.s₀.heap.objs.size<=X.env.locals
  inj:∀x y c,X.env.cells.lookup x=some c->X.env.cells.lookup y=some c->x=y
  has:∀x,(X.env.kindOf x=some .cell\/X.env.kindOf x=some .free)->∃c,X.env.cells.lookup x=some c
  cab:∀x c,X.fn x=true->X.env.cells.lookup x=some c->X.s₀.heap.objs.size<=c
  hd:X.calm=true->X.A.handled=none
  frames:X.A.frames=some X.stack
  stk:X.stack=X.outer\/(X.stack=X.env::X.outer/\X.env.frame=some X.env.locals)
  exf:∀b∈X.ex,b≠X.env.locals/\∀x c,X.env.cells.lookup x=some c->c≠b
  bs:∀b o,X.base.get? b=some o->X.s₀.heap.get? b=some o/\X.H₀ b=none
  bsz:X.base.objs.size<=X.s₀.heap.objs.size
  noex:∀b o,X.base.get? b=some o->b∉X.ex
  exfs:∀b∈X.ex,b∉X.fs
  funs:X.s₀.heap.FunFrames X.base X.outer
  frf:∀b∈X.fs,X.H₀ b=none
  tabs:tK X.K X.H₀
structure Inv (X:Cx) (ag:List (af×Obj)) (σ:List (Option V)) (H:Hp) (s:av):Prop where
  ok:X.Ok
  os:s.os=X.s₀.os
  bare:AllBare s.gens
  base:Un X.fs X.ex X.H₀ H X.s₀.heap s.heap
  loc:∃m,s.heap.Ns X.env.locals m/\∀(i:Nat) (x:Str) (v:V),X.N[i]?=some x->σ[i]?=some (some v)->We X.env.scope x->∃u,RelV v u/\abU X.env s.heap m x u
  cell:∀x c,X.env.cells.lookup x=some c->∃v,s.heap.IsCell c v
  free:H X.env.locals=none
  freeC:∀x c,X.env.cells.lookup x=some c->H c=none
  pin:∀p∈X.pn++ag,s.heap.get? p.1=some p.2/\H p.1=none/\p.1≠X.env.locals/\p.1∉X.fs/\∀v,p.2.data≠.cell v
  hok:pH X.prog X.w H s.heap
  len:σ.length=X.N.length
section
variable {X:Cx} {ag:List (af×Obj)} {σ:List (Option V)} {H H':Hp} {s:av} {h':Heap}
theorem Cx.Ok.abV(ok:X.Ok){b:af}{o:Obj}(e:X.base.get? b=some o):b∉X.fs:=fun hb=>by
  have:=(ok.funs.mem hb).1;rw[e]at this;cases this
theorem Inv.bs(I:Inv X ag σ H s):∀b o,X.base.get? b=some o->s.heap.get? b=some o/\H b=none:=fun b o e =>
  ⟨I.base.keep b o (I.ok.bs b o e).1 (I.ok.bs b o e).2 (I.ok.abV e) (I.ok.noex b o e),I.base.free b o (I.ok.bs b o e).1 (I.ok.bs b o e).2 (I.ok.noex b o e)⟩
theorem Inv.bk(I:Inv X ag σ H s):∀b o,X.base.get? b=some o->s.heap.get? b=some o:=fun b o e=>(I.bs b o e).1
theorem Inv.mod(I:Inv X ag σ H s):Mod X.K X.mg X.base:=I.ok.mod
theorem Inv.z0(I:Inv X ag σ H s):X.K.In s.heap:=I.ok.mod.kin.keeps I.bk
theorem Inv.lt(I:Inv X ag σ H s):X.env.locals<s.heap.objs.size:=let ⟨_,hn,_⟩:=I.loc;hn.lt
theorem Inv.sz(I:Inv X ag σ H s):X.s₀.heap.objs.size<=s.heap.objs.size:=cz I.ok.above (nz I.lt)
theorem Inv.abW(I:Inv X ag σ H s){a:af}(h:s.heap.objs.size<=a):a∉X.fs:=fun hb=>by
  obtain⟨_,o,ho,_⟩:=I.ok.funs.mem hb;exact absurd (dy (bX ho) (cz I.sz h)) (jh _)
theorem Inv.Td(I:Inv X ag σ H s):∀x c,X.env.cells.lookup x=some c->c≠X.env.locals:=fun x c e z=>by
  obtain⟨v,o,ho,hd⟩:=I.cell x c e;obtain⟨m,⟨o',es,ep,AD,Ap,_⟩,_⟩:=I.loc;rw[z,AD]at ho;cases ho;rw[Ap]at hd;cases hd
theorem Inv.funs(I:Inv X ag σ H s):s.heap.FunFrames X.base X.outer:=by
  have all:∀(l:List Env),(∀b∈C0 l,b∈X.fs)->X.s₀.heap.FunFrames X.base l->s.heap.FunFrames X.base l:=by
    intro l;induction l with
    | nil=>intro _ _;trivial
    | cons env r ih =>
      intro hs hl;obtain⟨hk,⟨L,o,hf,hn,ho,hd⟩,hr⟩:=hl;have hL:L∈X.fs:=hs L (by unfold C0;rw[Dn,hf];exact cq)
      obtain⟨sl,e⟩:=I.base.slot L o ho (I.ok.frf L hL) hL fun z=>I.ok.exfs L z hL
      exact⟨hk,⟨L,_,hf,hn,e,hd⟩,ih (fun b hb=>hs b (by unfold C0;rw[Dn,hf];exact cn _ hb)) hr⟩
  exact all X.outer (fun _ hb=>hb) I.ok.funs
theorem Inv.stack(I:Inv X ag σ H s):s.heap.FunFrames X.base X.stack:=by
  rcases I.ok.stk with e | ⟨e,hf⟩
  · rw[e];exact I.funs
  · rw[e]
    obtain⟨m,hn,_⟩:=I.loc;refine .cons (by rw[I.ok.kind];decide) hf hn ?_ I.funs
    exact Heap.get?_none_of_le (cz I.ok.bsz I.ok.above)
theorem Inv.DO(I:Inv X ag σ H s):∀b∈C0 X.stack,b∈X.env.locals::X.fs:=fun b hb=>by
  rcases I.ok.stk with e | ⟨e,hf⟩
  · rw[e]at hb;exact cn _ hb
  · rw[e]at hb
    unfold C0 at hb;rw[Dn,hf]at hb;exact hb
theorem Inv.FZ(I:Inv X ag σ H s):∀b∈C0 X.stack,H b=none:=fun b hb=>by
  rcases bB.mp (I.DO b hb)with e | hb
  · rw[e];exact I.free
  · obtain⟨_,o,ho,_⟩:=I.ok.funs.mem hb
    exact I.base.free b o ho (I.ok.frf b hb) fun z=>I.ok.exfs b z hb
theorem Inv.tabs(I:Inv X ag σ H s):tK X.K H:=fun x hx c T e=>I.base.tbls T _ (I.ok.tabs x hx c T e)
theorem Inv.step{g':Array GenState}{t':Nat}{d':Drawn}{ch:List af}(I:Inv X ag σ H s)
    (N5:∀b∈ch,(b∈X.ex\/X.s₀.heap.objs.size<=b)/\b≠X.env.locals/\(∀x c,X.env.cells.lookup x=some c->c≠b)/\∀p∈X.pn++ag,p.1≠b)
    (keep:∀b o,b≠X.env.locals->b∉X.fs->b∉ch->s.heap.get? b=some o->H b=none->h'.get? b=some o)
    (slot:∀b o,b≠X.env.locals->b∈X.fs->b∉ch->s.heap.get? b=some o->H b=none->∃sl,h'.get? b=some {o with slots:=sl}) (free:∀b o,b∉ch->s.heap.get? b=some o->H b=none->H' b=none)
    (there:∀b o,b∉ch->s.heap.get? b=some o->∃o',h'.get? b=some o')
    (tups:∀b xs,H b=some (.aA xs)->H' b=some (.aA xs)) (frzs:∀b o u,H b=some (.nF o u)->H' b=some (.nF o u)) (tbls:∀b q,H b=some (.Af q)->H' b=some (.Af q))
    (ns:∀m,s.heap.Ns X.env.locals m->h'.Ns X.env.locals m) (hok:pH X.prog X.w H' h') (hg:AllBare g') :
    Inv X ag σ H' {s with heap:=h',gens:=g',drawn:=d',toks:=t'}:=by
  have neL:∀b o,X.s₀.heap.get? b=some o->b≠X.env.locals:=fun b o e=>cX (dy (bX e) I.ok.above)
  have Z5:∀b o,X.s₀.heap.get? b=some o->b∉X.ex->b∉ch:=fun b o e hx hb=>by
    rcases(N5 b hb).1 with z | z
    · exact hx z
    · exact absurd (dy (bX e) z) (jh _)
  have cellK:∀x c,X.env.cells.lookup x=some c->∀v,s.heap.IsCell c v->h'.IsCell c v:=by
    rintro x c e v ⟨o,ho,hd⟩
    have WQ:c∉ch:=fun z=>(N5 c z).2.2.1 x c e rfl
    by_cases hc:c∈X.fs
    · obtain⟨sl,q⟩:=slot c o (I.Td x c e) hc WQ ho (I.freeC x c e)
      exact⟨_,q,hd⟩
    · exact⟨o,keep c o (I.Td x c e) hc WQ ho (I.freeC x c e),hd⟩
  refine⟨I.ok,I.os,hg,⟨fun b o e n hb hx=>?_,fun b o e n hb hx=>?_,fun b o e n hx=>?_,fun b o e hx=>?_,fun b xs e=>tups b xs (I.base.tups b xs e),fun b o xs e=>frzs b o xs (I.base.frzs b o xs e),fun b ps e=>?_⟩,?_,fun x c e=>?_,?_,fun x c e=>?_,fun p hp=>?_,hok,I.len⟩
  · exact keep b o (neL b o e) hb (Z5 b o e hx) (I.base.keep b o e n hb hx) (I.base.free b o e n hx)
  · obtain⟨sl,e1⟩:=I.base.slot b o e n hb hx
    obtain⟨sl',e2⟩:=slot b _ (neL b o e) hb (Z5 b o e hx) e1 (I.base.free b o e n hx);exact⟨sl',e2⟩
  · obtain⟨o',e1⟩:=I.base.there b o e hx
    exact free b o' (Z5 b o e hx) e1 (I.base.free b o e n hx)
  · obtain⟨o',e1⟩:=I.base.there b o e hx
    exact there b o' (Z5 b o e hx) e1
  · exact tbls b ps (I.base.tbls b ps e)
  · obtain⟨m,hn,hl⟩:=I.loc
    refine⟨m,ns m hn,fun i x v e1 e2 e3=>?_⟩
    obtain⟨u,r,l⟩:=hl i x v e1 e2 e3;refine⟨u,r,?_⟩;rcases l with l | ⟨k,c,e,z⟩
    · exact .inl l
    · exact .inr ⟨k,c,e,cellK x c e _ z⟩
  · obtain⟨v,z⟩:=I.cell x c e
    exact⟨v,cellK x c e v z⟩
  · obtain⟨m,⟨o,_,_,ho,_⟩,_⟩:=I.loc
    exact free _ o (fun z=>(N5 _ z).2.1 rfl) ho I.free
  · obtain⟨v,o,ho,hd⟩:=I.cell x c e
    exact free c o (fun z=>(N5 c z).2.2.1 x c e rfl) ho (I.freeC x c e)
  · obtain⟨e,n,ne,nf,d⟩:=I.pin p hp
    have WQ:p.1∉ch:=fun z=>(N5 p.1 z).2.2.2 p hp rfl
    exact⟨keep p.1 p.2 ne nf WQ e n,free p.1 p.2 WQ e n,ne,nf,d⟩
theorem Inv.un{t':Nat}(I:Inv X ag σ H s)(u:Un X.fs [] H H' s.heap h')(hok:pH X.prog X.w H' h'):Inv X ag σ H' {s with heap:=h',toks:=t'}:=by
  obtain⟨m,⟨o,es,ep,ho,r⟩,_⟩:=id I.loc;obtain⟨sl,hL⟩:=u.any ho I.free (by simp)
  exact I.step (g':=s.gens) (d':=s.drawn) (ch:=[]) (fun _ z=>nomatch z) (fun b o _ hb _ e n=>u.keep b o e n hb (by simp)) (fun b o _ hb _ e n=>u.slot b o e n hb (by simp)) (fun b o _ e n=>u.free b o e n (by simp)) (fun b o _ e=>u.there b o e (by simp)) u.tups u.frzs u.tbls (fun m' hm=>by
    obtain⟨o',WR,ep',AD,r'⟩:=hm;rw[ho]at AD;cases AD;exact⟨_,WR,ep',hL,r'⟩) hok I.bare
theorem Inv.call{g':Array GenState}{t':Nat}{d':Drawn}{ch:List af}(I:Inv X ag σ H s)(u:Un (C0 X.stack) ch H H' s.heap h')(hok:pH X.prog X.w H' h')(hg:AllBare g')
    (N5:∀b∈ch,(b∈X.ex\/X.s₀.heap.objs.size<=b)/\b≠X.env.locals/\(∀x c,X.env.cells.lookup x=some c->c≠b)/\∀p∈X.pn++ag,p.1≠b) :
    Inv X ag σ H' {s with heap:=h',gens:=g',drawn:=d',toks:=t'}:=by
  obtain⟨m,⟨o,es,ep,ho,r⟩,_⟩:=id I.loc;obtain⟨sl,hL⟩:=u.any ho I.free fun z=>(N5 _ z).2.1 rfl
  exact I.step (ch:=ch) N5 (fun b o hL hb hc e n=>u.keep b o e n (fun z=>(bB.mp (I.DO b z)).elim hL hb) hc) (fun b o _ _ hc e n=>u.any e n hc) (fun b o hc e n=>u.free b o e n hc) (fun b o hc e=>u.there b o e hc) u.tups u.frzs u.tbls (fun m' hm=>by
    obtain⟨o',WR,ep',AD,r'⟩:=hm;rw[ho]at AD;cases AD;exact⟨_,WR,ep',hL,r'⟩) hok hg
theorem Inv.turned{t':Nat}{it:af}(I:Inv X ag σ H s)(k:∀b o,b≠it->s.heap.get? b=some o->h'.get? b=some o)(hn:H it=none)(hL:it≠X.env.locals)
    (h1:it∈X.ex\/X.s₀.heap.objs.size<=it) (h2:∀x c,X.env.cells.lookup x=some c->c≠it) (h3:∀p∈X.pn++ag,p.1≠it):Inv X ag σ H {s with heap:=h',toks:=t'}:=by
  have WS:∀b u,H b=some u->b≠it:=fun b u e z=>by rw[z,hn]at e;cases e
  refine I.step (g':=s.gens) (d':=s.drawn) (ch:=[it]) (fun b hb=>?_) (fun b o _ _ hc e _=>k b o (fun z=>hc (by simp[z])) e) (fun b o _ _ hc e _=>⟨o.slots,k b o (fun z=>hc (by simp[z])) e⟩) (fun _ _ _ _ n=>n)
    (fun b o hc e=>⟨o,k b o (fun z=>hc (by simp[z])) e⟩) (fun _ _ e=>e) (fun _ _ _ e=>e) (fun _ _ e=>e) (fun m hm=>?_) (fun b u e=>?_) I.bare
  · have e:b=it:=by simpa using hb
    subst e;exact⟨h1,hL,h2,h3⟩
  · obtain⟨o,es,ep,ho,r⟩:=hm
    exact⟨o,es,ep,k _ o (eP hL) ho,r⟩
  · refine(I.hok b u e).AA (fun c v hc q=>k c v ?_ q) (fun _ q=>q) (fun _ _ q=>q) fun _ _ _ q=>q
    rcases hc with z | z
    · rw[z];exact WS b u e
    · exact WS c _ z
theorem Inv.tok(I:Inv X ag σ H s)(t:Nat):Inv X ag σ H {s with toks:=t}:=I.un (h':=s.heap) (t':=t) Un.refl I.hok
theorem Inv.kept{t':Nat}(I:Inv X ag σ H s)(k:∀b u,s.heap.get? b=some u->h'.get? b=some u):Inv X ag σ H {s with heap:=h',toks:=t'}:=I.un (Un.kept k) (I.hok.kept k)
theorem Inv.laid{a:af}{o:HO}{t':Nat}(I:Inv X ag σ H s)(k:∀b u,s.heap.get? b=some u->h'.get? b=some u)(hp:s.heap.objs.size<=a)(new:fM X.prog X.w (eI H a o) h' a o) :
    Inv X ag σ (eI H a o) {s with heap:=h',toks:=t'}:=I.un (Un.laid k hp (I.hok.fresh hp)) (I.hok.laid k hp new)
theorem Inv.write{x e:af}{o:HO}{t':Nat}(I:Inv X ag σ H s)(mu:Z3 (H x))(he:e=x\/H e=some (.own x))(k:∀b u,b≠e->s.heap.get? b=some u->h'.get? b=some u)(Wc:∃u,h'.get? e=some u)
    (new:fM X.prog X.w (eI H x o) h' x o):Inv X ag σ (eI H x o) {s with heap:=h',toks:=t'}:=I.un (Un.write mu he k Wc) (I.hok.write mu he k Wc new)
theorem Inv.ou{RF:List (af×Obj)}(I:Inv X ag σ H s)(h:∀p∈RF,s.heap.get? p.1=some p.2/\H p.1=none/\p.1≠X.env.locals/\p.1∉X.fs/\∀v,p.2.data≠.cell v):Inv X RF σ H s :=
  ⟨I.ok,I.os,I.bare,I.base,I.loc,I.cell,I.free,I.freeC,fun p hp=>(c9.mp hp).elim (fun z=>I.pin p (kz _ z)) (h p),I.hok,I.len⟩
theorem AE{N:List Str}(hN:N.Nodup){i j:Nat}{x:Str}(a:N[i]?=some x)(b:N[j]?=some x):i=j:=by
  obtain⟨h1,e1⟩:=fU.mp a;obtain⟨h2,e2⟩:=fU.mp b;exact(List.getElem_inj hN).mp (e1.trans e2.symm)
theorem store_ok2{M:Model}{A:bR}{E:cR}{i:Nat}{x:Str}{v:V}{u:ai}{Q:Unit->av->Prop}(I:Inv X ag σ H s)(hN:X.N.Nodup)(hi:X.N[i]?=some x)(hx:RE X.env.scope x)(r:RelV v u)
    (h:∀s',Inv X ag (σ.set i (some v)) H s'->(∃a,Heap.SameBut a s.heap s'.heap/\(a=X.env.locals\/X.env.cells.lookup x=some a))->Q () s') (hf:X.fn x=true\/X.env.scope.names.lookup x=some .local:=by first | exact .inl rfl | exact .inr rfl | assumption):wpAny M A (storeName X.env x u) Q E s:=by
  obtain⟨m,hn,hl⟩:=id I.loc;have abY:(X.env.scope.kind==.class || (X.env.scope.kind==.module&&X.env.locals != X.env.globals))=false:=by rw[I.ok.kind];rfl
  have WT:i<σ.length:=by rw[I.len];exact(fU.mp hi).1
  have Td:=I.Td;have F6:∀{a:af} {h':Heap},(∃o,s.heap.get? a=some o/\H a=none)->Heap.SameBut a s.heap h'->pH X.prog X.w H h':=fun {a h'} ha hs b ob e=>by
    obtain⟨_,_,tL⟩:=ha;refine(I.hok b ob e).AA (fun c w' hc q=>(hs.2 c ?_).trans q) (fun _ q=>q) (fun _ _ q=>q) fun _ _ _ q=>q
    rintro rfl
    rcases hc with rfl | hc
    · rw[tL]at e;cases e
    · rw[tL]at hc;cases hc
  rcases hx with hk | hk
  · refine wpAny_storeName_local hk hn (fun h' Te hs=>?_) abY
    obtain⟨oL,_,_,RG,_⟩:=id hn;refine h _ ⟨I.ok,I.os,I.bare,⟨fun b o e n hb hx=>?_,fun b o e n hb hx=>?_,I.base.free,fun b o e hx=>?_,I.base.tups,I.base.frzs,I.base.tbls⟩,⟨_,Te,fun j y v' e1 e2 e3=>?_⟩,fun y c e=>?_,I.free,I.freeC,fun p hp=>?_,F6 ⟨oL,RG,I.free⟩ hs,by simpa using I.len⟩ ⟨_,hs,.inl rfl⟩
    · exact(hs.2 b (cX (dy (bX e) I.ok.above))).trans (I.base.keep b o e n hb hx)
    · obtain⟨sl,e1⟩:=I.base.slot b o e n hb hx
      exact⟨sl,(hs.2 b (cX (dy (bX e) I.ok.above))).trans e1⟩
    · obtain⟨o',e1⟩:=I.base.there b o e hx
      exact⟨o',(hs.2 b (cX (dy (bX e) I.ok.above))).trans e1⟩
    · by_cases hj:j=i
      · subst hj
        rw[hi]at e1;cases e1;rw[cL WT]at e2;cases e2;exact⟨u,r,.inl ⟨hk,by simp⟩⟩
      · rw[b9 (eP hj)]at e2
        obtain⟨u',r',q⟩:=hl j y v' e1 e2 e3;refine⟨u',r',?_⟩;rcases q with⟨k,e⟩ | ⟨k,c,e,z⟩
        · refine .inl ⟨k,?_⟩
          have:y≠x:=fun e=>hj (AE hN e1 (e▸hi))
          simp[this,e]
        · exact .inr ⟨k,c,e,z.sameBut hs (Td y c e)⟩
    · obtain⟨w',z⟩:=I.cell y c e
      exact⟨w',z.sameBut hs (Td y c e)⟩
    · obtain⟨e,n,ne,nf,d⟩:=I.pin p hp
      exact⟨(hs.2 p.1 ne).trans e,n,ne,nf,d⟩
  · have WU:X.fn x=true:=by
      rcases hf with z | z
      · exact z
      · rw[z]at hk;cases hk
    obtain⟨c,hc⟩:=I.ok.has x (.inl hk);obtain⟨w',z⟩:=I.cell x c hc;refine wpAny_storeName_cell I.ok.kind hk hc z (fun h' Aa hs=>?_)
    obtain⟨oc,Z6,abZ⟩:=id z;refine h {s with heap:=h'} ⟨I.ok,I.os,I.bare,⟨fun b o e n hb hx=>?_,fun b o e n hb hx=>?_,I.base.free,fun b o e hx=>?_,I.base.tups,I.base.frzs,I.base.tbls⟩,⟨m,hn.sameBut hs (eP (Td x c hc)),fun j y v' e1 e2 e3=>?_⟩,fun y c' e=>?_,I.free,I.freeC,fun p hp=>?_,F6 ⟨oc,Z6,I.freeC x c hc⟩ hs,by simpa using I.len⟩ ⟨c,hs,.inr hc⟩
    · exact(hs.2 b (cX (dy (bX e) (I.ok.cab x c WU hc)))).trans (I.base.keep b o e n hb hx)
    · obtain⟨sl,e1⟩:=I.base.slot b o e n hb hx
      exact⟨sl,(hs.2 b (cX (dy (bX e) (I.ok.cab x c WU hc)))).trans e1⟩
    · obtain⟨o',e1⟩:=I.base.there b o e hx
      exact⟨o',(hs.2 b (cX (dy (bX e) (I.ok.cab x c WU hc)))).trans e1⟩
    · by_cases hj:j=i
      · subst hj
        rw[hi]at e1;cases e1;rw[cL WT]at e2;cases e2;exact⟨u,r,.inr ⟨.inl hk,c,hc,Aa⟩⟩
      · rw[b9 (eP hj)]at e2
        obtain⟨u',r',q⟩:=hl j y v' e1 e2 e3;refine⟨u',r',?_⟩;rcases q with q | ⟨k,c',e,z'⟩
        · exact .inl q
        · refine .inr ⟨k,c',e,z'.sameBut hs ?_⟩
          rintro rfl
          exact hj (AE hN e1 (I.ok.inj _ _ _ e hc▸hi))
    · by_cases hcc:c'=c
      · subst hcc;exact⟨_,Aa⟩
      · obtain⟨w2,z2⟩:=I.cell y c' e
        exact⟨w2,z2.sameBut hs hcc⟩
    · obtain⟨e,n,ne,nf,d⟩:=I.pin p hp
      refine⟨(hs.2 p.1 ?_).trans e,n,ne,nf,d⟩;intro q;rw[q,Z6]at e;have q':oc=p.2:=bW e;exact d w' (by rw[<-q'];exact abZ)
theorem tM{M:Model}{A:bR}{E:cR}{i:Nat}{x:Str}{v:V}{u:ai}{Q:Unit->av->Prop}(I:Inv X ag σ H s)(hN:X.N.Nodup)(hi:X.N[i]?=some x)(hx:RE X.env.scope x)(r:RelV v u)
    (h:∀s',Inv X ag (σ.set i (some v)) H s'->Q () s') (hf:X.fn x=true\/X.env.scope.names.lookup x=some .local:=by first | exact .inl rfl | exact .inr rfl | assumption):wpAny M A (storeName X.env x u) Q E s :=
  store_ok2 I hN hi hx r (fun s' I' _=>h s' I') hf
theorem Inv.WV{s':av}{ch:List af}(I:Inv X ag σ H s)(ho:s'.os=s.os)(u:Un (C0 X.stack) ch H H' s.heap s'.heap)(hok:pH X.prog X.w H' s'.heap)(hg:AllBare s'.gens)
    (N5:∀b∈ch,(b∈X.ex\/X.s₀.heap.objs.size<=b)/\b≠X.env.locals/\(∀x c,X.env.cells.lookup x=some c->c≠b)/\∀p∈X.pn++ag,p.1≠b):Inv X ag σ H' s':=by
  obtain⟨h',g',d',t',o'⟩:=s';have e:o'=s.os:=ho;subst e;exact I.call (g':=g') (t':=t') (d':=d') u hok hg N5
end
abbrev XK:=ai->Option af->Hp->Prop
abbrev St:=List (Option V)
abbrev VK:=V->Hp->Prop
abbrev TE:=St->Hp->VK->Prop
abbrev TT:=St->Hp->(Bool->Hp->Prop)->Prop
abbrev TA:=St->Hp->(List V->Hp->Prop)->Prop
structure ov where
  nx:St->Hp->Prop
  rt:VK
  bk:St->Hp->Prop:=fun _ _=>False
  ct:St->Hp->Prop:=fun _ _=>False
abbrev TS:=ov->St->Hp->Prop
def EP(X:Cx)(ag:List (af×Obj))(σ:St)(Q:VK)(u:ai)(s':av):Prop:=∃v H',Inv X ag σ H' s'/\RelV v u/\Q v H'
def TP(X:Cx)(ag:List (af×Obj))(σ:St)(Q:Bool->Hp->Prop)(b:Bool)(s':av):Prop:=∃H',Inv X ag σ H' s'/\Q b H'
def AP(X:Cx)(ag:List (af×Obj))(σ:St)(Q:List V->Hp->Prop)(us:cj)(s':av):Prop:=∃vs H',Inv X ag σ H' s'/\Vals vs us/\Q vs H'
def SP(X:Cx)(ag:List (af×Obj))(D:ov)(f:Flow)(s':av):Prop :=
  match f with
  | .next=>∃dt H',Inv X ag dt H' s'/\D.nx dt H'
  | .brk=>∃dt H',Inv X ag dt H' s'/\D.bk dt H'
  | .cont=>∃dt H',Inv X ag dt H' s'/\D.ct dt H'
  | .ret u=>∃v dt H',Inv X ag dt H' s'/\RelV v u/\D.rt v H'
def PE(X:Cx)(e:ao)(t:TE):Prop :=
  ∀(ag:List (af×Obj)) (s:av) (σ:St) (H:Hp) (Q:VK),Inv X ag σ H s->t σ H Q->wpAny (model X.prog X.w) X.A (eval e X.env) (EP X ag σ Q) X.xe s
def PT(X:Cx)(e:ao)(t:TT):Prop :=
  ∀(ag:List (af×Obj)) (s:av) (σ:St) (H:Hp) (Q:Bool->Hp->Prop),Inv X ag σ H s->t σ H Q->wpAny (model X.prog X.w) X.A (isTrue e X.env (eval e X.env)) (TP X ag σ Q) X.xe s
def PW(X:Cx)(e:ao)(t:TT):Prop :=
  ∀(jE:Sem ai) (ag:List (af×Obj)) (s:av) (σ:St) (H:Hp) (Q:Bool->Hp->Prop),Inv X ag σ H s->t σ H Q->wpAny (model X.prog X.w) X.A (isTrue e X.env jE) (TP X ag σ Q) X.xe s
theorem PW.pt{X:Cx}{e:ao}{t:TT}(h:PW X e t):PT X e t:=h _
def PA(X:Cx)(es:List ao)(t:TA):Prop :=
  ∀(pos:Pos) (ag:List (af×Obj)) (s:av) (σ:St) (H:Hp) (Q:List V->Hp->Prop),Inv X ag σ H s->t σ H Q->wpAny (model X.prog X.w) X.A (spliced (backTo pos (starEach es X.env))) (AP X ag σ Q) X.xe s
def PS(X:Cx)(st:aG)(t:TS):Prop :=
  ∀(ag:List (af×Obj)) (s:av) (σ:St) (H:Hp) (D:ov),Inv X ag σ H s->t D σ H->wpAny (model X.prog X.w) X.A (exec st X.env) (SP X ag D) X.xe s
def rh(X:Cx)(st:List aG)(t:TS):Prop :=
  ∀(ag:List (af×Obj)) (s:av) (σ:St) (H:Hp) (D:ov),Inv X ag σ H s->t D σ H->wpAny (model X.prog X.w) X.A (execs st X.env) (SP X ag D) X.xe s
theorem thn{α:Type}{t:Sem α}{Q Q':α->av->Prop}{M:Model}{A:bR}{E:cR}{s:av}(h:wpAny M A t Q E s)(hQ:∀a s,Q a s->Q' a s):wpAny M A t Q' E s:=lI h hQ fun _ _ x=>x
section
variable {X:Cx}
theorem bin{a b:ao}{ta tb:TE}(ha:PE X a ta)(hb:PE X b tb){ag:List (af×Obj)}{s:av}{σ:St}{H:Hp}{R:V->V->Hp->Prop}(I:Inv X ag σ H s)(h:ta σ H fun x H1=>tb σ H1 fun y H2=>R x y H2)
    {α:Type} {Q:α->av->Prop} {f:ai->ai->Sem α}
    (hf:∀v u s2 x y H2,Inv X ag σ H2 s2->RelV x v->RelV y u->R x y H2->wpAny (model X.prog X.w) X.A (f v u) Q X.xe s2) :
    wpAny (model X.prog X.w) X.A (eval a X.env) (fun v s₁=>wpAny (model X.prog X.w) X.A (eval b X.env) (fun u AF=>wpAny (model X.prog X.w) X.A (f v u) Q X.xe AF) X.xe s₁) X.xe s:=by
  refine thn (ha ag s σ H _ I h) fun v s1 ⟨x,H1,I1,r1,q1⟩=>?_
  refine thn (hb ag s1 σ H1 _ I1 q1) fun u s2 ⟨y,H2,I2,r2,q2⟩=>?_
  exact hf v u s2 x y H2 I2 r1 r2 q2
def tN(i:Nat):TE:=fun σ H Q=>∃v,σ[i]?=some (some v)/\Q v H
def tC(v:V):TE:=fun _ H Q=>Q v H
theorem pe_var{i:Nat}{x:Str}{pos:Pos}(hN:X.N[i]?=some x)(hv:We X.env.scope x)(hd:(x==("__debug__":Str))=false:=by decide)(vU:(x==("__classdict__":Str))=false:=by decide):PE X (.Name x pos) (tN i):=by
  intro ag s σ H Q I h;obtain⟨v,e,h⟩:=h;obtain⟨m,hn,hl⟩:=I.loc;obtain⟨u,r,l⟩:=hl i x v hN e hv;have fin:EP X ag σ Q u s:=⟨v,H,I,r,h⟩;rcases l with⟨hk,hm⟩ | ⟨hk,c,hc,lM⟩
  · exact wpAny_Name (wpAny_loadName_local I.ok.kind hk hn hm fin) hd
  · rcases hk with hk | hk
    · exact wpAny_Name (wpAny_loadName_cell I.ok.kind hk hc lM fin) hd
    · exact wpAny_Name (wpAny_loadName_free I.ok.kind hk hc lM fin vU) hd
theorem ya{i j pos}:PE X (.Constant (.int i) j pos) (tC (.int i)):=fun _ _ _ H _ I h=>wpAny_Constant_int ⟨.int i,H,I.tok _,⟨_,rfl⟩,h⟩
theorem RH{b j pos}:PE X (.Constant (.bool b) j pos) (tC (.bl b)):=fun _ _ _ H _ I h=>Constant_bool ⟨.bl b,H,I,rfl,h⟩
theorem Tf{j pos}:PE X (.Constant .none j pos) (tC .df):=fun _ _ _ H _ I h=>Constant_none ⟨.df,H,I,rfl,h⟩
theorem Tg{x j pos}:PE X (.Constant (.str x) j pos) (tC (.str x)):=fun _ _ _ H _ I h=>Calls.Constant_str ⟨.str x,H,I.tok _,⟨_,rfl⟩,h⟩
def Gl(X:Cx)(x:Str):Prop:=X.env.kindOf x=some .globalImplicit
theorem ld_glob{E:cR}{ag:List (af×Obj)}{s:av}{σ:St}{H:Hp}{x:Str}{u:ai}{pos:Pos}{Q:cR}(I:Inv X ag σ H s)(hg:Gl X x)(hm:X.mg x=some u)(h:Q u s)
    (hd:(x==("__debug__":Str))=false:=by decide):wpAny (model X.prog X.w) X.A (eval (.Name x pos) X.env) Q E s :=
  Ke I.ok.kind hg (Calls.loadGlobal_global (by rw[I.ok.glob];exact I.mod.glob.keeps I.bk) hm h) hd
theorem ld_blt{E:cR}{ag:List (af×Obj)}{s:av}{σ:St}{H:Hp}{x:Str}{u:ai}{pos:Pos}{Q:cR}(I:Inv X ag σ H s)(hg:Gl X x)(hm:X.mg x=none)(hv:bootBuiltins x=some u)(h:Q u s)
    (hn:x≠"__name__":=by decide) (hd:(x==("__debug__":Str))=false:=by decide):wpAny (model X.prog X.w) X.A (eval (.Name x pos) X.env) Q E s:=by
  obtain⟨mb,h1,h2⟩:=I.mod.blt;exact Ke I.ok.kind hg (Calls.loadGlobal_builtin (by rw[I.ok.glob];exact I.mod.glob.keeps I.bk) hm (by rw[I.ok.blt];exact h1.keeps I.bk) ((h2 x hn).trans hv) h) hd
theorem F7{x:Str}{v:V}{u:ai}{pos:Pos}(hg:Gl X x)(hm:X.mg x=some u)(r:RelV v u)(hd:(x==("__debug__":Str))=false:=by decide):PE X (.Name x pos) (tC v) :=
  fun _ _ _ H _ I h=>ld_glob I hg hm ⟨v,H,I,r,h⟩ hd
theorem Oo{x:Str}{v:V}{u:ai}{pos:Pos}(hg:Gl X x)(hm:X.mg x=none)(hv:bootBuiltins x=some u)(r:RelV v u)(hn:x≠"__name__":=by decide)(hd:(x==("__debug__":Str))=false:=by decide):PE X (.Name x pos) (tC v) :=
  fun _ _ _ H _ I h=>ld_blt I hg hm hv ⟨v,H,I,r,h⟩ hn hd
variable {a b:ao} {ta tb:TE} {pos:Pos}
def tB(t:TE):TT:=fun σ H Q=>t σ H fun x H1=>∃c,x=.bl c/\Q c H1
theorem Th{e:ao}{t:TE}(h:PE X e t)(he:∀jE,isTrue e X.env jE=(do let v <-jE;standAt e.pos;holding [v] (truthy v)):=by intro _;rfl):PT X e (tB t):=by
  intro ag s σ H Q I hw;refine isTrue_plain (thn (h ag s σ H _ I hw) fun v s1 ⟨x,H1,I1,r1,q1⟩=>?_) (he _)
  obtain⟨d,rfl,q⟩:=q1;cases r1;exact kC ⟨H1,I1,q⟩
variable {tA Z7:TT} {rest:List ao}
def ab1(t u:TT):TT:=fun σ H Q=>t σ H fun c H1=>if c=true then u σ H1 Q else Q false H1
def tOr(t u:TT):TT:=fun σ H Q=>t σ H fun c H1=>if c=true then Q true H1 else u σ H1 Q
def ab2(t:TT):TT:=fun σ H Q=>t σ H fun c H1=>Q (!c) H1
theorem Oq(ha:PT X a tA):PW X (.BoolOp .And [a] pos) tA:=by
  intro wh ag s σ H Q I h;refine isTrue_and (thn (ha ag s σ H Q I h) fun c s1 e=>?_)
  cases c with
  | true=>exact isTrue_and_nil e
  | false=>exact e
theorem Ti(ha:PT X a tA):PW X (.BoolOp .Or [a] pos) tA:=by
  intro wh ag s σ H Q I h;refine isTrue_or (thn (ha ag s σ H Q I h) fun c s1 e=>?_)
  cases c with
  | false=>exact isTrue_or_nil e
  | true=>exact e
theorem Tj(ha:PT X a tA)(hb:PW X (.BoolOp .And (b::rest) pos) Z7):PW X (.BoolOp .And (a::b::rest) pos) (ab1 tA Z7):=by
  intro wh ag s σ H Q I h;refine isTrue_and (thn (ha ag s σ H _ I h) fun c s1 ⟨H1,I1,q1⟩=>?_)
  cases c with
  | true=>exact hb wh ag s1 σ H1 Q I1 q1
  | false=>exact⟨H1,I1,q1⟩
theorem WX(ha:PT X a tA)(hb:PW X (.BoolOp .Or (b::rest) pos) Z7):PW X (.BoolOp .Or (a::b::rest) pos) (tOr tA Z7):=by
  intro wh ag s σ H Q I h;refine isTrue_or (thn (ha ag s σ H _ I h) fun c s1 ⟨H1,I1,q1⟩=>?_)
  cases c with
  | true=>exact⟨H1,I1,q1⟩
  | false=>exact hb wh ag s1 σ H1 Q I1 q1
theorem Tn(ha:PT X a tA):PT X (.UnaryOp .Not a pos) (ab2 tA):=by
  intro ag s σ H Q I h;exact isTrue_not (ha ag s σ H (fun c H1=>Q (!c) H1) I h)
def WY(ta tb:TE):TE:=fun σ H Q=>ta σ H fun x H1=>∃c,x=.bl c/\if c=true then tb σ H1 Q else Q (.bl false) H1
def WZ(ta:TE):TE:=fun σ H Q=>ta σ H fun x H1=>∃c,x=.bl c/\Q (.bl (!c)) H1
theorem To{op}{t:TE}(h:PE X a t):PE X (.BoolOp op [a] pos) t:=fun ag s σ H Q I hw=>BoolOp_one (h ag s σ H Q I hw)
theorem Tp(ha:PE X a ta)(hb:PE X (.BoolOp .And (b::rest) pos) tb):PE X (.BoolOp .And (a::b::rest) pos) (WY ta tb):=by
  intro ag s σ H Q I h;refine BoolOp_and (thn (ha ag s σ H _ I h) fun v s1 ⟨x,H1,I1,r1,q1⟩=>?_)
  obtain⟨c,rfl,q1⟩:=q1;cases r1;refine kC ?_;cases c with
  | true=>exact hb ag s1 σ H1 Q I1 q1
  | false=>exact⟨.bl false,H1,I1,rfl,q1⟩
theorem Tq(ha:PE X a ta):PE X (.UnaryOp .Not a pos) (WZ ta):=by
  intro ag s σ H Q I h;refine UnaryOp_ (thn (ha ag s σ H _ I h) fun v s1 ⟨x,H1,I1,r1,q1⟩=>?_)
  obtain⟨c,rfl,q1⟩:=q1;cases r1;exact not_of (kC ⟨.bl (!c),H1,I1,rfl,q1⟩)
def tIf(t:TT)(ta tb:TE):TE:=fun σ H Q=>t σ H fun c H1=>if c=true then ta σ H1 Q else tb σ H1 Q
theorem KO{c:ao}(hc:PT X c tA)(ha:PE X a ta)(hb:PE X b tb):PE X (.IfExp c a b pos) (tIf tA ta tb):=by
  intro ag s σ H Q I h;refine wpAny_IfExp (thn (hc ag s σ H _ I h) fun d s1 ⟨H1,I1,q1⟩=>?_)
  cases d with
  | true=>exact ha ag s1 σ H1 Q I1 q1
  | false=>exact hb ag s1 σ H1 Q I1 q1
end
def nG(K:ak)(H:Hp)(a:af)(xs:List V):Prop :=
  Rd H a (.aq xs) \/
    ∃(o:Obj) (bg:Array ai) (n:Nat),K.lookup a=some o/\o.cls=.type "list"/\o.dict=none/\o.data=.seq bg n/\bg.size<=sizeLine/\Vals xs bg.toList
theorem rG.sq{K:ak}{H:Hp}{a:af}{xs:List V}(h:rG K H a xs):nG K H a xs:=by
  rcases h with h | ⟨bg,n,e,z,r⟩
  · exact .inl h
  · exact .inr ⟨_,bg.toArray,n,e,rfl,rfl,rfl,by simpa using z,by simpa using r⟩
def ab3:ai->Option V
  | .none=>some .df
  | .bool b=>some (.bl b)
  | .int i _=>some (.int i)
  | .str x _=>some (.str x)
  | .bytes b _=>some (.WD b)
  | .float b _=>some (.flt b)
  | .ref a=>some (.ref a)
  | .type n=>some (.ty n)
  | _=>none
theorem RelV.abs{x:V}{u:ai}(r:RelV x u):ab3 u=some x:=by
  cases x with
  | df=>cases r;rfl
  | bl _=>cases r;rfl
  | int _=>obtain⟨t,rfl⟩:=r;rfl
  | str _=>obtain⟨t,rfl⟩:=r;rfl
  | WD _=>obtain⟨t,rfl⟩:=r;rfl
  | flt _=>obtain⟨t,rfl⟩:=r;rfl
  | ref _=>cases r;rfl
  | ty _=>cases r;rfl
theorem RelV.inj{x y:V}{u:ai}(r:RelV x u)(q:RelV y u):x=y:=bW (r.abs.symm.trans q.abs)
theorem Vals.inj:∀{xs ys:List V} {us:cj},Vals xs us->Vals ys us->xs=ys
  | _,_,_,.nil,.nil=>rfl
  | _,_,_,.cons r t,.cons r' t'=>by rw[r.inj r',Vals.inj t t']
section
variable {X:Cx} {ag:List (af×Obj)} {σ:St} {H:Hp} {s:av} {a:af} {xs ys:List V}
theorem nG.of{K:ak}(h:H a=some (.aq xs)):nG K H a xs:=.inl (.inl h)
theorem jY.of{K:ak}(h:H a=some (.aA xs)):jY K H a xs:=.inl (.inl h)
theorem Inv.list(I:Inv X ag σ H s)(h:nG X.K H a xs):∃bg:cj,Vals xs bg/\PlainL s.heap a bg.toArray/\xs.length<=sizeLine:=by
  rcases h with h | ⟨o,bg,n,hk,hc,hd,hs,hz,r⟩
  · obtain⟨z,bg,n,r,e⟩:=h.ok I.hok
    exact⟨bg,r,⟨_,n,e,rfl,rfl,rfl⟩,z⟩
  · refine⟨bg.toList,r,⟨o,n,I.z0 a o hk,hc,hd,by simpa using hs⟩,?_⟩
    have e:=r.length;simp only[dw]at e
    lia
theorem Inv.tuple(I:Inv X ag σ H s)(h:jY X.K H a xs):∃bg:cj,Vals xs bg/\IsTup s.heap a bg.toArray/\xs.length<=sizeLine:=by
  rcases h with h | ⟨o,bg,n,hk,hc,hs,hz,r⟩
  · obtain⟨z,bg,r,p⟩:=h.ok I.hok
    exact⟨bg,r,p,z⟩
  · refine⟨bg.toList,r,⟨o,I.z0 a o hk,hc,n,by simpa using hs⟩,?_⟩
    have e:=r.length;simp only[dw]at e
    lia
theorem Inv.tQ(I:Inv X ag σ H s)(h:nG X.K H a xs)(h':nG X.K H a ys):xs=ys:=by
  obtain⟨bg,r,⟨o,n,e,_,_,d⟩,_⟩:=I.list h;obtain⟨its',r',⟨o',n',e',_,_,d'⟩,_⟩:=I.list h';rw[e]at e';cases e';rw[d]at d';injection d' with d1 _
  have:bg=its':=by simpa using di Array.toList d1
  subst this;exact r.inj r'
theorem Inv.pZ(I:Inv X ag σ H s)(h:jY X.K H a xs)(h':jY X.K H a ys):xs=ys:=by
  obtain⟨bg,r,⟨o,e,_,n,d⟩,_⟩:=I.tuple h;obtain⟨its',r',⟨o',e',_,n',d'⟩,_⟩:=I.tuple h';rw[e]at e';cases e';rw[d]at d';injection d' with d1 _
  have:bg=its':=by simpa using di Array.toList d1
  subst this;exact r.inj r'
end
section
variable {X:Cx} {st:aG} {rest:List aG} {t u:TS} {e:ao} {te:TE} {pos:Pos}
def W0:TS:=fun D σ H=>D.nx σ H
def ab4(t u:TS):TS:=fun D σ H=>t {D with nx:=u D} σ H
theorem F8:rh X [] W0:=fun _ _ σ H _ I h=>xQ ⟨σ,H,I,h⟩
theorem iy(h1:PS X st t)(h2:rh X rest u):rh X (st::rest) (ab4 t u):=by
  intro ag s σ H D I h;refine wpAny_execs_cons (thn (h1 ag s σ H {D with nx:=u D} I h) fun f s1 q=>?_)
  cases f with
  | next =>
    obtain⟨dt,H',I',q⟩:=q;exact h2 ag s1 dt H' D I' q
  | ret v=>exact q
  | brk=>exact q
  | cont=>exact q
theorem mj(h1:PS X st t):rh X [st] t:=by
  intro ag s σ H D I h;refine wpAny_execs_cons (thn (h1 ag s σ H D I h) fun f s1 q=>?_)
  cases f with
  | next=>exact xQ q
  | ret v=>exact q
  | brk=>exact q
  | cont=>exact q
theorem Inv.quiet{ag:List (af×Obj)}{σ:St}{H:Hp}{s:av}(I:Inv X ag σ H s):interactive X.env=false:=by simp[interactive,I.ok.kind]
def tDrop(te:TE):TS:=fun D σ H=>te σ H fun _ H1=>D.nx σ H1
theorem iR(he:PE X e te)(hs:swapsWith e none pos.line X.env=pure false:=by rfl):PS X (.Expr e pos) (tDrop te):=by
  intro ag s σ H D I h;exact wpAny_Expr_any (thn (he ag s σ H _ I h) fun v s1 ⟨x,H1,I1,r1,q1⟩=>⟨σ,H1,I1,q1⟩) I.quiet hs
def ab5(te:TE):TS:=fun D σ H=>te σ H D.rt
theorem DP(he:PE X e te):PS X (.Return (some e) pos) (ab5 te):=by
  intro ag s σ H D I h;exact wpAny_Return_some (thn (he ag s σ H _ I h) fun v s1 ⟨x,H1,I1,r1,q1⟩=>⟨x,σ,H1,I1,r1,q1⟩)
def W2:TS:=fun D _ H=>D.rt .df H
theorem Ot:PS X (.Return none pos) W2:=fun _ _ σ H _ I h=>wpAny_Return_none ⟨.df,σ,H,I,rfl,h⟩
def ab6(c:TT)(t u:TS):TS:=fun D σ H=>c σ H fun b H1=>if b=true then t D σ H1 else u D σ H1
theorem RI{c:ao}{a b:List aG}{tc:TT}(hc:PT X c tc)(ha:rh X a t)(hb:rh X b u):PS X (.If c a b pos) (ab6 tc t u):=by
  intro ag s σ H D I h;refine wpAny_If (thn (hc ag s σ H _ I h) fun d s1 ⟨H1,I1,q1⟩=>?_)
  cases d with
  | true=>exact ha ag s1 σ H1 D I1 q1
  | false=>exact hb ag s1 σ H1 D I1 q1
def Tr:TS:=fun _ _ _=>False
theorem KP:PS X st Tr:=fun _ _ _ _ _ _ h=>h.elim
end
abbrev TG:=V->St->Hp->(St->Hp->Prop)->Prop
abbrev Ou:=List V->St->Hp->(St->Hp->Prop)->Prop
def PG(X:Cx)(target:ao)(t:TG):Prop :=
  ∀(ag:List (af×Obj)) (s:av) (σ:St) (H:Hp) (v:V) (u:ai) (Q:St->Hp->Prop),Inv X ag σ H s->RelV v u->t v σ H Q ->
    wpAny (model X.prog X.w) X.A (assign target X.env u) (fun _ s'=>∃dt H',Inv X ag dt H' s'/\Q dt H') X.xe s
def JY(X:Cx)(ts:List ao)(t:Ou):Prop :=
  ∀(ag:List (af×Obj)) (s:av) (σ:St) (H:Hp) (vs:List V) (us:cj) (Q:St->Hp->Prop),Inv X ag σ H s->Vals vs us->t vs σ H Q ->
    wpAny (model X.prog X.w) X.A (assignInOrder ((assignEach ts X.env).map (·.2)) us) (fun _ s'=>∃dt H',Inv X ag dt H' s'/\Q dt H') X.xe s
abbrev TIp:=V->V->Hp->VK->Prop
def PIp(X:Cx)(op:Operator)(t:TIp):Prop :=
  ∀(ag:List (af×Obj)) (s:av) (σ:St) (H:Hp) (x y:V) (v u:ai) (Q:VK),Inv X ag σ H s->RelV x v->RelV y u->t x y H Q ->
    wpAny (model X.prog X.w) X.A (inplaceOp op v u) (EP X ag σ Q) X.xe s
section
variable {X:Cx} {pos:Pos}
def gName(i:Nat):TG:=fun v σ H Q=>Q (σ.set i (some v)) H
theorem F9{i:Nat}{x:Str}(hN:X.N.Nodup)(hi:X.N[i]?=some x)(hx:RE X.env.scope x)(hf:X.fn x=true\/X.env.scope.names.lookup x=some .local:=by first | exact .inl rfl | exact .inr rfl | assumption):PG X (.Name x pos) (gName i):=by
  intro ag s σ H v u Q I r h;exact wpAny_assign_Name (tM I hN hi hx r (fun s' I'=>⟨_,H,I',h⟩) hf)
def ab8:Ou:=fun vs σ H Q=>vs=[]/\Q σ H
def W3(t:TG)(u:Ou):Ou:=fun vs σ H Q=>∃v r,vs=v::r/\t v σ H fun dt H'=>u r dt H' Q
theorem Ov:JY X [] ab8:=by
  intro ag s σ H vs us Q I r h;obtain⟨e,h⟩:=h;subst e;cases r;exact assignInOrder_nil ⟨σ,H,I,h⟩
theorem KQ{e:ao}{es:List ao}{t:TG}{u:Ou}(h1:PG X e t)(h2:JY X es u)
    (hs:(assignEach (e::es) X.env).map (·.2)=assign e X.env::(assignEach es X.env).map (·.2):=by rfl):JY X (e::es) (W3 t u):=by
  intro ag s σ H vs us Q I r h;obtain⟨v,vr,e1,h⟩:=h;subst e1;cases r with
  | cons r rr =>
    rw[hs];refine assignInOrder_cons (thn (h1 ag s σ H _ _ _ I r h) fun _ s1 ⟨mQ,H1,I1,q1⟩=>?_)
    exact h2 ag s1 mQ H1 _ _ Q I1 rr q1
def ab9(K:ak)(n:Nat)(t:Ou):TG:=fun v σ H Q=>∃a xs,v=.ref a/\jY K H a xs/\xs.length=n/\t xs σ H Q
theorem Ts{es:List ao}{k:Nat}{t:Ou}{n:Nat}(hc:X.calm=true)(h:JY X es t)
    (hn:(assignEach es X.env).length=n:=by rfl) (DQ:(assignEach es X.env).findIdx? (·.1)=none:=by rfl):PG X (.Tuple es k pos) (ab9 X.K n t):=by
  intro ag s σ H v u Q I r hw;obtain⟨a,xs,e1,hq,hl,hw⟩:=hw;subst e1;cases r;obtain⟨bg,rv,ht,hz⟩:=I.tuple hq;refine assign_Tuple_tuple (I.ok.hd hc) ht (by simp[hn,<-hl,rv.length]) DQ fun h' hx=>?_
  have I1:Inv X ag σ H {s with heap:=h'}:=I.kept (t':=s.toks) fun b o e=>hx b o (cX (bX e)) e
  exact h ag _ σ H xs _ Q I1 (by simpa using rv) hw
def ri(te:TE)(g:TG):TS:=fun D σ H=>te σ H fun x H1=>g x σ H1 D.nx
theorem Tt{tg e:ao}{te:TE}{g:TG}(he:PE X e te)(hg:PG X tg g)(hs:swapsWithSole [tg] e pos.line X.env=pure false:=by rfl)(hw:swappedStores [tg] e X.env=pure none:=by rfl)
    (h1:(assignEach [tg] X.env).map (·.2)=[assign tg X.env]:=by rfl):PS X (.Assign [tg] e pos) (ri te g):=by
  intro ag s σ H D I h;refine wpAny_Assign_stores (thn (he ag s σ H _ I h) fun v s1 ⟨x,H1,I1,r1,q1⟩=>?_) hs hw
  rw[h1];exact thn (hg ag s1 σ H1 x v _ I1 r1 q1) fun _ s2 q=>q
theorem yb{i:Nat}{x:Str}{e:ao}{te:TE}{iz:Pos}(hN:X.N.Nodup)(hi:X.N[i]?=some x)(hx:RE X.env.scope x)(he:PE X e te)(hs:swapsWith e (some (.Name x iz)) pos.line X.env=pure false:=by rfl)(hf:X.fn x=true\/X.env.scope.names.lookup x=some .local:=by first | exact .inl rfl | exact .inr rfl | assumption) :
    PS X (.Assign [.Name x iz] e pos) (ri te (gName i)):=by
  intro ag s σ H D I h;refine wpAny_Assign_Name (thn (he ag s σ H _ I h) fun v s1 ⟨y,H1,I1,r1,q1⟩=>?_) hs
  exact tM I1 hN hi hx r1 (fun s2 I2=>⟨_,H1,I2,q1⟩) hf
def aca(i:Nat)(te:TE)(ti:TIp):TS:=fun D σ H=>∃x,σ[i]?=some (some x)/\te σ H fun y H1=>ti x y H1 fun z H2=>D.nx (σ.set i (some z)) H2
theorem KR{i:Nat}{x:Str}{e:ao}{te:TE}{op:Operator}{ti:TIp}{iz:Pos}(hN:X.N.Nodup)(hi:X.N[i]?=some x)(hx:RE X.env.scope x)(he:PE X e te)(ho:PIp X op ti)(hf:X.fn x=true\/X.env.scope.names.lookup x=some .local:=by first | exact .inl rfl | exact .inr rfl | assumption) :
    PS X (.AugAssign (.Name x iz) op e pos) (aca i te ti):=by
  intro ag s σ H D I h;obtain⟨v,e1,h⟩:=h;obtain⟨m,hn,hl⟩:=I.loc;have JZ:We X.env.scope x:=by rcases hx with k | k;exact .inl k;exact .inr (.inl k)
  obtain⟨u,r,l⟩:=hl i x v hi e1 JZ;refine wpAny_AugAssign_Name ?_;have go:wpAny (model X.prog X.w) X.A (eval e X.env) (fun w AF=>wpAny (model X.prog X.w) X.A (inplaceOp op u w) (fun r acb=>wpAny (model X.prog X.w) X.A (storeName X.env x r) (fun _=>SP X ag D .next) X.xe acb) X.xe AF) X.xe s:=by
    refine thn (he ag s σ H _ I h) fun w s1 ⟨y,H1,I1,r1,q1⟩=>?_
    refine thn (ho ag s1 σ H1 v y u w _ I1 r r1 q1) fun z s2 ⟨zv,H2,I2,r2,q2⟩=>?_
    exact tM I2 hN hi hx r2 (fun s3 I3=>⟨_,H2,I3,q2⟩) hf
  rcases l with⟨hk,hm⟩ | ⟨hk,c,hc,lM⟩
  · exact wpAny_loadName_local I.ok.kind hk hn hm go
  · rcases hk with hk | hk
    · exact wpAny_loadName_cell I.ok.kind hk hc lM go
    · rcases hx with k | k
      · have:X.env.scope.names.lookup x=some .free:=hk
        rw[k]at this;cases this
      · have:X.env.scope.names.lookup x=some .free:=hk
        rw[k]at this;cases this
end
section
variable {X:Cx} {pos:Pos}
def Tu(c:TT)(tb:TS):TS:=fun D σ H=>∃W:Nat->St->Hp->Prop,(∃m,W m σ H)/\∀m σ H,W m σ H ->
  c σ H fun b H1=>if b=true then ∃N:St->Hp->Prop,(∀dt H',N dt H'->∃m',m'<m/\W m' dt H')/\tb {D with nx:=N,ct:=N,bk:=D.nx} σ H1 else D.nx σ H1
theorem KS{c:ao}{body:List aG}{tc:TT}{tb:TS}(hp:PassesOwn (model X.prog X.w) X.A X.env X.xe)(hc:PT X c tc)(hb:rh X body tb):PS X (.While c body [] pos) (Tu tc tb):=by
  intro ag s σ H D I h;obtain⟨W,⟨m0,w0⟩,vt⟩:=h;refine wpAny_While (codeAny_whileLoop (fun n s'=>∃dt H',Inv X ag dt H' s'/\W n dt H') ?_ m0 ⟨σ,H,I,w0⟩)
  rintro n s1 ⟨mQ,H1,I1,w1⟩
  refine nt hp (thn (hc ag s1 mQ H1 _ I1 (vt n mQ H1 w1)) fun b s2 ⟨H2,I2,q2⟩=>?_)
  cases b with
  | true =>
    obtain⟨N,hN,q2⟩:=q2;rw[if_pos rfl];refine nt hp (thn (hb ag s2 mQ H2 _ I2 q2) fun f s3 q3=>?_)
    cases f with
    | next =>
      obtain⟨tV,H3,I3,n3⟩:=q3;obtain⟨m',hm,w3⟩:=hN tV H3 n3;exact⟨m',hm,tV,H3,I3,w3⟩
    | cont =>
      obtain⟨tV,H3,I3,n3⟩:=q3;obtain⟨m',hm,w3⟩:=hN tV H3 n3;exact⟨m',hm,tV,H3,I3,w3⟩
    | brk=>exact q3
    | ret v=>exact q3
  | false =>
    rw[if_neg je];exact xQ ⟨mQ,H2,I2,q2⟩
end
structure It where
  go:Nat->Hp->Prop
  yld:Nat->Hp->V->Hp->Prop
  stop:Nat->Hp->Prop
def yc(X:Cx)(ag:List (af×Obj))(H:Hp)(b:af):Prop :=
  H b=none/\b≠X.env.locals/\b∉X.fs/\(b∈X.ex\/X.s₀.heap.objs.size<=b)/\(∀x c,X.env.cells.lookup x=some c->c≠b)/\∀p∈X.pn++ag,p.1≠b
theorem Inv.KU{X:Cx}{ag:List (af×Obj)}{σ:St}{H H':Hp}{s:av}{b:af}(I:Inv X ag σ H s)(hb:s.heap.objs.size<=b)(hn:H' b=none):yc X ag H' b:=by
  refine⟨hn,sM (dy I.lt hb),I.abW hb,.inr (cz I.sz hb),fun x c e z=>?_,fun p hp z=>?_⟩
  · obtain⟨v,q⟩:=I.cell x c e
    exact absurd (dy q.lt (by rw[z];exact hb)) (jh _)
  · exact absurd (dy (bX (I.pin p hp).1) (by rw[z];exact hb)) (jh _)
structure Turn (P:bG) (w:aW) (K:ak) (tg:ao) (J:It) (fp:List af) (it:af) (tn:Nat->Heap->Prop):Prop where
  mem:it∈fp
  obj:∀i h,tn i h->∀b∈fp,∃o,h.get? b=some o/\∀v,o.data≠.cell v
  keep:∀i h h',tn i h->(∀b∈fp,∀o,h.get? b=some o->h'.get? b=some o)->tn i h'
  item:∀(X:Cx),X.prog=P->X.w=w->X.K=K->X.calm=true->∀(i:Nat) (ag:List (af×Obj)) (s:av) (σ:St) (H:Hp) (E:cR),Inv X ag σ H s->(∀b∈fp,yc X ag H b)->tn i s.heap->J.go i H ->
    wpAny (model P w) X.A (pyNext (.ref it)) (fun r s1=>∃u,r=some u /\
      wpAny (model P w) X.A (letOwnedTupleGo tg (.ref it) u) (fun _ s2=>∃x H',Inv X ag σ H' s2/\RelV x u/\J.yld i H x H'/\tn (i+1) s2.heap/\∀b∈fp,H' b=none) E s1) E s
  done:∀(X:Cx),X.prog=P->X.w=w->X.K=K->X.calm=true->∀(i:Nat) (ag:List (af×Obj)) (s:av) (σ:St) (H:Hp) (E:cR),Inv X ag σ H s->(∀b∈fp,yc X ag H b)->tn i s.heap->J.stop i H ->
    wpAny (model P w) X.A (pyNext (.ref it)) (fun r s1=>r=none/\Inv X ag σ H s1) E s
  self:∀(A:bR) (i:Nat) (s:av) (Q:cR) (E:cR),tn i s.heap->Q (.ref it) s->wpAny (model P w) A (pyIter (.ref it)) Q E s
abbrev TI:=St->Hp->(It->Hp->Prop)->Prop
def PIE(X:Cx)(ag:List (af×Obj))(σ:St)(tg:ao)(R:It->Hp->Prop)(itv:ai)(s2:av):Prop :=
  ∃(it:af) (fp:List af) (tn:Nat->Heap->Prop) (J:It) (H':Hp),itv=.ref it/\Inv X ag σ H' s2/\Turn X.prog X.w X.K tg J fp it tn/\tn 0 s2.heap/\(∀b∈fp,yc X ag H' b)/\R J H'
def PI(X:Cx)(tg iter:ao)(wi:TI):Prop :=
  ∀(ag:List (af×Obj)) (s:av) (σ:St) (H:Hp) (R:It->Hp->Prop),Inv X ag σ H s->wi σ H R ->
    wpAny (model X.prog X.w) X.A (eval iter X.env) (fun v s1=>wpAny (model X.prog X.w) X.A (pyIter v) (PIE X ag σ tg R) X.xe s1) X.xe s
theorem KW{M:Model}{A:bR}{E:cR}{s:av}{tg:ao}{it:af}{u:ai}{o:Obj}{n:String}{vs:Array ai}{Q:Unit->av->Prop}(ho:s.heap.get? it=some o)(hc:o.cls=.type n)(hd:o.data=.fields vs)
    (hn:["enumerate","zip","dict_itemiterator","dict_reverseitemiterator","odict_iterator","itertools.zip_longest","itertools.pairwise"].contains n=false) (hQ:Q () s):wpAny M A (letOwnedTupleGo tg (.ref it) u) Q E s:=by
  unfold letOwnedTupleGo;cases tg<;>first
    | exact aJ hQ
    | (cases u<;>first
        | exact aJ hQ
        | (refine au (wpAny_load ho ?_)
           rw[hc,hd];show wpAny M A (if(["enumerate","zip","dict_itemiterator","dict_reverseitemiterator","odict_iterator","itertools.zip_longest","itertools.pairwise"].contains n&&vs[0]?==some (rawInt _))=true then _ else _) Q E s
           rw[if_neg (by intro h;rw[hn,Bool.false_and]at h;cases h)]
           exact aJ hQ))
def Wf(K:ak)(a:af):It :=
  ⟨fun i H=>∃xs x,nG K H a xs/\xs[i]?=some x,fun i H x H'=>H'=H/\∀xs,nG K H a xs->xs[i]?=some x,fun i H=>∃xs,nG K H a xs/\xs.length<=i⟩
def Itt(K:ak)(a:af):It :=
  ⟨fun i H=>∃xs x,jY K H a xs/\xs[i]?=some x,fun i H x H'=>H'=H/\∀xs,jY K H a xs->xs[i]?=some x,fun i H=>∃xs,jY K H a xs/\xs.length<=i⟩
def Z8(lo:Int)(n:Nat):It:=⟨fun i _=>i<n,fun i H x H'=>H'=H/\x=.int (lo+i),fun i _=>n<=i⟩
theorem HN{P:bG}{w:aW}{K:ak}{tg:ao}(a it:af):Turn P w K tg (Wf K a) [it] it (fun i h=>h.IsListIter it a i) where
  mem:=by simp
  obj:=fun i h st b hb=>by
    have e:b=it:=by simpa using hb
    subst e;obtain⟨o,e,c,d⟩:=st;exact⟨o,e,fun v z=>by rw[d]at z;cases z⟩
  keep:=fun i h h' st k=>st.at fun o e=>k it (by simp) o e
  item:=by
    intro X hP hw hK hc i ag s σ H E I hf st hg;subst hP hw hK;obtain⟨xs,x,hq,hx⟩:=hg;obtain⟨bg,rv,p,hz⟩:=I.list hq;obtain⟨u,hu,ru⟩:=rv.get hx;obtain⟨f0,f1,f2,f3,f4,f5⟩:=hf it (by simp)
    refine wpAny_pyNext_list_item st p.isList (x:=u) (by simpa using hu) fun h' bE sb=>?_
    have I1:Inv X ag σ H {s with heap:=h'}:=I.turned (t':=s.toks) (fun b o hb e=>(sb.2 b hb).trans e) f0 f1 f3 f4 f5
    obtain⟨o,e,c,d⟩:=id bE;exact⟨u,rfl,KW (s:={s with heap:=h'}) e c d (by decide) ⟨x,H,I1,ru,⟨rfl,fun ys hy=>by rw[I.tQ hy hq];exact hx⟩,bE,fun b hb=>(hf b hb).1⟩⟩
  done:=by
    intro X hP hw hK hc i ag s σ H E I hf st hg;subst hP hw hK;obtain⟨xs,hq,hx⟩:=hg;obtain⟨bg,rv,p,hz⟩:=I.list hq;obtain⟨f0,f1,f2,f3,f4,f5⟩:=hf it (by simp)
    have hl:=rv.length;exact wpAny_pyNext_list_end (I.ok.hd hc) st p.isList (by simp;lia) fun h' eb=>⟨rfl,I.turned (t':=s.toks) (fun b o hb e=>eb b o hb e) f0 f1 f3 f4 f5⟩
  self:=fun _ _ _ _ _ st h=>wpAny_pyIter_listiter st h
theorem DR{P:bG}{w:aW}{K:ak}{tg:ao}(a it:af):Turn P w K tg (Itt K a) [it] it (fun i h=>h.IsTupleIter it a i) where
  mem:=by simp
  obj:=fun i h st b hb=>by
    have e:b=it:=by simpa using hb
    subst e;obtain⟨o,e,c,d⟩:=st;exact⟨o,e,fun v z=>by rw[d]at z;cases z⟩
  keep:=fun i h h' st k=>st.at fun o e=>k it (by simp) o e
  item:=by
    intro X hP hw hK hc i ag s σ H E I hf st hg;subst hP hw hK;obtain⟨xs,x,hq,hx⟩:=hg;obtain⟨bg,rv,p,hz⟩:=I.tuple hq;obtain⟨u,hu,ru⟩:=rv.get hx;obtain⟨f0,f1,f2,f3,f4,f5⟩:=hf it (by simp)
    refine wpAny_pyNext_tuple_item st (show s.heap.IsTuple a bg.toArray from p) (x:=u) (by simpa using hu) fun h' bE sb=>?_
    have I1:Inv X ag σ H {s with heap:=h'}:=I.turned (t':=s.toks) (fun b o hb e=>(sb.2 b hb).trans e) f0 f1 f3 f4 f5
    obtain⟨o,e,c,d⟩:=id bE;exact⟨u,rfl,KW (s:={s with heap:=h'}) e c d (by decide) ⟨x,H,I1,ru,⟨rfl,fun ys hy=>by rw[I.pZ hy hq];exact hx⟩,bE,fun b hb=>(hf b hb).1⟩⟩
  done:=by
    intro X hP hw hK hc i ag s σ H E I hf st hg;subst hP hw hK;obtain⟨xs,hq,hx⟩:=hg;obtain⟨bg,rv,p,hz⟩:=I.tuple hq;obtain⟨f0,f1,f2,f3,f4,f5⟩:=hf it (by simp)
    have hl:=rv.length;exact wpAny_pyNext_tuple_end (I.ok.hd hc) st (show s.heap.IsTuple a bg.toArray from p) (by simp;lia) fun h' eb=>⟨rfl,I.turned (t':=s.toks) (fun b o hb e=>eb b o hb e) f0 f1 f3 f4 f5⟩
  self:=fun _ _ _ _ _ st h=>wpAny_pyIter_tupleiter st h
theorem DS{P:bG}{w:aW}{K:ak}{tg:ao}(it:af)(lo:Int)(n:Nat):Turn P w K tg (Z8 lo n) [it] it (fun i h=>IsRangeIter h it (lo+(i:Nat)*1) ((n:Int)-(i:Nat)) 1) where
  mem:=by simp
  obj:=fun i h st b hb=>by
    have e:b=it:=by simpa using hb
    subst e;exact⟨_,st,fun v z=>by
      have z':Data.fields _=Data.cell v:=z;cases z'⟩
  keep:=fun i h h' st k=>k it (by simp) _ st
  item:=by
    intro X hP hw hK hc i ag s σ H E I hf st hg;subst hP hw hK;obtain⟨f0,f1,f2,f3,f4,f5⟩:=hf it (by simp)
    have W:=Walks.range (prog:=X.prog) (w:=X.w) (I.ok.hd hc) it lo 1 n;refine W.item i s _ _ hg st fun v h' tk hv bE kk=>?_
    obtain⟨t,rfl⟩:=hv;have I1:Inv X ag σ H {s with heap:=h',toks:=tk}:=I.turned (fun b o hb e=>kk b o (by simpa using hb) e) f0 f1 f3 f4 f5
    refine⟨_,rfl,KW (s:={s with heap:=h',toks:=tk}) (n:="range_iterator") bE rfl rfl (by decide) ⟨.int (lo+i),H,I1,⟨t,?_⟩,⟨rfl,rfl⟩,bE,fun b hb=>(hf b hb).1⟩⟩
    rw[Int.mul_one]
  done:=by
    intro X hP hw hK hc i ag s σ H E I hf st hg;subst hP hw hK;obtain⟨f0,f1,f2,f3,f4,f5⟩:=hf it (by simp)
    exact wpAny_pyNext_range_end (I.ok.hd hc) st (by have:n<=i:=hg;lia) fun h' eb=>⟨rfl,I.turned (t':=s.toks) (fun b o hb e=>eb b o hb e) f0 f1 f3 f4 f5⟩
  self:=fun _ _ _ _ _ st h=>wpAny_pyIter_rangeiter st h
section
variable {X:Cx} {tg:ao}
def W4(K:ak)(tl:TE):TI:=fun σ H R=>tl σ H fun x H1=>∃a,x=.ref a/\(∃xs,nG K H1 a xs)/\R (Wf K a) H1
def acf(K:ak)(tl:TE):TI:=fun σ H R=>tl σ H fun x H1=>∃a,x=.ref a/\(∃xs,jY K H1 a xs)/\R (Itt K a) H1
theorem Ga{l:ao}{tl:TE}(hl:PE X l tl):PI X tg l (W4 X.K tl):=by
  intro ag s σ H R I h;refine thn (hl ag s σ H _ I h) fun v s1 ⟨x,H1,I1,r1,q1⟩=>?_
  obtain⟨a,e,⟨xs,hq⟩,q⟩:=q1;subst e;cases r1;obtain⟨bg,rv,p,hz⟩:=I1.list hq;refine Dq p.isList ?_;refine⟨s1.heap.objs.size,[s1.heap.objs.size],_,_,H1,rfl,I1.kept (t':=s1.toks) fun b o e=>cD _ e,HN a _,⟨_,d3 _ rfl,rfl,rfl⟩,fun b hb=>?_,q⟩
  have e:b=s1.heap.objs.size:=by simpa using hb
  subst e;exact I1.KU (aV _) (I1.hok.fresh (aV _))
theorem Tv{l:ao}{tl:TE}(hl:PE X l tl):PI X tg l (acf X.K tl):=by
  intro ag s σ H R I h;refine thn (hl ag s σ H _ I h) fun v s1 ⟨x,H1,I1,r1,q1⟩=>?_
  obtain⟨a,e,⟨xs,hq⟩,q⟩:=q1;subst e;cases r1;obtain⟨bg,rv,p,hz⟩:=I1.tuple hq;refine wpAny_pyIter_tuple (show s1.heap.IsTuple a bg.toArray from p) ?_
  refine⟨s1.heap.objs.size,[s1.heap.objs.size],_,_,H1,rfl,I1.kept (t':=s1.toks) fun b o e=>cD _ e,DR a _,⟨_,d3 _ rfl,rfl,rfl⟩,fun b hb=>?_,q⟩
  have e:b=s1.heap.objs.size:=by simpa using hb
  subst e;exact I1.KU (aV _) (I1.hok.fresh (aV _))
theorem KY{ag:List (af×Obj)}{σ:St}{H:Hp}{s:av}{R:It->Hp->Prop}{E:cR}{lo hi:Int}{t u v:Tok}{tk:Nat}(I:Inv X ag σ H s)(h1:-(2^62)<=lo)(h2:lo<2^62)(h3:-(2^62)<=hi)(h4:hi<2^62)
    (q:R (Z8 lo (hi-lo).toNat) H):wpAny (model X.prog X.w) X.A (pyIter (.ref s.heap.objs.size)) (PIE X ag σ tg R) E {s with heap:=s.heap.push {cls:=.type "range",data:=.fields #[.int lo t,.int hi u,.int 1 v]},toks:=tk}:=by
  refine wpAny_pyIter_range (xY ..) (small_one h1 h2 h3 h4) ?_;have I1:Inv X ag σ H {s with heap:=s.heap.push {cls:=.type "range",data:=.fields #[.int lo t,.int hi u,.int 1 v]},toks:=tk}:=I.kept fun b o e=>cD _ e
  refine⟨(s.heap.push {cls:=.type "range",data:=.fields #[.int lo t,.int hi u,.int 1 v]}).objs.size,[(s.heap.push {cls:=.type "range",data:=.fields #[.int lo t,.int hi u,.int 1 v]}).objs.size],_,_,H,rfl,
    I1.kept (t':=tk) fun b o e=>cD _ e,DS _ lo (hi-lo).toNat,?_,fun b hb=>?_,q⟩
  · have e1:lo+((0:Nat):Int)*1=lo:=by simp
    have e2:(((hi-lo).toNat:Nat):Int)-((0:Nat):Int)=Builtin.Range.rangeSize lo hi 1:=by rw[rangeSize_one];split<;>lia
    show IsRangeIter _ _ (lo+((0:Nat):Int)*1) ((((hi-lo).toNat:Nat):Int)-((0:Nat):Int)) 1;rw[e1,e2];exact d3 _ rfl
  · have e:b=(s.heap.push {cls:=.type "range",data:=.fields #[.int lo t,.int hi u,.int 1 v]}).objs.size:=by simpa using hb
    subst e;exact I1.KU (aV _) (I1.hok.fresh (aV _))
def W5(ta:TA):TI:=fun σ H R=>ta σ H fun vs H1=>∃j:Int,vs=[.int j] /\ -(2^62)<=j/\j<2^62/\R (Z8 0 j.toNat) H1
theorem HP{a:ao}{ta:TA}{p pos:Pos}(hg:Gl X "range")(hm:X.mg "range"=none)(ha:PA X [a] ta)(hs:starEach [a] X.env=[(false,eval a X.env)]:=by rfl):PI X tg (.Call (.Name "range" p) [a] [] pos) (W5 ta):=by
  intro ag s σ H R I h;refine Call_ (ld_blt I hg hm boot_range (pM (thn (ha pos ag s σ H _ I h) fun us s1 ⟨vs,H1,I1,r1,q1⟩=>?_) hs rfl))
  obtain⟨j,e,q1,q2,q⟩:=q1;subst e;cases r1 with
  | cons r rr =>
    cases rr;obtain⟨t,rfl⟩:=r;exact call_range_1 (KY I1 (by lia) (by lia) q1 q2 (by simpa using q))
def acg(wi:TI)(g:TG)(tb:TS):TS:=fun D σ H=>wi σ H fun J H1=>∃W:Nat->Nat->St->Hp->Prop,(∃m,W 0 m σ H1)/\∀i m σ H,W i m σ H ->
  (J.stop i H/\D.nx σ H)\/(J.go i H/\∃N:St->Hp->Prop,(∀dt H',N dt H'->∃m',m'<m/\W (i+1) m' dt H')/\∀x H',J.yld i H x H'->g x σ H' fun HQ H2=>tb {D with nx:=N,ct:=N,bk:=D.nx} HQ H2)
def tW(fp:List af)(h:Heap):List (af×Obj):=fp.filterMap fun b=>(h.get? b).map fun o=>(b,o)
theorem kK{fp:List af}{h:Heap}{b:af}{o:Obj}(hb:b∈fp)(e:h.get? b=some o):(b,o)∈tW fp h:=xD.mpr ⟨b,hb,by rw[e];rfl⟩
theorem HR{fp:List af}{h:Heap}{p:af×Obj}(hp:p∈tW fp h):p.1∈fp/\h.get? p.1=some p.2:=by
  obtain⟨b,hb,e⟩:=xD.mp hp;cases q:h.get? b with
  | none=>rw[q]at e;cases e
  | some o =>
    rw[q]at e;have e':(b,o)=p:=bW e;subst e';exact⟨hb,q⟩
theorem Inv.pinned{ag:List (af×Obj)}{σ:St}{H:Hp}{s:av}{fp:List af}(I:Inv X ag σ H s)(hf:∀b∈fp,yc X ag H b)(ho:∀b∈fp,∃o,s.heap.get? b=some o/\∀v,o.data≠.cell v):Inv X (ag++tW fp s.heap) σ H s :=
  I.ou fun p hp=>(c9.mp hp).elim (fun z=>I.pin p (dZ _ z)) fun z=>by
    obtain⟨hb,e⟩:=HR z;obtain⟨f0,f1,f2,_⟩:=hf p.1 hb;obtain⟨o,e',d⟩:=ho p.1 hb;rw[e]at e';cases e';exact⟨e,f0,f1,f2,d⟩
theorem Inv.tX{ag pl:List (af×Obj)}{σ:St}{H:Hp}{s:av}(I:Inv X (ag++pl) σ H s):Inv X ag σ H s:=I.ou fun p hp=>I.pin p (dZ _ (kz _ hp))
theorem KZ{iter:ao}{body:List aG}{wi:TI}{g:TG}{tb:TS}{pos:Pos}(hp:PassesOwn (model X.prog X.w) X.A X.env X.xe)(hc:X.calm=true)(hi:PI X tg iter wi)(hg:PG X tg g)(hb:rh X body tb)
    (hs:∀x,foldedSetIterable iter X.env x=pure x:=by intro _;rfl):PS X (.For tg iter body [] pos) (acg wi g tb):=by
  intro ag s σ H D I h;refine wpAny_For (thn (hi ag s σ H _ I h) fun v s1 h1=>thn h1 fun itv s2 h2=>?_) hs
  obtain⟨it,fp,tn,J,H2,e,I2,T,st2,f2,W,⟨m0,w0⟩,vt⟩:=h2;subst e;have DT:∀{H':Hp},(∀b∈fp,H' b=none)->∀b∈fp,yc X ag H' b:=fun hn b hb=>⟨hn b hb,(f2 b hb).2⟩
  refine codeAny_forLoop_any (fun n s'=>∃i dt H',Inv X ag dt H' s'/\tn i s'.heap/\(∀b∈fp,H' b=none)/\W i n dt H') ?_ m0 ⟨0,σ,H2,I2,st2,fun b hb=>(f2 b hb).1,w0⟩
  rintro n s3 ⟨i,tV,H3,I3,Gb,fr3,w3⟩
  rcases vt i n tV H3 w3 with⟨stop,qn⟩ | ⟨go,N,hN,step⟩
  · refine nt hp (thn (T.done X rfl rfl rfl hc i ag s3 tV H3 X.xe I3 (DT fr3) Gb stop) fun r s4 ⟨hr,I4⟩=>?_)
    subst hr;exact xQ ⟨tV,H3,I4,qn⟩
  · refine nt hp (thn (T.item X rfl rfl rfl hc i ag s3 tV H3 X.xe I3 (DT fr3) Gb go) fun r s4 ⟨u,hr,h4⟩=>?_)
    subst hr;refine nt hp (thn h4 fun _ s5 ⟨x,H5,I5,r5,y5,Tw,fr5⟩=>?_)
    have I5':=I5.pinned (DT fr5) (T.obj _ _ Tw);refine nt hp (thn (hg _ s5 tV H5 x u _ I5' r5 (step x H5 y5)) fun _ s6 ⟨Z9,H6,I6,q6⟩=>?_)
    refine nt hp (thn (hb _ s6 Z9 H6 _ I6 q6) fun f s7 q7=>?_)
    have again:∀{K1:St} {H7:Hp},Inv X (ag++tW fp s5.heap) K1 H7 s7->N K1 H7->∃m,m<n/\∃i dt H',Inv X ag dt H' s7/\tn i s7.heap/\(∀b∈fp,H' b=none)/\W i m dt H':=fun {K1 H7} I7 n7=>by
      obtain⟨m',hm,w7⟩:=hN K1 H7 n7;refine⟨m',hm,i+1,K1,H7,I7.tX,T.keep _ _ _ Tw fun b hb o e=>(I7.pin (b,o) (dZ _ (dZ _ (kK hb e)))).1,fun b hb=>?_,w7⟩
      obtain⟨o,e,d⟩:=T.obj _ _ Tw b hb;exact(I7.pin (b,o) (dZ _ (dZ _ (kK hb e)))).2.1
    cases f with
    | next=>obtain⟨K1,H7,I7,n7⟩:=q7;exact again I7 n7
    | cont=>obtain⟨K1,H7,I7,n7⟩:=q7;exact again I7 n7
    | brk=>obtain⟨K1,H7,I7,q7⟩:=q7;exact⟨K1,H7,I7.tX,q7⟩
    | ret v=>obtain⟨x7,K1,H7,I7,r7,q7⟩:=q7;exact⟨x7,K1,H7,I7.tX,r7,q7⟩
end
theorem K2{K:ak}{a:af}{xs:List V}{g:TG}{tb:TS}{D:ov}{σ:St}{H:Hp}(Pv:Nat->St->Hp->Prop)(h0:Pv 0 σ H)(hl:∀i σ H,i<=xs.length->Pv i σ H->nG K H a xs)
    (hs:∀i x σ H,xs[i]?=some x->Pv i σ H->g x σ H fun HQ H2=>tb {D with nx:=Pv (i+1),ct:=Pv (i+1),bk:=D.nx} HQ H2) (hd:∀σ H,Pv xs.length σ H->D.nx σ H) :
    ∃W:Nat->Nat->St->Hp->Prop,(∃m,W 0 m σ H)/\∀i m σ H,W i m σ H ->
      ((Wf K a).stop i H/\D.nx σ H)\/((Wf K a).go i H/\∃N:St->Hp->Prop,(∀dt H',N dt H'->∃m',m'<m/\W (i+1) m' dt H')/\∀x H',(Wf K a).yld i H x H'->g x σ H' fun HQ H2=>tb {D with nx:=N,ct:=N,bk:=D.nx} HQ H2):=by
  refine⟨fun i m σ H=>m=xs.length-i/\i<=xs.length/\Pv i σ H,⟨xs.length,by simp,gO _,h0⟩,?_⟩
  rintro i m σ H ⟨rfl,hi,p⟩
  have q:=hl i σ H hi p;by_cases hJ:i<xs.length
  · refine .inr ⟨⟨xs,xs[i],q,by simp[hJ]⟩,Pv (i+1),fun dt H' p'=>⟨xs.length-(i+1),by lia,rfl,hJ,p'⟩,fun x H' y=>?_⟩
    obtain⟨e,y⟩:=y;subst e;exact hs i x σ _ (y xs q) p
  · have e:i=xs.length:=by lia
    subst e;exact .inl ⟨⟨xs,q,aV _⟩,hd σ H p⟩
abbrev R2:=V->V->Hp->VK->Prop
def OpR(X:Cx)(f:ai->ai->Sem ai)(r:R2):Prop :=
  ∀(ag:List (af×Obj)) (s:av) (σ:St) (H:Hp) (x y:V) (v u:ai) (Q:VK),Inv X ag σ H s->RelV x v->RelV y u->r x y H Q ->
    wpAny (model X.prog X.w) X.A (f v u) (EP X ag σ Q) X.xe s
def UnR(X:Cx)(f:ai->Sem ai)(r:V->Hp->VK->Prop):Prop :=
  ∀(ag:List (af×Obj)) (s:av) (σ:St) (H:Hp) (x:V) (v:ai) (Q:VK),Inv X ag σ H s->RelV x v->r x H Q ->
    wpAny (model X.prog X.w) X.A (f v) (EP X ag σ Q) X.xe s
def mR(X:Cx)(f:ai)(r:List V->Hp->VK->Prop):Prop :=
  ∀(ag:List (af×Obj)) (s:av) (σ:St) (H:Hp) (xs:List V) (us:cj) (Q:VK),Inv X ag σ H s->Vals xs us->r xs H Q ->
    wpAny (model X.prog X.w) X.A (call f us) (EP X ag σ Q) X.xe s
def acj(X:Cx)(r:V->Hp->(Bool->Hp->Prop)->Prop):Prop :=
  ∀(ag:List (af×Obj)) (s:av) (σ:St) (H:Hp) (x:V) (v:ai) (Q:Bool->Hp->Prop),Inv X ag σ H s->RelV x v->r x H Q ->
    wpAny (model X.prog X.w) X.A (truthy v) (TP X ag σ Q) X.xe s
def W6(r:R2)(ta tb:TE):TE:=fun σ H Q=>ta σ H fun x H1=>tb σ H1 fun y H2=>r x y H2 Q
def tUn(r:V->Hp->VK->Prop)(ta:TE):TE:=fun σ H Q=>ta σ H fun x H1=>r x H1 Q
def rI(C:Int->Int->Prop)(g:Int->Int->V):R2:=fun x y H Q=>∃i j,x=.int i/\y=.int j/\C i j/\Q (g i j) H
def DU(g:Int->Int->V):R2:=fun x y H Q=>∃i j,x=.int i/\y=.int j/\Q (g i j) H
def rU(g:Int->V):V->Hp->VK->Prop:=fun x H Q=>∃i,x=.int i/\Q (g i) H
section
variable {X:Cx} {a b c:ao} {ta tb tc:TE} {pos:Pos}
theorem Tx(ha:PE X a ta)(hb:PE X b tb){ag:List (af×Obj)}{s:av}{σ:St}{H:Hp}{R:V->V->Hp->Prop}(I:Inv X ag σ H s)
    (h:ta σ H fun x H1=>tb σ H1 fun y H2=>R x y H2) {Q:cR} {f:ai->ai->Sem ai}
    (hf:∀v u s2 x y H2,Inv X ag σ H2 s2->RelV x v->RelV y u->R x y H2->wpAny (model X.prog X.w) X.A (f v u) Q X.xe s2) :
    wpAny (model X.prog X.w) X.A (eval a X.env) (fun v s₁=>wpAny (model X.prog X.w) X.A (eval b X.env) (fun u AF=>wpAny (model X.prog X.w) X.A (f v u) Q X.xe AF) X.xe s₁) X.xe s:=by
  refine thn (ha ag s σ H _ I h) fun v s1 ⟨x,H1,I1,r1,q1⟩=>?_
  refine thn (hb ag s1 σ H1 _ I1 q1) fun u s2 ⟨y,H2,I2,r2,q2⟩=>?_
  exact hf v u s2 x y H2 I2 r1 r2 q2
theorem RJ{op:Operator}{r:R2}(ho:OpR X (binaryOp op) r)(ha:PE X a ta)(hb:PE X b tb):PE X (.BinOp a op b pos) (W6 r ta tb):=by
  intro ag s σ H Q I h;exact wpAny_BinOp (Tx ha hb I h fun v u s2 x y H2 I2 rx ry q=>ho ag s2 σ H2 x y v u Q I2 rx ry q)
theorem RK{op:UnaryOp}{r:V->Hp->VK->Prop}(ho:UnR X (unaryOp op) r)(ha:PE X a ta):PE X (.UnaryOp op a pos) (tUn r ta):=by
  intro ag s σ H Q I h;exact UnaryOp_ (thn (ha ag s σ H _ I h) fun v s1 ⟨x,H1,I1,r1,q1⟩=>ho ag s1 σ H1 x v Q I1 r1 q1)
theorem opI{f:ai->ai->Sem ai}{C:Int->Int->Prop}{g:Int->Int->Int}
    (rule:∀(i j:Int) (t u:Tok) (s:av) (Q:cR) (E:cR),C i j->Q (.int (g i j) s.toks) {s with toks:=s.toks+1}->wpAny (model X.prog X.w) X.A (f (.int i t) (.int j u)) Q E s) :
    OpR X f (rI C fun i j=>.int (g i j)):=by
  intro ag s σ H x y v u Q I rx ry h;obtain⟨i,j,rfl,rfl,hc,q⟩:=h;obtain⟨t,rfl⟩:=rx;obtain⟨t',rfl⟩:=ry;exact rule i j t t' s _ _ hc ⟨.int (g i j),H,I.tok _,⟨_,rfl⟩,q⟩
theorem Ow{f:ai->ai->Sem ai}{g:Int->Int->Int}
    (rule:∀(i j:Int) (t u:Tok) (s:av) (Q:cR) (E:cR),Q (.int (g i j) s.toks) {s with toks:=s.toks+1}->wpAny (model X.prog X.w) X.A (f (.int i t) (.int j u)) Q E s) :
    OpR X f (DU fun i j=>.int (g i j)):=by
  intro ag s σ H x y v u Q I rx ry h;obtain⟨i,j,rfl,rfl,q⟩:=h;obtain⟨t,rfl⟩:=rx;obtain⟨t',rfl⟩:=ry;exact rule i j t t' s _ _ ⟨.int (g i j),H,I.tok _,⟨_,rfl⟩,q⟩
theorem Ox{f:ai->ai->Sem ai}{g:Int->Int->Bool}
    (rule:∀(i j:Int) (t u:Tok) (s:av) (Q:cR) (E:cR),Q (.bool (g i j)) s->wpAny (model X.prog X.w) X.A (f (.int i t) (.int j u)) Q E s) :
    OpR X f (DU fun i j=>.bl (g i j)):=by
  intro ag s σ H x y v u Q I rx ry h;obtain⟨i,j,rfl,rfl,q⟩:=h;obtain⟨t,rfl⟩:=rx;obtain⟨t',rfl⟩:=ry;exact rule i j t t' s _ _ ⟨.bl (g i j),H,I,rfl,q⟩
def ack(i j:Int):Prop:=0<j/\j<1073741824
def acm(i j:Int):Prop:=0<=j/\j<=1000000/\i.natAbs<2^64
def Tz(i j:Int):Prop:=(-(2^64)<i/\i<2^64)\/(-(2^64)<j/\j<2^64)
theorem Tz.ok{i j:Int}(h:Tz i j):IntMulOk i j:=by
  rcases h with⟨h1,h2⟩ | ⟨h1,h2⟩
  · exact .of_left (intBits_le_64 h1 h2)
  · exact .of_right (intBits_le_64 h1 h2)
theorem TC:OpR X (binaryOp .Add) (DU fun i j=>.int (i+j)):=Ow fun _ _ _ _ _ _ _ q=>add_int q
theorem TF:OpR X (binaryOp .Sub) (DU fun i j=>.int (i-j)):=Ow fun _ _ _ _ _ _ _ q=>sub_int q
theorem TJ:OpR X (binaryOp .Mult) (rI Tz fun i j=>.int (i*j)):=opI fun _ _ _ _ _ _ _ hc q=>mul_int q hc.ok
theorem Oy:OpR X (binaryOp .FloorDiv) (rI ack fun i j=>.int (i/j)):=opI fun i j _ _ _ _ _ hc q=>by
  have h1:(0:Int)<j:=hc.1;have h2:j<1073741824:=hc.2;exact floordiv_int (by lia) (by rw[Int.fdiv_eq_ediv_of_nonneg i (by lia)];exact q) (.inl (PyProof.noPylong_small (by lia)))
theorem TK:OpR X (binaryOp .Mod) (rI (fun _ j=>0<j) fun i j=>.int (i%j)):=opI fun i j _ _ _ _ _ hc q=>by
  have h1:(0:Int)<j:=hc;exact mod_int' (by lia) (by rw[Int.fmod_eq_emod_of_nonneg i (by lia)];exact q)
theorem TL:OpR X (binaryOp .Pow) (rI acm fun i j=>.int (i^j.toNat)):=opI fun _ _ _ _ _ _ _ hc q=>pow_int_small hc.1 hc.2.1 hc.2.2 q
theorem iop_add:OpR X (inplaceOp .Add) (DU fun i j=>.int (i+j)):=Ow fun _ _ _ _ _ _ _ q=>iadd_int q
theorem Oz:OpR X (inplaceOp .Sub) (DU fun i j=>.int (i-j)):=Ow fun _ _ _ _ _ _ _ q=>isub_int q
theorem unI{f:ai->Sem ai}{g:Int->Int}
    (rule:∀(i:Int) (t:Tok) (s:av) (Q:cR) (E:cR),Q (.int (g i) s.toks) {s with toks:=s.toks+1}->wpAny (model X.prog X.w) X.A (f (.int i t)) Q E s) :
    UnR X f (rU fun i=>.int (g i)):=by
  intro ag s σ H x v Q I rx h;obtain⟨i,rfl,q⟩:=h;obtain⟨t,rfl⟩:=rx;exact rule i t s _ _ ⟨.int (g i),H,I.tok _,⟨_,rfl⟩,q⟩
theorem K3:UnR X (unaryOp .USub) (rU fun i=>.int (-i)):=unI fun _ _ _ _ _ q=>neg_int q
end
section
variable {X:Cx} {a b c:ao} {ta tb tc:TE} {pos:Pos}
theorem K4{ag:List (af×Obj)}{σ:St}{H:Hp}{s:av}{Q:VK}{k k':Bool}(I:Inv X ag σ H s)(q:Q (.bl k) H)(e:k=k'):EP X ag σ Q (.bool k') s:=by
  subst e;exact⟨.bl k,H,I,rfl,q⟩
theorem RL:OpR X (compareOp .Lt) (DU fun i j=>.bl (decide (i<j))):=Ox fun _ _ _ _ _ _ _ q=>lt_int q
theorem W7:OpR X (compareOp .LtE) (DU fun i j=>.bl (decide (i<=j))):=Ox fun _ _ _ _ _ _ _ q=>le_int q
theorem W8:OpR X (compareOp .Gt) (DU fun i j=>.bl (decide (j<i))):=Ox fun _ _ _ _ _ _ _ q=>gt_int q
theorem W9:OpR X (compareOp .GtE) (DU fun i j=>.bl (decide (j<=i))):=Ox fun _ _ _ _ _ _ _ q=>ge_int q
theorem TM:OpR X (compareOp .Is) (fun x y H Q=>y=.df/\Q (.bl (decide (x=.df))) H):=by
  intro ag s σ H x y v u Q I rx ry h;obtain⟨rfl,q⟩:=h;cases ry;refine is_none_gen (K4 I q ?_);cases x<;>first
    | (cases rx;rfl)
    | (obtain⟨t,rfl⟩:=rx;rfl)
theorem OA:OpR X (compareOp .IsNot) (fun x y H Q=>y=.df/\Q (.bl (!decide (x=.df))) H):=by
  intro ag s σ H x y v u Q I rx ry h;obtain⟨rfl,q⟩:=h;cases ry;refine isnot_none_gen (K4 I q ?_);cases x<;>first
    | (cases rx;rfl)
    | (obtain⟨t,rfl⟩:=rx;rfl)
theorem OB{op:CmpOp}{r:R2}(ho:OpR X (compareOp op) r)(ha:PE X a ta)(hb:PE X b tb)(hm:behindInMarks op b=false):PE X (.Compare a [op] [b] pos) (W6 r ta tb):=by
  intro ag s σ H Q I h;exact wpAny_Compare1 (Tx ha hb I h fun v u s2 x y H2 I2 rx ry q=>ho ag s2 σ H2 x y v u Q I2 rx ry q) hm
def RM(t:TE):TT:=fun σ H Q=>t σ H fun x H'=>∃k,x=.bl k/\Q k H'
theorem yd{op:CmpOp}{r:R2}(ho:OpR X (compareOp op) r)(ha:PE X a ta)(hb:PE X b tb)(hm:behindInMarks op b=false):PT X (.Compare a [op] [b] pos) (RM (W6 r ta tb)):=by
  intro ag s σ H Q I h;refine wpAny_isTrue_Compare1 (thn (ha ag s σ H _ I h) fun v s1 ⟨x,H1,I1,r1,q1⟩=>thn (hb ag s1 σ H1 _ I1 q1) fun u s2 ⟨y,H2,I2,r2,q2⟩ =>
    thn (ho ag s2 σ H2 x y v u _ I2 r1 r2 q2) fun c s3 ⟨z,H3,I3,r3,k,e,q3⟩=>?_) hm
  subst e;cases r3;exact kC ⟨H3,I3,q3⟩
def K5(r r':R2)(ta tb tc:TE):TE:=fun σ H Q=>ta σ H fun x H1=>tb σ H1 fun y H2=>r x y H2 fun z H3=>∃k,z=.bl k /\
  (if k=true then tc σ H3 fun w' H4=>r' y w' H4 Q else Q (.bl false) H3)
theorem K6{op ye:CmpOp}{r r':R2}(ho:OpR X (compareOp op) r)(AD:OpR X (compareOp ye) r')(ha:PE X a ta)(hb:PE X b tb)(hc:PE X c tc)
    (hm:lastMarks [op,ye] [b,c]=false:=by with_unfolding_all rfl):PE X (.Compare a [op,ye] [b,c] pos) (K5 r r' ta tb tc):=by
  intro ag s σ H Q I h;refine Compare_chain (thn (ha ag s σ H _ I h) fun v s1 ⟨x,H1,I1,r1,q1⟩=>chain_link (thn (hb ag s1 σ H1 _ I1 q1) fun u s2 ⟨y,H2,I2,r2,q2⟩ =>
    thn (ho ag s2 σ H2 x y v u _ I2 r1 r2 q2) fun d s3 ⟨z,H3,I3,r3,k,e,q3⟩=>?_)) hm
  subst e;cases r3;refine kC ?_;cases k with
  | false=>exact ite_ff ⟨.bl false,H3,I3,rfl,q3⟩
  | true=>exact ite_tt (chain_last (thn (hc ag s3 σ H3 _ I3 q3) fun w' s4 ⟨z',H4,I4,r4,q4⟩=>AD ag s4 σ H4 y z' u w' Q I4 r2 r4 q4))
theorem K8{op ye:CmpOp}{r r':R2}(ho:OpR X (compareOp op) r)(AD:OpR X (compareOp ye) r')(ha:PE X a ta)(hb:PE X b tb)(hc:PE X c tc)
    (hm:lastMarks [op,ye] [b,c]=false:=by with_unfolding_all rfl):PT X (.Compare a [op,ye] [b,c] pos) (RM (K5 r r' ta tb tc)):=by
  intro ag s σ H Q I h;refine isTrue_chain (thn (ha ag s σ H _ I h) fun v s1 ⟨x,H1,I1,r1,q1⟩=>test_link (thn (hb ag s1 σ H1 _ I1 q1) fun u s2 ⟨y,H2,I2,r2,q2⟩ =>
    thn (ho ag s2 σ H2 x y v u _ I2 r1 r2 q2) fun d s3 ⟨z,H3,I3,r3,k,e,q3⟩=>?_)) hm
  subst e;cases r3;refine kC ?_;cases k with
  | false =>
    obtain⟨k',e',q'⟩:=q3;cases e';exact ite_ff ⟨H3,I3,q'⟩
  | true =>
    refine ite_tt (test_last (thn (hc ag s3 σ H3 _ I3 q3) fun w' s4 ⟨z',H4,I4,r4,q4⟩=>thn (AD ag s4 σ H4 y z' u w' _ I4 r2 r4 q4) fun d' s5 ⟨z2,H5,I5,r5,k2,e2,q5⟩=>?_))
    subst e2;cases r5;exact kC ⟨H5,I5,q5⟩
def Xa(K:ak)(x:V)(H:Hp)(k:Bool):Prop :=
  match x with
  | .df=>k=false
  | .bl b=>k=b
  | .int i=>k=(i != 0)
  | .str y=>y.length<=sizeLine/\k=((y.length:Int) != 0)
  | .WD y=>y.size<=sizeLine/\k=((y.size:Int) != 0)
  | .ref p=>(∃xs,nG K H p xs/\k = !xs.isEmpty)\/(∃xs,jY K H p xs/\k = !xs.isEmpty)\/∃kvs,H p=some (.dK kvs)/\k = !kvs.isEmpty
  | _=>False
theorem DV{κ:Type}{kvs:List (κ×V)}{vs:List (κ×ai)}(r:KV kvs vs):(!vs.isEmpty) = !kvs.isEmpty:=by
  cases r<;>rfl
theorem tY{xs:List V}{bg:cj}(r:Vals xs bg):(!bg.toArray.isEmpty) = !xs.isEmpty:=by
  cases r<;>simp
theorem p0:(sizeLine:Nat)<2^63:=by rw[sizeLine_eq];decide
theorem TN:acj X (fun x H Q=>∃k,Xa X.K x H k/\Q k H):=by
  intro ag s σ H x v Q I rx h;obtain⟨k,e,q⟩:=h;have hl:=p0;have hs:sizeLine=16777216:=sizeLine_eq;cases x with
  | df =>
    cases rx;have e':k=false:=e;subst e';exact truthy_none ⟨H,I,q⟩
  | bl b =>
    cases rx;have e':k=b:=e;subst e';exact kC ⟨H,I,q⟩
  | int i =>
    obtain⟨t,rfl⟩:=rx;have e':k=(i != 0):=e;subst e';exact PySem.P.truthy_int ⟨H,I,q⟩
  | str y =>
    obtain⟨t,rfl⟩:=rx;obtain⟨hy,e'⟩:y.length<=sizeLine/\k=((y.length:Int) != 0):=e;subst e';exact PySem.P.truthy_str (by lia) ⟨H,I.tok _,q⟩
  | WD y =>
    obtain⟨t,rfl⟩:=rx;obtain⟨hy,e'⟩:y.size<=sizeLine/\k=((y.size:Int) != 0):=e;subst e';exact W.truthy_bytes (by lia) ⟨H,I.tok _,q⟩
  | ref p =>
    cases rx;have e':(∃xs,nG X.K H p xs/\k = !xs.isEmpty)\/(∃xs,jY X.K H p xs/\k = !xs.isEmpty)\/∃kvs,H p=some (.dK kvs)/\k = !kvs.isEmpty:=e
    rcases e' with⟨xs,hx,e'⟩ | ⟨xs,hx,e'⟩ | ⟨kvs,hx,e'⟩
    · subst e'
      obtain⟨bg,r,pl,hz⟩:=I.list hx;have dQ:=r.length;exact wpAny_truthy_list pl.isList (by simp only[bJ];lia) ⟨H,I.tok _,by rw[tY r];exact q⟩
    · subst e'
      obtain⟨bg,r,pl,hz⟩:=I.tuple hx;have dQ:=r.length;exact truthy_tuple pl (by simp only[bJ];lia) ⟨H,I.tok _,by rw[tY r];exact q⟩
    · subst e'
      obtain⟨hz,hS,vs,r,m⟩:kvs.length<=sizeLine/\(p==sysModules)=false/\∃vs,KV kvs vs/\s.heap.DictOf (gj X.prog X.w) p vs:=I.hok p _ hx
      have dQ:kvs.length=vs.length:=xV r;exact wpAny_truthy_dict hS m (by lia) ⟨H,I.tok _,by rw[DV r];exact q⟩
  | _=>exact(show False from e).elim
theorem DW:OpR X (binaryOp .Add) (fun x y H Q=>∃i j,x=.str i/\y=.str j/\i.length+j.length<=sizeLine/\Q (.str (i++j)) H):=by
  intro ag s σ H x y v u Q I rx ry h;obtain⟨i,j,rfl,rfl,hz,q⟩:=h;obtain⟨t,rfl⟩:=rx;obtain⟨t',rfl⟩:=ry;exact add_str (fun t' tk=>⟨.str (i++j),H,I.tok _,⟨_,rfl⟩,q⟩) hz
theorem lg{x:V}{us:cj}(r:Vals [x] us):∃u,us=[u]/\RelV x u:=by
  cases r with
  | cons r1 r2=>cases r2;exact⟨_,rfl,r1⟩
theorem K9{x y:V}{us:cj}(r:Vals [x,y] us):∃u w',us=[u,w']/\RelV x u/\RelV y w':=by
  cases r with
  | cons r1 r2 =>
    cases r2 with
    | cons r3 r4=>cases r4;exact⟨_,_,rfl,r1,r3⟩
theorem wt:mR X (.type "int") (fun xs H Q=>(∃i,xs=[.int i]/\Q (.int i) H)\/∃k,xs=[.bl k]/\Q (.int (if k then 1 else 0)) H):=by
  intro ag s σ H xs us Q I r h;rcases h with⟨i,rfl,q⟩ | ⟨k,rfl,q⟩
  · obtain⟨u,rfl,t,rfl⟩:=lg r
    exact call_int_int ⟨.int i,H,I,⟨_,rfl⟩,q⟩
  · obtain⟨u,rfl,r1⟩:=lg r
    cases r1;exact call_int_bool ⟨.int (if k then 1 else 0),H,I.tok _,⟨_,rfl⟩,q⟩
theorem yf:mR X (.type "str") (fun xs H Q=>∃i,xs=[.int i]/\i.natAbs.log2<1920/\Q (.str (toString i)) H):=by
  intro ag s σ H xs us Q I r h;obtain⟨i,rfl,hz,q⟩:=h;obtain⟨u,rfl,t,rfl⟩:=lg r;exact PySem.P.str_of_int hz ⟨.str _,H,I.tok _,⟨_,rfl⟩,q⟩
end
structure fm (k:Nat) (A:bR):Prop where
  hd:A.handled=none
  dp:A.depth+3*k+5<recursionLimit
  un:A.units+16*k+1200<cLine
theorem fm.mono{j k:Nat}{A:bR}(r:fm k A)(h:j<=k):fm j A:=⟨r.hd,by have:=r.dp;lia,by have:=r.un;lia⟩
theorem fm.deeper{k:Nat}{A:bR}(r:fm (k+1) A)(env:Env):fm k (A.deeper env) :=
  ⟨r.hd,by have:=r.dp;show A.depth+1+3*k+5<_;lia,by have:=r.un;show A.units+3+16*k+1200<_;lia⟩
theorem fm.depth{k:Nat}{A:bR}(r:fm k A):A.depth<recursionLimit:=by have:=r.dp;lia
theorem fm.units{k:Nat}{A:bR}(r:fm k A):A.units+64<cLine:=by have:=r.un;lia
def acn:TA:=fun _ H Q=>Q [] H
def Xb(ta:TE)(tr:TA):TA:=fun σ H Q=>ta σ H fun x H1=>tr σ H1 fun xs H2=>Q (x::xs) H2
section
variable {X:Cx} {e:ao} {es:List ao} {te:TE} {t:TA} {pos:Pos}
theorem jZ:PA X [] acn:=fun _ _ _ _ H Q I h=>Calls.spliced_nil ⟨[],H,I,.nil,h⟩
theorem dW(ha:PE X e te)(hr:PA X es t)(hs:starEach (e::es) X.env=(false,eval e X.env)::starEach es X.env:=by rfl):PA X (e::es) (Xb te t):=by
  intro pos ag s σ H Q I h;rw[hs];show wpAny _ _ (spliced ((false,eval e X.env)::backTo pos (starEach es X.env))) _ _ s;refine Calls.spliced_cons (thn (ha ag s σ H _ I h) fun u s1 ⟨x,H1,I1,r1,q1⟩=>?_)
  exact thn (hr pos ag s1 σ H1 _ I1 q1) fun us s2 ⟨xs,H2,I2,r2,q2⟩=>⟨x::xs,H2,I2,.cons r1 r2,q2⟩
def aco(t:TA):TE:=fun σ H Q=>t σ H fun xs H1=>xs.length<=sizeLine/\∀p,H1 p=none->Q (.ref p) (eI H1 p (.aA xs))
def acp(t:TA):TE:=fun σ H Q=>t σ H fun xs H1=>xs.length<=sizeLine/\∀p,H1 p=none->Q (.ref p) (eI H1 p (.aq xs))
theorem TQ{x1}(h:PA X es t):PE X (.Tuple es x1 pos) (aco t):=by
  intro ag s σ H Q I hq;refine wpAny_Tuple_spliced (thn (h pos ag s σ H _ I hq) fun us s1 ⟨xs,H1,I1,r,z,q⟩=>⟨by rw[<-r.length];exact z,?_⟩)
  have hf:H1 s1.heap.objs.size=none:=I1.hok.fresh (aV _);refine⟨.ref s1.heap.objs.size,eI H1 s1.heap.objs.size (.aA xs),I1.laid (t':=s1.toks) (fun b u e=>cD _ e) (aV _) ?_,rfl,q _ hf⟩
  exact⟨z,us,r,⟨_,d3 _ rfl,rfl,_,rfl⟩⟩
theorem La(h:PA X es t):PE X (.List es pos) (acp t):=by
  intro ag s σ H Q I hq;refine wpAny_List_spliced (thn (h pos ag s σ H _ I hq) fun us s1 ⟨xs,H1,I1,r,z,q⟩=>⟨by rw[<-r.length];exact z,?_⟩)
  have hf:H1 s1.heap.objs.size=none:=I1.hok.fresh (aV _);refine⟨.ref s1.heap.objs.size,eI H1 s1.heap.objs.size (.aq xs),I1.laid (t':=s1.toks) (fun b u e=>cD _ e) (aV _) ?_,rfl,q _ hf⟩
  exact⟨z,us,0,r,d3 _ rfl⟩
end
abbrev Sp:=List V->Hp->VK->XK->Prop
abbrev FJ:=List Env->Hp->av->XK->cR
structure DX (P:bG) (w:aW) (K:ak) (mg:ee) (base:Heap) (A:bR) (outer:List Env) (s:av) (H:Hp):Prop where
  frames:A.frames=some outer
  mod:Mod K mg base
  bs:∀b o,base.get? b=some o->s.heap.get? b=some o/\H b=none
  bsz:base.objs.size<=s.heap.objs.size
  funs:s.heap.FunFrames base outer
  frf:∀b∈C0 outer,H b=none
  hok:pH P w H s.heap
  bare:AllBare s.gens
  tabs:tK K H
def CE(outer:List Env)(P:bG)(w:aW)(H:Hp)(s:av)(Q:VK)(u:ai)(s':av):Prop :=
  ∃v H',s'.os=s.os/\AllBare s'.gens/\Un (C0 outer) [] H H' s.heap s'.heap/\pH P w H' s'.heap/\RelV v u/\Q v H'
def CR(CX:FJ)(outer:List Env)(P:bG)(w:aW)(H:Hp)(s:av)(Q:VK)(E:XK)(r:Result)(s':av):Prop :=
  match r with
  | .ok (.ret u)=>CE outer P w H s Q u s'
  | .ok _=>False
  | .error e=>CX outer H s E e s'
structure FnOk (P:bG) (w:aW) (K:ak) (mg:ee) (base:Heap) (CX:FJ) (k:Nat) (f:af) (fd:er) (ps:List Str) (sp:Sp):Prop where
  len:∀vs H Q E,sp vs H Q E->vs.length=ps.length
  run:∀(A:bR) (outer:List Env) (s:av) (H:Hp) (args:Args) (us:cj) (vs:List V) (Q:VK) (E:XK),fm k A->DX P w K mg base A outer s H->BindsTo s fd args (ps.zip us)->Vals vs us->sp vs H Q E ->
    codeAny (model P w) A (.call (.ref f) args) (CR CX outer P w H s Q E) s
section
variable {X:Cx} {ag:List (af×Obj)} {σ:St} {H:Hp} {s s':av}
theorem Inv.TR(I:Inv X ag σ H s):DX X.prog X.w X.K X.mg X.base X.A X.stack s H :=
  ⟨I.ok.frames,I.ok.mod,I.bs,cz I.ok.bsz I.sz,I.stack,I.FZ,I.hok,I.bare,I.tabs⟩
theorem Inv.after{Q:VK}{u:ai}(I:Inv X ag σ H s)(h:CE X.stack X.prog X.w H s Q u s'):EP X ag σ Q u s':=by
  obtain⟨v,H',os,bare,un,hok,r,q⟩:=h;obtain⟨hh,g,d,t,Xc⟩:=s';obtain rfl:Xc=s.os:=os;exact⟨v,H',I.call (h':=hh) (g':=g) (d':=d) (t':=t) (ch:=[]) un hok bare (fun b z=>absurd z (by simp)),r,q⟩
end
def Gd(sp:Sp)(Oc:List V)(E:XK)(t:TA):TE:=fun σ H Q=>t σ H fun vs H1=>sp (vs++Oc) H1 Q E
def gC(K:ak)(fd:er)(ps:List Str)(ds:cj):Prop :=
  ∀(s:av) (us:cj),K.In s.heap->(us++ds).length=ps.length->BindsTo s fd ⟨us,[]⟩ (ps.zip (us++ds))
theorem gC.all{K:ak}{fd:er}{ps:List Str}(h:∀us:cj,us.length=ps.length->bindArgs fd ⟨us,[]⟩=pure (ps.zip us)):gC K fd ps []:=fun s us _ hl=>by
  rw[iP]at hl ⊢;exact .of_eq (h us hl)
def DY(CX:FJ)(X:Cx)(E:XK):Prop:=∀(ag:List (af×Obj)) (σ:St) (H:Hp) (s:av) (e:ai) (s':av),Inv X ag σ H s->CX X.stack H s E e s'->X.xe e s'
section
variable {X:Cx} {CX:FJ} {k:Nat} {f C:af} {fd:er} {ps:List Str} {sp:Sp} {Oc:List V} {ds:cj} {E:XK} {x m:Str} {p pos HC:Pos} {e o:ao} {es:List ao} {ta:TE} {t:TA}
theorem Lb{ag:List (af×Obj)}{σ:St}{H:Hp}{s:av}{Q:VK}{us:cj}{vs:List V}(F:FnOk X.prog X.w X.K X.mg X.base CX k f fd ps sp)(hr:fm k X.A)(hb:gC X.K fd ps ds)(hd:Vals Oc ds)(hx:DY CX X E)
    (I:Inv X ag σ H s) (r:Vals vs us) (h:sp (vs++Oc) H Q E):wpAny (model X.prog X.w) X.A (call (.ref f) us) (EP X ag σ Q) X.xe s:=by
  have r2:Vals (vs++Oc) (us++ds):=r.append hd;have hl:(us++ds).length=ps.length:=by rw[<-r2.length];exact F.len _ _ _ _ h
  refine wpAny_call (nA (F.run X.A X.stack s H ⟨us,[]⟩ (us++ds) (vs++Oc) Q E hr I.TR (hb s us I.z0 hl) r2 h) fun r s' hq=>?_)
  cases r with
  | error e=>exact hx ag σ H s e s' I hq
  | ok fl =>
    cases fl with
    | ret u=>exact I.after hq
    | next=>exact False.elim hq
    | brk=>exact False.elim hq
    | cont=>exact False.elim hq
theorem rH(F:FnOk X.prog X.w X.K X.mg X.base CX k f fd ps sp)(hr:fm k X.A)(hg:Gl X x)(hm:X.mg x=some (.ref f))(hk:W.keepIn X.K (.ref f)=true)(hb:gC X.K fd ps ds)(hd:Vals Oc ds)(hx:DY CX X E)
    (ha:PA X (e::es) t) (HS:(x==("__debug__":Str))=false:=by decide) (he:starEach (e::es) X.env=(false,eval e X.env)::starEach es X.env:=by rfl) (pI:(backTo pos (starEach es X.env)).any (·.1)=false:=by rfl) :
    PE X (.Call (.Name x p) (e::es) [] pos) (Gd sp Oc E t):=by
  intro ag s σ H Q I h;refine nq (ld_glob I hg hm ?_ HS);refine W.callWith_K (h₀:=X.base) I.ok.mod.kin hk (thn (ha pos ag s σ H _ I h) fun us s1 ⟨vs,H1,I1,r,q⟩=>⟨I1.z0,?_⟩) he pI
  exact Lb F hr hb hd hx I1 r q
end
theorem wu{kindOf:Str->Option NameKind}{x:Str}:∀{AG:List (Str×ai)} {m:ee},(∀v,(x,v)∉AG)->bindL kindOf AG m x=m x
  | [],_,_=>rfl
  | (n,v)::r,m,h=>by
    unfold bindL;rw[wu fun w hw=>h w (cn _ hw)]
    split
    · have:x≠n:=by rintro rfl;exact h v cq
      simp[this]
    · rfl
theorem wx{kindOf:Str->Option NameKind}{x:Str}:∀{AG:List (Str×ai)} {m:ee},(∀v,(x,v)∉AG)->bindC kindOf AG m x=m x
  | [],_,_=>rfl
  | (n,v)::r,m,h=>by
    unfold bindC;rw[wx fun w hw=>h w (cn _ hw)]
    split
    · rfl
    · have:x≠n:=by rintro rfl;exact h v cq
      simp[this]
theorem wz{kindOf:Str->Option NameKind}{x:Str}{v:ai}:∀{P:List Str} {vs:cj} {i:Nat} {m:ee},P.Nodup->P[i]?=some x->vs[i]?=some v->kindOf x=some .local ->
    bindL kindOf (P.zip vs) m x=some v
  | [],_,_,_,_,h,_,_=>by simp at h
  | _::_,[],_,_,_,_,h,_=>by simp at h
  | p::P,w::vs,0,m,nd,h1,h2,hk=>by
    simp at h1 h2;subst h1;subst h2;show bindL kindOf ((p,w)::P.zip vs) m p=_;unfold bindL;rw[wu fun v hv=>(jU.mp nd).1 (xO hv).1,if_pos hk]
    simp
  | p::P,w::vs,i+1,m,nd,h1,h2,hk=>by
    show bindL kindOf ((p,w)::P.zip vs) m x=_;unfold bindL;exact wz (i:=i) (jU.mp nd).2 (by simpa using h1) (by simpa using h2) hk
theorem wA{kindOf:Str->Option NameKind}{x:Str}{v:ai}:∀{P:List Str} {vs:cj} {i:Nat} {m:ee},P.Nodup->P[i]?=some x->vs[i]?=some v->kindOf x≠some .local ->
    bindC kindOf (P.zip vs) m x=some v
  | [],_,_,_,_,h,_,_=>by simp at h
  | _::_,[],_,_,_,_,h,_=>by simp at h
  | p::P,w::vs,0,m,nd,h1,h2,hk=>by
    simp at h1 h2;subst h1;subst h2;show bindC kindOf ((p,w)::P.zip vs) m p=_;unfold bindC;rw[wx fun v hv=>(jU.mp nd).1 (xO hv).1,if_neg hk]
    simp
  | p::P,w::vs,i+1,m,nd,h1,h2,hk=>by
    show bindC kindOf ((p,w)::P.zip vs) m x=_;unfold bindC;exact wA (i:=i) (jU.mp nd).2 (by simpa using h1) (by simpa using h2) hk
def start(N:List Str)(vs:List V):St:=vs.map some++List.replicate (N.length-vs.length) none
def mD(CX:FJ)(P:bG)(w:aW)(K:ak)(mg:ee)(base:Heap)(N:List Str)(qual:Str)(scope:Scope)(f:af)(cd:ai)(A:bR)(outer:List Env)(s:av)(H:Hp)(E:XK):Cx where
  prog:=P
  w:=w
  K:=K
  mg:=mg
  base:=base
  A:=A.deeper (envOfC qual scope s.heap.objs.size f cd)
  N:=N
  s₀:=s
  H₀:=H
  env:=envOfC qual scope s.heap.objs.size f cd
  outer:=outer
  stack:=envOfC qual scope s.heap.objs.size f cd::outer
  ex:=[]
  calm:=true
  fn:=fun _=>true
  pn:=[]
  xe:=fun e s'=>wpAny (model P w) (A.deeper (envOfC qual scope s.heap.objs.size f cd)) (leaving (envOfC qual scope s.heap.objs.size f cd) e) (fun _ OC=>CX outer H s E e OC) (fun e' OC=>CX outer H s E e' OC) s'
theorem AH{sc:Scope}{n:Nat}{x:Str}(h:sc.names.lookup x=some .cell):∃c,(cellsFrom n sc.names []).lookup x=some c:=by
  have q:=W.cellsFrom_some sc.names n [] (.inl h);exact Option.isSome_iff_exists.mp q
theorem wB{CX:FJ}{P:bG}{w:aW}{K:ak}{mg:ee}{base:Heap}{N ps:List Str}{qual:Str}{scope:Scope}{f:af}{cd:ai}{A:bR}{outer:List Env}{s s1:av}{H:Hp}{E:XK}{us:cj}{vs:List V}
    (S:ez N ps scope) (hd:A.handled=none) (e0:DX P w K mg base A outer s H) (hl:vs.length=ps.length) (r:Vals vs us)
    (x:InCallC s s.heap.objs.size (bindL (envOfC qual scope s.heap.objs.size f cd).kindOf (ps.zip us) fun _=>none) (cellsFrom (s.heap.objs.size+1) scope.names []) (bindC (envOfC qual scope s.heap.objs.size f cd).kindOf (ps.zip us) fun _=>none) s1) :
    Inv (mD CX P w K mg base N qual scope f cd A outer s H E) [] (start N vs) H s1:=by
  have pI:ps.length<=N.length:=by have:=di List.length S.pre;rw[kD]at this;lia
  obtain⟨h1,tk,rfl,hk⟩:=x.done;have noA:∀b:af,b∉(mD CX P w K mg base N qual scope f cd A outer s H E).ex:=fun b z=>absurd (show b∈([]:List af)from z) (by simp)
  refine⟨⟨e0.mod,S.kind,rfl,rfl,aV _,fun y z c h1 h2=>?_,fun y hy=>?_,fun y c _ h=>?_,fun _=>hd,Around.frames_deeper e0.frames,.inr ⟨rfl,rfl⟩,fun b z=>absurd z (noA b),e0.bs,e0.bsz,fun b _ _=>noA b,fun b z=>absurd z (noA b),e0.funs,e0.frf,e0.tabs⟩,
    rfl,e0.bare,Un.kept hk,⟨_,x.toInCall.ns,fun i y v h1 h2 h3=>?_⟩,fun y c h=>⟨_,x.cell y c h⟩,e0.hok.fresh (aV _),fun y c h=>?_,fun p hp=>absurd (show p∈([]:List (af×Obj))from hp) (by simp),e0.hok.kept hk,?_⟩
  · exact name_of_addr x.apart (eJ h1) (eJ h2)
  · have hy:scope.names.lookup y=some .cell\/scope.names.lookup y=some .free:=hy
    rcases hy with hy | hy
    · exact AH hy
    · exact absurd rfl (S.nofree _ (eJ hy))
  · exact nz (x.above y c (eJ h))
  · have hi:i<vs.length:=by
      unfold start at h2;by_cases hi:i<vs.length
      · exact hi
      · rw[ly (by simpa using hi)]at h2
        rw[pN]at h2;split at h2<;>cases h2
    have ha:vs[i]?=some v:=by
      unfold start at h2;rw[jd (by simpa using hi),cu]at h2
      cases e:vs[i]? with
      | none=>rw[e]at h2;cases h2
      | some a=>rw[e]at h2;cases h2;rfl
    obtain⟨u,hu,rv⟩:=r.get ha;have hp:ps[i]?=some y:=by
      rw[<-S.pre,C7 (by lia)];exact h1
    have ndP:ps.Nodup:=by rw[<-S.pre];exact S.nd.sublist (List.take_sublist _ _)
    refine⟨u,rv,?_⟩;rcases S.par y (cQ hp)with k | k
    · exact .inl ⟨k,wz ndP hp hu k⟩
    · obtain⟨c,e⟩:=AH (n:=s.heap.objs.size+1) k
      refine .inr ⟨.inl k,c,e,?_⟩;have q:=x.cell y c e;rw[wA ndP hp hu (by show scope.names.lookup y≠_;rw[k];decide)]at q
      exact q
  · exact e0.hok.fresh (nz (x.above y c (eJ h)))
  · unfold start
    show _=N.length;rw[bU,aE,Df]
    lia
theorem Ge{CX:FJ}{P:bG}{w:aW}{K:ak}{mg:ee}{base:Heap}{k:Nat}{f:af}{name qual:Str}{params:Arguments}{body:List aG}{scope:Scope}{dV kV doc pm dR ct oc:ai}{an od:Option af}
    {vp:Array nE} {N ps:List Str} {sp:Sp} (lk:K.lookup f=some ⟨oc,od,.func (W.fnOf name qual params body scope dV kV doc pm an dR ct),vp⟩) (vU:W.codeIn K dR qual=true) (S:ez N ps scope)
    (len:∀vs H Q E,sp vs H Q E->vs.length=ps.length)
    (hbody:∀(A:bR) (outer:List Env) (s:av) (H:Hp) (vs:List V) (Q:VK) (E:XK),fm k (A.deeper (envOfC qual scope s.heap.objs.size f dR))->sp vs H Q E ->
      ∃t,rh (mD CX P w K mg base N qual scope f dR A outer s H E) body t/\t {nx:=fun _ H'=>Q .df H',rt:=Q} (start N vs) H) :
    FnOk P w K mg base CX (k+1) f (W.fnOf name qual params body scope dV kV doc pm an dR ct) ps sp:=by
  refine⟨len,fun A outer s H args us vs Q E hr e0 hb r ox=>?_⟩
  have hl:=len _ _ _ _ ox;have KX:K.In s.heap:=e0.mod.kin.keeps fun b o e=>(e0.bs b o e).1
  have lim:s.heap.NoLimit:=e0.mod.nolimit.keeps fun b o e=>(e0.bs b o e).1
  have Xd:∀y∈ps.zip us,scope.names.lookup y.1=some .local\/(scope.names.lookup y.1=some .cell/\((cellsFrom (s.heap.objs.size+1) scope.names []).lookup y.1).isSome=true):=by
    rintro⟨n,v⟩ hy
    rcases S.par n (xO hy).1 with q | q
    · exact .inl q
    · exact .inr ⟨q,W.cellsFrom_some _ _ _ (.inl q)⟩
  refine codeAny_call_function hr.depth (KX _ _ lk) rfl S.co S.gen rfl (W.codeRec_of KX vU) (hb _ _ _ _ ?_);refine Kf S.kind Xd fun env he s1 x=>?_
  subst he;refine⟨lim.keeps x.toInCall.keep,codeAny_func ?_⟩;obtain⟨t,ht,hq⟩:=hbody A outer s H vs Q E (hr.deeper _) ox;have I:Inv (mD CX P w K mg base N qual scope f dR A outer s H E) [] (start N vs) H s1:=wB S hr.hd e0 hl r x;refine lI (ht [] s1 (start N vs) H _ I hq) (fun fl s' hs=>?_) fun e s' hs=>hs
  have fin:∀{dt:St} {H':Hp} {v:V} {u:ai},Inv (mD CX P w K mg base N qual scope f dR A outer s H E) [] dt H' s'->RelV v u->Q v H'->CE outer P w H s Q u s' :=
    fun {dt H' v u} J rv q=>⟨v,H',J.os,J.bare,J.base,J.hok,rv,q⟩
  cases fl with
  | ret u =>
    obtain⟨v,dt,H',J,rv,q⟩:=hs;exact fin J rv q
  | next =>
    obtain⟨dt,H',J,q⟩:=hs;exact fin (v:=V.df) (u:=Value.none) J rfl q
  | brk =>
    obtain⟨_,_,_,q⟩:=hs;exact False.elim q
  | cont =>
    obtain⟨_,_,_,q⟩:=hs;exact False.elim q
section
variable {X:Cx} {x:Str} {p pos:Pos} {e:ao} {es:List ao} {t:TA} {id T:String} {r:List V->Hp->VK->Prop}
def tCB(r:List V->Hp->VK->Prop)(t:TA):TE:=fun σ H Q=>t σ H fun vs H1=>r vs H1 Q
theorem lN(hc:mR X (.builtin id) r)(hg:Gl X x)(hm:X.mg x=none)(hv:bootBuiltins x=some (.builtin id))(ha:PA X (e::es) t)(hn:x≠"__name__":=by decide)(HS:(x==("__debug__":Str))=false:=by decide)
    (he:starEach (e::es) X.env=(false,eval e X.env)::starEach es X.env:=by rfl) (pI:(backTo pos (starEach es X.env)).any (·.1)=false:=by rfl):PE X (.Call (.Name x p) (e::es) [] pos) (tCB r t):=by
  intro ag s σ H Q I h;refine nq (ld_blt I hg hm hv ?_ hn HS);exact J8 (thn (ha pos ag s σ H _ I h) fun us s1 ⟨vs,H1,I1,r1,q1⟩=>hc ag s1 σ H1 vs us Q I1 r1 q1) he pI
theorem ki(hc:mR X (.type T) r)(hg:Gl X x)(hm:X.mg x=none)(hv:bootBuiltins x=some (.type T))(ha:PA X (e::es) t)(hn:x≠"__name__":=by decide)(HS:(x==("__debug__":Str))=false:=by decide)
    (he:starEach (e::es) X.env=(false,eval e X.env)::starEach es X.env:=by rfl) (pI:(backTo pos (starEach es X.env)).any (·.1)=false:=by rfl):PE X (.Call (.Name x p) (e::es) [] pos) (tCB r t):=by
  intro ag s σ H Q I h;refine nq (ld_blt I hg hm hv ?_ hn HS);exact pM (thn (ha pos ag s σ H _ I h) fun us s1 ⟨vs,H1,I1,r1,q1⟩=>hc ag s1 σ H1 vs us Q I1 r1 q1) he pI
end
end L2
namespace HT
open PySem PyProof.Rows
section
variable {prog:bG} {w:aW} {A:bR} {E:cR} {s:av}
theorem OD{t b:af}{vs ws:cj}{Q:cR}(ht:IsTup s.heap t vs.toArray)(hb:IsTup s.heap b ws.toArray)(hv:vs≠[])
    (h1:ws=[]->Q (.ref t) s) (h2:ws≠[]->Q (.ref s.heap.objs.size) {s with heap:=s.heap.push {cls:=.type "tuple",data:=.seq (vs++ws).toArray}})
    (hsz:vs.length+ws.length<=sizeLine):wpAny (model prog w) A (binaryOp .Add (.ref t) (.ref b)) Q E s:=by
  obtain⟨⟨cls,dd,data,sl⟩,ho,hc,n,hd⟩:=id ht;obtain⟨⟨acs,dd2,Xe,sl2⟩,ho2,Xf,n2,Xg⟩:=id hb;simp only at hc hd Xf Xg;subst hc hd Xf Xg;have e:vs.toArray++ws.toArray=(vs++ws).toArray:=by simp
  by_cases hw:ws=[]
  · exact concat_meets ⟨_,ho,rfl⟩ ⟨_,ho2,rfl⟩ DC seq_tuple_add Dd C9 (C6 _ _)
      (tuple_addW1 t b vs.toArray ws.toArray n n2 dd dd2 sl sl2 (by simpa using hv) (by simp[hw])) ⟨ho,ho2,h1 hw⟩
  · refine concat_meets ⟨_,ho,rfl⟩ ⟨_,ho2,rfl⟩ DC seq_tuple_add Dd C9 (C6 _ _)
      (tuple_addW2 t b vs.toArray ws.toArray n n2 dd dd2 sl sl2 (by simpa using hv) (by simpa using hw) (by rw[bJ,bJ];exact hsz)) ⟨ho,ho2,?_⟩
    rw[e];exact h2 hw
def fI(n d:Nat):Option Int->Nat
  | none=>d
  | some v=>if v<0 then(v+(n:Int)).toNat else min v.toNat n
theorem AI(n d:Nat):fI n d none=d:=rfl
theorem rJ(n d k:Nat):fI n d (some (k:Int))=min k n:=by
  show(if(k:Int)<0 then((k:Int)+(n:Int)).toNat else min (k:Int).toNat n)=min k n
  rw[if_neg (by lia),gM]
theorem TU(n d:Nat)(hd:d<=n)(o:Option Int):fI n d o<=n:=by
  cases o with
  | none=>exact hd
  | some v =>
    show(if v<0 then(v+(n:Int)).toNat else min v.toNat n)<=n
    by_cases hv:v<0
    · rw[if_pos hv];lia
    · rw[if_neg hv];exact Nat.min_le_right _ _
theorem Gf(v:Int)(n d:Nat):(if v<0 then max (v+(n:Int)) 0 else min v (n:Int))=((fI n d (some v):Nat):Int):=by
  show(if v<0 then max (v+(n:Int)) 0 else min v (n:Int))=(((if v<0 then(v+(n:Int)).toNat else min v.toNat n):Nat):Int)
  by_cases hv:v<0
  · simp only[if_pos hv];lia
  · simp only[if_neg hv];lia
theorem DZ(lo hi:Option Int)(n:Nat):Builtin.Slice.sliceAdjust lo hi 1 (n:Int)=(((fI n 0 lo:Nat):Int),((fI n n hi:Nat):Int)):=by
  have h1:¬((1:Int)<0):=by lia
  unfold Builtin.Slice.sliceAdjust;simp only[h1,kH];refine Prod.ext ?_ ?_
  · cases lo with
    | none=>rfl
    | some v=>exact Gf v n 0
  · cases hi with
    | none=>rfl
    | some v=>exact Gf v n n
theorem D0(i j:Nat):Builtin.Slice.slicePlaces (i:Int) (j:Int) 1=j-i:=by
  unfold Builtin.Slice.slicePlaces;have h1:(1:Int)>0:=by lia
  simp only[h1,kJ,Int.ediv_one];split<;>lia
theorem tZ{v:ai}{o:Option Int}{Q:Option Int->av->Prop}(p:IsPart v o)(h:Q o s):wpAny (model prog w) A (Builtin.Slice.slicePartIndex v) Q E s:=by
  cases p with
  | none=>exact slicePart_none h
  | int i t=>exact slicePart_int h
theorem kj{sl:af}{vl vu:ai}{lo hi:Option Int}{n:Nat}{Q:Int×Int×Nat->av->Prop}(hs:s.heap.IsSliceOf sl vl vu .none)(pl:IsPart vl lo)(pu:IsPart vu hi)
    (h:Q (((fI n 0 lo:Nat):Int),1,fI n n hi-fI n 0 lo) s):wpAny (model prog w) A (Builtin.Slice.sliceApplied (.ref sl) (pure (n:Int))) Q E s:=by
  obtain⟨os,TV,hcs,Xh⟩:=id hs;unfold Builtin.Slice.sliceApplied Builtin.Slice.sliceFields;refine au (au (lH TV Xh (x:=vl) rfl (au (lH TV Xh (x:=vu) rfl (au (lH TV Xh (x:=.none) rfl (aJ ?_)))))));refine au (slicePart_none ?_);show wpAny _ _ (if((1:Int)==0)=true then _ else _) _ _ s
  rw[if_neg (by decide)]
  refine au (tZ pl (au (tZ pu (au (aJ ?_)))));show wpAny _ _ (match Builtin.Slice.sliceAdjust lo hi 1 (n:Int)with | (lo,hi)=>pure (lo,(1:Int),Builtin.Slice.slicePlaces lo hi 1)) _ _ s
  rw[DZ lo hi n];show wpAny _ _ (pure (((fI n 0 lo:Nat):Int),(1:Int),Builtin.Slice.slicePlaces ((fI n 0 lo:Nat):Int) ((fI n n hi:Nat):Int) 1)) _ _ s;rw[D0];exact aJ h
theorem Lc(xs:Array ai)(i k:Nat):((List.range k).filterMap fun(m:Nat)=>xs[((i:Int)+(m:Int)*1).toNat]?).toArray=((xs.toList.drop i).take k).toArray:=by
  have e:(fun(m:Nat)=>xs[((i:Int)+(m:Int)*1).toNat]?)=fun m=>xs[i+m]?:=by
    funext m
    have:((i:Int)+(m:Int)*1).toNat=i+m:=by lia
    rw[this]
  rw[e];have:=pick_run xs i k;rw[List.filterMap_map]at this;have e2:((fun x=>xs[x]?) ∘ fun x=>i+x)=fun m=>xs[i+m]?:=rfl
  rw[e2]at this;rw[this]
theorem oy{t sl:af}{items:Array ai}{vl vu:ai}{lo hi:Option Int}{Q:cR}(ht:IsTup s.heap t items)(hs:s.heap.IsSliceOf sl vl vu .none)(pl:IsPart vl lo)(pu:IsPart vu hi)
    (hw:¬(fI items.size 0 lo=0/\fI items.size items.size hi=items.size))
    (h:Q (.ref s.heap.objs.size) {s with heap:=s.heap.push {cls:=.type "tuple",data:=.seq ((items.toList.drop (fI items.size 0 lo)).take (fI items.size items.size hi-fI items.size 0 lo)).toArray}})
    (hsz:items.size<=sizeLine):wpAny (model prog w) A (getItem (.ref t) (.ref sl)) Q E s:=by
  have Gg:sizeOk (.seq ((items.toList.drop (fI items.size 0 lo)).take (fI items.size items.size hi-fI items.size 0 lo)).toArray):=by
    show((items.toList.drop (fI items.size 0 lo)).take (fI items.size items.size hi-fI items.size 0 lo)).toArray.size<=sizeLine;rw[bJ,kD,lC,dw]
    lia
  have hj:fI items.size items.size hi<=items.size:=TU _ _ (aV _) hi;obtain⟨os,TV,hcs,Xh⟩:=id hs;have Ld:s.TypeIs (.ref sl) "slice":=⟨os,TV,hcs⟩;unfold getItem
  try with_reducible refine jW ?_
  first | refine au (aJ ?_) | skip
  refine au (wpAny_sequenceKey ht.typeIs (by decide) ?_)
  refine au (nj (name:=Str.ofString "__getitem__") ht.typeIs pK
    (jf pK ht.typeIs entry_tuple_getitem ?_ (args_tuple_getitem _ _)))
  show wpAny _ _ (Builtin.Tuple.tupleItemsOf (.ref t) >>= _) _ _ s;refine au (tupleItemsOf_ ht ?_);refine au (xW Ld ?_);rw[if_pos (by decide)]
  refine au (kj hs pl pu ?_);have hno:¬((((fI items.size 0 lo:Nat):Int)==0&&(1:Int)==1&&(fI items.size items.size hi-fI items.size 0 lo)==items.size)=true):=by
    intro q;rw[aZ,aZ]at q;have q1:((fI items.size 0 lo:Nat):Int)=0:=b6 q.1.1;have q2:fI items.size items.size hi-fI items.size 0 lo=items.size:=b6 q.2;exact hw ⟨by lia,by lia⟩
  show wpAny _ _ (if(((fI items.size 0 lo:Nat):Int)==0&&(1:Int)==1&&(fI items.size items.size hi-fI items.size 0 lo)==items.size)=true then _ else _) _ _ s
  rw[if_neg hno,Lc]
  first
    | exact au (m:=Builtin.Tuple.tupleExact _) (jQ (aJ ⟨_,rfl,aJ h⟩) Gg)
    | exact au (m:=Builtin.Tuple.tupleExact _) (jQ (au (aJ (aJ ⟨_,rfl,aJ h⟩))) Gg)
    | exact au (au (m:=Builtin.Tuple.tupleExact _) (jQ (aJ (aJ ⟨_,rfl,aJ h⟩)) Gg))
    | exact au (au (m:=Builtin.Tuple.tupleExact _) (jQ (aJ ⟨_,rfl,aJ h⟩) Gg))
end
end HT
namespace L2
open PySem PySem.Spec PyProof.Rows
abbrev TO:=St->Hp->(Option Int->Hp->Prop)->Prop
def PO(X:Cx)(e:Option ao)(t:TO):Prop :=
  ∀(ag:List (af×Obj)) (s:av) (σ:St) (H:Hp) (Q:Option Int->Hp->Prop),Inv X ag σ H s->t σ H Q ->
    wpAny (model X.prog X.w) X.A (evalPart e X.env) (fun u s'=>∃o H',Inv X ag σ H' s'/\IsPart u o/\Q o H') X.xe s
def OF:TO:=fun _ H Q=>Q none H
def Xi(t:TE):TO:=fun σ H Q=>t σ H fun x H1=>∃i,x=.int i/\Q (some i) H1
theorem nH{ns:List Int}:∀{us:cj},Vals (ns.map V.int) us->IntsAre us ns:=by
  induction ns with
  | nil=>intro us r;rw[sN]at r;cases r;exact .nil
  | cons n ns ih =>
    intro us r;rw[bK]at r;cases r with
    | cons r1 r2 =>
      obtain⟨t,e⟩:=r1;subst e;exact .cons n t (ih r2)
section
variable {X:Cx} {e:ao} {te:TE} {lo hi:Option ao} {tl th:TO} {pos p2:Pos}
theorem OG:PO X none OF:=by
  intro ag s σ H Q I h;rw[evalPart_none];exact aJ ⟨none,H,I,.none,h⟩
theorem OH(h:PE X e te):PO X (some e) (Xi te):=by
  intro ag s σ H Q I hw;rw[evalPart_some];refine thn (h ag s σ H _ I hw) fun u s1 ⟨x,H1,I1,r1,q1⟩=>?_
  obtain⟨i,rfl,q⟩:=q1;obtain⟨t,rfl⟩:=r1;exact⟨some i,H1,I1,.int i t,q⟩
def SlR(X:Cx)(r:V->Option Int->Option Int->Hp->VK->Prop):Prop :=
  ∀(ag:List (af×Obj)) (s:av) (σ:St) (H:Hp) (x:V) (v vl vu:ai) (lo hi:Option Int) (sl:af) (Q:VK),Inv X ag σ H s->RelV x v->s.heap.IsSliceOf sl vl vu .none->IsPart vl lo->IsPart vu hi->r x lo hi H Q ->
    ∃T id,typeLookup (.type T) "__getitem__"=pure (some (.builtin id))/\s.TypeIs v T/\wpAny (model X.prog X.w) X.A (getItem v (.ref sl)) (EP X ag σ Q) X.xe s
def tSl(r:V->Option Int->Option Int->Hp->VK->Prop)(te:TE)(tl th:TO):TE:=fun σ H Q=>te σ H fun x H1=>tl σ H1 fun l H2=>th σ H2 fun u H3=>r x l u H3 Q
theorem AJ{r:V->Option Int->Option Int->Hp->VK->Prop}(hr:SlR X r)(he:PE X e te)(hl:PO X lo tl)(hu:PO X hi th):PE X (.Subscript e (.Slice lo hi none p2) pos) (tSl r te tl th):=by
  intro ag s σ H Q I h;refine Subscript_ (thn (he ag s σ H _ I h) fun v s1 ⟨x,H1,I1,r1,q1⟩=>?_)
  refine wpAny_Slice (thn (hl ag s1 σ H1 _ I1 q1) fun vl s2 ⟨l,H2,I2,pl,q2⟩=>thn (hu ag s2 σ H2 _ I2 q2) fun vu s3 ⟨u,H3,I3,pu,q3⟩=>?_)
  rw[evalPart_none];refine aJ ?_;have I4:Inv X ag σ H3 {s3 with heap:=s3.heap.push {cls:=.type "slice",data:=.fields #[vl,vu,.none]}}:=I3.kept (t':=s3.toks) fun b ob q=>cD _ q
  obtain⟨T,id,hT,ht,hg⟩:=hr ag {s3 with heap:=s3.heap.push {cls:=.type "slice",data:=.fields #[vl,vu,.none]}} σ H3 x v vl vu l u s3.heap.objs.size Q I4 r1 (Heap.IsSliceOf.new ..) pl pu q3
  show wpAny (model X.prog X.w) X.A (subscriptTail e (.Slice lo hi none p2) v (.ref s3.heap.objs.size)) (EP X ag σ Q) X.xe {s3 with heap:=s3.heap.push {cls:=.type "slice",data:=.fields #[vl,vu,.none]}}
  exact tail_any (ops:=[.ref s3.heap.objs.size,v]) ht hT hg (by with_unfolding_all rfl)
def vv(xs:List V)(lo hi:Option Int):List V:=(xs.drop (HT.fI xs.length 0 lo)).take (HT.fI xs.length xs.length hi-HT.fI xs.length 0 lo)
theorem qM(xs:List V)(lo hi:Option Int):(vv xs lo hi).length<=xs.length:=by
  unfold vv;rw[kD,lC]
  lia
def acv(K:ak):V->Option Int->Option Int->Hp->VK->Prop:=fun x lo hi H Q=>∃a xs,x=.ref a/\jY K H a xs /\
  ¬(HT.fI xs.length 0 lo=0/\HT.fI xs.length xs.length hi=xs.length)/\∀p,H p=none->Q (.ref p) (eI H p (.aA (vv xs lo hi)))
theorem TX:SlR X (acv X.K):=by
  intro ag s σ H x v vl vu lo hi sl Q I rx hs pl pu h;obtain⟨a,xs,rfl,hx,hw,q⟩:=h;cases rx;obtain⟨bg,r,ht,hz⟩:=I.tuple hx;have dQ:bg.toArray.size=xs.length:=by rw[bJ];exact r.length.symm
  refine⟨"tuple",_,pK.lookup,ht.typeIs,?_⟩;refine HT.oy ht hs pl pu (by rw[dQ];exact hw) ?_ (by rw[dQ];exact hz)
  rw[dQ];refine⟨.ref s.heap.objs.size,_,I.laid (t':=s.toks) (o:=.aA (vv xs lo hi)) (fun b ob q=>cD _ q) (aV _) ?_,rfl,q _ (I.hok.fresh (aV _))⟩
  exact⟨cz (qM xs lo hi) hz,_,(r.drop (HT.fI xs.length 0 lo)).take (HT.fI xs.length xs.length hi-HT.fI xs.length 0 lo),IsTup.new _ _⟩
def Xj(K:ak):R2:=fun x y H Q=>∃a b xs ys,x=.ref a/\y=.ref b/\jY K H a xs/\jY K H b ys/\xs≠[]/\xs.length+ys.length<=sizeLine /\
  (ys=[]->Q (.ref a) H)/\(ys≠[]->∀p,H p=none->Q (.ref p) (eI H p (.aA (xs++ys))))
theorem Vals.yg{xs:List V}{us:cj}(r:Vals xs us):us=[]↔xs=[]:=by
  cases r with
  | nil=>simp
  | cons _ _=>simp
theorem OI:OpR X (binaryOp .Add) (Xj X.K):=by
  intro ag s σ H x y v u Q I rx ry h;obtain⟨a,b,xs,ys,rfl,rfl,ha,hb,hx,hz,q1,q2⟩:=h;cases rx;cases ry;obtain⟨bg,r1,p1,_⟩:=I.tuple ha;obtain⟨jz,r2,p2,_⟩:=I.tuple hb;refine HT.OD p1 p2 (fun z=>hx (r1.yg.mp z)) (fun z=>⟨.ref a,H,I,rfl,q1 (r2.yg.mp z)⟩) (fun z=>?_) (by rw[<-r1.length,<-r2.length];exact hz)
  refine⟨.ref s.heap.objs.size,_,I.laid (t':=s.toks) (o:=.aA (xs++ys)) (fun b ob q=>cD _ q) (aV _) ?_,rfl,q2 (fun w=>z (r2.yg.mpr w)) _ (I.hok.fresh (aV _))⟩
  exact⟨by rw[bU];exact hz,_,r1.append r2,IsTup.new _ _⟩
end
def Le(n:Nat)(i:Int):Option Nat:=if 0<=i then(if i<n then some i.toNat else none)else if -(n:Int)<=i then some (i+n).toNat else none
def atI{α:Type}(xs:List α)(i:Int):Option α:=(Le xs.length i).bind fun j=>xs[j]?
theorem OJ{n:Nat}{i:Int}{j:Nat}(h:Le n i=some j):seqIndex? i n=some j/\j<n /\ -(n:Int)<=i/\i<n:=by
  unfold Le at h;by_cases h0:0<=i
  · rw[if_pos h0]at h
    by_cases h1:i<n
    · rw[if_pos h1]at h
      have e:i.toNat=j:=bW h;exact⟨by rw[seqIndex_of h0 h1,e],by lia,by lia,h1⟩
    · rw[if_neg h1]at h;cases h
  · rw[if_neg h0]at h
    by_cases h1:-(n:Int)<=i
    · rw[if_pos h1]at h
      have e:(i+n).toNat=j:=bW h;exact⟨by rw[seqIndex_neg (by lia) h1,e],by lia,h1,by lia⟩
    · rw[if_neg h1]at h;cases h
theorem yh{α:Type}{xs:List α}{i:Int}{v:α}(h:atI xs i=some v):∃j,seqIndex? i xs.length=some j/\xs[j]?=some v/\j<xs.length /\ -(xs.length:Int)<=i/\i<xs.length:=by
  unfold atI at h;cases e:Le xs.length i with
  | none=>rw[e]at h;cases h
  | some j =>
    rw[e]at h;obtain⟨h1,h2,h3,h4⟩:=OJ e;exact⟨j,h1,h,h2,h3,h4⟩
theorem da{α:Type}{xs:List α}{j:Nat}{v:α}(h:xs[j]?=some v):atI xs (j:Int)=some v:=by
  have hj:j<xs.length:=(fU.mp h).1;have e:Le xs.length (j:Int)=some j:=by
    unfold Le;rw[if_pos (by lia),if_pos (by lia)];simp
  unfold atI;rw[e];exact h
def ml(b:ao):Prop:=∀o i,subscripted b false o i=operate [o,i] (getItem o i)
def TY(X:Cx)(r:R2):Prop :=
  ∀(value slice:ao) (ag:List (af×Obj)) (s:av) (σ:St) (H:Hp) (x y:V) (v u:ai) (Q:VK),Inv X ag σ H s->RelV x v->RelV y u->r x y H Q ->
    subscripted slice false v u=operate [v,u] (getItem v u)->wpAny (model X.prog X.w) X.A (subscriptTail value slice v u) (EP X ag σ Q) X.xe s
def MtR(X:Cx)(id:String)(r:V->List V->Hp->VK->Prop):Prop :=
  ∀(ag:List (af×Obj)) (s:av) (σ:St) (H:Hp) (x:V) (xs:List V) (v:ai) (us:cj) (Q:VK),Inv X ag σ H s->RelV x v->Vals xs us->r x xs H Q ->
    wpAny (model X.prog X.w) X.A (call (.builtin id) (v::us)) (EP X ag σ Q) X.xe s
section
variable {X:Cx} {a b:ao} {ta tb:TE} {pos:Pos}
theorem Gh{r:R2}(hr:TY X r)(ha:PE X a ta)(hb:PE X b tb)(hs:ml b):PE X (.Subscript a b pos) (W6 r ta tb):=by
  intro ag s σ H Q I h;exact Subscript_ (Tx ha hb I h fun v u s2 x y H2 I2 rx ry q=>hr a b ag s2 σ H2 x y v u Q I2 rx ry q (hs _ _))
def acx(K:ak):R2:=fun x y H Q=>∃p xs i v,x=.ref p/\y=.int i/\nG K H p xs/\atI xs i=some v/\Q v H
def acy(K:ak):R2:=fun x y H Q=>∃p xs i v,x=.ref p/\y=.int i/\jY K H p xs/\atI xs i=some v/\Q v H
def acz:R2:=fun x y H Q=>∃z i c,x=.str z/\y=.int i/\z.length<=sizeLine/\atI z.cps.toList i=some c/\Q (.str ⟨#[c]⟩) H
theorem Gi:TY X (acx X.K):=by
  intro value slice ag s σ H x y v u Q I rx ry h hs;obtain⟨p,xs,i,z,rfl,rfl,hq,he,q⟩:=h;cases rx;obtain⟨t,rfl⟩:=ry;obtain⟨bg,r,pl,hz⟩:=I.list hq;obtain⟨j,h1,h2,h3,h4,h5⟩:=yh he;obtain⟨w,ew,TZ⟩:=r.get h2;have hl:=r.length;have hn:=p0;have fin:EP X ag σ Q w s:=⟨z,H,I,TZ,q⟩;by_cases h0:0<=i
  · have hj:i.toNat=j:=by
      rw[seqIndex_of h0 h5]at h1;exact bW h1
    exact item_listR pl.isList h0 (by lia) (by rw[hj];simpa using ew) fin hs
  · have hj:(i+(bg.toArray.size:Int)).toNat=j:=by
      rw[seqIndex_neg (by lia) h4]at h1
      rw[bJ,<-hl];exact bW h1
    exact subscriptTail_builtinR (x:=w) pl.isList.typeIs slot_list_getitem.lookup
      (wpAny_getItem_list_neg (Q:=fun r s'=>r=w/\EP X ag σ Q r s') pl.isList (by lia) (by rw[bJ]<;>lia) (by lia) (by rw[hj];simpa using ew) ⟨rfl,fin⟩) hs
theorem T1:TY X (acy X.K):=by
  intro value slice ag s σ H x y v u Q I rx ry h hs;obtain⟨p,xs,i,z,rfl,rfl,hq,he,q⟩:=h;cases rx;obtain⟨t,rfl⟩:=ry;obtain⟨bg,r,pl,hz⟩:=I.tuple hq;obtain⟨j,h1,h2,h3,h4,h5⟩:=yh he;obtain⟨w,ew,TZ⟩:=r.get h2;have hl:=r.length;have hn:=p0;have fin:EP X ag σ Q w s:=⟨z,H,I,TZ,q⟩;exact subscriptTail_builtinR (x:=w) pl.typeIs slot_tuple_getitem.lookup
    (getItem_tuple (j:=j) (Q:=fun r s'=>r=w/\EP X ag σ Q r s') pl (by lia) (by lia) (by rw[bJ,<-hl];exact h1) (by simpa using ew) ⟨rfl,fin⟩) hs
theorem T2:TY X acz:=by
  intro value slice ag s σ H x y v u Q I rx ry h hs;obtain⟨z,i,c,rfl,rfl,hz,he,q⟩:=h;obtain⟨t,rfl⟩:=rx;obtain⟨t',rfl⟩:=ry;obtain⟨j,h1,h2,h3,h4,h5⟩:=yh he;have hl:z.cps.toList.length=z.length:=by simp[Str.length]
  rw[hl]at h1 h4 h5;have hn:=p0;exact tail_any (typeIs_str s z t) slot_str_getitem.lookup (getItem_str (c:=c) (by
    have e1:decide (i < -(2^63:Int))=false:=eZ (by lia)
    have e2:decide (i>=2^63)=false:=eZ (by lia)
    rw[e1,e2,Bool.or_false]) (by rw[h1];simpa using h2) ⟨.str ⟨#[c]⟩,H,I.tok _,⟨_,rfl⟩,q⟩) hs
theorem yi(lo hi:Option Int)(n:Nat):(sliceBounds lo hi none n).1=((HT.fI n 0 lo:Nat):Int)/\(sliceBounds lo hi none n).2.1=((HT.fI n n hi:Nat):Int)/\(sliceBounds lo hi none n).2.2=1:=by
  refine⟨?_,?_,rfl⟩
  · cases lo with
    | none=>simp[sliceBounds,HT.fI]
    | some i =>
      simp only[sliceBounds,HT.fI,Dx,show(1:Int)>0 by decide,kJ]
      by_cases h:i<0
      · simp only[h,kJ]<;>lia
      · simp only[h,kH]<;>lia
  · cases hi with
    | none=>simp[sliceBounds,HT.fI]
    | some i =>
      simp only[sliceBounds,HT.fI,Dx,show(1:Int)>0 by decide,kJ]
      by_cases h:i<0
      · simp only[h,kJ]<;>lia
      · simp only[h,kH]<;>lia
theorem vw(bg:cj)(lo hi:Option Int):slicePick bg.toArray lo hi none=((bg.drop (HT.fI bg.length 0 lo)).take (HT.fI bg.length bg.length hi-HT.fI bg.length 0 lo)).toArray:=by
  obtain⟨h1,h2,h3⟩:=yi lo hi bg.toArray.size;unfold slicePick;rw[h1,h2,h3];simp only[sliceRange_one,pick_run,bJ]<;>rfl
def acA(K:ak):V->Option Int->Option Int->Hp->VK->Prop:=fun x lo hi H Q=>∃a xs,x=.ref a/\nG K H a xs/\∀p,H p=none->Q (.ref p) (eI H p (.aq (vv xs lo hi)))
theorem Gj:SlR X (acA X.K):=by
  intro ag s σ H x v vl vu lo hi sl Q I rx hs pl pu h;obtain⟨a,xs,rfl,hx,q⟩:=h;cases rx;obtain⟨bg,r,ht,hz⟩:=I.list hx;have dQ:=r.length;refine⟨"list",_,slot_list_getitem.lookup,ht.isList.typeIs,?_⟩;refine wpAny_getItem_list_slice ht.isList hs pl pu .none (by simp) ?_ (by rw[bJ]<;>lia)
  rw[vw,<-dQ];refine⟨.ref s.heap.objs.size,_,I.laid (t':=s.toks) (o:=.aq (vv xs lo hi)) (fun b ob q=>cD _ q) (aV _) ?_,rfl,q _ (I.hok.fresh (aV _))⟩
  exact⟨cz (qM xs lo hi) hz,_,0,(r.drop (HT.fI xs.length 0 lo)).take (HT.fI xs.length xs.length hi-HT.fI xs.length 0 lo),d3 _ rfl⟩
theorem kL:mR X (.builtin "len") (fun xs H Q=>∃p ys,xs=[.ref p]/\(nG X.K H p ys\/jY X.K H p ys)/\Q (.int ys.length) H):=by
  intro ag s σ H xs us Q I r h;obtain⟨p,ys,rfl,hq,q⟩:=h;obtain⟨u,rfl,rx⟩:=lg r;cases rx;have hn:=p0;rcases hq with hq | hq
  · obtain⟨bg,r',pl,hz⟩:=I.list hq
    have dQ:=r'.length;exact Calls.call_len_list pl.isList (by simp only[bJ]<;>lia) ⟨.int ys.length,H,I.tok _,⟨s.toks+1,by rw[bJ,dQ]⟩,q⟩
  · obtain⟨bg,r',pl,hz⟩:=I.tuple hq
    have dQ:=r'.length;exact len_tuple pl (by simp only[bJ]<;>lia) ⟨.int ys.length,H,I.tok _,⟨s.toks+1,by rw[bJ,dQ]⟩,q⟩
theorem yj:mR X (.builtin "len") (fun xs H Q=>∃z,xs=[.str z]/\z.length<=sizeLine/\Q (.int z.length) H):=by
  intro ag s σ H xs us Q I r h;obtain⟨z,rfl,hz,q⟩:=h;obtain⟨u,rfl,t,rfl⟩:=lg r;have hn:=p0;exact len_str (by lia) ⟨.int z.length,H,I.tok _,⟨_,rfl⟩,q⟩
theorem kM:mR X (.type "list") (fun xs H Q=>∃p ys,xs=[.ref p]/\(nG X.K H p ys\/jY X.K H p ys)/\∀l,H l=none->Q (.ref l) (eI H l (.aq ys))):=by
  intro ag s σ H xs us Q I r h;obtain⟨p,ys,rfl,hq,q⟩:=h;obtain⟨u,rfl,rx⟩:=lg r;cases rx;have fin:∀(bg:cj),Vals ys bg->ys.length<=sizeLine->∀(h':Heap) (c':Nat),(∀b o',s.heap.get? b=some o'->h'.get? b=some o') ->
      h'.get? s.heap.objs.size=some {cls:=.type "list",dict:=none,data:=.seq bg.toArray c',slots:=#[]}->EP X ag σ Q (.ref s.heap.objs.size) {s with heap:=h'}:=fun bg r' hz h' c' kp e =>
    ⟨.ref s.heap.objs.size,_,I.laid (t':=s.toks) kp (aV _) (show fM X.prog X.w _ h' _ (.aq ys)from⟨hz,bg,c',r',e⟩),rfl,q _ (I.hok.fresh (aV _))⟩
  rcases hq with hq | hq
  · obtain⟨bg,r',pl,hz⟩:=I.list hq
    have dQ:=r'.length;obtain⟨o,ho,hc,n,hd⟩:=pl.isList;exact call_list_seq p (.inl rfl) ho hc hd (fun h' c' kp e=>fin bg r' hz h' c' kp e) (by simp only[bJ]<;>lia)
  · obtain⟨bg,r',pl,hz⟩:=I.tuple hq
    have dQ:=r'.length;obtain⟨o,ho,hc,n,hd⟩:=pl;exact call_list_seq p (.inr rfl) ho hc hd (fun h' c' kp e=>fin bg r' hz h' c' kp e) (by simp only[bJ]<;>lia)
theorem mU:mR X (.type "tuple") (fun xs H Q=>∃p ys,xs=[.ref p]/\((nG X.K H p ys/\∀l,H l=none->Q (.ref l) (eI H l (.aA ys)))\/(jY X.K H p ys/\Q (.ref p) H))):=by
  intro ag s σ H xs us Q I r h;obtain⟨p,ys,rfl,h⟩:=h;obtain⟨u,rfl,rx⟩:=lg r;cases rx;rcases h with⟨hq,q⟩ | ⟨hq,q⟩
  · obtain⟨bg,r',pl,hz⟩:=I.list hq
    have dQ:=r'.length;refine call_tuple_list pl.isList (fun h' kp=>?_) (by simp only[bJ]<;>lia)
    have I1:Inv X ag σ H {s with heap:=h'}:=I.kept (t':=s.toks) kp
    have I2:Inv X ag σ (eI H h'.objs.size (.aA ys)) {s with heap:=h'.push {cls:=.type "tuple",data:=.seq bg.toArray}} :=
      I1.laid (t':=s.toks) (fun b o e=>cD _ e) (aV _) (show fM X.prog X.w _ _ _ (.aA ys)from⟨hz,bg,r',IsTup.new _ _⟩)
    exact⟨.ref h'.objs.size,_,I2,rfl,q _ (I1.hok.fresh (aV _))⟩
  · obtain⟨bg,r',pl,hz⟩:=I.tuple hq
    exact call_tuple_same pl ⟨.ref p,H,I,rfl,q⟩
def tyV(K:ak)(T:String)(x:V)(H:Hp):Prop:=match x with
  | .str _=>T="str"
  | .int _=>T="int"
  | .ref p=>(T="list"/\∃xs,nG K H p xs)\/(T="tuple"/\∃o,K.lookup p=some o/\o.cls=.type "tuple"/\o.dict=none) \/
      (T="dict"/\((∃kvs,H p=some (.dK kvs))\/∃kvs,H p=some (.dT kvs)))\/(T="set"/\∃S n,H p=some (.set S n))
  | _=>False
theorem Lf{ag:List (af×Obj)}{σ:St}{H:Hp}{s:av}{T:String}{x:V}{v:ai}(I:Inv X ag σ H s)(r:RelV x v)(ty:tyV X.K T x H) :
    s.TypeIs v T/\∀a,v=.ref a->∃ob,s.heap.get? a=some ob/\ob.dict=none:=by
  cases x with
  | str z =>
    obtain⟨t,rfl⟩:=r;cases(show T="str" from ty)
    exact⟨typeIs_str s z t,fun _ e=>nomatch e⟩
  | int i =>
    obtain⟨t,rfl⟩:=r;cases(show T="int" from ty)
    exact⟨typeIs_int s i t,fun _ e=>nomatch e⟩
  | ref p =>
    cases r;rcases ty with⟨rfl,xs,hq⟩ | ⟨rfl,o,hk,hc,hd⟩ | ⟨rfl,hk⟩ | ⟨rfl,S,n,hk⟩
    · obtain⟨bg,_,pl,_⟩:=I.list hq
      refine⟨pl.isList.typeIs,fun a e=>?_⟩
      cases e;obtain⟨o,n,e,c,hd,_⟩:=pl;exact⟨o,e,hd⟩
    · refine⟨⟨o,I.z0 p o hk,hc⟩,fun a e=>?_⟩
      cases e;exact⟨o,I.z0 _ o hk,hd⟩
    · have z:∃o,s.heap.get? p=some o/\o.ExactDict:=by
        rcases hk with⟨kvs,hk⟩ | ⟨kvs,hk⟩
        · obtain⟨_,_,_,_,o,_,_,e,ex,_⟩:=I.hok p _ hk
          exact⟨o,e,ex⟩
        · obtain⟨_,_,o,_,_,e,ex,_⟩:=(show fM X.prog X.w H s.heap p (.dT kvs)from I.hok p _ hk)
          exact⟨o,e,ex⟩
      obtain⟨o,e,ex⟩:=z;refine⟨⟨o,e,ex.1⟩,fun a e2=>?_⟩
      cases e2;exact⟨o,e,ex.2.1⟩
    · obtain⟨o,_,_,_,e,ex,_⟩:=I.hok p _ hk
      refine⟨⟨o,e,ex.1⟩,fun a e2=>?_⟩
      cases e2;exact⟨o,e,ex.2.1⟩
  | _=>exact False.elim ty
def Xk(K:ak)(T:String)(r:V->List V->Hp->VK->Prop)(to:TE):TE:=fun σ H Q=>to σ H fun x H1=>tyV K T x H1/\r x [] H1 Q
def tBM(K:ak)(T:String)(r:V->List V->Hp->VK->Prop)(to:TE)(t:TA):TE:=fun σ H Q=>to σ H fun x H1=>tyV K T x H1/\t σ H1 fun xs H2=>r x xs H2 Q
variable {o e:ao} {es:List ao} {to:TE} {t:TA} {name:Str} {HC yk:Pos} {T id:String} {r:V->List V->Hp->VK->Prop}
theorem T3(pa:PlainAttrs T)(slot:Slot T name id)(hty:typeOf (.builtin id)=pure (.type "method_descriptor"))(hm:MtR X id r)(ho:PE X o to)
    (Lg:attributeBase o name X.env (eval o X.env)=eval o X.env:=by rfl) (Lh:(HC.endLine==yk.line)=true:=by rfl):PE X (.Call (.Attribute o name HC) [] [] yk) (Xk X.K T r to):=by
  intro ag s σ H Q I h;refine wpAny_Call_method0_late Lg Lh (thn (ho ag s σ H _ I h) fun v s1 ⟨x,H1,I1,r1,ty,q1⟩=>?_)
  obtain⟨h1,h2⟩:=Lf I1 r1 ty;exact⟨T,id,pa,slot,hty,h1,h2,Calls.callWith_builtin rfl (PySem.evalArgs_none (hm ag s1 σ H1 x [] v [] Q I1 r1 .nil q1))⟩
theorem AK(pa:PlainAttrs T)(slot:Slot T name id)(hty:typeOf (.builtin id)=pure (.type "method_descriptor"))(hm:MtR X id r)(ho:PE X o to)(ha:PA X (e::es) t)
    (Lg:attributeBase o name X.env (eval o X.env)=eval o X.env:=by rfl)
    (acD:((backTo yk (starEach (e::es) X.env)).all (fun x=>!x.1)&&(backToKw yk (keywordEach [] X.env)).all (fun x=>x.1.isSome)
      && decide ((e::es).length+([]:List Keyword).length+(if([]:List Keyword).isEmpty then 0 else 1)<30))=true:=by rfl)
    (Lh:(HC.endLine==yk.line)=true:=by rfl) (hs:starEach (e::es) X.env=(false,eval e X.env)::starEach es X.env:=by rfl) (T4:(backTo yk (starEach es X.env)).any (·.1)=false:=by rfl) :
    PE X (.Call (.Attribute o name HC) (e::es) [] yk) (tBM X.K T r to t):=by
  intro ag s σ H Q I h;refine wpAny_Call_method_late Lg acD Lh rfl (thn (ho ag s σ H _ I h) fun v s1 ⟨x,H1,I1,r1,ty,q1⟩=>?_)
  obtain⟨h1,h2⟩:=Lf I1 r1 ty;refine⟨T,id,pa,slot,hty,h1,h2,?_⟩;have hA:=ha yk ag s1 σ H1 _ I1 q1;rw[hs]at hA ⊢;refine Calls.callWith_builtin (by show(false || (backTo yk (starEach es X.env)).any (·.1))=false;rw[T4]<;>rfl) (Calls.evalArgs_plain ?_)
  exact thn hA fun us s2 ⟨vs,H2,I2,r2,q2⟩=>hm ag s2 σ H2 x vs v us Q I2 r1 r2 q2
end
def MtM(X:Cx)(id:String)(r:V->List V->Hp->VK->Prop):Prop :=
  ∀(ag:List (af×Obj)) (s:av) (σ:St) (H:Hp) (x:V) (xs:List V) (v:ai) (us:cj) (Q:VK),Inv X ag σ H s->RelV x v->Vals xs us->r x xs H Q ->
    wpAny (model X.prog X.w) X.A (call (.builtin id) (v::us)) (EP X ag σ Q) X.xe s
theorem Vals.one:∀{x:V} {us:cj},Vals [x] us->∃u,us=[u]/\RelV x u
  | _,_,.cons r .nil=>⟨_,rfl,r⟩
theorem Vals.two:∀{x y:V} {us:cj},Vals [x,y] us->∃u v,us=[u,v]/\RelV x u/\RelV y v
  | _,_,_,.cons r (.cons q .nil)=>⟨_,_,rfl,r,q⟩
theorem Vals.zero:∀{us:cj},Vals [] us->us=[]
  | _,.nil=>rfl
theorem Vals.reverse{xs:List V}{us:cj}(h:Vals xs us):Vals xs.reverse us.reverse:=by
  induction h with
  | nil=>exact .nil
  | cons r t ih=>rw[xJ,xJ];exact Vals.append ih (.cons r .nil)
section
variable {X:Cx} {ag:List (af×Obj)} {σ:St} {H:Hp} {s:av} {l b:af} {xs ys zs:List V}
theorem Inv.OK{bg its':cj}{n:Nat}{f:Array ai->Array ai}{t':Nat}(I:Inv X ag σ H s)(hH:H l=some (.aq xs))
    (e:s.heap.get? l=some {cls:=.type "list",data:=.seq bg.toArray n}) (hf:f bg.toArray=its'.toArray) (hv:Vals ys its') (hz:ys.length<=sizeLine) :
    Inv X ag σ (eI H l (.aq ys)) {s with heap:=s.heap.update l (Obj.mapSeq f),toks:=t'}:=by
  have q:=PySem.IsL.update e f;rw[hf]at q;refine I.write (x:=l) (e:=l) (by rw[hH];exact trivial) (.inl rfl) (fun b' u hb hu=>(De s.heap (Obj.mapSeq f) (eP hb)).trans hu) ⟨_,q⟩ ?_
  exact⟨hz,its',_,hv,q⟩
theorem Inv.Xl{bg:cj}{t':Nat}(I:Inv X ag σ H s)(hv:Vals ys bg)(hz:ys.length<=sizeLine) :
    Inv X ag σ (eI H s.heap.objs.size (.aq ys)) {s with heap:=s.heap.push {cls:=.type "list",data:=.seq bg.toArray},toks:=t'} :=
  I.laid (fun _ _ q=>cD _ q) (aV _) ⟨hz,bg,0,hv,d3 _ rfl⟩
theorem Inv.fresh(I:Inv X ag σ H s):H s.heap.objs.size=none:=I.hok.fresh (aV _)
theorem Inv.OL(I:Inv X ag σ H s)(hH:H l=some (.aq xs)):xs.length<=sizeLine/\∃(bg:cj) (n:Nat),Vals xs bg/\xs.length=bg.length/\s.heap.get? l=some {cls:=.type "list",data:=.seq bg.toArray n}:=by
  obtain⟨z,bg,n,r,e⟩:=I.hok l _ hH;exact⟨z,bg,n,r,r.length,e⟩
theorem Li{n:Nat}(h:n<=sizeLine):Builtin.List.listTooLong n=false:=by
  unfold Builtin.List.listTooLong;exact eZ (by lia)
end
section
variable {X:Cx}
def Gk:V->List V->Hp->VK->Prop:=fun x vs H Q=>∃l xs y,x=.ref l/\vs=[y]/\H l=some (.aq xs)/\xs.length<sizeLine/\Q .df (eI H l (.aq (xs++[y])))
theorem wC:MtM X "list.append" Gk:=by
  intro ag s σ H x vs v us Q I rx rv h;obtain⟨l,xs,y,rfl,rfl,hH,hz,q⟩:=h;cases rx;obtain⟨u,rfl,ru⟩:=rv.one;obtain⟨z,bg,n,r,hl,e⟩:=I.OL hH;refine pW F.slot_list_append ⟨_,e,rfl⟩ F.entry_list_append (F.args_list_append_2 _ _) (PySem.list_append l bg.toArray n u (by rw[bJ];lia)) ⟨e,?_⟩
  refine⟨.df,_,I.OK (its':=bg++[u]) hH e (by simp) (r.append (.cons ru .nil)) ?_,rfl,q⟩
  rw[bU,List.length_singleton]
  lia
def AL:V->List V->Hp->VK->Prop:=fun x vs H Q=>∃l xs,x=.ref l/\vs=[]/\H l=some (.aq xs)/\Q .df (eI H l (.aq xs.reverse))
theorem D3:MtM X "list.reverse" AL:=by
  intro ag s σ H x vs v us Q I rx rv h;obtain⟨l,xs,rfl,rfl,hH,q⟩:=h;cases rx;have hus:=rv.zero;subst hus;obtain⟨z,bg,n,r,hl,e⟩:=I.OL hH;refine pW F.slot_list_reverse ⟨_,e,rfl⟩ F.entry_list_reverse (F.args_list_reverse_1 _) (AutoSeq1.list_reverse_list_0 l bg.toArray n (by rw[bJ];lia)) ⟨e,?_⟩
  refine⟨.df,_,I.OK (its':=bg.reverse) hH e (by simp) r.reverse ?_,rfl,q⟩
  rw[List.length_reverse]
  lia
end
end L2
namespace Att
open PySem PySem.W PySem.Calls PyProof.Rows
theorem rj{P:Params}{h:Heap}:∀(ns:List Int) (vs:cj),WellAll P h vs (ns.map WData.int)->IntsAre vs ns:=by
  intro ns;induction ns with
  | nil =>
    intro vs w;rw[sN]at w;cases w;exact .nil
  | cons n ns ih =>
    intro vs w;rw[bK]at w;cases w with
    | cons a b =>
      cases a;exact .cons _ _ (ih _ b)
theorem HU{l:OpenLaw}{n:Nat}(hn:l.most=some n){P:Params}{h:Heap}{args:List WData}{T5:cj}
    (OM:l.row.toRowW.claim.pre args=true) (RN:WellAll P h T5 args) :
    ∃a vs ns,T5=[Value.ref a]/\args=[WData.list (ns.map WData.int)]/\h.get? a=some {cls:=.type "list",data:=.seq vs.toArray}/\IntsAre vs ns/\ns.length<=n:=by
  have hsh:WShape.hasAll [] args [.list .int]=true:=(pre_splitW OM).1;have hc:l.pre.holds [] {args:=args}=true:=(pre_splitW OM).2
  obtain⟨d,r,rfl,h1,h2⟩:=hasAllW_cons hsh;obtain rfl:=hasAllW_nil h2;obtain⟨xs,rfl,h3⟩:=hasW_list h1;obtain⟨ns,rfl⟩:=items_int h3;have dQ:ns.length<=n:=by
    unfold OpenLaw.pre at hc;have h4:(WTm.not (.lt (.lit (.int (n:Int))) (.len (.arg 0)))).holds [] {args:=[.list (ns.map .int)]}=true:=by
      have h4:=(holds_andW hc).1;rw[hn]at h4;exact h4
    have h5:=condW_of h4 (w_not (w_lt w_lit (w_len_list (w_arg rfl))));rw[aE]at h5;refine Dz fun q=>?_
    have q':(n:Int)<((ns.length:Nat):Int):=by lia
    first
      | (rw[dm q']at h5;exact absurd h5 (by decide))
      | (simp at h5;lia)
  cases RN with
  | cons w1 w2 =>
    cases w2;cases w1 with
    | list ho p5=>exact⟨_,_,ns,rfl,rfl,ho,rj ns _ p5,dQ⟩
theorem HV(l:OpenLaw)(args:List WData):l.row.toRowW.claim.post args (.bool true) args=true :=
  postW_of (r:=l.row.toRowW) (X:=(true==true))
    (show WShape.has [] (.bool true) .bool=true by first | rfl | decide | simp[WShape.has,WShape.arms,WShape.armsAll])
    (show(WTm.eq .res (.lit (.bool true))).value [] {args:=args,res:=some (.bool true),after:=args}=some (.bool (true==true))from w_eq_bool (w_res rfl) w_lit) rfl
theorem AM{l:OpenLaw}{n:Nat}{q:bG}{loose:List Str}{XP:ee->Heap->Prop}{YP:aW->Heap->Prop}{d:DefRec}
    (hn:l.most=some n) (hdf:d.params.defaults=[])
    (call:∀(w:aW) (s₀ s₁:av) (mg mb:ee) (fa:af) (o:Obj) (pm cd doc:ai) (a:af) (vs:cj) (ns:List Int),
      Ground q loose [] XP w s₀ mg mb s₁.heap->YP w s₁.heap ->
      s₁.heap.get? fa=some o->o.data=.func (docDef d.name d.params d.body d.scope pm cd doc)->s₁.heap.CodeRec cd d.name->mg d.name=some (.ref fa) ->
      s₁.heap.get? a=some {cls:=.type "list",data:=.seq vs.toArray}->IntsAre vs ns->ns.length<=n->s₁.gens=#[] ->
      codeAny (model l.prog w) callerA (.call (.ref fa) ⟨[.ref a],[]⟩) (fun r s'=>r=.ok (.ret (.bool true))/\OldK s₁.heap s'.heap/\s'.os=s₁.os/\AllBare s'.gens) s₁) :
    WalkO q loose XP YP l.row.toRowW d [] (fun f vs=>PySem.call f vs):=by
  intro w s₀ s₁ mg mb G Y fa o pm cd doc dV kV ho hd vU hD T6 hg args T5 as OM agq hrd RN hlo;obtain rfl:dV=.none:=Dflts.none hD hdf;obtain rfl:kV=.none:=Dflts.noKw hD;obtain⟨a,vs,ns,rfl,rfl,Lj,Lk,dQ⟩:=HU hn OM RN;refine enter_call (nA (call w s₀ s₁ mg mb fa o pm cd doc a vs ns G Y ho (fd_plain hd) vU T6 Lj Lk dQ hg) fun r s' hq=>?_)
  obtain⟨rfl,h2,h3,h4⟩:=hq;exact⟨.inl ⟨.bool true,.bool true,[],rfl,fun _=>rfl,.bool true,HV l _,fun _=>⟨List.Pairwise.nil,fun _ hm=>(nomatch hm)⟩⟩,h2,h3,h4⟩
end Att
namespace L2
open PySem PySem.Spec PyProof.Rows
theorem wD:∀{vs:cj} {ns:List Int},IntsAre vs ns->Vals (ns.map V.int) vs
  | _,_,.nil=>.nil
  | _,_,.cons n t h=>.cons ⟨t,rfl⟩ (wD h)
theorem HW{P:bG}{w:aW}{K:ak}{mg mb:ee}{CX:FJ}{k:Nat}{fa a:af}{fd:er}{x:Str}{sp:Sp}{s₁:av}{vs:cj}{ns:List Int}{tabs:List (af×Str)}
    (KX:K.In s₁.heap) (ON:s₁.heap.Ns mainGlobals mg) (hb:s₁.heap.Ns builtinsNs mb) (hbb:∀x:Str,x≠"__name__"->mb x=bootBuiltins x) (Ll:s₁.heap.NoLimit) (hg:s₁.gens=#[])
    (hT:∀b q,tabs.lookup b=some q->s₁.heap.get? b=some {cls:=.none,data:=.fields #[]}/\isCodeTable s₁.heap b/\K.lookup b=none) (hTI:∀H:Hp,(∀b q,tabs.lookup b=some q->H b=some (.Af q))->tK K H)
    (ha:s₁.heap.get? a=some {cls:=.type "list",data:=.seq vs.toArray}) (hi:IntsAre vs ns) (hl:ns.length<=sizeLine) (hr:fm k callerA)
    (F:∀base:Heap,K.In base->base.Ns mainGlobals mg->FnOk P w K mg base CX k fa fd [x] sp) (Xm:∀(s:av) (u:ai),BindsTo s fd ⟨[u],[]⟩ [(x,u)])
    (ox:∀H:Hp,rG K H a (ns.map V.int)->sp [.ref a] H (fun v _=>v=.bl true) fun _ _ _=>False) (hCX:∀H e s',CX [] H s₁ (fun _ _ _=>False) e s'->False) :
    codeAny (model P w) callerA (.call (.ref fa) ⟨[.ref a],[]⟩) (fun r s'=>r=.ok (.ret (.bool true))/\OldK s₁.heap s'.heap/\s'.os=s₁.os/\AllBare s'.gens) s₁:=by
  have rv:=wD hi;have cZ:=hi.length
  let oa:Obj:={cls:=.type "list",data:=.seq vs.toArray}
  let H:Hp:=fun b=>if b=a/\K.lookup a=none then some (.nF oa (.aq (ns.map V.int)))else(tabs.lookup b).map HO.Af
  have T7:∀b,H b=if b=a/\K.lookup a=none then some (.nF oa (.aq (ns.map V.int)))else(tabs.lookup b).map HO.Af:=fun _=>rfl
  have hHt:∀b q,tabs.lookup b=some q->H b=some (.Af q):=fun b q e=>by
    have hne:b≠a:=fun z=>by
      subst z;have h1:=(hT b q e).1;rw[ha]at h1;cases h1
    rw[T7,if_neg (fun z=>hne z.1),e]
    rfl
  have hH:∀b u,H b=some u->(b=a/\K.lookup a=none/\u=.nF oa (.aq (ns.map V.int)))\/∃q,tabs.lookup b=some q/\u=.Af q:=fun b u e=>by
    rw[T7]at e;by_cases h:b=a/\K.lookup a=none
    · rw[if_pos h]at e
      cases e;exact .inl ⟨h.1,h.2,rfl⟩
    · rw[if_neg h]at e
      cases z:tabs.lookup b with
      | none=>rw[z]at e;cases e
      | some q=>rw[z]at e;cases e;exact .inr ⟨q,rfl,rfl⟩
  have hS:rG K H a (ns.map V.int):=by
    cases hk:K.lookup a with
    | some o =>
      have e:=KX a o hk;rw[ha]at e;cases e;exact .inr ⟨vs,_,hk,by rw[cZ];exact hl,rv⟩
    | none=>exact .inl (.inr ⟨oa,by rw[T7,if_pos ⟨rfl,hk⟩]⟩)
  have hok:pH P w H s₁.heap:=fun b u e=>by
    rcases hH b u e with⟨rfl,_,rfl⟩ | ⟨q,hq,rfl⟩
    · exact⟨ha,by rw[aE];exact hl,vs,_,rv,ha⟩
    · exact⟨#[],(hT b q hq).1,trivial,fun pos cv z=>by cases z⟩
  have noD:∀{b:af} {o:Obj} {es:Array DictEntry} {ep:Nat},s₁.heap.get? b=some o->o.data=.dict es ep->H b=none:=fun {b o es ep} e d=>by
    cases q:H b with
    | none=>rfl
    | some u =>
      rcases hH b u q with⟨rfl,_,_⟩ | ⟨t,ht,_⟩
      · rw[ha]at e;cases e;cases d
      · have h1:=(hT b t ht).1
        rw[h1]at e;cases e;cases d
  have nsK:∀{b:af} {m:ee},s₁.heap.Ns b m->(AB s₁.heap H).Ns b m:=fun {b m} ⟨o,es,ep,e,d,r⟩=>⟨o,es,ep,hidT_get e (noD e d),d,r⟩
  have hKb:K.In (AB s₁.heap H):=fun b o e=>hidT_get (KX b o e) (by
    cases q:H b with
    | none=>rfl
    | some u =>
      rcases hH b u q with⟨rfl,z,_⟩ | ⟨t,ht,_⟩
      · rw[z]at e;cases e
      · rw[(hT b t ht).2.2]at e;cases e)
  have hM:Mod K mg (AB s₁.heap H):=⟨hKb,nsK ON,⟨mb,nsK hb,hbb⟩,let ⟨mc,h1,h2⟩:=Ll;⟨mc,nsK h1,h2⟩⟩
  have e0:DX P w K mg (AB s₁.heap H) callerA [] s₁ H:=⟨rfl,hM,fun b o e=>of_hidT e,nv (HM _ _),trivial,fun b hb=>absurd (show b∈([]:List af)from hb) (by simp),hok,.of_eq hg,hTI H hHt⟩
  refine nA ((F _ hKb (nsK ON)).run callerA [] s₁ H ⟨[.ref a],[]⟩ [.ref a] [.ref a] _ _ hr e0 (Xm s₁ (.ref a)) (.cons rfl .nil) (ox H hS)) fun r s' h=>?_
  cases r with
  | error e=>exact(hCX H e s' h).elim
  | ok fl =>
    cases fl with
    | next=>exact False.elim h
    | brk=>exact False.elim h
    | cont=>exact False.elim h
    | ret u =>
      obtain⟨v,H',os,bare,un,Xn,r',q⟩:=h;have q':v=.bl true:=q;subst q';obtain rfl:u=Value.bool true:=r';have noF:∀b:af,b∉C0 ([]:List Env):=fun b z=>absurd (show b∈([]:List af)from z) (by simp)
      refine⟨rfl,⟨fun b o e=>?_,fun b o e=>un.there b o e (by simp)⟩,os,bare⟩
      cases q:H b with
      | none=>exact .inl (un.keep b o e q (noF b) (by simp))
      | some u =>
        rcases hH b u q with⟨rfl,_,rfl⟩ | ⟨t,ht,rfl⟩
        · obtain⟨e2,_⟩:=Xn b _ (un.frzs b _ _ q)
          rw[ha]at e;cases e;exact .inl e2
        · obtain⟨h1,h2,_⟩:=hT b t ht
          obtain⟨ps,e2,_⟩:=(show fM P w H' s'.heap b (.Af t)from Xn b _ (un.tbls b _ q))
          rw[h1]at e;cases e;exact .inr (.inl ⟨h2,rfl,#[],ps,rfl,by rw[e2];simp⟩)
abbrev E0:XK:=fun _ _ _=>False
theorem Xo{A:bR}{k:Nat}(hr:fm k A):A.units+1<cLine:=kA (Nat.add_le_add_left (by decide:1<=64) _) hr.units
section
variable {X:Cx}
theorem pv(i:Nat){x:Str}{pos:Pos}(hN:X.N[i]?=some x:=by rfl)(hv:We X.env.scope x:=by first | exact Or.inl rfl | exact Or.inr (Or.inl rfl) | exact Or.inr (Or.inr rfl))(hd:(x==("__debug__":Str))=false:=by decide)
    (vU:(x==("__classdict__":Str))=false:=by decide):PE X (.Name x pos) (tN i):=pe_var hN hv hd vU
end
theorem Xp{A B:Prop}(h:B):if false=true then A else B:=by
  rw[if_neg je];exact h
theorem Xq{A B:Prop}(h:A):if true=true then A else B:=by
  rw[if_pos rfl];exact h
def Same(H H':Hp):Prop:=∀b o,H b=some o->H' b=some o
theorem Same.refl(H:Hp):Same H H:=fun _ _ h=>h
theorem Same.trans{H H1 H2:Hp}(a:Same H H1)(b:Same H1 H2):Same H H2:=fun c o h=>b c o (a c o h)
theorem Same.free{H H':Hp}(e:Same H H'){l:af}(h:H' l=Option.none):H l=Option.none:=by
  cases q:H l with
  | none=>rfl
  | some o =>
    rw[e l o q]at h;cases h
theorem Same.seq{K:ak}{H H':Hp}{a:af}{xs:List V}(e:Same H H')(h:nG K H a xs):nG K H' a xs:=by
  rcases h with(h | ⟨o,h⟩) | h
  · exact .inl (.inl (e _ _ h))
  · exact .inl (.inr ⟨o,e _ _ h⟩)
  · exact .inr h
end L2
namespace N6
open PySem PyProof PyProof.Rows
section
variable {prog:bG} {w:aW} {A:bR} {E:cR} {s:av}
theorem de{arr:Array Keyed}{i:Nat}{x:Keyed}{Q:Keyed->SortSt->Prop}{st:SortSt}(hx:arr[i]?=some x)(h:Q x st):wpS (model prog w) A E s (elem' arr i) Q st:=by
 rw[elem'_eq,hx];exact aK h
def Xr(x:Keyed):Prop:=∃n t,x.1=.int n t
theorem AN{x y:Keyed}{Q:Option Bool->SortSt->Prop}{st:SortSt}(hk:kindOf st=oneType')(hx:Xr x)(hy:Xr y) (h:Q (some (decide (numOf x.1<numOf y.1))) st):wpS (model prog w) A E s (lt' x y) Q st:=by
 obtain⟨a,t,ha⟩:=hx;obtain⟨b,u,hb⟩:=hy;rw[lt'_eq];refine aC (fW ?_);rw[hk,keyLt'_oneType,ha,hb];rw[ha,hb]at h;exact aC (lJ (xU (oneLt_int ⟨rfl,aK h⟩)))
theorem gP{arr:Array Keyed}(h:IntKeys arr){i:Nat}{x:Keyed}(hx:arr[i]?=some x):Xr x:=h x (by
 rw[Array.getElem?_eq_some_iff]at hx;obtain⟨hi,rfl⟩:=hx;exact Array.getElem_mem_toList hi)
theorem gD{arr:Array Keyed}{i:Nat}(hi:i<arr.size):∃x,arr[i]?=some x/\K arr i=numOf x.1:=⟨arr[i],xt hi,K_eq hi⟩
def Wg(left:Bool)(key:Keyed)(arr:Array Keyed)(base i:Nat):StateT SortSt Sem (Option Bool):=do
 let x <-elem' arr (base+i)
 if left then lt' x key else return (<-lt' key x).map (!·)
def Bv(left:Bool)(key:Keyed)(arr:Array Keyed)(base i:Nat):Bool:=if left=true then decide (K arr (base+i)<numOf key.1)else !decide (numOf key.1<K arr (base+i))
theorem t7{left:Bool}{key:Keyed}{arr:Array Keyed}{base i:Nat}{Q:Option Bool->SortSt->Prop}{st:SortSt}(hk:kindOf st=oneType')(hA:IntKeys arr)(hy:Xr key)(hi:base+i<arr.size)(h:Q (some (Bv left key arr base i)) st):wpS (model prog w) A E s (Wg left key arr base i) Q st:=by
 obtain⟨x,hx,e⟩:=gD hi;unfold Bv at h;rw[e]at h;refine aC (de hx ?_);cases left with
 | true=>exact AN hk (gP hA hx) hy h
 | false=>exact aC (AN hk hy (gP hA hx) (aK h))
def kO:Bool->Keyed->Array Keyed->Nat->Nat->Nat->StateT SortSt Sem (Option Nat):=sortPriv% PySem.Builtin.gallop
theorem i8{left:Bool}{key:Keyed}{arr:Array Keyed}{base n hint:Nat}{Q:Option Nat->SortSt->Prop}{st:SortSt}(hk:kindOf st=oneType')(hA:IntKeys arr)(hy:Xr key)(hb:base+n<=arr.size)(hh:hint<n)
  (mono:∀i j,i<=j->j<n->Bv left key arr base j=true->Bv left key arr base i=true)
  (h:∀r,r<=n->(∀i,i<r->Bv left key arr base i=true)->(∀i,r<=i->i<n->Bv left key arr base i=false)->Q (some r) st):wpS (model prog w) A E s (kO left key arr base n hint) Q st:=by
 have down:∀i j,i<=j->j<n->Bv left key arr base i=false->Bv left key arr base j=false:=fun i j h1 h2 h3=>by
  cases e:Bv left key arr base j with
  | false=>rfl
  | true=>rw[mono i j h1 h2 e]at h3;cases h3
 have bin:∀(lo hi:Nat),lo<=hi->hi<=n->(∀i,i<lo->Bv left key arr base i=true)->(∀i,hi<=i->i<n->Bv left key arr base i=false)->∀{f:Nat->Option (Option Nat)×Nat×Nat->StateT SortSt Sem (ForInStep (Option (Option Nat)×Nat×Nat))} {g:Option (Option Nat)×Nat×Nat->StateT SortSt Sem (Option Nat)},
   (∀x lo hi,lo>=hi->f x (none,lo,hi)=pure (.done (none,lo,hi))) ->
   (∀x lo hi,¬lo>=hi->∀(P:ForInStep (Option (Option Nat)×Nat×Nat)->SortSt->Prop),(Bv left key arr base (lo+(hi-lo)/2)=true->P (.yield (none,lo+(hi-lo)/2+1,hi)) st)->(Bv left key arr base (lo+(hi-lo)/2)=false->P (.yield (none,lo,lo+(hi-lo)/2)) st)->hi<=n->wpS (model prog w) A E s (f x (none,lo,hi)) P st) ->
   (∀lo hi,g (none,lo,hi)=pure (some hi)) ->
   wpS (model prog w) A E s (forIn [0:n] (none,lo,hi) f >>= g) Q st:=fun lo hi h1 h2 h3 h4 f g hf1 hf2 hg=>by
  refine aC (fj (e9
   (I:=fun x c bE=>bE=st/\∃lo hi,c=(none,lo,hi)/\lo<=hi/\hi<=n/\hi-lo<=n-x/\(∀i,i<lo->Bv left key arr base i=true)/\(∀i,hi<=i->i<n->Bv left key arr base i=false))
   (Q:=fun c bE=>bE=st/\∃hi,c=(none,hi,hi)/\hi<=n/\(∀i,i<hi->Bv left key arr base i=true)/\(∀i,hi<=i->i<n->Bv left key arr base i=false)) ?step ?fin ⟨rfl,lo,hi,rfl,h1,h2,by lia,h3,h4⟩) ?post)
  case fin =>
   rintro c bE ⟨rfl,lo,hi,rfl,z1,z2,z3,z4,z5⟩
   have:lo=hi:=by lia
   subst this;exact⟨rfl,lo,rfl,z2,z4,z5⟩
  case post =>
   rintro c bE ⟨rfl,hi,rfl,z2,z4,z5⟩
   rw[hg];exact aK (h hi z2 z4 z5)
  case step =>
   rintro x c bE _ hx ⟨rfl,lo,hi,rfl,z1,z2,z3,z4,z5⟩
   by_cases hl:lo>=hi
   ·rw[hf1 x lo hi hl];have:lo=hi:=by lia
    subst this;exact aK ⟨rfl,lo,rfl,z2,z4,z5⟩
   ·refine hf2 x lo hi hl _ (fun e=>⟨rfl,_,_,rfl,by lia,by lia,by lia,fun i hi'=>mono i _ (by lia) (by lia) e,z5⟩) (fun e=>⟨rfl,_,_,rfl,by lia,by lia,by lia,z4,fun i h1 h2=>down _ i h1 h2 e⟩) z2
 refine aC (m:=Wg left key arr base hint) (t7 hk hA hy (by lia) ?_)
 dsimp only
 cases eR:Bv left key arr base hint with
 | true =>
  rw[if_pos rfl];refine aC (fj (e9
   (I:=fun x c bE=>bE=st/\∃la of,c=(none,la,of)/\la<of/\x<of/\hint+la<n/\Bv left key arr base (hint+la)=true)
   (Q:=fun c bE=>bE=st/\∃la of,c=(none,la,of)/\la<of/\hint+la<n/\Bv left key arr base (hint+la)=true/\(∀i,hint+min of (n-hint)<=i->i<n->Bv left key arr base i=false)) ?step ?fin ⟨rfl,0,1,rfl,by lia,by lia,by lia,eR⟩) ?post)
  case fin =>
   rintro c bE ⟨rfl,la,of,rfl,z1,z2,z3,z4⟩
   exact⟨rfl,la,of,rfl,z1,z3,z4,fun i h1 h2=>by lia⟩
  case step =>
   rintro x c bE _ hx ⟨rfl,la,of,rfl,z1,z2,z3,z4⟩
   dsimp only
   by_cases ho:of>=n-hint
   ·rw[if_pos ho];exact aK ⟨rfl,la,of,rfl,z1,z3,z4,fun i h1 h2=>by lia⟩
   ·rw[if_neg ho];refine aC (m:=Wg left key arr base (hint+of)) (t7 hk hA hy (by lia) ?_)
    dsimp only
    cases eM:Bv left key arr base (hint+of)with
    | true=>exact aK ⟨rfl,of,2*of+1,rfl,by lia,by lia,by lia,eM⟩
    | false=>exact aK ⟨rfl,la,of,rfl,z1,z3,z4,fun i h1 h2=>down _ i (by lia) h2 eM⟩
  case post =>
   rintro c bE ⟨rfl,la,of,rfl,z1,z3,z4,z5⟩
   dsimp only
   refine bin _ _ (by lia) (by lia) (fun i hi=>mono i _ (by lia) z3 z4) z5 (fun x lo hi hl=>?_) (fun x lo hi hl P p1 p2 hn=>?_) (fun lo hi=>rfl)
   ·dsimp only;rw[if_pos hl]
   ·dsimp only
    rw[if_neg hl];refine aC (m:=Wg left key arr base _) (t7 hk hA hy (by lia) ?_)
    dsimp only
    cases eM:Bv left key arr base (lo+(hi-lo)/2)with
    | true=>exact aK (p1 eM)
    | false=>exact aK (p2 eM)
 | false =>
  rw[if_neg (by simp)]
  refine aC (fj (e9
   (I:=fun x c bE=>bE=st/\∃la of,c=(none,la,of)/\la<of/\x<of/\la<=hint/\Bv left key arr base (hint-la)=false)
   (Q:=fun c bE=>bE=st/\∃la of,c=(none,la,of)/\la<of/\la<=hint/\Bv left key arr base (hint-la)=false/\(∀i,i<hint+1-min of (hint+1)->Bv left key arr base i=true)) ?step ?fin ⟨rfl,0,1,rfl,by lia,by lia,by lia,eR⟩) ?post)
  case fin =>
   rintro c bE ⟨rfl,la,of,rfl,z1,z2,z3,z4⟩
   exact⟨rfl,la,of,rfl,z1,z3,z4,fun i h1=>by lia⟩
  case step =>
   rintro x c bE _ hx ⟨rfl,la,of,rfl,z1,z2,z3,z4⟩
   dsimp only
   by_cases ho:of>=hint+1
   ·rw[if_pos ho];exact aK ⟨rfl,la,of,rfl,z1,z3,z4,fun i h1=>by lia⟩
   ·rw[if_neg ho];refine aC (m:=Wg left key arr base (hint-of)) (t7 hk hA hy (by lia) ?_)
    dsimp only
    cases eM:Bv left key arr base (hint-of)with
    | true=>exact aK ⟨rfl,la,of,rfl,z1,z3,z4,fun i h1=>mono i _ (by lia) (by lia) eM⟩
    | false=>exact aK ⟨rfl,of,2*of+1,rfl,by lia,by lia,by lia,eM⟩
  case post =>
   rintro c bE ⟨rfl,la,of,rfl,z1,z3,z4,z5⟩
   dsimp only
   refine bin _ _ (by lia) (by lia) z5 (fun i h1 h2=>down _ i h1 h2 z4) (fun x lo hi hl=>?_) (fun x lo hi hl P p1 p2 hn=>?_) (fun lo hi=>rfl)
   ·dsimp only;rw[if_pos hl]
   ·dsimp only
    rw[if_neg hl];refine aC (m:=Wg left key arr base _) (t7 hk hA hy (by lia) ?_)
    dsimp only
    cases eM:Bv left key arr base (lo+(hi-lo)/2)with
    | true=>exact aK (p1 eM)
    | false=>exact aK (p2 eM)
abbrev ky(x:Keyed):Int:=numOf x.1
abbrev le(x y:Keyed):Prop:=ky x<=ky y
abbrev ge(x y:Keyed):Prop:=ky y<=ky x
section
variable {R:Keyed->Keyed->Prop}
structure G (R:Keyed->Keyed->Prop) (a b out:List Keyed) (ia ib:Nat):Prop where
 perm:out.Perm (a.take ia++b.take ib)
 up:out.Pairwise R
 ga:∀x∈out,∀y∈a.drop ia,R x y
 gb:∀x∈out,∀y∈b.drop ib,R x y
theorem G.symm{a b out:List Keyed}{ia ib:Nat}(g:G R a b out ia ib):G R b a out ib ia:=⟨g.perm.trans xy,g.up,g.gb,g.ga⟩
theorem Gn{a:List Keyed}{i:Nat}{x:Keyed}(h:a[i]?=some x):a.drop i=x::a.drop (i+1):=by
 obtain⟨hi,rfl⟩:=fU.mp h;exact C5 hi
theorem RO{a:List Keyed}(ha:a.Pairwise R){i:Nat}{x:Keyed}(h:a[i]?=some x):∀y∈a.drop (i+1),R x y:=by
 have h1:(a.drop i).Pairwise R:=Dp ha;rw[Gn h]at h1;exact(xE.mp h1).1
theorem G.push{a b out:List Keyed}{ia ib:Nat}(g:G R a b out ia ib)(ha:a.Pairwise R){x:Keyed}(hx:a[ia]?=some x)(vx:∀y∈b.drop ib,R x y):G R a b (out++[x]) (ia+1) ib:=by
 have hd:=Gn hx;refine⟨?_,?_,?_,?_⟩
 ·rw[xG,hx];show(out++[x]).Perm (a.take ia++[x]++b.take ib);refine(g.perm.append_right [x]).trans ?_;rw[d8,d8];exact xy.append_left _
 ·refine sj.mpr ⟨g.up,List.pairwise_singleton _ _,fun y hy z hz=>?_⟩
  rw[cW]at hz;subst hz;exact g.ga y hy z (by rw[hd];exact cq)
 ·intro y hy z hz;rcases c9.mp hy with hy | hy
  ·exact g.ga y hy z (by rw[hd];exact cn _ hz)
  ·rw[cW]at hy;subst hy;exact RO ha hx z hz
 ·intro y hy z hz;rcases c9.mp hy with hy | hy
  ·exact g.gb y hy z hz
  ·rw[cW]at hy;subst hy;exact vx z hz
theorem G.more{a b out:List Keyed}{ia ib:Nat}(g:G R a b out ia ib)(ha:a.Pairwise R):∀(k:Nat),ia+k<=a.length->(∀(i:Nat) (x:Keyed),i<k->a[ia+i]?=some x->∀y∈b.drop ib,R x y)->G R a b (out++(a.drop ia).take k) (ia+k) ib
 | 0,_,_=>by simpa using g
 | k+1,hk,h=>by
  have g1:=g.more ha k (by lia) fun i x hi=>h i x (by lia)
  obtain⟨x,hx⟩:∃x,a[ia+k]?=some x:=⟨_,cJ (by lia)⟩
  have g2:=g1.push ha hx (h k x (by lia) hx)
  have e:(a.drop ia).take (k+1)=(a.drop ia).take k++[x]:=by
   rw[xG,xF,hx];rfl
  rw[e,<-d8];exact g2
def j0(R:Keyed->Keyed->Prop)(a b r:List Keyed):Prop:=r.Perm (a++b)/\r.Pairwise R
theorem j0.symm{a b r:List Keyed}(g:j0 R a b r):j0 R b a r:=⟨g.1.trans xy,g.2⟩
theorem G.fin{a b out:List Keyed}{ia ib:Nat}(g:G R a b out ia ib)(ha:a.Pairwise R)(hb:b.Pairwise R)(h:∀x∈a.drop ia,∀y∈b.drop ib,R x y):j0 R a b (out++a.drop ia++b.drop ib):=by
 refine⟨?_,?_⟩
 ·refine((g.perm.append_right _).append_right _).trans ?_;have e:a++b=(a.take ia++a.drop ia)++(b.take ib++b.drop ib):=by rw[xA,xA]
  rw[e,d8,d8,d8];refine List.Perm.append_left _ ?_;rw[<-d8,<-d8];exact xy.append_right _
 ·refine sj.mpr ⟨sj.mpr ⟨g.up,Dp ha,fun x hx y hy=>g.ga x hx y hy⟩,Dp hb,fun x hx y hy=>?_⟩
  rcases c9.mp hx with hx | hx
  ·exact g.gb x hx y hy
  ·exact h x hx y hy
end
def up(l:List Keyed):Prop:=l.Pairwise le
theorem Lm{a b r:List Keyed}(g:j0 ge a.reverse b.reverse r):j0 le a b r.reverse:=by
 refine⟨(Ds r).trans (g.1.trans ((Ds a).append (Ds b))),?_⟩;rw[List.pairwise_reverse];exact g.2
theorem yl{a:List Keyed}(h:up a):a.reverse.Pairwise ge:=by
 rw[List.pairwise_reverse];exact h
def Sm(st bE:SortSt):Prop:=kindOf bE=kindOf st/\arrOf bE=arrOf st/\pendingOf bE=pendingOf st/\failedOf bE=failedOf st
def AO:Array Keyed->Array Keyed->StateT SortSt Sem (Array Keyed):=sortPriv% PySem.Builtin.mergeLo
theorem lO(a:Array Keyed)(i:Nat):(a.extract i a.size).toList=a.toList.drop i:=by
 rw[kx,List.extract_eq_drop_take,<-dw];exact nk (by rw[lC];lia)
theorem AQ(a:Array Keyed)(i k:Nat):(a.extract i (i+k)).toList=(a.toList.drop i).take k:=by
 rw[kx,List.extract_eq_drop_take]
 congr 1
 lia
theorem ji{a:Array Keyed}{i:Nat}{x:Keyed}(h:a[i]?=some x):a.toList[i]?=some x:=by rw[ig];exact h
theorem ym{a:Array Keyed}{i:Nat}{x:Keyed}(h:a[i]?=some x):K a i=ky x:=by unfold K;rw[h]
theorem gQ{a:Array Keyed}{i:Nat}{y:Keyed}(h:y∈a.toList.drop i):∃j,i<=j/\j<a.size/\a[j]?=some y/\K a j=ky y:=by
 obtain⟨n,hn,e⟩:=Dh.mp h;rw[lC,dw]at hn;have e2:a[i+n]?=some y:=by
  rw[<-ig,<-e,<-cJ,xF]
 exact⟨i+n,by lia,by lia,e2,ym e2⟩
theorem rl{a:Array Keyed}(ha:up a.toList){i j:Nat}(h:i<=j)(hj:j<a.size):K a i<=K a j:=by
 obtain⟨x,hx,e1⟩:=gD (arr:=a) (i:=i) (by lia)
 obtain⟨y,hy,e2⟩:=gD (arr:=a) (i:=j) hj;by_cases e:i=j
 ·subst e;exact nC _
 ·rw[e1,e2];refine RO ha (ji hx) y ?_;rw[List.mem_iff_getElem?];exact⟨j-(i+1),by rw[xF,show i+1+(j-(i+1))=j by lia];exact ji hy⟩
theorem rK{left:Bool}{key:Keyed}{a:Array Keyed}(ha:up a.toList){base n:Nat}(hb:base+n<=a.size):∀i j,i<=j->j<n->Bv left key a base j=true->Bv left key a base i=true:=fun i j h1 h2 h3=>by
 have:=rl ha (i:=base+i) (j:=base+j) (by lia) (by lia)
 unfold Bv at h3 ⊢;cases left with
 | true=>simp only[kJ,kB]at h3 ⊢;lia
 | false=>simp only[sy,kH,xK,C8]at h3 ⊢;lia
theorem HX{key:Keyed}{a:Array Keyed}{base i:Nat}:(Bv true key a base i=true↔K a (base+i)<ky key)/\(Bv true key a base i=false↔ky key<=K a (base+i)):=by
 unfold Bv;simp
theorem D4{key:Keyed}{a:Array Keyed}{base i:Nat}:(Bv false key a base i=true↔K a (base+i)<=ky key)/\(Bv false key a base i=false↔ky key<K a (base+i)):=by
 unfold Bv;simp
theorem Sm.refl(st:SortSt):Sm st st:=⟨rfl,rfl,rfl,rfl⟩
section
variable {a b:Array Keyed} {st:SortSt}
set_option maxHeartbeats 4000000 in
theorem D5{Q:Array Keyed->SortSt->Prop}(hk:kindOf st=oneType')(T8:IntKeys a)(T9:IntKeys b)(ua:up a.toList)(ub:up b.toList)(na:0<a.size)(nb:0<b.size)
  (first:K b 0<=K a 0) (iA:∀y∈b.toList,ky y<=K a (a.size-1)) (h:∀r bE,Sm st bE->j0 le a.toList b.toList r.toList->Q r bE):wpS (model prog w) A E s (AO a b) Q st:=by
 have t8:∀{out:Array Keyed} {i j:Nat},G le a.toList b.toList out.toList i j->(i=a.size\/j=b.size)->j0 le a.toList b.toList (out++a.extract i a.size++b.extract j b.size).toList:=fun {out i j} g hz=>by
  rw[jP,jP,lO,lO];refine g.fin ua ub fun x hx y hy=>?_
  rcases hz with rfl | rfl
  ·rw[<-dw,sH]at hx;cases hx
  ·rw[<-dw,sH]at hy;cases hy
 have yn:∀{out:Array Keyed} {i j:Nat},G le a.toList b.toList out.toList i j->i+1=a.size->j0 le a.toList b.toList (out++b.extract j b.size++a.extract i a.size).toList:=fun {out i j} g hz=>by
  rw[jP,jP,lO,lO];refine(g.symm.fin ub ua fun x hx y hy=>?_).symm
  obtain⟨m,h1,h2,h3,h4⟩:=gQ hy;have:=iA x (List.mem_of_mem_drop hx);show ky x<=ky y;rw[<-h4,show m=a.size-1 by lia]
  exact this
 refine aC (lJ (iQ ⟨rfl,?_⟩));obtain⟨b0,hb0,eb0⟩:=gD (arr:=b) (i:=0) nb;refine aC (m:=elem' b 0) (de hb0 ?_)
 (try dsimp only)
 have g0:G le a.toList b.toList (#[b0]:Array Keyed).toList 0 1:=by
  have:=(G.mk (a:=b.toList) (b:=a.toList) (out:=[]) (ia:=0) (ib:=0) (by simp) .nil (fun _ z=>nomatch z) (fun _ z=>nomatch z)).push ub (ji hb0) (fun y hy=>by
   obtain⟨m,h1,h2,h3,h4⟩:=gQ hy;show ky b0<=ky y;rw[<-h4];have e:K b 0=ky b0:=eb0;rw[<-e];exact jX first (rl ua (gO m) h2))
  exact this.symm
 by_cases h1:1=b.size
 ·rw[if_pos (bN.mpr h1)];exact aK (h _ _ (Sm.refl st) (t8 g0 (.inr h1)))
 rw[if_neg (fun z=>h1 (bN.mp z))]
 by_cases h2:0+1=a.size
 ·rw[if_pos (bN.mpr h2)];exact aK (h _ _ (Sm.refl st) (yn g0 h2))
 rw[if_neg (fun z=>h2 (bN.mp z))]
 refine aC (fW ?_);refine aC (fj (e9
  (I:=fun x c bE=>Sm st bE/\∃out ia ib mg,c=(none,out,ia,ib,mg)/\G le a.toList b.toList out.toList ia ib/\ia+1<a.size/\ib<b.size/\x+1<=ia+ib)
  (Q:=fun c bE=>Sm st bE/\∃r,c.1=some r/\j0 le a.toList b.toList r.toList) ?step ?fin ⟨Sm.refl st,_,_,_,_,rfl,g0,by lia,by lia,by lia⟩) ?post)
 case fin =>
  rintro c bE ⟨_,out,ia,ib,mg,_,_,z1,z2,z3⟩
  lia
 case post =>
  rintro c bE ⟨sm,r,e,g⟩
  (try dsimp only)
  rw[e];exact aK (h r bE sm g)
 case step =>
  rintro x c bE _ hx ⟨sm,out,ia,ib,mg,rfl,g,z1,z2,z3⟩
  (try dsimp only)
  refine aC (fj (e9
   (I:=fun y c bE=>Sm st bE/\∃out ia ib ac bc,c=(none,out,ia,ib,ac,bc)/\G le a.toList b.toList out.toList ia ib/\ia+1<a.size/\ib<b.size/\x+1+min y 1<=ia+ib)
   (Q:=fun c bE=>Sm st bE/\((∃r,c.1=some r/\j0 le a.toList b.toList r.toList)\/∃out ia ib ac bc,c=(none,out,ia,ib,ac,bc)/\G le a.toList b.toList out.toList ia ib/\ia+1<a.size/\ib<b.size/\x+2<=ia+ib)) ?AR ?Ln ⟨sm,_,_,_,_,_,rfl,g,z1,z2,by lia⟩) ?AS)
  case Ln =>
   rintro c bE ⟨sm,out,ia,ib,ac,bc,rfl,g,z1,z2,z3⟩
   exact⟨sm,.inr ⟨out,ia,ib,ac,bc,rfl,g,z1,z2,by lia⟩⟩
  case AR =>
   rintro y c bE _ hy ⟨sm,out,ia,ib,ac,bc,rfl,g,z1,z2,z3⟩
   (try dsimp only)
   obtain⟨bx,yo,Xs⟩:=gD (arr:=b) (i:=ib) z2;obtain⟨ax,yp,Xu⟩:=gD (arr:=a) (i:=ia) (by lia)
   refine aC (m:=elem' b ib) (de yo ?_);refine aC (m:=elem' a ia) (de yp ?_);refine aC (m:=lt' bx ax) (AN (sm.1.trans hk) (gP T9 yo) (gP T8 yp) ?_)
   (try dsimp only)
   by_cases hw:numOf bx.1<numOf ax.1
   ·rw[if_pos (dm hw)];refine aC (m:=elem' b ib) (de yo ?_)
    (try dsimp only)
    have g1:G le a.toList b.toList (out.push bx).toList ia (ib+1):=by
     rw[nr];exact(g.symm.push ub (ji yo) fun z hz=>by
      obtain⟨m,q1,q2,q3,q4⟩:=gQ hz;have:=rl ua q1 q2;show numOf bx.1<=numOf z.1;have e4:K a m=numOf z.1:=q4
      lia).symm
    by_cases e1:ib+1=b.size
    ·rw[if_pos (bN.mpr e1)];exact aK ⟨sm,.inl ⟨_,rfl,t8 g1 (.inr e1)⟩⟩
    rw[if_neg (fun z=>e1 (bN.mp z))]
    split
    ·exact aK ⟨sm,.inr ⟨_,_,_,_,_,rfl,g1,z1,by lia,by lia⟩⟩
    ·exact aK ⟨sm,_,_,_,_,_,rfl,g1,z1,by lia,by lia⟩
   ·rw[if_neg (fun z=>hw (jR z))]
    refine aC (m:=elem' a ia) (de yp ?_)
    (try dsimp only)
    have g1:G le a.toList b.toList (out.push ax).toList (ia+1) ib:=by
     rw[nr];exact g.push ua (ji yp) fun z hz=>by
      obtain⟨m,q1,q2,q3,q4⟩:=gQ hz;have:=rl ub q1 q2;show numOf ax.1<=numOf z.1;have e4:K b m=numOf z.1:=q4
      lia
    by_cases e1:ia+1+1=a.size
    ·rw[if_pos (bN.mpr e1)];exact aK ⟨sm,.inl ⟨_,rfl,yn g1 e1⟩⟩
    rw[if_neg (fun z=>e1 (bN.mp z))]
    split
    ·exact aK ⟨sm,.inr ⟨_,_,_,_,_,rfl,g1,by lia,z2,by lia⟩⟩
    ·exact aK ⟨sm,_,_,_,_,_,rfl,g1,by lia,z2,by lia⟩
  case AS =>
   rintro c bE ⟨sm,⟨r,e,gr⟩ | ⟨out,ia,ib,ac,bc,rfl,g,z1,z2,z3⟩⟩
   ·(try dsimp only)
    rw[e];exact aK ⟨sm,r,rfl,gr⟩
   (try dsimp only)
   refine aC (lJ (iQ ⟨rfl,?_⟩));refine aC (fj (e9
    (I:=fun y c bE=>Sm st bE/\∃out ia ib mg ac bc,c=(none,out,ia,ib,mg,ac,bc)/\G le a.toList b.toList out.toList ia ib/\ia+1<a.size/\ib<b.size/\x+2<=ia+ib)
    (Q:=fun c bE=>Sm st bE/\((∃r,c.1=some r/\j0 le a.toList b.toList r.toList)\/∃out ia ib mg ac bc,c=(none,out,ia,ib,mg,ac,bc)/\G le a.toList b.toList out.toList ia ib/\ia+1<a.size/\ib<b.size/\x+2<=ia+ib)) ?AU ?Lo ⟨sm,_,_,_,_,_,_,rfl,g,z1,z2,by lia⟩) ?AV)
   case Lo =>
    rintro c bE ⟨sm,out,ia,ib,mg,ac,bc,rfl,g,z1,z2,z3⟩
    exact⟨sm,.inr ⟨out,ia,ib,mg,ac,bc,rfl,g,z1,z2,z3⟩⟩
   case AV =>
    rintro c bE ⟨sm,⟨r,e,gr⟩ | ⟨out,ia,ib,mg,ac,bc,rfl,g,z1,z2,z3⟩⟩
    ·(try dsimp only)
     rw[e];exact aK ⟨sm,r,rfl,gr⟩
    ·(try dsimp only)
     refine aC (ij ?_);exact aK ⟨sm,_,_,_,_,rfl,g,z1,z2,by lia⟩
   case AU =>
    rintro y c bE _ hy ⟨sm,out,ia,ib,mg,ac,bc,rfl,g,z1,z2,z3⟩
    (try dsimp only)
    obtain⟨bx,yo,Xs⟩:=gD (arr:=b) (i:=ib) z2;by_cases hm:mg>1
    case' pos=>rw[if_pos hm]
    case' neg=>rw[if_neg hm]
    all_goals
     refine aC (ij ?_);refine aC (m:=elem' b ib) (de yo ?_);refine aC (m:=kO false bx a ia (a.size-ia) 0) (i8 (sm.1.trans hk) T8 (gP T9 yo) (by lia) (by lia) (rK ua (by lia)) fun k k1 k2 k3=>?_)
     (try dsimp only)
     have gk:G le a.toList b.toList (out++a.extract ia (ia+k)).toList (ia+k) ib:=by
      rw[jP,AQ];refine g.more ua k (by rw[dw];lia) fun i x hi hx z hz=>?_
      obtain⟨m,q1,q2,q3,q4⟩:=gQ hz;have u1:=D4.1.mp (k2 i hi);have u2:=rl ub q1 q2;rw[ig]at hx;rw[ym hx]at u1;rw[Xs,q4]at u2;exact jX u1 u2
     by_cases Xv:k>0
     case' pos =>
      rw[if_pos Xv];by_cases e1:ia+k+1=a.size
      ·rw[if_pos (bN.mpr e1)];exact aK ⟨sm,.inl ⟨_,rfl,yn gk e1⟩⟩
      rw[if_neg (fun z=>e1 (bN.mp z))]
      by_cases e2:ia+k=a.size
      ·rw[if_pos (bN.mpr e2)];exact aK ⟨sm,.inl ⟨_,rfl,t8 gk (.inl e2)⟩⟩
      rw[if_neg (fun z=>e2 (bN.mp z))]
      have w1:ia+k+1<a.size:=by lia
      have w2:∀m,ia+k<=m->m<a.size->ky bx<K a m:=fun m q1 q2=>by
       have:=D4.2.mp (k3 (m-ia) (by lia) (by lia))
       rwa [show ia+(m-ia)=m by lia]at this
      have w3:x+2<=ia+k+ib:=by lia
      generalize out++a.extract ia (ia+k)=o at gk ⊢
      generalize ia+k=ja at gk w1 w2 w3 ⊢
     case' neg =>
      rw[if_neg Xv];have ek:k=0:=by lia
      have gk':=g;clear gk;have gk:=gk';have w1:ia+1<a.size:=z1;have w2:∀m,ia<=m->m<a.size->ky bx<K a m:=fun m q1 q2=>by
       have:=D4.2.mp (k3 (m-ia) (by lia) (by lia))
       rwa [show ia+(m-ia)=m by lia]at this
      have w3:x+2<=ia+ib:=z3
      generalize out=o at gk ⊢
      generalize ia=ja at gk w1 w2 w3 ⊢
     all_goals
      refine aC (m:=elem' b ib) (de yo ?_)
      (try dsimp only)
      have gb:G le a.toList b.toList (o.push bx).toList ja (ib+1):=by
       rw[nr];exact(gk.symm.push ub (ji yo) fun z hz=>by
        obtain⟨m,q1,q2,q3,q4⟩:=gQ hz;show ky bx<=ky z;rw[<-q4];exact ny (w2 m q1 q2)).symm
      by_cases e3:ib+1=b.size
      ·rw[if_pos (bN.mpr e3)];exact aK ⟨sm,.inl ⟨_,rfl,t8 gb (.inr e3)⟩⟩
      rw[if_neg (fun z=>e3 (bN.mp z))]
      obtain⟨ax,yp,Xu⟩:=gD (arr:=a) (i:=ja) (by lia)
      refine aC (m:=elem' a ja) (de yp ?_);refine aC (m:=kO true ax b (ib+1) (b.size-(ib+1)) 0) (i8 (sm.1.trans hk) T9 (gP T8 yp) (by lia) (by lia) (rK ub (by lia)) fun k' l1 l2 l3=>?_)
      (try dsimp only)
      have gl:G le a.toList b.toList (o.push bx++b.extract (ib+1) (ib+1+k')).toList ja (ib+1+k'):=by
       rw[jP,AQ];refine(gb.symm.more ub k' (by rw[dw];lia) fun i x hi hx z hz=>?_).symm
       obtain⟨m,q1,q2,q3,q4⟩:=gQ hz;have u1:=HX.1.mp (l2 i hi);have u2:=rl ua q1 q2;rw[ig]at hx;rw[ym hx]at u1;rw[Xu,q4]at u2;exact jX (ny u1) u2
      have v2:∀m,ib+1+k'<=m->m<b.size->ky ax<=K b m:=fun m q1 q2=>by
       have:=HX.2.mp (l3 (m-(ib+1)) (by lia) (by lia))
       rwa [show ib+1+(m-(ib+1))=m by lia]at this
      by_cases J0:k'>0
      case' pos =>
       rw[if_pos J0];by_cases e4:ib+1+k'=b.size
       ·rw[if_pos (bN.mpr e4)];exact aK ⟨sm,.inl ⟨_,rfl,t8 gl (.inr e4)⟩⟩
       rw[if_neg (fun z=>e4 (bN.mp z))]
       have v1:ib+1+k'<b.size:=by lia
       have v3:x+2<=ja+(ib+1+k'):=by lia
       generalize o.push bx++b.extract (ib+1) (ib+1+k')=p at gl ⊢
       generalize ib+1+k'=jb at gl v1 v2 v3 ⊢
      case' neg =>
       rw[if_neg J0];have ek':k'=0:=by lia
       have gl':=gb;clear gl;have gl:=gl';have v1:ib+1<b.size:=by lia
       have v3:x+2<=ja+(ib+1):=by lia
       rw[show ib+1+k'=ib+1 by lia]at v2
       generalize o.push bx=p at gl ⊢
       generalize ib+1=jb at gl v1 v2 v3 ⊢
      all_goals
       refine aC (m:=elem' a ja) (de yp ?_)
       (try dsimp only)
       have gf:G le a.toList b.toList (p.push ax).toList (ja+1) jb:=by
        rw[nr];exact gl.push ua (ji yp) fun z hz=>by
         obtain⟨m,q1,q2,q3,q4⟩:=gQ hz;show ky ax<=ky z;rw[<-q4];exact v2 m q1 q2
       by_cases e5:ja+1+1=a.size
       ·rw[if_pos (bN.mpr e5)];exact aK ⟨sm,.inl ⟨_,rfl,yn gf e5⟩⟩
       rw[if_neg (fun z=>e5 (bN.mp z))]
       by_cases e6:(decide (k<7)&&decide (k'<7))=true
       ·rw[if_pos e6];exact aK ⟨sm,.inr ⟨_,_,_,_,_,_,rfl,gf,by lia,v1,by lia⟩⟩
       ·rw[if_neg e6];exact aK ⟨sm,_,_,_,_,_,_,rfl,gf,by lia,v1,by lia⟩
def Hi(a b out:Array Keyed)(na nb:Nat):Prop:=na<=a.size/\nb<=b.size/\G ge a.toList.reverse b.toList.reverse out.toList (a.size-na) (b.size-nb)
theorem Hi.symm{a b out:Array Keyed}{na nb:Nat}(g:Hi a b out na nb):Hi b a out nb na:=⟨g.2.1,g.1,g.2.2.symm⟩
theorem jk{a:Array Keyed}{na:Nat}(h:na<=a.size):a.toList.reverse.drop (a.size-na)=(a.toList.take na).reverse:=by
 rw[List.drop_reverse,dw,show a.size-(a.size-na)=na by lia]
theorem fZ{a:Array Keyed}{n:Nat}{y:Keyed}(h:y∈a.toList.take n):∃m,m<n/\m<a.size/\a[m]?=some y/\K a m=ky y:=by
 obtain⟨m,hm,e⟩:=Dh.mp h;rw[kD,dw]at hm;have e2:a[m]?=some y:=by
  rw[<-ig,<-e,<-cJ,C7 (by lia)]
 exact⟨m,by lia,by lia,e2,ym e2⟩
theorem Ua{a:Array Keyed}{na:Nat}{x:Keyed}(h0:0<na)(hn:na<=a.size)(hx:a[na-1]?=some x):a.toList.reverse[a.size-na]?=some x:=by
 rw[List.getElem?_reverse (by rw[dw];lia),dw,show a.size-1-(a.size-na)=na-1 by lia,ig]
 exact hx
theorem Hi.push{a b out:Array Keyed}{na nb:Nat}(g:Hi a b out na nb)(ua:up a.toList)(h0:0<na){x:Keyed}(hx:a[na-1]?=some x)(vx:∀y∈b.toList.take nb,ky y<=ky x):Hi a b (out.push x) (na-1) nb:=by
 obtain⟨h1,h2,g⟩:=g;refine⟨by lia,h2,?_⟩
 rw[nr,show a.size-(na-1)=a.size-na+1 by lia]
 refine g.push (yl ua) (Ua h0 h1 hx) fun y hy=>?_
 rw[jk h2,xM]at hy;exact vx y hy
theorem Hi.more{a b out:Array Keyed}{na nb at_:Nat}(g:Hi a b out na nb)(ua:up a.toList)(h0:at_<=na)(vx:∀(i:Nat) (x:Keyed),at_<=i->i<na->a[i]?=some x->∀y∈b.toList.take nb,ky y<=ky x):Hi a b (out++(a.extract at_ na).reverse) at_ nb:=by
 obtain⟨h1,h2,g⟩:=g;refine⟨by lia,h2,?_⟩
 have g1:=g.more (yl ua) (na-at_) (by rw[List.length_reverse,dw];lia) fun i x hi hx y hy=>by
  rw[jk h2,xM]at hy;rw[List.getElem?_reverse (by rw[dw];lia),dw,ig]at hx
  exact vx (a.size-1-(a.size-na+i)) x (by lia) (by lia) hx y hy
 have e:(a.toList.reverse.drop (a.size-na)).take (na-at_)=((a.extract at_ na).reverse).toList:=by
  rw[jk h1,List.take_reverse,kD,dw,show min na a.size-(na-at_)=at_ by lia,List.drop_take,Array.toList_reverse,kx,List.extract_eq_drop_take]
 rw[jP,<-e,show a.size-at_=a.size-na+(na-at_) by lia]
 exact g1
theorem Ub(a:Array Keyed)(n:Nat):(a.extract 0 n).toList=a.toList.take n:=by
 rw[kx,List.extract_eq_drop_take];simp
theorem Hi.fin{a b out:Array Keyed}{na nb:Nat}(g:Hi a b out na nb)(ua:up a.toList)(ub:up b.toList)(h:∀y∈b.toList.take nb,∀x∈a.toList.take na,ky y<=ky x):j0 le a.toList b.toList (b.extract 0 nb++a.extract 0 na++out.reverse).toList:=by
 obtain⟨h1,h2,g⟩:=g;have:=Lm (g.fin (yl ua) (yl ub) fun x hx y hy=>by
  rw[jk h1,xM]at hx;rw[jk h2,xM]at hy;exact h y hy x hx)
 rw[jk h1,jk h2,List.reverse_append,List.reverse_append,List.reverse_reverse,List.reverse_reverse]at this;rw[jP,jP,Ub,Ub,Array.toList_reverse,d8];exact this
def AW:Array Keyed->Array Keyed->StateT SortSt Sem (Array Keyed):=sortPriv% PySem.Builtin.mergeHi
set_option maxHeartbeats 4000000 in
theorem D6{Q:Array Keyed->SortSt->Prop}(hk:kindOf st=oneType')(T8:IntKeys a)(T9:IntKeys b)(ua:up a.toList)(ub:up b.toList)(na:0<a.size)(nb:0<b.size)
  (first:K b 0<=K a 0) (iA:∀y∈b.toList,ky y<=K a (a.size-1)) (h:∀r bE,Sm st bE->j0 le a.toList b.toList r.toList->Q r bE):wpS (model prog w) A E s (AW a b) Q st:=by
 have t8:∀{out:Array Keyed} {i j:Nat},Hi a b out i j->(i=0\/j=0)->j0 le a.toList b.toList (a.extract 0 i++b.extract 0 j++out.reverse).toList:=fun {out i j} g hz=>by
  refine(g.symm.fin ub ua fun x hx y hy=>?_).symm
  rcases hz with rfl | rfl
  ·cases hx
  ·cases hy
 have yn:∀{out:Array Keyed} {i j:Nat},Hi a b out i j->j=1->j0 le a.toList b.toList (b.extract 0 j++a.extract 0 i++out.reverse).toList:=fun {out i j} g hz=>by
  refine g.fin ua ub fun y hy x hx=>?_
  obtain⟨m,h1,h2,h3,h4⟩:=fZ hy;obtain⟨n,n1,n2,n3,n4⟩:=fZ hx;rw[<-h4,<-n4,show m=0 by lia]
  exact jX first (rl ua (gO n) n2)
 refine aC (lJ (iQ ⟨rfl,?_⟩));obtain⟨a0,ha0,ea0⟩:=gD (arr:=a) (i:=a.size-1) (by lia)
 refine aC (m:=elem' a (a.size-1)) (de ha0 ?_)
 (try dsimp only)
 have g0:Hi a b (#[a0]:Array Keyed) (a.size-1) b.size:=by
  have:Hi a b (#[]:Array Keyed) a.size b.size:=⟨aV _,aV _,by simp,.nil,(fun _ z=>nomatch z),(fun _ z=>nomatch z)⟩
  exact this.push ua na ha0 fun y hy=>by
   have:=iA y (Di hy)
   rwa [ea0]at this
 by_cases h1:a.size-1=0
 ·rw[if_pos (bN.mpr h1)];exact aK (h _ _ (Sm.refl st) (t8 g0 (.inl h1)))
 rw[if_neg (fun z=>h1 (bN.mp z))]
 by_cases h2:b.size=1
 ·rw[if_pos (bN.mpr h2)];exact aK (h _ _ (Sm.refl st) (yn g0 h2))
 rw[if_neg (fun z=>h2 (bN.mp z))]
 refine aC (fW ?_);refine aC (fj (e9
  (I:=fun x c bE=>Sm st bE/\∃ma mb out mg,c=(none,ma,mb,out,mg)/\Hi a b out ma mb/\0<ma/\1<mb/\ma+mb+x+1<=a.size+b.size)
  (Q:=fun c bE=>Sm st bE/\∃r,c.1=some r/\j0 le a.toList b.toList r.toList) ?step ?fin ⟨Sm.refl st,_,_,_,_,rfl,g0,by lia,by lia,by lia⟩) ?post)
 case fin =>
  rintro c bE ⟨_,ma,mb,out,mg,_,_,z1,z2,z3⟩
  lia
 case post =>
  rintro c bE ⟨sm,r,e,g⟩
  (try dsimp only)
  rw[e];exact aK (h r bE sm g)
 case step =>
  rintro x c bE _ hx ⟨sm,ma,mb,out,mg,rfl,g,z1,z2,z3⟩
  (try dsimp only)
  refine aC (fj (e9
   (I:=fun y c bE=>Sm st bE/\∃ma mb out ac bc,c=(none,ma,mb,out,ac,bc)/\Hi a b out ma mb/\0<ma/\1<mb/\ma+mb+x+1+min y 1<=a.size+b.size)
   (Q:=fun c bE=>Sm st bE/\((∃r,c.1=some r/\j0 le a.toList b.toList r.toList)\/∃ma mb out ac bc,c=(none,ma,mb,out,ac,bc)/\Hi a b out ma mb/\0<ma/\1<mb/\ma+mb+x+2<=a.size+b.size)) ?AR ?Ln ⟨sm,_,_,_,_,_,rfl,g,z1,z2,by lia⟩) ?AS)
  case Ln =>
   rintro c bE ⟨sm,ma,mb,out,ac,bc,rfl,g,z1,z2,z3⟩
   exact⟨sm,.inr ⟨ma,mb,out,ac,bc,rfl,g,z1,z2,by lia⟩⟩
  case AR =>
   rintro y c bE _ hy ⟨sm,ma,mb,out,ac,bc,rfl,g,z1,z2,z3⟩
   (try dsimp only)
   have y1:=g.1;have y2:=g.2.1;obtain⟨bx,yo,Xs⟩:=gD (arr:=b) (i:=mb-1) (by lia)
   obtain⟨ax,yp,Xu⟩:=gD (arr:=a) (i:=ma-1) (by lia)
   refine aC (m:=elem' b (mb-1)) (de yo ?_);refine aC (m:=elem' a (ma-1)) (de yp ?_);refine aC (m:=lt' bx ax) (AN (sm.1.trans hk) (gP T9 yo) (gP T8 yp) ?_)
   (try dsimp only)
   by_cases hw:numOf bx.1<numOf ax.1
   ·rw[if_pos (dm hw)];refine aC (m:=elem' a (ma-1)) (de yp ?_)
    (try dsimp only)
    have g1:Hi a b (out.push ax) (ma-1) mb:=g.push ua z1 yp fun z hz=>by
     obtain⟨m,q1,q2,q3,q4⟩:=fZ hz;have:=rl ub (i:=m) (j:=mb-1) (by lia) (by lia)
     show numOf z.1<=numOf ax.1;have e4:K b m=numOf z.1:=q4
     lia
    by_cases e1:ma-1=0
    ·rw[if_pos (bN.mpr e1)];exact aK ⟨sm,.inl ⟨_,rfl,t8 g1 (.inl e1)⟩⟩
    rw[if_neg (fun z=>e1 (bN.mp z))]
    split
    ·exact aK ⟨sm,.inr ⟨_,_,_,_,_,rfl,g1,by lia,z2,by lia⟩⟩
    ·exact aK ⟨sm,_,_,_,_,_,rfl,g1,by lia,z2,by lia⟩
   ·rw[if_neg (fun z=>hw (jR z))]
    refine aC (m:=elem' b (mb-1)) (de yo ?_)
    (try dsimp only)
    have g1:Hi a b (out.push bx) ma (mb-1):=(g.symm.push ub (by lia) yo fun z hz=>by
     obtain⟨m,q1,q2,q3,q4⟩:=fZ hz;have:=rl ua (i:=m) (j:=ma-1) (by lia) (by lia)
     show numOf z.1<=numOf bx.1;have e4:K a m=numOf z.1:=q4
     lia).symm
    by_cases e1:mb-1=1
    ·rw[if_pos (bN.mpr e1)];exact aK ⟨sm,.inl ⟨_,rfl,yn g1 e1⟩⟩
    rw[if_neg (fun z=>e1 (bN.mp z))]
    split
    ·exact aK ⟨sm,.inr ⟨_,_,_,_,_,rfl,g1,z1,by lia,by lia⟩⟩
    ·exact aK ⟨sm,_,_,_,_,_,rfl,g1,z1,by lia,by lia⟩
  case AS =>
   rintro c bE ⟨sm,⟨r,e,gr⟩ | ⟨ma,mb,out,ac,bc,rfl,g,z1,z2,z3⟩⟩
   ·(try dsimp only)
    rw[e];exact aK ⟨sm,r,rfl,gr⟩
   (try dsimp only)
   refine aC (lJ (iQ ⟨rfl,?_⟩));refine aC (fj (e9
    (I:=fun y c bE=>Sm st bE/\∃ma mb out mg ac bc,c=(none,ma,mb,out,mg,ac,bc)/\Hi a b out ma mb/\0<ma/\1<mb/\ma+mb+x+2<=a.size+b.size)
    (Q:=fun c bE=>Sm st bE/\((∃r,c.1=some r/\j0 le a.toList b.toList r.toList)\/∃ma mb out mg ac bc,c=(none,ma,mb,out,mg,ac,bc)/\Hi a b out ma mb/\0<ma/\1<mb/\ma+mb+x+2<=a.size+b.size)) ?AU ?Lo ⟨sm,_,_,_,_,_,_,rfl,g,z1,z2,by lia⟩) ?AV)
   case Lo =>
    rintro c bE ⟨sm,ma,mb,out,mg,ac,bc,rfl,g,z1,z2,z3⟩
    exact⟨sm,.inr ⟨ma,mb,out,mg,ac,bc,rfl,g,z1,z2,z3⟩⟩
   case AV =>
    rintro c bE ⟨sm,⟨r,e,gr⟩ | ⟨ma,mb,out,mg,ac,bc,rfl,g,z1,z2,z3⟩⟩
    ·(try dsimp only)
     rw[e];exact aK ⟨sm,r,rfl,gr⟩
    ·(try dsimp only)
     refine aC (ij ?_);exact aK ⟨sm,_,_,_,_,rfl,g,z1,z2,by lia⟩
   case AU =>
    rintro y c bE _ hy ⟨sm,ma,mb,out,mg,ac,bc,rfl,g,z1,z2,z3⟩
    (try dsimp only)
    have y1:=g.1;have y2:=g.2.1;obtain⟨bx,yo,Xs⟩:=gD (arr:=b) (i:=mb-1) (by lia)
    by_cases hm:mg>1
    case' pos=>rw[if_pos hm]
    case' neg=>rw[if_neg hm]
    all_goals
     refine aC (ij ?_);refine aC (m:=elem' b (mb-1)) (de yo ?_);refine aC (m:=kO false bx a 0 ma (ma-1)) (i8 (sm.1.trans hk) T8 (gP T9 yo) (by lia) (by lia) (rK ua (by lia)) fun k k1 k2 k3=>?_)
     (try dsimp only)
     have gk:Hi a b (out++(a.extract k ma).reverse) k mb:=g.more ua k1 fun i x q1 q2 hx z hz=>by
      obtain⟨m,p1,p2,p3,p4⟩:=fZ hz;have u1:=D4.2.mp (k3 i q1 q2);rw[fV,ym hx]at u1;have u2:=rl ub (i:=m) (j:=mb-1) (by lia) (by lia)
      rw[Xs,p4]at u2;exact jX u2 (ny u1)
     have w2:∀m,m<k->K a m<=ky bx:=fun m q1=>by
      have:=D4.1.mp (k2 m q1)
      rwa [fV]at this
     by_cases Xv:ma-k>0
     case' pos =>
      rw[if_pos Xv];by_cases e1:k=0
      ·rw[if_pos (bN.mpr e1)];exact aK ⟨sm,.inl ⟨_,rfl,t8 gk (.inl e1)⟩⟩
      rw[if_neg (fun z=>e1 (bN.mp z))]
      have w1:0<k:=by lia
      have w3:k+mb+x+2<=a.size+b.size:=by lia
      have w4:k<=a.size:=by lia
      have ej:k=k:=rfl
      generalize out++(a.extract k ma).reverse=o at gk ⊢
      generalize hc:ma-k=cnt
      generalize k=ja at gk w1 w2 w3 w4 ⊢
     case' neg =>
      rw[if_neg Xv];have ek:k=ma:=by lia
      have gk':=g;clear gk;have gk:=gk';rw[ek]at w2;have w1:0<ma:=z1;have w3:ma+mb+x+2<=a.size+b.size:=z3;have w4:ma<=a.size:=y1
      generalize out=o at gk ⊢
      generalize hc:ma-k=cnt
      generalize ma=ja at gk w1 w2 w3 w4 ⊢
     all_goals
      refine aC (m:=elem' b (mb-1)) (de yo ?_)
      (try dsimp only)
      have gb:Hi a b (o.push bx) ja (mb-1):=(gk.symm.push ub (by lia) yo fun z hz=>by
       obtain⟨m,q1,q2,q3,q4⟩:=fZ hz;rw[<-q4];exact w2 m q1).symm
      by_cases e3:mb-1=1
      ·rw[if_pos (bN.mpr e3)];exact aK ⟨sm,.inl ⟨_,rfl,yn gb e3⟩⟩
      rw[if_neg (fun z=>e3 (bN.mp z))]
      obtain⟨ax,yp,Xu⟩:=gD (arr:=a) (i:=ja-1) (by lia)
      refine aC (m:=elem' a (ja-1)) (de yp ?_);refine aC (m:=kO true ax b 0 (mb-1) (mb-1-1)) (i8 (sm.1.trans hk) T9 (gP T8 yp) (by lia) (by lia) (rK ub (by lia)) fun k' l1 l2 l3=>?_)
      (try dsimp only)
      have gl:Hi a b (o.push bx++(b.extract k' (mb-1)).reverse) ja k':=(gb.symm.more ub l1 fun i x q1 q2 hx z hz=>by
       obtain⟨m,p1,p2,p3,p4⟩:=fZ hz;have u1:=HX.2.mp (l3 i q1 q2);rw[fV,ym hx]at u1;have u2:=rl ua (i:=m) (j:=ja-1) (by lia) (by lia)
       rw[Xu,p4]at u2;exact jX u2 u1).symm
      have v2:∀m,m<k'->K b m<=ky ax:=fun m q1=>by
       have:=HX.1.mp (l2 m q1);rw[fV]at this;exact ny this
      by_cases J0:mb-1-k'>0
      case' pos =>
       rw[if_pos J0];by_cases e4:k'=1
       ·rw[if_pos (bN.mpr e4)];exact aK ⟨sm,.inl ⟨_,rfl,yn gl e4⟩⟩
       rw[if_neg (fun z=>e4 (bN.mp z))]
       by_cases e5:k'=0
       ·rw[if_pos (bN.mpr e5)];exact aK ⟨sm,.inl ⟨_,rfl,t8 gl (.inr e5)⟩⟩
       rw[if_neg (fun z=>e5 (bN.mp z))]
       have v1:1<k':=by lia
       have v3:ja+k'+x+2<=a.size+b.size:=by lia
       generalize o.push bx++(b.extract k' (mb-1)).reverse=p at gl ⊢
       generalize hd:mb-1-k'=Xw
       generalize k'=jb at gl v1 v2 v3 ⊢
      case' neg =>
       rw[if_neg J0];have ek':k'=mb-1:=by lia
       have gl':=gb;clear gl;have gl:=gl';rw[ek']at v2;have v1:1<mb-1:=by lia
       have v3:ja+(mb-1)+x+2<=a.size+b.size:=by lia
       generalize o.push bx=p at gl ⊢
       generalize hd:mb-1-k'=Xw
       generalize mb-1=jb at gl v1 v2 v3 ⊢
      all_goals
       refine aC (m:=elem' a (ja-1)) (de yp ?_)
       (try dsimp only)
       have gf:Hi a b (p.push ax) (ja-1) jb:=gl.push ua w1 yp fun z hz=>by
        obtain⟨m,q1,q2,q3,q4⟩:=fZ hz;rw[<-q4];exact v2 m q1
       by_cases e6:ja-1=0
       ·rw[if_pos (bN.mpr e6)];exact aK ⟨sm,.inl ⟨_,rfl,t8 gf (.inl e6)⟩⟩
       rw[if_neg (fun z=>e6 (bN.mp z))]
       by_cases e7:(decide (cnt<7)&&decide (Xw<7))=true
       ·rw[if_pos e7];exact aK ⟨sm,.inr ⟨_,_,_,_,_,_,rfl,gf,by lia,v1,by lia⟩⟩
       ·rw[if_neg e7];exact aK ⟨sm,_,_,_,_,_,_,rfl,gf,by lia,v1,by lia⟩
end
end
section
variable {prog:bG} {w:aW} {A:bR} {E:cR} {s:av} {st:SortSt}
theorem Gp(sa:Nat):∀(l:List Keyed) (i:Nat) (a:Array Keyed),sa+i+l.length<=a.size->((l.zipIdx i).foldl (fun a (x:Keyed×Nat)=>match x with | (p,j)=>a.setIfInBounds (sa+j) p) a).toList=a.toList.take (sa+i)++l++a.toList.drop (sa+i+l.length)
 | [],i,a,_=>by simp
 | p::l,i,a,h=>by
  rw[bA]at h;rw[List.zipIdx_cons,List.foldl_cons];show(List.foldl _ (a.setIfInBounds (sa+i) p) _).toList=_;rw[Gp sa l (i+1) (a.setIfInBounds (sa+i) p) (by rw[Array.size_setIfInBounds];lia),Array.toList_setIfInBounds,bA,<-Nat.add_assoc sa i 1]
  have hl:sa+i<a.toList.length:=by rw[dw];lia
  rw[List.drop_set_of_lt (by lia),xG,List.take_set_of_le (by lia),cL hl,show sa+i+(l.length+1)=sa+i+1+l.length by lia]
  simp
def vk(a:Array Keyed)(i j:Nat):Prop:=∀p q,i<=p->p<=q->q<j->K a p<=K a q
theorem t9{a:Array Keyed}{i j:Nat}(h:vk a i j)(hj:j<=a.size):up (a.extract i j).toList:=by
 unfold up;rw[List.pairwise_iff_getElem];intro p q hp hq hpq;rw[dw,xC]at hp hq;have e:∀(m:Nat) (hm:m<(a.extract i j).toList.length),ky (a.extract i j).toList[m]=K a (i+m):=fun m hm=>by
  rw[dw,xC]at hm;have:(a.extract i j)[m]?=a[i+m]?:=by rw[Array.getElem?_extract];rw[if_pos (by lia)]
  rw[Array.getElem_toList];refine(ym (i:=i+m) ?_).symm;rw[<-this,xt]
 show ky _<=ky _;rw[e,e];exact h _ _ (by lia) (by lia) (by lia)
theorem rM{a:Array Keyed}(h:IntKeys a)(i j:Nat):IntKeys (a.extract i j):=fun p hp=>h p (by
 rw[kx,List.extract_eq_drop_take]at hp;exact List.mem_of_mem_drop (Di hp))
theorem yq{a:Array Keyed}{i j:Nat}{y:Keyed}(h:y∈(a.extract i j).toList):∃m,i<=m/\m<j/\m<a.size/\K a m=ky y:=by
 rw[kx,List.extract_eq_drop_take]at h;obtain⟨m,hm,e⟩:=Dh.mp h;rw[kD,lC,dw]at hm;have e2:a[i+m]?=some y:=by
  rw[<-ig,<-e,<-cJ,C7 (by lia),xF]
 exact⟨i+m,by lia,by lia,by lia,ym e2⟩
def Up(a:Array Keyed):Prop:=up a.toList
theorem acH(a:Array Keyed){i j k:Nat}(h1:i<=j)(h2:j<=k):a.toList.Perm (a.toList.take i++((a.extract i j).toList++(a.extract j k).toList)++a.toList.drop k):=by
 have e1:(a.extract i j).toList++(a.extract j k).toList=(a.toList.drop i).take (k-i):=by
  rw[kx,kx,List.extract_eq_drop_take,List.extract_eq_drop_take,show k-i=(j-i)+(k-j) by lia,List.take_add,List.drop_drop,show i+(j-i)=j by lia]
 rw[e1];have e2:a.toList.take i++(a.toList.drop i).take (k-i)++a.toList.drop k=a.toList:=by
  rw[<-List.take_add,show i+(k-i)=k by lia,xA]
 rw[e2]
theorem Lp{a:Array Keyed}(h:vk a 0 a.size):Up a:=by
 have:=t9 h (aV _)
 rwa [Array.extract_size]at this
theorem OP{σ:Type}{M:Model}{x st:σ}{Q:PUnit->σ->Prop}(h:Q ⟨⟩ x):wpS M A E s (set x:StateT σ Sem PUnit) Q st:=by
 unfold wpS;rw[StateT.run_set];exact aJ ⟨rfl,h⟩
theorem AX{left:Bool}{key:Keyed}{a:Array Keyed}{base n:Nat}(ha:vk a base (base+n)):∀i j,i<=j->j<n->Bv left key a base j=true->Bv left key a base i=true:=fun i j h1 h2 h3=>by
 have:=ha (base+i) (base+j) (by lia) (by lia) (by lia)
 unfold Bv at h3 ⊢;cases left with
 | true=>simp only[kJ,kB]at h3 ⊢;lia
 | false=>simp only[sy,kH,xK,C8]at h3 ⊢;lia
theorem Lq{a:Array Keyed}{i j m:Nat}(h:i+m<j)(hj:j<=a.size):K (a.extract i j) m=K a (i+m):=by
 obtain⟨x,hx,e⟩:=gD (arr:=a) (i:=i+m) (by lia)
 rw[e];refine ym ?_;rw[Array.getElem?_extract,if_pos (by lia)]
 exact hx
theorem Lr{a:Array Keyed}{n1 n2 k j:Nat}{r:List Keyed}{c0 d0:Int}(hz:n1+n2=a.size)(s1:vk a 0 n1)(s2:vk a n1 (n1+n2))(hk:k<n1)(hj:j<=n2)(h2:0<n2)(ec:K a n1=c0)(ed:K a (n1-1)=d0)
  (k2:∀i,i<k->K a i<=c0) (l3:∀i,j<=i->i<n2->d0<=K a (n1+i)) (g:j0 le (a.extract k n1).toList (a.extract n1 (n1+j)).toList r) :
  (a.toList.take k++r++a.toList.drop (n1+j)).Perm a.toList/\up (a.toList.take k++r++a.toList.drop (n1+j)):=by
 refine⟨((g.1.append_left _).append_right _).trans (acH a (by lia) (by lia)).symm,?_⟩
 have hr:∀y∈r,(∃m,k<=m/\m<n1/\K a m=ky y)\/∃m,n1<=m/\m<n1+j/\K a m=ky y:=fun y hy=>by
  rcases c9.mp (g.1.mem_iff.mp hy)with hy | hy
  ·obtain⟨m,q1,q2,q3,q4⟩:=yq hy;exact .inl ⟨m,q1,q2,q4⟩
  ·obtain⟨m,q1,q2,q3,q4⟩:=yq hy;exact .inr ⟨m,q1,q2,q4⟩
 refine sj.mpr ⟨sj.mpr ⟨?_,g.2,fun x hx y hy=>?_⟩,?_,fun x hx y hy=>?_⟩
 ·rw[<-Ub];exact t9 (fun p q q1 q2 q3=>s1 p q q1 q2 (by lia)) (by lia)
 ·obtain⟨p,p1,p2,p3,p4⟩:=fZ hx;show ky x<=ky y;rw[<-p4];rcases hr y hy with⟨m,q1,q2,q3⟩ | ⟨m,q1,q2,q3⟩
  ·rw[<-q3];exact s1 p m (by lia) (by lia) q2
  ·rw[<-q3];have:=k2 p p1;have:=s2 n1 m (aV _) q1 (by lia)
   lia
 ·rw[<-lO];exact t9 (fun p q q1 q2 q3=>s2 p q (by lia) q2 (by lia)) (aV _)
 ·obtain⟨m,q1,q2,q3,q4⟩:=gQ hy;show ky x<=ky y;rw[<-q4];have f1:=l3 (m-n1) (by lia) (by lia)
  rw[show n1+(m-n1)=m by lia]at f1
  have f2:∀p,p<n1->K a p<=K a m:=fun p hp=>by
   have:=s1 p (n1-1) (by lia) (by lia) (by lia)
   lia
  rcases c9.mp hx with hx | hx
  ·obtain⟨p,p1,p2,p3,p4⟩:=fZ hx;rw[<-p4];exact f2 p (by lia)
  ·rcases hr x hx with⟨p,p1,p2,p3⟩ | ⟨p,p1,p2,p3⟩
   ·rw[<-p3];exact f2 p p2
   ·rw[<-p3];exact s2 p m p1 (by lia) (by lia)
theorem D7{Q:Bool->SortSt->Prop}{n1 n2 pw:Nat}(hk:kindOf st=oneType')(hf:failedOf st=none)(hi:IntKeys (arrOf st))(hp:pendingOf st=#[(0,n1,pw),(n1,n2,0)])(h1:0<n1)(h2:0<n2)(hz:n1+n2=(arrOf st).size)
  (s1:vk (arrOf st) 0 n1) (s2:vk (arrOf st) n1 (n1+n2))
  (h:∀bE,(arrOf bE).toList.Perm (arrOf st).toList->Up (arrOf bE)->failedOf bE=none->pendingOf bE=#[(0,n1+n2,pw)]->Q true bE):wpS (model prog w) A E s (mergeAt' 0) Q st:=by
 refine aC (fW ?_);have e0:(pendingOf st)[0]?=some (0,n1,pw):=by rw[hp];rfl
 have e1:(pendingOf st)[0+1]?=some (n1,n2,0):=by rw[hp];rfl
 rw[e0,e1];dsimp only
 have hpp:((pendingOf st).setIfInBounds 0 (0,n1+n2,pw)).eraseIdxIfInBounds (0+1)=#[(0,n1+n2,pw)]:=by
  rw[hp];simp[Array.eraseIdxIfInBounds]
 have all:∀{c:Int},K (arrOf st) n1=c->(∀i,i<n1->K (arrOf st) i<=c)->Up (arrOf st):=fun {c} ec hc=>Lp fun p q q1 q2 q3=>by
  by_cases hq:q<n1
  ·exact s1 p q q1 q2 hq
  ·by_cases hp:n1<=p
   ·exact s2 p q hp q2 (by lia)
   ·have f1:=hc p (by lia)
    have f2:=s2 n1 q (aV _) (by lia) (by lia)
    lia
 refine aC (OP ?_);obtain⟨c0,Uc,Xx⟩:=gD (arr:=arrOf st) (i:=n1) (by lia)
 refine aC (m:=elem' (arrOf st) n1) (de Uc ?_);refine aC (m:=kO false c0 (arrOf st) 0 n1 0) (i8 hk hi (gP hi Uc) (by lia) h1 (AX (by rw[fV];exact s1)) fun k k1 k2 k3=>?_)
 have k2':∀i,i<k->K (arrOf st) i<=ky c0:=fun i hi=>by
  have:=D4.1.mp (k2 i hi)
  rwa [fV]at this
 dsimp only
 by_cases hn:n1-k=0
 ·rw[if_pos (bN.mpr hn)];exact aK (h _ (List.Perm.refl _) (all Xx fun i hi=>k2' i (by lia)) hf hpp)
 rw[if_neg (fun z=>hn (bN.mp z))]
 obtain⟨d0,hd0,ed0⟩:=gD (arr:=arrOf st) (i:=0+k+(n1-k)-1) (by lia)
 refine aC (m:=elem' (arrOf st) (0+k+(n1-k)-1)) (de hd0 ?_);rw[show 0+k+(n1-k)-1=n1-1 by lia]at ed0
 refine aC (m:=kO true d0 (arrOf st) n1 n2 (n2-1)) (i8 hk hi (gP hi hd0) (by lia) (by lia) (AX s2) fun j j1 j2 j3=>?_)
 have j3':∀i,j<=i->i<n2->ky d0<=K (arrOf st) (n1+i):=fun i q1 q2=>HX.2.mp (j3 i q1 q2)
 have j2':∀i,i<j->K (arrOf st) (n1+i)<ky d0:=fun i q1=>HX.1.mp (j2 i q1)
 dsimp only
 by_cases hj:j=0
 ·rw[if_pos (bN.mpr hj)];have f0:=j3' 0 (by lia) h2
  refine aK (h _ (List.Perm.refl _) (all Xx fun i hi=>?_) hf hpp)
  have f1:=s1 i (n1-1) (by lia) (by lia) (by lia)
  rw[xX]at f0;rw[Xx]at f0;rw[ed0]at f1;exact jX f1 f0
 rw[if_neg (fun z=>hj (bN.mp z))]
 rw[fV];have k3k:=D4.2.mp (k3 k (aV _) (by lia))
 rw[fV]at k3k;have first:K ((arrOf st).extract n1 (n1+j)) 0<=K ((arrOf st).extract k n1) 0:=by
  rw[Lq (by lia) (by lia),Lq (by lia) (by lia),xX,xX,Xx]
  exact ny k3k
 have zx:((arrOf st).extract k n1).size=n1-k:=by rw[xC];lia
 have zy:((arrOf st).extract n1 (n1+j)).size=j:=by rw[xC];lia
 have iA:∀y∈((arrOf st).extract n1 (n1+j)).toList,ky y<=K ((arrOf st).extract k n1) (((arrOf st).extract k n1).size-1):=fun y hy=>by
  obtain⟨m,q1,q2,q3,q4⟩:=yq hy;rw[zx,Lq (by lia) (by lia),show k+(n1-k-1)=n1-1 by lia,ed0,<-q4]
  have:=j2' (m-n1) (by lia)
  rw[show n1+(m-n1)=m by lia]at this
  exact ny this
 have ux:up ((arrOf st).extract k n1).toList:=t9 (fun p q q1 q2 q3=>s1 p q (by lia) q2 q3) (by lia)
 have uy:up ((arrOf st).extract n1 (n1+j)).toList:=t9 (fun p q q1 q2 q3=>s2 p q q1 q2 (by lia)) (by lia)
 have fin:∀(r:Array Keyed) (bE:SortSt),arrOf bE=arrOf st->failedOf bE=none->pendingOf bE=#[(0,n1+n2,pw)]->j0 le ((arrOf st).extract k n1).toList ((arrOf st).extract n1 (n1+j)).toList r.toList ->
   Q (failedOf bE).isNone (SortSt.mk' (kindOf bE) (r.toList.zipIdx.foldl (fun a (x:Keyed×Nat)=>match x with | (p,i)=>a.setIfInBounds (k+i) p) (arrOf bE)) (pendingOf bE) (gallopOf bE) (failedOf bE)):=fun r bE a1 a2 a3 g=>by
  have hl:r.toList.length=n1-k+j:=by rw[g.1.length_eq,bU,dw,dw,zx,zy]
  obtain⟨w1,w2⟩:=Lr hz s1 s2 (by lia) j1 h2 Xx ed0 k2' j3' g
  have e:=Gp k r.toList 0 (arrOf bE) (by rw[a1,hl];lia)
  rw[a1,hl,show k+0+(n1-k+j)=n1+j by lia,xX]at e
  rw[<-e]at w1 w2;have a4:(failedOf bE).isNone=true:=by rw[a2];rfl
  rw[a4];refine h _ ?_ ?_ a2 a3
  ·show(List.foldl _ (arrOf bE) _).toList.Perm _;rw[a1];exact w1
  ·show up (List.foldl _ (arrOf bE) _).toList;rw[a1];exact w2
 by_cases hc:n1-k<=j
 ·rw[if_pos hc];refine aC (m:=AO ((arrOf st).extract k n1) ((arrOf st).extract n1 (n1+j))) (D5 hk (rM hi _ _) (rM hi _ _) ux uy (by rw[zx];lia) (by rw[zy];lia) first iA fun r bE sm g=>?_)
  refine aC (ij ?_);refine aC (fW ?_);exact aK (fin r bE sm.2.1 (sm.2.2.2.trans hf) (sm.2.2.1.trans hpp) g)
 ·rw[if_neg hc];refine aC (m:=AW ((arrOf st).extract k n1) ((arrOf st).extract n1 (n1+j))) (D6 hk (rM hi _ _) (rM hi _ _) ux uy (by rw[zx];lia) (by rw[zy];lia) first iA fun r bE sm g=>?_)
  refine aC (ij ?_);refine aC (fW ?_);exact aK (fin r bE sm.2.1 (sm.2.2.2.trans hf) (sm.2.2.1.trans hpp) g)
end
structure RB (a:Array Keyed) (lo:Nat) (pd:Array (Nat×Nat×Nat)) (st:SortSt):Prop where
 perm:(arrOf st).Perm a
 kind:kindOf st=oneType'
 failed:failedOf st=none
 pend:pendingOf st=pd
 low:∀i,i<lo->K (arrOf st) i=K a i
section
variable {prog:bG} {w:aW} {A:bR} {E:cR} {s:av} {st:SortSt} {a:Array Keyed} {lo:Nat} {pd:Array (Nat×Nat×Nat)}
theorem RB.size(h:RB a lo pd st):(arrOf st).size=a.size:=h.perm.size_eq
theorem RB.ints(h:RB a lo pd st)(h0:IntKeys a):IntKeys (arrOf st):=fun p hp=>h0 p ((sg.mp h.perm).mem_iff.mp hp)
theorem RB.set(h:RB a lo pd st){xs:Array Keyed}(hp:xs.Perm (arrOf st))(hl:∀i,i<lo->K xs i=K (arrOf st) i):RB a lo pd (setArr st xs):=⟨hp.trans h.perm,h.kind,h.failed,h.pend,fun i hi=>(hl i hi).trans (h.low i hi)⟩
theorem RB.lt(h:RB a lo pd st)(h0:IntKeys a){i j:Nat}{Q:Option Bool->SortSt->Prop}(hi:i<a.size)(hj:j<a.size) (hq:Q (some (decide (K (arrOf st) i<K (arrOf st) j))) st):wpS (model prog w) A E s (ltAt' i j) Q st:=by
 obtain⟨x,hx,ex⟩:=gD (arr:=arrOf st) (i:=i) (by rw[h.size];exact hi)
 obtain⟨y,hy,ey⟩:=gD (arr:=arrOf st) (i:=j) (by rw[h.size];exact hj)
 rw[ltAt'_eq];refine aC (fW ?_);refine aC (de hx ?_);refine aC (de hy ?_);rw[ex,ey]at hq;exact AN h.kind (gP (h.ints h0) hx) (gP (h.ints h0) hy) hq
theorem qN{p8:Nat}{Q:Option Nat->SortSt->Prop}(h0:IntKeys a)(hB:RB a lo pd st)(hz:lo+p8<=a.size)(h1:1<=p8)(hd:∀p q,lo<=p->p<q->q<lo+p8->K (arrOf st) p≠K (arrOf st) q)
  (h:∀m bE,RB a lo pd bE->1<=m->m<=p8->vk (arrOf bE) lo (lo+m)->Q (some m) bE):wpS (model prog w) A E s (countRun' lo p8) Q st:=by
 refine aC (fj (e9
  (I:=fun x c bE=>bE=st/\c=(none,x)/\vk (arrOf st) lo (lo+x))
  (Q:=fun c bE=>bE=st/\∃n,c=(none,n)/\1<=n/\n<=p8/\vk (arrOf st) lo (lo+n)/\(n<p8->K (arrOf st) (lo+n)<K (arrOf st) (lo+n-1))) ?step ?fin ⟨rfl,rfl,fun p q q1 q2 q3=>by rw[show p=q by lia];exact nC _⟩) ?post)
 case fin =>
  rintro c bE ⟨rfl,rfl,z⟩
  rw[Dy h1]at z ⊢;exact⟨rfl,p8,rfl,h1,aV _,z,fun q=>absurd q (jh _)⟩
 case step =>
  rintro x c bE hx1 hx ⟨rfl,rfl,z⟩
  refine aC (hB.lt h0 (by lia) (by lia) ?_)
  (try dsimp only)
  by_cases hw:K (arrOf bE) (lo+x)<K (arrOf bE) (lo+x-1)
  ·rw[if_pos (dm hw)];exact aK ⟨rfl,x,rfl,hx1,by lia,z,fun _=>hw⟩
  ·rw[if_neg (fun q=>hw (jR q))]
   refine aK ⟨rfl,rfl,fun p q q1 q2 q3=>?_⟩
   by_cases e:q<lo+x
   ·exact z p q q1 q2 e
   ·have eq:q=lo+x:=by lia
    subst eq;by_cases e2:p=lo+x
    ·rw[e2];exact nC _
    ·have:=z p (lo+x-1) q1 (by lia) (by lia)
     lia
 case post =>
  rintro c bE ⟨rfl,n,rfl,n1,n2,z,zn⟩
  (try dsimp only)
  by_cases e:n=p8
  ·rw[if_pos (bN.mpr e)];exact aK (h n bE hB n1 n2 z)
  rw[if_neg (fun q=>e (bN.mp q))]
  by_cases en:n>1
  ·rw[if_pos en];refine aC (hB.lt h0 (by lia) (by lia) ?_)
   (try dsimp only)
   have hw:K (arrOf bE) lo<K (arrOf bE) (lo+n-1):=by
    have f1:=z lo (lo+n-1) (aV _) (by lia) (by lia)
    have f2:=hd lo (lo+n-1) (aV _) (by lia) (by lia)
    lia
   rw[if_pos (dm hw)];exact aK (h n bE hB n1 n2 z)
  rw[if_neg en];have en1:n=1:=by lia
  subst en1;have zn:=zn (by lia)
  refine aC (lJ (iQ ⟨rfl,?_⟩));have ini:∀p q,lo<=p->p<=q->q<lo+(1+1)->K (arrOf bE) q<=K (arrOf bE) p:=fun p q q1 q2 q3=>by
   by_cases e2:p=q
   ·rw[e2];exact nC _
   ·rw[show p=lo+1-1 by lia,show q=lo+1 by lia]
    exact ny zn
  refine aC (fj (e9
   (I:=fun x c st2=>st2=bE/\c=(none,x,0)/\∀p q,lo<=p->p<=q->q<lo+x->K (arrOf bE) q<=K (arrOf bE) p)
   (Q:=fun c st2=>st2=bE/\∃n,c=(none,n,0)/\2<=n/\n<=p8/\∀p q,lo<=p->p<=q->q<lo+n->K (arrOf bE) q<=K (arrOf bE) p) ?AU ?Lo ⟨rfl,rfl,ini⟩) ?AV)
  case Lo =>
   rintro c st2 ⟨rfl,rfl,z⟩
   rw[Dy (by lia)]at z ⊢
   exact⟨rfl,p8,rfl,by lia,aV _,z⟩
  case AU =>
   rintro x c st2 hx1 hx ⟨rfl,rfl,z⟩
   refine aC (m:=ltAt' (lo+x) (lo+x-1)) (hB.lt h0 (by lia) (by lia) ?_)
   (try dsimp only)
   by_cases hw:K (arrOf st2) (lo+x)<K (arrOf st2) (lo+x-1)
   ·rw[if_pos (dm hw),if_neg (by lia)]
    refine aK ⟨rfl,rfl,fun p q q1 q2 q3=>?_⟩
    by_cases e:q<lo+x
    ·exact z p q q1 q2 e
    ·have eq:q=lo+x:=by lia
     subst eq;by_cases e2:p=lo+x
     ·rw[e2];exact nC _
     ·have:=z p (lo+x-1) q1 (by lia) (by lia)
      lia
   ·rw[if_neg (fun q=>hw (jR q))]
    refine aC (hB.lt h0 (by lia) (by lia) ?_)
    (try dsimp only)
    have hl:K (arrOf st2) (lo+x-1)<K (arrOf st2) (lo+x):=by
     have:=hd (lo+x-1) (lo+x) (by lia) (by lia) (by lia)
     lia
    rw[if_pos (dm hl)];exact aK ⟨rfl,x,rfl,by lia,by lia,z⟩
  case AV =>
   rintro c st2 ⟨rfl,n,rfl,m1,m2,zd⟩
   (try dsimp only)
   rw[if_neg (by lia)]
   refine aC (m:=reverseSlice' lo (lo+n)) (wpS_reverse ?_);have hj:lo+n<=(arrOf st2).size:=by rw[hB.size];lia
   have rN:=hB.set (mirror_perm (arrOf st2) lo (lo+n) ((lo+n-lo)/2)) fun i hi=>by rw[K_mirror hj,if_neg (by lia)]
   have s2:vk (arrOf (setArr st2 (mirror (arrOf st2) lo (lo+n) ((lo+n-lo)/2)))) lo (lo+n):=fun p q q1 q2 q3=>by
    show K (mirror _ _ _ _) p<=K (mirror _ _ _ _) q;rw[K_mirror hj,K_mirror hj,if_pos (by lia),if_pos (by lia)]
    exact zd _ _ (by lia) (by lia) (by lia)
   revert rN s2
   generalize setArr st2 (mirror (arrOf st2) lo (lo+n) ((lo+n-lo)/2))=Gb
   intro rN s2;refine aC (fj (e9
    (I:=fun x c bE=>bE=Gb/\c=(none,x)/\vk (arrOf Gb) lo (lo+x))
    (Q:=fun c bE=>bE=Gb/\∃n,c=(none,n)/\1<=n/\n<=p8/\vk (arrOf Gb) lo (lo+n)) ?Xy ?acJ ⟨rfl,rfl,s2⟩) ?Xz)
   case acJ =>
    rintro c bE ⟨rfl,rfl,z⟩
    rw[Dy m2]at z ⊢;exact⟨rfl,p8,rfl,h1,aV _,z⟩
   case Xz =>
    rintro c bE ⟨rfl,n,rfl,n1,n2,z⟩
    exact aK (h n bE rN n1 n2 z)
   case Xy =>
    rintro x c bE hx1 hx ⟨rfl,rfl,z⟩
    refine aC (rN.lt h0 (by lia) (by lia) ?_)
    (try dsimp only)
    by_cases hw:K (arrOf bE) (lo+x)<K (arrOf bE) (lo+x-1)
    ·rw[if_pos (dm hw)];exact aK ⟨rfl,x,rfl,by lia,by lia,z⟩
    ·rw[if_neg (fun q=>hw (jR q))]
     refine aK ⟨rfl,rfl,fun p q q1 q2 q3=>?_⟩
     by_cases e:q<lo+x
     ·exact z p q q1 q2 e
     ·have eq:q=lo+x:=by lia
      subst eq;by_cases e2:p=lo+x
      ·rw[e2];exact nC _
      ·have:=z p (lo+x-1) q1 (by lia) (by lia)
       lia
theorem mV{n ok:Nat}{Q:Bool->SortSt->Prop}(h0:IntKeys a)(hB:RB a lo pd st)(hz:lo+n<=a.size)(h1:1<=ok)(hn:ok<=n)(hs:vk (arrOf st) lo (lo+ok))
  (h:∀bE,RB a lo pd bE->vk (arrOf bE) lo (lo+n)->Q true bE):wpS (model prog w) A E s (binarySort' lo n ok) Q st:=by
 refine aC (fj (e9
  (I:=fun k c bE=>c=(none,())/\RB a lo pd bE/\vk (arrOf bE) lo (lo+k))
  (Q:=fun c bE=>c=(none,())/\RB a lo pd bE/\vk (arrOf bE) lo (lo+n)) ?step ?fin ⟨rfl,hB,by rw[Nat.max_eq_left h1];exact hs⟩) ?post)
 case fin =>
  rintro c bE ⟨rfl,hB,z⟩
  rw[show max (max ok 1) n=n by lia]at z
  exact⟨rfl,hB,z⟩
 case post =>
  rintro c bE ⟨rfl,hB,z⟩
  exact aK (h bE hB z)
 case step =>
  rintro k c bE hk1 hk ⟨rfl,hB,z⟩
  (try dsimp only)
  refine aC (fj (e9
   (I:=fun x c st2=>st2=bE/\∃l r,c=(none,l,r)/\l<=r/\r<=k/\r-l<=k-x/\(∀i,i<l->K (arrOf bE) (lo+i)<=K (arrOf bE) (lo+k))/\(∀i,r<=i->i<k->K (arrOf bE) (lo+k)<=K (arrOf bE) (lo+i)))
   (Q:=fun c st2=>st2=bE/\∃l,c=(none,l,l)/\l<=k/\(∀i,i<l->K (arrOf bE) (lo+i)<=K (arrOf bE) (lo+k))/\(∀i,l<=i->i<k->K (arrOf bE) (lo+k)<=K (arrOf bE) (lo+i))) ?AR ?Ln ⟨rfl,0,k,rfl,by lia,by lia,by lia,(fun i q=>by lia),fun i q1 q2=>by lia⟩) ?AS)
  case Ln =>
   rintro c st2 ⟨rfl,l,r,rfl,r1,r2,r3,r4,r5⟩
   have:l=r:=by lia
   subst this;exact⟨rfl,l,rfl,r2,r4,r5⟩
  case AR =>
   rintro x c st2 _ hx ⟨rfl,l,r,rfl,r1,r2,r3,r4,r5⟩
   (try dsimp only)
   by_cases hl:l>=r
   ·rw[if_pos hl];have:l=r:=by lia
    subst this;exact aK ⟨rfl,l,rfl,r2,r4,r5⟩
   rw[if_neg hl];refine aC (hB.lt h0 (by lia) (by lia) ?_)
   (try dsimp only)
   by_cases hw:K (arrOf st2) (lo+k)<K (arrOf st2) (lo+(l+r)/2)
   ·rw[if_pos (dm hw)];refine aK ⟨rfl,_,_,rfl,by lia,by lia,by lia,r4,fun i q1 q2=>?_⟩
    have:=z (lo+(l+r)/2) (lo+i) (by lia) (by lia) (by lia)
    lia
   ·rw[if_neg (fun q=>hw (jR q))]
    refine aK ⟨rfl,_,_,rfl,by lia,by lia,by lia,fun i q1=>?_,r5⟩
    have:=z (lo+i) (lo+(l+r)/2) (by lia) (by lia) (by lia)
    lia
  case AS =>
   rintro c st2 ⟨rfl,l,rfl,l1,l2,l3⟩
   (try dsimp only)
   have hsz:lo+k<(arrOf st2).size:=by rw[hB.size];lia
   refine aC (m:=moveDown' (lo+k) (lo+l)) (ij ?_);refine aK ⟨rfl,hB.set (bubble_perm _ _ _) (fun i hi=>by
    show K (bubble (arrOf st2) (lo+k) (lo+k-(lo+l))) i=_;rw[K_bubble hsz (by lia),if_neg (by lia),if_neg (by lia)]),fun p q q1 q2 q3=>?_⟩
   show K (bubble (arrOf st2) (lo+k) (lo+k-(lo+l))) p<=K (bubble (arrOf st2) (lo+k) (lo+k-(lo+l))) q;rw[K_bubble hsz (by lia),K_bubble hsz (by lia)]
   have zz:∀i j,i<=j->j<k->K (arrOf st2) (lo+i)<=K (arrOf st2) (lo+j):=fun i j e1 e2=>z _ _ (by lia) (by lia) (by lia)
   obtain⟨i,rfl⟩:∃i,p=lo+i:=⟨p-lo,by lia⟩
   obtain⟨j,rfl⟩:∃j,q=lo+j:=⟨q-lo,by lia⟩
   by_cases c1:i<l
   ·rw[if_neg (by lia),if_neg (by lia)]
    by_cases c2:j<l
    ·rw[if_neg (by lia),if_neg (by lia)];exact zz i j (by lia) (by lia)
    ·by_cases c3:j=l
     ·rw[if_pos (by lia)];exact l2 i c1
     ·rw[if_neg (by lia),if_pos (by lia),show lo+j-1=lo+(j-1) by lia];exact zz i (j-1) (by lia) (by lia)
   ·by_cases c2:i=l
    ·rw[if_pos (by lia)]
     by_cases c3:j=l
     ·rw[if_pos (by lia)];exact nC _
     ·rw[if_neg (by lia),if_pos (by lia),show lo+j-1=lo+(j-1) by lia];exact l3 (j-1) (by lia) (by lia)
    ·rw[if_neg (by lia),if_pos (by lia),if_neg (by lia),if_pos (by lia),show lo+i-1=lo+(i-1) by lia,show lo+j-1=lo+(j-1) by lia]
     exact zz (i-1) (j-1) (by lia) (by lia)
end
section
variable {prog:bG} {w:aW} {A:bR} {E:cR} {s:av} {st:SortSt} {a:Array Keyed}
def RP(a:Array Keyed):Prop:=(a.toList.map ky).Nodup
theorem RP.ne{a:Array Keyed}(h:RP a){p q:Nat}(h1:p<q)(h2:q<a.size):K a p≠K a q:=by
 obtain⟨x,hx,ex⟩:=gD (arr:=a) (i:=p) (by lia)
 obtain⟨y,hy,ey⟩:=gD (arr:=a) (i:=q) h2;intro e;rw[ex,ey]at e;have g:∀{i:Nat} {x:Keyed},a[i]?=some x->(a.toList.map ky)[i]?=some (ky x):=fun {i x} h=>by rw[cu,ig,h];rfl
 have:=(List.getElem?_inj (by rw[aE,dw];lia) h).mp ((g hx).trans ((di some e).trans (g hy).symm))
 lia
theorem RP.perm{a b:Array Keyed}(h:RP a)(p:b.Perm a):RP b:=((sg.mp p).map ky).nodup_iff.mpr h
theorem HY{n:Nat}(h1:64<=n)(h2:n<128):minRun' n n 0=n/2+n%2:=by
 obtain⟨f,hf⟩:∃f,n=f+2:=⟨n-2,by lia⟩
 have e:∀m,minRun' (f+2) m 0=if m<64 then m+0 else(if m/2<64 then m/2+max 0 (m%2)else minRun' f (m/2/2) (max (max 0 (m%2)) (m/2%2))):=fun m=>rfl
 have:=e n;rw[if_neg (by lia),if_pos (by lia)]at this
 rw[<-hf]at this;rw[this]
 lia
def Two(a:Array Keyed)(st:SortSt):Prop:=∃n1 pw,0<n1/\n1<a.size/\RB a 0 #[(0,n1,pw),(n1,a.size-n1,0)] st/\vk (arrOf st) 0 n1/\vk (arrOf st) n1 a.size
def One(a:Array Keyed)(st:SortSt):Prop:=(arrOf st).toList.Perm a.toList/\failedOf st=none/\Up (arrOf st)/\(pendingOf st).size=1
theorem AY{Q:Unit->SortSt->Prop}(h0:IntKeys a)(hB:RB a 0 #[] st)(z1:64<=a.size)(z2:a.size<128)(hd:RP a)(h:∀bE,One a bE->Q () bE):wpS (model prog w) A E s sortRuns' Q st:=by
 refine aC (fW ?_)
 (try dsimp only)
 have hsz:(arrOf st).size=a.size:=hB.size;have hmr:=HY z1 z2;rw[hsz];rw[show(sortPriv% PySem.Builtin.minRun) a.size a.size 0=a.size/2+a.size%2 from hmr]
 generalize hr:a.size/2+a.size%2=mr
 refine aC (fj (e9
  (I:=fun x c bE=>(x=0/\c=(none,0)/\RB a 0 #[] bE)\/(x=1/\∃n1,c=(none,n1)/\0<n1/\n1<=a.size/\mr<=n1/\RB a 0 #[(0,n1,0)] bE/\vk (arrOf bE) 0 n1)\/(2<=x/\c=(none,a.size)/\Two a bE))
  (Q:=fun c bE=>c.1=none/\(One a bE\/Two a bE)) ?step ?fin (.inl ⟨rfl,rfl,hB⟩)) ?post)
 case fin =>
  rintro c bE (⟨q,_⟩ | ⟨q,_⟩ | ⟨_,rfl,t⟩)
  ·lia
  ·lia
  ·exact⟨rfl,.inr t⟩
 case post =>
  rintro c bE ⟨e,hc⟩
  (try dsimp only)
  rw[e]
  (try dsimp only)
  refine aC (fj (e9
   (I:=fun x c bE=>c=(none,())/\(One a bE\/x=0/\Two a bE))
   (Q:=fun c bE=>c=(none,())/\One a bE) ?XA ?acL ⟨rfl,hc.imp id fun t=>⟨rfl,t⟩⟩) ?XB)
  case acL =>
   rintro c bE ⟨rfl,o | ⟨q,_⟩⟩
   ·exact⟨rfl,o⟩
   ·lia
  case XB =>
   rintro c bE ⟨rfl,o⟩
   exact aK (h bE o)
  case XA =>
   rintro x c bE _ _ ⟨rfl,o | ⟨q,n1,pw,t1,t2,t3,t4,t5⟩⟩
   ·refine aC (fW ?_)
    (try dsimp only)
    rw[if_pos (by rw[o.2.2.2];exact aV _)]
    exact aK ⟨rfl,o⟩
   ·refine aC (fW ?_)
    (try dsimp only)
    have e2:(pendingOf bE).size=2:=by rw[t3.pend];rfl
    rw[e2,if_neg (by lia)]
    refine aC (m:=mergeAt' 0) (D7 (n2:=a.size-n1) t3.kind t3.failed (t3.ints h0) t3.pend t1 (by lia) (by rw[t3.size];lia) t4 (by rw[show n1+(a.size-n1)=a.size by lia];exact t5) fun st2 p1 p2 p3 p4=>?_)
    exact aK ⟨rfl,.inl ⟨p1.trans (sg.mp t3.perm),p3,p2,by rw[p4];rfl⟩⟩
 case step =>
  rintro x c bE _ hx (⟨rfl,rfl,hB⟩ | ⟨rfl,n1,rfl,n0,n2,n3,hB,sr⟩ | ⟨hx2,rfl,t⟩)
  ·(try dsimp only)
   rw[if_neg (by lia)]
   refine aC (m:=countRun' 0 (a.size-0)) (qN h0 hB (by lia) (by lia) (fun p q _ q2 q3=>(hd.perm hB.perm).ne q2 (by rw[hB.size];lia)) fun m st2 rN m1 m2 sm=>?_)
   (try dsimp only)
   by_cases hm:m<mr
   ·rw[if_pos hm];refine aC (lJ (iQ ⟨rfl,?_⟩));refine aC (m:=binarySort' 0 (min (a.size-0) mr) m) (mV h0 rN (by lia) m1 (by lia) sm fun Gb D8 sm3=>?_)
    rw[if_neg (by simp)]
    refine aC (fW ?_);rw[show(pendingOf Gb).back?=none by rw[D8.pend];rfl]
    (try dsimp only)
    refine aC (ij ?_);refine aK (.inr (.inl ⟨rfl,_,rfl,by lia,by lia,by lia,⟨D8.perm,D8.kind,D8.failed,?_,D8.low⟩,?_⟩))
    ·show(pendingOf Gb).push _=_;rw[D8.pend];show #[(0,min (a.size-0) mr,0)]=_;rw[fV]
    ·exact sm3
   ·rw[if_neg hm];refine aC (fW ?_);rw[show(pendingOf st2).back?=none by rw[rN.pend];rfl]
    (try dsimp only)
    refine aC (ij ?_);refine aK (.inr (.inl ⟨rfl,_,rfl,by lia,by lia,by lia,⟨rN.perm,rN.kind,rN.failed,?_,rN.low⟩,?_⟩))
    ·show(pendingOf st2).push _=_;rw[rN.pend];show #[(0,m,0)]=_;rw[fV]
    ·exact sm
  ·(try dsimp only)
   by_cases hn:n1>=a.size
   ·rw[if_pos hn];have e:n1=a.size:=by lia
    refine aK ⟨rfl,.inl ⟨sg.mp hB.perm,hB.failed,Lp ?_,by rw[hB.pend];rfl⟩⟩
    rw[hB.size,<-e];exact sr
   rw[if_neg hn];have hBn:RB (arrOf bE) n1 #[(0,n1,0)] bE:=⟨Array.Perm.refl _,hB.kind,hB.failed,hB.pend,fun _ _=>rfl⟩
   have hI:IntKeys (arrOf bE):=hB.ints h0;have hS:=hB.size;refine aC (m:=countRun' n1 (a.size-n1)) (qN hI hBn (by lia) (by lia) (fun p q _ q2 q3=>(hd.perm hB.perm).ne q2 (by lia)) fun m st2 rN m1 m2 sm=>?_)
   (try dsimp only)
   have em:min (a.size-n1) mr=a.size-n1:=by lia
   by_cases hm:m<mr
   ·rw[if_pos hm];refine aC (lJ (iQ ⟨rfl,?_⟩));refine aC (m:=binarySort' n1 (min (a.size-n1) mr) m) (mV hI rN (by lia) m1 (by lia) sm fun Gb D8 sm3=>?_)
    rw[if_neg (by simp)]
    have eN:n1+min (a.size-n1) mr=a.size:=by lia
    refine aC (fW ?_);rw[show(pendingOf Gb).back?=some (0,n1,0) by rw[D8.pend];rfl]
    (try dsimp only)
    refine aC (fj (e9 (I:=fun _ c qO=>qO=Gb/\c=(none,())) (Q:=fun c qO=>qO=Gb/\c=(none,())) ?_ (fun _ _ hh=>hh) ⟨rfl,rfl⟩) ?_)
    ·rintro y c qO _ _ ⟨rfl,rfl⟩
     refine aC (fW ?_)
     (try dsimp only)
     rw[show(pendingOf qO).size=1 by rw[D8.pend];rfl,if_neg (by lia)]
     exact aK ⟨rfl,rfl⟩
    ·rintro c qO ⟨rfl,rfl⟩
     (try dsimp only)
     refine aC (ij ?_);refine aC (ij ?_);refine aK (.inr (.inr ⟨by lia,by rw[eN],n1,power' a.size (2*0+n1) (2*0+n1+n1+min (a.size-n1) mr) a.size,n0,by lia,⟨D8.perm.trans hB.perm,D8.kind,D8.failed,?_,fun _ z=>absurd z (DE _)⟩,fun p q q1 q2 q3=>?_,?_⟩))
     ·show((pendingOf qO).modify ((pendingOf qO).size-1) _).push _=_;rw[D8.pend,em];rfl
     ·show K (arrOf qO) p<=K (arrOf qO) q;rw[D8.low p (by lia),D8.low q (by lia)]
      exact sr p q q1 q2 q3
     ·show vk (arrOf qO) n1 a.size;have:=sm3
      rwa [eN]at this
   ·rw[if_neg hm];have eM:m=a.size-n1:=by lia
    have eN:n1+m=a.size:=by lia
    refine aC (fW ?_);rw[show(pendingOf st2).back?=some (0,n1,0) by rw[rN.pend];rfl]
    (try dsimp only)
    refine aC (fj (e9 (I:=fun _ c qO=>qO=st2/\c=(none,())) (Q:=fun c qO=>qO=st2/\c=(none,())) ?_ (fun _ _ hh=>hh) ⟨rfl,rfl⟩) ?_)
    ·rintro y c qO _ _ ⟨rfl,rfl⟩
     refine aC (fW ?_)
     (try dsimp only)
     rw[show(pendingOf qO).size=1 by rw[rN.pend];rfl,if_neg (by lia)]
     exact aK ⟨rfl,rfl⟩
    ·rintro c qO ⟨rfl,rfl⟩
     (try dsimp only)
     refine aC (ij ?_);refine aC (ij ?_);refine aK (.inr (.inr ⟨by lia,by rw[eN],n1,power' a.size (2*0+n1) (2*0+n1+n1+m) a.size,n0,by lia,⟨rN.perm.trans hB.perm,rN.kind,rN.failed,?_,fun _ z=>absurd z (DE _)⟩,fun p q q1 q2 q3=>?_,?_⟩))
     ·show((pendingOf qO).modify ((pendingOf qO).size-1) _).push _=_;rw[rN.pend,eM];rfl
     ·show K (arrOf qO) p<=K (arrOf qO) q;rw[rN.low p (by lia),rN.low q (by lia)]
      exact sr p q q1 q2 q3
     ·show vk (arrOf qO) n1 a.size;have:=sm
      rwa [eN]at this
  ·(try dsimp only)
   rw[if_pos (aV _)];exact aK ⟨rfl,.inr t⟩
end
section
variable {prog:bG} {w:aW} {A:bR} {E:cR} {s:av}
theorem Ud{vs:cj}{ns:List Int}(hI:IntsAre vs ns)(hn:ns.Nodup):RP (pairsOf vs):=by
 unfold RP;rw[pairsOf_toList];have:(vs.zip vs).map ky=((vs.zip vs).map Prod.fst).map numOf:=by rw[eK];rfl
 rw[this,List.map_fst_zip (aV _),hI.nums];exact hn
theorem Ls{a:af}{vs:cj}{ns:List Int}{n:Nat}{P:PySem.Fin->av->Prop}(ho:s.heap.get? a=some (seqObj "list" vs.toArray n))(hI:IntsAre vs ns)(hn:ns.Nodup)(z1:64<=vs.length)(z2:vs.length<128)
  (h:∀(out:Array ai) (rm:List Int),IntsAre out.toList rm->rm.Perm ns->rm.Pairwise (· <= ·)->P (.done (.ret .none)) {s with heap:=sortedHeap s.heap a vs out}) :
  wpAny (model prog w) A (Builtin.«list.sort» ⟨[.ref a],[]⟩) P E s:=by
 rw[list_sort_plain];have ha:a<s.heap.objs.size:=bX ho;refine au (listItems_at ho rfl ?_);refine au (listUpdate_at ho rfl ?_);obtain⟨e1,XC⟩:∃e1,(s.heap.update a (Obj.mapSeq fun _=>#[])).get? a=some (seqObj "list" #[] e1):=⟨_,get?_update_seq ho (fun _=>#[])⟩
 refine au (seqEpoch_at XC rfl ?_);refine au (wpAny_newTuple ?_);refine au (wpAny_newList ?_);refine jW ?_;have ho6:(((s.heap.update a (Obj.mapSeq fun _=>#[])).push (seqObj "tuple" vs.toArray 0)).push (seqObj "list" #[] 0)).get? a=some (seqObj "list" #[] e1):=by
  rw[Heap.get?_push_ne _ _ _ (by rw[size_push',Dv];exact cX (xH ha)),Heap.get?_push_ne _ _ _ (by rw[Dv];exact cX ha)]
  exact XC
 show wpAny (model prog w) A _ P E {s with heap:=((s.heap.update a (Obj.mapSeq fun _=>#[])).push (seqObj "tuple" vs.toArray 0)).push (seqObj "list" #[] 0)}
 dsimp only
 have hsz:vs.toArray.size=vs.length:=by simp
 rw[if_neg (by lia),if_neg (by lia)]
 obtain⟨D9,Ea,rest,rfl⟩:∃D9 Ea rest,vs=D9::Ea::rest:=by
  cases vs with
  | nil=>simp at z1
  | cons v r=>cases r with
   | nil=>simp at z1
   | cons u r=>exact⟨v,u,r,rfl⟩
 rw[keyKind_ints hI];refine au (aJ ?_);refine au (lI (AY (a:=pairsOf (D9::Ea::rest)) (st:=SortSt.mk' oneType' ((D9::Ea::rest).toArray.zip (D9::Ea::rest).toArray) #[] 7 none)
  (Q:=fun _ bE=>One (pairsOf (D9::Ea::rest)) bE) hI.intKeys ⟨Array.Perm.refl _,rfl,rfl,rfl,fun _ _=>rfl⟩ (by rw[pairsOf_size];exact z1) (by rw[pairsOf_size];exact z2) (Ud hI hn) fun bE o=>o) ?_ fun _ _ e=>e)
 rintro⟨⟨⟩,bE⟩ s' ⟨rfl,hp,hf,hu,_⟩
 have AZ:(arrOf bE).Perm (pairsOf (D9::Ea::rest)):=sg.mpr hp;dsimp only
 refine au (seqEpoch_at ho6 rfl ?_);refine au (listUpdate_at ho6 rfl ?_ (hsz2:=by refine cz (nv ((Array.size_map ..).trans (AZ.size_eq.trans (pairsOf_size _)))) ?_;rw[sizeLine_eq];lia))
 rw[hf];simp only[bne_self_eq_false,sy,kH];obtain⟨rm,q1,q2,q3⟩:=sorted_out hI AZ fun i j h1 h2=>rl hu h1 (by rw[AZ.size_eq];exact h2)
 exact aJ (h _ rm q1 q2 q3)
theorem Eb{l:af}{vs:cj}{ns:List Int}{Q:cR}(hl:s.heap.IsList l vs.toArray)(hI:IntsAre vs ns)(hn:ns.Nodup)(hz:vs.length<128)
  (h:∀(out:Array ai) (rm:List Int),IntsAre out.toList rm->rm.Perm ns->rm.Pairwise (· <= ·)->Q (.ref (s.heap.objs.size+1)) {s with heap:=sortedAll s.heap vs out}) :
  wpAny (model prog w) A (call (.builtin "sorted") [.ref l]) Q E s:=by
 by_cases h64:vs.length<64
 ·exact sorted_ints hl hI h64 h
 refine Calls.call_function_entry kind_sorted plain_sorted entry_sorted (args_sorted1 _) ?_;unfold Builtin.«sorted»;refine au (m:=checkCount "sorted" 1 1 _) (aJ ?_);refine au (collect_list hl ?_);refine au (wpAny_newList ?_);have hsz:((s.heap.push (seqObj "list" #[] 0)).update s.heap.objs.size (Obj.mapSeq (· ++ vs.toArray))).objs.size=s.heap.objs.size+1:=by
  rw[Dv,size_push']
 have RG:(((s.heap.push (seqObj "list" #[] 0)).update s.heap.objs.size (Obj.mapSeq (· ++ vs.toArray))).push (seqObj "list" vs.toArray 0)).get? (s.heap.objs.size+1)=some (seqObj "list" vs.toArray 0):=by
  rw[<-hsz];exact d3 _ rfl
 show wpAny _ _ _ _ _ {s with heap:=((s.heap.push (seqObj "list" #[] 0)).update s.heap.objs.size (Obj.mapSeq (· ++ vs.toArray))).push (seqObj "list" vs.toArray 0)}
 rw[hsz];refine au (jW (jf slot_list_sort ⟨_,RG,rfl⟩ entry_list_sort (Ls RG hI hn (by lia) hz fun out rm a1 a2 a3=>⟨_,rfl,?_⟩) (args_list_sort _)))
 exact aJ ⟨_,rfl,h out rm a1 a2 a3⟩
theorem Ec{l:af}{vs:cj}{ns:List Int}{Q:cR}(hl:s.heap.IsList l vs.toArray)(hI:IntsAre vs ns)(hz:vs.length<64\/vs.length<128/\ns.Nodup)
  (h:∀(out:Array ai) (rm:List Int),IntsAre out.toList rm->rm.Perm ns->rm.Pairwise (· <= ·)->Q (.ref (s.heap.objs.size+1)) {s with heap:=sortedAll s.heap vs out}) :
  wpAny (model prog w) A (call (.builtin "sorted") [.ref l]) Q E s:=by
 rcases hz with hz | ⟨hz,hn⟩
 ·exact sorted_ints hl hI hz h
 ·exact Eb hl hI hn hz h
end
end N6
namespace L2
open PySem PySem.Spec PyProof.Rows
section
variable {κ:Type} [DecidableEq κ]
def mE(kvs:List (κ×V))(k:κ):Option V:=(kvs.find? fun kv=>decide (kv.1=k)).map (·.2)
def OQ(kvs:List (κ×V))(k:κ)(v:V):List (κ×V) :=
 if(kvs.any fun kv=>decide (kv.1=k))=true then kvs.map (fun kv=>if kv.1=k then(kv.1,v)else kv)else kvs++[(k,v)]
theorem ud{p:κ×V}{r:List (κ×V)}{k:κ}(e:p.1=k):mE (p::r) k=some p.2:=by simp[mE,pV,e]
theorem ue{p:κ×V}{r:List (κ×V)}{k:κ}(e:¬p.1=k):mE (p::r) k=mE r k:=by simp[mE,pV,e]
theorem A0(k:κ):∀kvs:List (κ×V),(kvs.any fun kv=>decide (kv.1=k))=(mE kvs k).isSome
 | []=>rfl
 | p::r=>by
  rw[nu];by_cases e:p.1=k
  ·simp only[ud e,dm e,Bool.true_or,Option.isSome_some]
  ·rw[ue e,eZ e,Bool.false_or];exact A0 k r
theorem Lu{kvs:List (κ×V)}{k:κ}(v:V)(h:mE kvs k=none):OQ kvs k v=kvs++[(k,v)]:=by
 unfold OQ;rw[A0,h];exact if_neg (by decide)
theorem HL.getD{o:Option V}{u:nE}{d:V}{d':ai}(r:HL o u)(rd:RelV d d'):RelV (o.getD d) (u.getD d'):=by
 cases o with
 | none=>cases u with
  | none=>exact rd
  | some _=>exact(show False from r).elim
 | some _=>cases u with
  | none=>exact(show False from r).elim
  | some _=>exact r
theorem KV.val{kvs:List (κ×V)}{vs:List (κ×ai)}(r:KV kvs vs)(k:κ):HL (mE kvs k) (valueAt vs k):=by
 unfold KV at r;induction r with
 | nil=>exact True.intro
 | @cons p q ps qs h t ih =>
  obtain⟨h1,h2⟩:=h;by_cases e:p.1=k
  ·have e':q.1=k:=h1.symm.trans e;have b:valueAt (q::qs) k=some q.2:=by simp[valueAt,pV,e']
   rw[ud e,b];exact h2
  ·have e':¬q.1=k:=fun z=>e (h1.trans z)
   have b:valueAt (q::qs) k=valueAt qs k:=by simp[valueAt,pV,e']
   rw[ue e,b];exact ih
theorem KV.any{kvs:List (κ×V)}{vs:List (κ×ai)}(r:KV kvs vs)(k:κ):(kvs.any fun kv=>decide (kv.1=k))=vs.any fun kv=>decide (kv.1=k):=by
 unfold KV at r;induction r with
 | nil=>rfl
 | cons h t ih=>rw[nu,nu,ih,h.1]
theorem KV.acO{kvs:List (κ×V)}{vs:List (κ×ai)}(r:KV kvs vs)(k:κ){y:V}{u:ai}(ry:RelV y u) :
  KV (kvs.map fun kv=>if kv.1=k then(kv.1,y)else kv) (vs.map fun kv=>if kv.1=k then(kv.1,u)else kv):=by
 unfold KV at r ⊢;induction r with
 | nil=>exact .nil
 | @cons p q ps qs h t ih =>
  rw[bK,bK];refine .cons ?_ ih;obtain⟨h1,h2⟩:=h;by_cases e:p.1=k
  ·rw[if_pos e,if_pos (h1.symm.trans e)];exact⟨h1,ry⟩
  ·rw[if_neg e,if_neg (fun z=>e (h1.trans z))];exact⟨h1,h2⟩
theorem KV.put{kvs:List (κ×V)}{vs:List (κ×ai)}(r:KV kvs vs)(k:κ){y:V}{u:ai}(ry:RelV y u):KV (OQ kvs k y) (stored vs k u):=by
 unfold OQ stored;rw[r.any k];by_cases e:(vs.any fun kv=>decide (kv.1=k))=true
 ·rw[if_pos e,if_pos e];exact r.acO k ry
 ·rw[if_neg e,if_neg e];exact Paired.snoc r ⟨rfl,ry⟩
theorem KV.length{kvs:List (κ×V)}{vs:List (κ×ai)}(r:KV kvs vs):kvs.length=vs.length:=xV r
end
theorem Lv{P:bG}{w:aW}{k:cC}{u:ai}(r:RelV (kV k) u):(gj P w).is k u=true:=by
 cases k with
 | inl i=>obtain⟨t,e⟩:=(show ∃t,u=Value.int i t from r);subst e;exact Ay P w i t
 | inr x=>obtain⟨t,e⟩:=(show ∃t,u=Value.str x t from r);subst e;exact Az P w x t
theorem wF{P:bG}{w:aW}:∀{ks:List cC} {us:cj},Vals (ks.map kV) us->ItemsAre (gj P w) ks us
 | [],_,r=>by rw[sN]at r;cases r;exact .nil
 | k::ks,_,r=>by
  rw[bK]at r;cases r with
  | cons h t=>exact .cons (Lv h) (wF t)
section
variable {P:bG} {w:aW} {H:Hp} {h:Heap} {a:af}
theorem RQ{u:HO}(ok:pH P w H h)(e:Rd H a u):fM P w H h a u:=e.ok ok
theorem RR{kvs:List (cC×V)}(ok:pH P w H h)(e:Rd H a (.dK kvs)):kvs.length<=sizeLine/\(a==sysModules)=false/\∃vs,KV kvs vs/\h.DictOf (gj P w) a vs :=
 show fM P w H h a (.dK kvs)from RQ ok e
theorem XD{kvs:List (cC×V)}(ok:pH P w H h)(e:H a=some (.dK kvs)):kvs.length<=sizeLine/\(a==sysModules)=false/\∃vs,KV kvs vs/\h.DictOf (gj P w) a vs:=RR ok (.inl e)
end
section
variable {X:Cx} {ag:List (af×Obj)} {σ:St} {H:Hp} {s:av} {a b:af} {k:List cC} {v:V} {r:ai} {A:bR} {E:cR} {xs:List (List cC×af×ai)}
def p9(K:ak)(H:Hp)(xs:List (List cC×af×ai)):Prop:=∀x∈xs,jY K H x.2.1 (x.1.map kV)
theorem key_is(I:Inv X ag σ H s)(e:jY X.K H a (k.map kV)):(tupleKind (gj X.prog X.w)).is s.heap k a:=by
 obtain⟨bg,r,⟨o,h1,h2,n,h3⟩,_⟩:=I.tuple e;exact⟨o,bg.toArray,n,h1,h2,h3,by simpa using wF r⟩
theorem RS(I:Inv X ag σ H s)(e:Rd H a (.dT xs))(hk:p9 X.K H xs):xs.length<=sizeLine/\(a==sysModules)=false/\s.heap.DictOfH (tupleKind (gj X.prog X.w)) a xs:=by
 obtain⟨z,y,o,es,ep,h1,h2,h3,h4,h5⟩:=(show fM X.prog X.w H s.heap a (.dT xs)from RQ I.hok e)
 exact⟨z,y,o,es,ep,h1,h2,h3,h4,fun x hx=>key_is I (hk x hx),h5⟩
theorem XE{Q:cR}(hu:A.units+1<cLine)(I:Inv X ag σ H s)(e:Rd H a (.dT xs))(hk:p9 X.K H xs)(eb:jY X.K H b (k.map kV)) (h:∀s',Inv X ag σ H s'->Q (.bool (!(atKey xs k).isSome)) s') :
  wpAny (model X.prog X.w) A (compareOp .NotIn (.ref b) (.ref a)) Q E s:=by
 obtain⟨_,hd,dd⟩:=RS I e hk;exact wpAny_notIn_heap (tupleKind_room_in1 hu) (key_is I eb) hd dd (h _ (I.tok _))
theorem Ed{κ:Type} [DecidableEq κ] (xs:List (κ×af×ai)) (k:κ) (a:af) (v:ai):(storedH xs k a v).length<=xs.length+1:=by
 unfold storedH;split
 ·rw[aE];lia
 ·rw[bU];exact aV _
theorem Ue{Q:Unit->av->Prop}(hu:A.units+1<cLine)(I:Inv X ag σ H s)(e:H a=some (.dT xs))(hk:p9 X.K H xs)(eb:jY X.K H b (k.map kV))(hl:xs.length<sizeLine)
  (h:∀s',Inv X ag σ (eI H a (.dT (storedH xs k b r))) s'->Q () s'):wpAny (model X.prog X.w) A (setItem (.ref a) (.ref b) r) Q E s:=by
 obtain⟨_,hd,dd⟩:=RS I (.inl e) hk;refine wpAny_setItem_heap (hsz:=nz hl) (tupleKind_room_in1 hu) (key_is I eb) dd fun h' dd' hs=>h _ ?_
 obtain⟨q,es,ep,hq,h2,h3,h4,_,h5⟩:=dd';have hz:(storedH xs k b r).length<=sizeLine:=by have:=Ed xs k b r;lia
 exact I.write (x:=a) (e:=a) (by rw[e];exact True.intro) (.inl rfl) (fun c q' hc z=>(hs.2 c hc).trans z) ⟨q,hq⟩ ⟨hz,hd,q,es,ep,hq,h2,h3,h4,h5⟩
theorem A1(I:Inv X ag σ H s):sysModules<s.heap.objs.size:=Nat.lt_trans (by decide) (show mainGlobals<s.heap.objs.size from(I.mod.glob.keeps I.bk).lt)
def Lw(o:HO):TE:=fun _ H Q=>∀p,H p=none->Q (.ref p) (eI H p o)
theorem OR{pos:Pos}:PE X (.Dict [] [] pos) (Lw (.dT [])):=fun ag s σ H Q I h =>
 wpAny_Dict_empty ⟨.ref s.heap.objs.size,_,I.laid (a:=s.heap.objs.size) (o:=.dT []) (t':=s.toks) (fun _ _ q=>cD _ q) (aV _)
  ⟨gO _,su.mpr (eP (cX (A1 I))),_,#[],0,d3 _ rfl,⟨rfl,rfl,rfl⟩,rfl,rfl,xT⟩,rfl,h _ (I.hok.fresh (aV _))⟩
theorem HZ{κ:Type} [DecidableEq κ] (xs:List (κ×af×ai)) (k:κ):(atKey xs k).isSome=(xs.map (·.1)).any fun j=>decide (j=k):=by
 unfold atKey;rw[Dr,List.any_map,List.isSome_find?];rfl
end
def Wh(CX:FJ)(P:bG)(w:aW)(K:ak)(mg:ee)(base:Heap)(N:List Str)(qual:Str)(scope:Scope)(f:af)(cd:ai)(cl:List (Str×af))(A:bR)(outer:List Env)(s:av)(H:Hp)(E:XK):Cx where
 prog:=P
 w:=w
 K:=K
 mg:=mg
 base:=base
 A:=A.deeper (W.envX qual scope s.heap.objs.size f cd cl)
 N:=N
 s₀:=s
 H₀:=H
 env:=W.envX qual scope s.heap.objs.size f cd cl
 outer:=outer
 stack:=W.envX qual scope s.heap.objs.size f cd cl::outer
 ex:=[]
 calm:=true
 fn:=fun _=>false
 pn:=[]
 xe:=fun e s'=>wpAny (model P w) (A.deeper (W.envX qual scope s.heap.objs.size f cd cl)) (leaving (W.envX qual scope s.heap.objs.size f cd cl) e) (fun _ OC=>CX outer H s E e OC) (fun e' OC=>CX outer H s E e' OC) s'
structure lP (h:Heap) (H:Hp) (scope:Scope) (cl:List (Str×af)) (N:List Str) (τ:St):Prop where
 inj:∀x y c,cl.lookup x=some c->cl.lookup y=some c->x=y
 has:∀x,scope.names.lookup x=some .free->∃c,cl.lookup x=some c
 cell:∀x c,cl.lookup x=some c->∃v,h.IsCell c v
 free:∀x c,cl.lookup x=some c->H c=none
 val:∀(i:Nat) (x:Str) (v:V),N[i]?=some x->τ[i]?=some (some v)->∃c u,scope.names.lookup x=some .free/\cl.lookup x=some c/\h.IsCell c (some u)/\RelV v u
 len:τ.length=N.length
theorem lP.un{h h':Heap}{H H':Hp}{scope:Scope}{cl:List (Str×af)}{N:List Str}{τ:St}{fs:List af}(C:lP h H scope cl N τ)(u:Un fs [] H H' h h'):lP h' H' scope cl N τ where
 inj:=C.inj
 has:=C.has
 cell:=fun x c e=>by
  obtain⟨v,o,ho,hd⟩:=C.cell x c e;obtain⟨sl,q⟩:=u.any ho (C.free x c e) (by simp)
  exact⟨v,_,q,hd⟩
 free:=fun x c e=>by
  obtain⟨v,o,ho,hd⟩:=C.cell x c e;exact u.free c o ho (C.free x c e) (by simp)
 val:=fun i x v e1 e2=>by
  obtain⟨c,w,k,e,⟨o,ho,hd⟩,r⟩:=C.val i x v e1 e2;obtain⟨sl,q⟩:=u.any ho (C.free x c e) (by simp)
  exact⟨c,w,k,e,⟨_,q,hd⟩,r⟩
 len:=C.len
theorem OS{CX:FJ}{P:bG}{w:aW}{K:ak}{mg:ee}{base:Heap}{N:List Str}{x qual:Str}{scope:Scope}{f:af}{cd:ai}{cl:List (Str×af)}{A:bR}{outer:List Env}{s:av}{H:Hp}{E:XK}{u:ai}{v:V}{τ:St}{h1:Heap}{tk:Nat}
  (hk:scope.kind=.function) (hx:scope.names.lookup x=some .local) (nc:∀y∈scope.names,y.2≠.cell) (hd:A.handled=none) (e0:DX P w K mg base A outer s H) (r:RelV v u) (C:lP s.heap H scope cl N τ)
  (ON:h1.Ns s.heap.objs.size fun y=>[(x,u)].reverse.lookup y) (hkp:∀b o,s.heap.get? b=some o->h1.get? b=some o) :
  Inv (Wh CX P w K mg base (x::N) qual scope f cd cl A outer s H E) [] (some v::τ) H {s with heap:=h1,toks:=tk}:=by
 have noA:∀b:af,b∉(Wh CX P w K mg base (x::N) qual scope f cd cl A outer s H E).ex:=fun b z=>absurd (show b∈([]:List af)from z) (by simp)
 refine⟨⟨e0.mod,hk,rfl,rfl,aV _,C.inj,fun y hy=>?_,fun y c h _=>(by cases h),fun _=>hd,Around.frames_deeper e0.frames,.inr ⟨rfl,rfl⟩,fun b z=>absurd z (noA b),e0.bs,e0.bsz,fun b _ _=>noA b,fun b z=>absurd z (noA b),e0.funs,e0.frf,e0.tabs⟩,
  rfl,e0.bare,Un.kept hkp,⟨_,ON,fun i y z h1 h2 h3=>?_⟩,fun y c h=>?_,e0.hok.fresh (aV _),fun y c h=>C.free y c h,fun p hp=>absurd (show p∈([]:List (af×Obj))from hp) (by simp),e0.hok.kept hkp,?_⟩
 ·have hy:scope.names.lookup y=some .cell\/scope.names.lookup y=some .free:=hy;rcases hy with hy | hy
  ·exact absurd rfl (nc _ (eJ hy))
  ·exact C.has y hy
 ·cases i with
  | zero =>
   have e1:x=y:=bW (show some x=some y from h1)
   have e2:v=z:=bW (bW (show some (some v)=some (some z)from h2))
   subst e1 e2;exact⟨u,r,.inl ⟨hx,by simp⟩⟩
  | succ i =>
   obtain⟨c,w',k,e,z',r'⟩:=C.val i y z (by simpa using (show(x::N)[i+1]?=some y from h1)) (by simpa using h2)
   exact⟨w',r',.inr ⟨.inr k,c,e,z'.keeps hkp⟩⟩
 ·obtain⟨v,z⟩:=C.cell y c h;exact⟨v,z.keeps hkp⟩
 ·show(some v::τ).length=(x::N).length;rw[bA,bA,C.len]
theorem OU{CX:FJ}{P:bG}{w:aW}{K:ak}{mg:ee}{base:Heap}{k:Nat}{N:List Str}{x name qual:Str}{params:Arguments}{body:ao}{scope:Scope}{f:af}{pm dR H9:ai}{cl:List (Str×af)}{A:bR}{outer:List Env}{s:av}{H:Hp}{Q:VK}{E:XK}{u:ai}{v:V}{τ:St}{o:Obj}
  (ho:s.heap.get? f=some o) (hf:o.data=.func (W.kla_fn name qual params body scope cl pm dR H9)) (vU:s.heap.CodeRec dR qual) (hr:fm (k+1) A) (e0:DX P w K mg base A outer s H)
  (hb:bindArgs (W.kla_fn name qual params body scope cl pm dR H9) ⟨[u],[]⟩=pure [(x,u)]) (r:RelV v u) (hk:scope.kind=.function) (XF:scope.isCoroutine=false) (Ug:scope.isGenerator=false) (hx:scope.names.lookup x=some .local) (nc:∀y∈scope.names,y.2≠.cell)
  (C:lP s.heap H scope cl N τ) (hbody:∃t,PE (Wh CX P w K mg base (x::N) qual scope f dR cl A outer s H E) body t/\t (some v::τ) H Q) :
  codeAny (model P w) A (.call (.ref f) ⟨[u],[]⟩) (CR CX outer P w H s Q E) s:=by
 have lim:s.heap.NoLimit:=e0.mod.nolimit.keeps fun b o e=>(e0.bs b o e).1
 refine W.kla_callFunE hr.depth ho hf XF Ug rfl vU ?_;rw[hb];refine aJ (wpAny_newFunctionEnv nc (fun y hy=>?_) (fun Ia ON hsb=>⟨lim.fresh _ hsb,?_⟩) hk)
 ·obtain rfl:y=(x,u):=by simpa using hy
  exact hx
 ·show codeAny _ _ (.expr body (W.envX qual scope s.heap.objs.size f dR cl)) _ _;obtain⟨t,ht,hq⟩:=hbody;have XG:∀b o,s.heap.get? b=some o->Ia.get? b=some o:=fun b o e=>hsb.extBut b o (cX (bX e)) (cD _ e)
  have I:=OS (CX:=CX) (qual:=qual) (f:=f) (cd:=dR) (E:=E) (tk:=s.toks+1) hk hx nc hr.hd e0 r C ON XG;refine W.kla_codeExpr (lI (ht [] _ _ H Q I hq) (fun u' s' hs=>?_) fun e s' hs=>hs)
  obtain⟨v',H',J,rv,q⟩:=hs;exact⟨v',H',J.os,J.bare,J.base,J.hok,rv,q⟩
theorem vy{pos p:Pos}{c cv:ai}(l:cj)(h:TriplesOk l)(e:codeAmong p (l++[rawInt pos.line,rawInt pos.col,c])=some cv):codeAmong p l=some cv\/cv=c:=by
 fun_induction TriplesOk l with
 | case1 =>
  simp only[iO,codeAmong,rawInt]at e;split at e
  ·cases e;exact .inr rfl
  ·cases e
 | case2 a t b u x rest ih =>
  simp only[List.cons_append,codeAmong]at e ⊢;split at e
  ·rename_i hc;rw[if_pos hc];exact .inl e
  ·rename_i hc;rw[if_neg hc];exact ih h e
 | case3 l h1 h2=>exact h.elim
def yr:HO:=.ext fun _=>True
theorem Ee{P:bG}{w:aW}{H:Hp}{h:Heap}{a:af}{o:Obj}(e:h.get? a=some o):fM P w H h a (.nF o yr):=⟨e,trivial,⟨o,e⟩,fun _ _ _ _=>trivial⟩
def A2(mg:ee)(base:Heap):Prop:=∃bm o,mg "__builtins__"=some (.ref bm)/\bm≠builtinsNs/\bm≠mainGlobals/\base.get? bm=some o/\o.cls=.type "module"/\o.dict=some builtinsNs/\o.data=.plain
def Lx(H:Hp)(f:af)(qual:Str)(params:Arguments)(body:ao)(scope:Scope)(cl:List (Str×af)):Prop :=
 ∃o u pm dR H9 c oc uc vs t,H f=some (.nF o u)/\o.data=.func (W.kla_fn "<lambda>" qual params body scope cl pm dR H9)/\dR=.ref c/\H c=some (.nF oc uc)/\oc.data=.fields vs/\vs[1]?=some (.str qual t)
def acP(qual:Str)(params:Arguments)(body:ao)(scope:Scope)(cl:List (Str×af)):TE:=fun _ H Q=>∀f H',H f=none->Same H H'->(∀b o,H' b=some o->H b=some o\/H b=none)->Lx H' f qual params body scope cl->Q (.ref f) H'
section
variable {X:Cx} {x:Str} {params:Arguments} {body:ao} {scope:Scope} {lp:Pos} {cl:List (Str×af)} {c T:af}
theorem Uh(hx:x∈eE)(ht:W.tabIn X.K x=some (c,T))(hC:W.codeHdIn X.K c T=true)(RT:X.env.code=.ref c)(XH:X.env.qual++"<lambda>"=vq x)(hB:A2 X.mg X.base)
  (acQ:defaultsOf params X.env=([],[])) (hcl:closureFor scope X.env=pure cl):PE X (.Lambda params body scope lp) (acP (vq x) params body scope cl):=by
 intro ag s σ H Q I h;have hT:H T=some (.Af (vq x)):=I.tabs x hx c T ht;obtain⟨ps,hP,tri,RU⟩:=(show fM X.prog X.w H s.heap T (.Af (vq x))from I.hok T _ hT)
 have C:W.CodeHd s.heap c T:=W.codeHd_of_K I.z0 hC;have hg:s.heap.Ns mainGlobals X.mg:=I.mod.glob.keeps I.bk;obtain⟨bm,ob,b1,b2,b3,b4,b5⟩:=hB;have ne:∀{b:af} {o:Obj},X.base.get? b=some o->b≠T:=fun {b o} e z=>by
  have:=(I.bs b o e).2;rw[z,hT]at this;cases this
 have hgT:mainGlobals≠T:=by
  obtain⟨o,es,ep,e,_⟩:=I.mod.glob;exact ne e
 refine W.kla_eval acQ ?_;rw[XH];cases hc:codeAmong lp ps.toList with
 | some cv =>
  obtain⟨cc,oc,uc,vs,t,rfl,k1,k2,k3⟩:=RU lp cv hc;refine W.kla_makeFunctionHit (mg:=X.mg) hcl I.ok.glob hg RT C hP tri hc ⟨bm,ob,b1,b2,b3,ne b4,(I.bs _ _ b4).1,b5⟩ fun H9 h' tk hk hsz=>?_
  have hn:H h'.objs.size=none:=I.hok.fresh hsz;refine⟨.ref h'.objs.size,eI H h'.objs.size (.nF _ yr),I.laid (t':=tk) (fun b u e=>cD _ (hk b u e)) hsz (Ee (d3 _ rfl)),rfl,h _ _ hn (fun b u e=>by rw[aX (bP e hn)];exact e) (fun b o e=>?_) ?_⟩
  ·by_cases hb:b=h'.objs.size
   ·rw[hb];exact .inr hn
   ·rw[aX hb]at e;exact .inl e
  ·exact⟨_,_,_,_,_,cc,oc,uc,vs,t,bo,rfl,rfl,by rw[aX (bP k1 hn)];exact k1,k2,k3⟩
 | none =>
  refine W.kla_makeFunction (mg:=X.mg) hcl I.ok.glob hg RT C hP tri hc hgT ⟨bm,ob,b1,b2,b3,ne b4,(I.bs _ _ b4).1,b5⟩ fun c' H9 h' tk OX Ui hJ acR htb=>?_
  obtain⟨agH,oc,vs,t,e2,Z6,hd,hv⟩:=acR;cases e2;have hnc:H c'=none:=I.hok.fresh Ui;have Uj:H h'.objs.size=none:=I.hok.fresh (cz Ui (nz hJ));have nfc:h'.objs.size≠c':=sM hJ;have cT:c'≠T:=fun z=>by rw[z,hT]at hnc;cases hnc
  have fT:h'.objs.size≠T:=fun z=>by rw[z,hT]at Uj;cases Uj
  let o1:HO:=.nF oc yr
  let H1:Hp:=eI H c' o1
  have hn1:H1 h'.objs.size=none:=by show eI H c' o1 _=_;rw[aX nfc];exact Uj
  let fo:Obj:=W.kla_obj "<lambda>" (vq x) params body scope cl ((X.mg "__name__").getD .none) c' H9
  let H2:Hp:=eI H1 h'.objs.size (.nF fo yr)
  have RV:Same H H1:=fun b u e=>by show eI H c' o1 b=_;rw[aX (bP e hnc)];exact e
  have s12:Same H1 H2:=fun b u e=>by show eI H1 _ _ b=_;rw[aX (bP e hn1)];exact e
  have keep:∀b o,b≠T->s.heap.get? b=some o->(h'.push fo).get? b=some o:=fun b o hb e=>cD _ (OX b o hb e)
  have nT:∀b,H b=none->b≠T:=fun b n z=>by rw[z,hT]at n;cases n
  have lt:∀b o,s.heap.get? b=some o->b<s.heap.objs.size:=fun b o e=>bX e
  have hf2:∀b o,s.heap.get? b=some o->H b=none->H2 b=none:=fun b o e n=>by
   show eI (eI H c' o1) _ _ b=none;have l1:=lt b o e;rw[aX (cX (dy l1 (cz Ui (nz hJ)))),aX (cX (dy l1 Ui))];exact n
  have un:Un X.fs [] H H2 s.heap (h'.push fo):=⟨fun b o e n _ _=>keep b o (nT b n) e,fun b o e n _ _=>⟨o.slots,keep b o (nT b n) e⟩,fun b o e n _=>hf2 b o e n,fun b o e _=>by
    by_cases hb:b=T
    ·subst hb;exact⟨_,cD _ htb⟩
    ·exact⟨o,keep b o hb e⟩,fun b xs e=>s12 _ _ (RV _ _ e),fun b o u e=>s12 _ _ (RV _ _ e),fun b q e=>s12 _ _ (RV _ _ e)⟩
  have hok:pH X.prog X.w H2 (h'.push fo):=fun b u e=>by
   by_cases RW:b=h'.objs.size
   ·subst RW;have e:eI H1 h'.objs.size (.nF fo yr) h'.objs.size=some u:=e;rw[bo]at e;cases e;exact Ee (d3 _ rfl)
   ·have e:eI H1 h'.objs.size (.nF fo yr) b=some u:=e;rw[aX RW]at e;by_cases XI:b=c'
    ·subst XI;have e:eI H b o1 b=some u:=e;rw[bo]at e;cases e;exact Ee (cD _ Z6)
    ·have e:eI H c' o1 b=some u:=e;rw[aX XI]at e;by_cases hbT:b=T
     ·subst hbT;rw[hT]at e;cases e;refine⟨_,cD _ htb,?_,fun pos cv z=>?_⟩
      ·simpa using TriplesOk_snoc lp.line lp.col (.ref c') ps.toList tri
      ·rcases vy (pos:=lp) ps.toList tri (by simpa using z)with z | z
       ·obtain⟨cc,oc',uc,Uk,t',q1,q2,q3⟩:=RU pos cv z;exact⟨cc,oc',uc,Uk,t',q1,s12 _ _ (RV _ _ q2),q3⟩
       ·exact⟨c',oc,yr,vs,t,z,s12 _ _ (by show eI H c' o1 c'=_;exact bo),hd,hv⟩
     ·refine(I.hok b u e).AA (fun d v Ap q=>keep d v ?_ q) (fun d q=>s12 _ _ (RV _ _ q)) (fun d xs q=>s12 _ _ (RV _ _ q)) fun d ob' v q=>s12 _ _ (RV _ _ q)
      rcases Ap with rfl | Ap
      ·exact hbT
      ·rintro rfl
       rw[hT]at Ap;cases Ap
  refine⟨.ref h'.objs.size,H2,I.un (t':=tk) un hok,rfl,h _ _ Uj (RV.trans s12) (fun b o e=>?_) ?_⟩
  ·by_cases RW:b=h'.objs.size
   ·rw[RW];exact .inr Uj
   ·have e:eI H1 h'.objs.size (.nF fo yr) b=some o:=e;rw[aX RW]at e;by_cases XI:b=c'
    ·rw[XI];exact .inr hnc
    ·have e:eI H c' o1 b=some o:=e;rw[aX XI]at e;exact .inl e
  ·exact⟨_,_,_,_,_,c',oc,yr,vs,t,(show eI H1 _ _ _=_ from bo),rfl,rfl,s12 _ _ (show eI H c' o1 c'=_ from bo),hd,hv⟩
end
theorem XJ{CX:FJ}{P:bG}{w:aW}{K:ak}{mg:ee}{base:Heap}{k:Nat}{f:af}{x qual:Str}{st:aG}{fd:er}{N ps:List Str}(Fn:DH K x qual st f fd)(S:ez N ps (aO st))
  {A:bR} {outer:List Env} {s:av} {H:Hp} {args:Args} {us:cj} {vs:List V} {Q:VK} {E:XK} (hr:fm (k+1) A) (e0:DX P w K mg base A outer s H) (hb:BindsTo s fd args (ps.zip us)) (r:Vals vs us) (hl:vs.length=ps.length)
  (hbody:∀dR:ai,∃t,rh (mD CX P w K mg base N qual (aO st) f dR A outer s H E) (dH st) t/\t {nx:=fun _ H'=>Q .df H',rt:=Q} (start N vs) H) :
  codeAny (model P w) A (.call (.ref f) args) (CR CX outer P w H s Q E) s:=by
 obtain⟨oc,od,kV,doc,pm,an,dR,ct,vp,rfl,lk,vU⟩:=Fn.ex;have old:∀b o,base.get? b=some o->s.heap.get? b=some o:=fun b o e=>(e0.bs b o e).1
 have KX:K.In s.heap:=e0.mod.kin.keeps old;have XM:∀y∈ps.zip us,(aO st).names.lookup y.1=some .local\/((aO st).names.lookup y.1=some .cell/\((cellsFrom (s.heap.objs.size+1) (aO st).names []).lookup y.1).isSome=true):=fun y hy=>by
  rcases S.par y.1 (xO (a:=y.1) (b:=y.2) hy).1 with q | q
  ·exact .inl q
  ·exact .inr ⟨q,W.cellsFrom_some _ _ _ (.inl q)⟩
 refine codeAny_call_function hr.depth (KX _ _ lk) rfl S.co S.gen rfl (W.codeRec_of KX vU) (hb _ _ _ _ (Kf S.kind XM fun env he s1 ic=>?_))
 subst he;refine⟨(e0.mod.nolimit.keeps old).keeps ic.toInCall.keep,codeAny_func ?_⟩;obtain⟨t,ht,hq⟩:=hbody dR;have I:Inv (mD CX P w K mg base N qual (aO st) f dR A outer s H E) [] (start N vs) H s1:=wB S hr.hd e0 hl r ic;refine lI (ht [] s1 (start N vs) H _ I hq) (fun fl s' hs=>?_) fun e s' hs=>hs
 have fin:∀{dt:St} {H':Hp} {v:V} {u:ai},Inv (mD CX P w K mg base N qual (aO st) f dR A outer s H E) [] dt H' s'->RelV v u->Q v H'->CE outer P w H s Q u s':=fun {_ H' v _} J rv q=>⟨v,H',J.os,J.bare,J.base,J.hok,rv,q⟩
 cases fl with
 | ret u=>obtain⟨v,dt,H',J,rv,q⟩:=hs;exact fin J rv q
 | next=>obtain⟨dt,H',J,q⟩:=hs;exact fin (v:=V.df) (u:=Value.none) J rfl q
 | brk=>obtain⟨_,_,_,q⟩:=hs;exact False.elim q
 | cont=>obtain⟨_,_,_,q⟩:=hs;exact False.elim q
end L2
namespace L2.PL
open PySem PySem.Spec PyProof.Rows
section
variable {K:ak} {F F' H H':Hp}
theorem bH(e:Same H H'){a:af}{xs:List V}(h:jY K H a xs):jY K H' a xs:=by
 rcases h with(h | ⟨o,h⟩) | h
 ·exact .inl (.inl (e _ _ h))
 ·exact .inl (.inr ⟨o,e _ _ h⟩)
 ·exact .inr h
theorem OY(e:Same H H'){a:af}{u:HO}(h:Rd H a u):Rd H' a u:=h.imp (e _ _) fun⟨o,q⟩=>⟨o,e _ _ q⟩
theorem b7(e:Same H H'){a:af}{xs:List V}(h:rG K H a xs):rG K H' a xs:=h.imp (OY e) id
theorem _root_.L2.rG.of{a:af}{xs:List V}(h:H a=some (.aq xs)):rG K H a xs:=.inl (.inl h)
mutual
theorem dB.mono(e:Same F F'):∀{p:PV} {v:V},dB K F p v->dB K F' p v
 | .df,_,h=>by simp only[dB]at h ⊢;exact h
 | .bl _,_,h=>by simp only[dB]at h ⊢;exact h
 | .int _,_,h=>by simp only[dB]at h ⊢;exact h
 | .str _,_,h=>by simp only[dB]at h ⊢;exact h
 | .aA ps,_,h=>by
  simp only[dB]at h ⊢;obtain⟨a,vs,rfl,hs,hb⟩:=h;exact⟨a,vs,rfl,bH e hs,bC.mono e hb⟩
 | .aq ps,_,h=>by
  simp only[dB]at h ⊢;obtain⟨a,vs,rfl,hs,hb⟩:=h;exact⟨a,vs,rfl,b7 e hs,bC.mono e hb⟩
theorem bC.mono(e:Same F F'):∀{ps:List PV} {vs:List V},bC K F ps vs->bC K F' ps vs
 | [],_,h=>by simp only[bC]at h ⊢;exact h
 | p::ps,_,h=>by
  simp only[bC]at h ⊢;obtain⟨v,r,rfl,h1,h2⟩:=h;exact⟨v,r,rfl,dB.mono e h1,bC.mono e h2⟩
end
theorem bC.cG{p:PV}{ps:List PV}{vs:List V}(h:bC K F (p::ps) vs):∃v r,vs=v::r/\dB K F p v/\bC K F ps r:=by
 simpa only[bC]using h
theorem bC.cP{vs:List V}(h:bC K F [] vs):vs=[]:=by simpa only[bC]using h
theorem bC.length:∀{ps:List PV} {vs:List V},bC K F ps vs->ps.length=vs.length
 | [],_,h=>by rw[h.cP];rfl
 | _::_,_,h=>by
  obtain⟨v,r,rfl,_,t⟩:=h.cG;rw[bA,bA,bC.length t]
theorem bC.append:∀{ps qs:List PV} {vs ws:List V},bC K F ps vs->bC K F qs ws->bC K F (ps++qs) (vs++ws)
 | [],_,_,_,h,h'=>by rw[h.cP];exact h'
 | _::_,_,_,_,h,h'=>by
  obtain⟨v,r,rfl,hv,t⟩:=h.cG;exact .cons hv (bC.append t h')
theorem bC.get:∀{ps:List PV} {vs:List V} {i:Nat} {p:PV},bC K F ps vs->ps[i]?=some p->∃v,vs[i]?=some v/\dB K F p v
 | [],_,_,_,_,e=>by simp at e
 | _::_,_,0,_,h,e=>by
  obtain⟨v,r,rfl,hv,t⟩:=h.cG;simp at e;subst e;exact⟨v,rfl,hv⟩
 | _::_,_,i+1,p,h,e=>by
  obtain⟨v,r,rfl,hv,t⟩:=h.cG;obtain⟨w,h1,h2⟩:=bC.get (i:=i) (p:=p) t (by simpa using e)
  exact⟨w,by simpa using h1,h2⟩
theorem bC.XN:∀{ps:List PV} {vs:List V} {i:Nat} {v:V},bC K F ps vs->vs[i]?=some v->∃p,ps[i]?=some p/\dB K F p v
 | [],_,_,_,h,e=>by rw[h.cP]at e;simp at e
 | p::_,_,0,_,h,e=>by
  obtain⟨v,r,rfl,hv,t⟩:=h.cG;simp at e;subst e;exact⟨p,rfl,hv⟩
 | _::_,_,i+1,w,h,e=>by
  obtain⟨v,r,rfl,hv,t⟩:=h.cG;obtain⟨p,h1,h2⟩:=bC.XN (i:=i) (v:=w) t (by simpa using e)
  exact⟨p,by simpa using h1,h2⟩
theorem bC.take:∀{ps:List PV} {vs:List V} (n:Nat),bC K F ps vs->bC K F (ps.take n) (vs.take n)
 | _,_,0,_=>by simp only[List.take_zero];exact .nil
 | [],_,_+1,h=>by rw[h.cP];exact .nil
 | _::_,_,n+1,h=>by
  obtain⟨v,r,rfl,hv,t⟩:=h.cG;exact .cons hv (bC.take n t)
theorem bC.drop:∀{ps:List PV} {vs:List V} (n:Nat),bC K F ps vs->bC K F (ps.drop n) (vs.drop n)
 | _,_,0,h=>h
 | [],_,_+1,h=>by rw[h.cP];exact .nil
 | _::_,_,n+1,h=>by
  obtain⟨v,r,rfl,hv,t⟩:=h.cG;exact bC.drop n t
theorem bC.reverse:∀{ps:List PV} {vs:List V},bC K F ps vs->bC K F ps.reverse vs.reverse
 | [],_,h=>by rw[h.cP];exact .nil
 | _::_,_,h=>by
  obtain⟨v,r',rfl,hv,t⟩:=h.cG;rw[xJ,xJ];exact(bC.reverse t).append (.cons hv .nil)
theorem bD{ps:List PV}{v:V}:dB K F (.aq ps) v↔∃a vs,v=.ref a/\rG K F a vs/\bC K F ps vs:=by simp only[dB]
end
inductive Dk where
 | t (kvs:List (List cC×PV)) | k (kvs:List (cC×PV))
section
variable (K:ak) (F H:Hp)
def OZ:List (List cC×PV)->List (List cC×af×ai)->Prop:=Paired fun p q=>p.1=q.1/\jY K F q.2.1 (p.1.map kV)/\∃v,dB K F p.2 v/\RelV v q.2.2
def A3:List (cC×PV)->List (cC×V)->Prop:=Paired fun p q=>p.1=q.1/\dB K F p.2 q.2
def oz(a:af):Dk->Prop
 | .t kvs=>∃xs,H a=some (.dT xs)/\OZ K F kvs xs
 | .k kvs=>∃vs,H a=some (.dK vs)/\A3 K F kvs vs
end
section
variable {K:ak} {F F' H H':Hp}
theorem OZ.mono(e:Same F F'){kvs:List (List cC×PV)}{xs:List (List cC×af×ai)}(h:OZ K F kvs xs):OZ K F' kvs xs:=Paired.Tb h fun _ _ ⟨h1,h2,v,h3,h4⟩=>⟨h1,bH e h2,v,h3.mono e,h4⟩
theorem A3.mono(e:Same F F'){kvs:List (cC×PV)}{xs:List (cC×V)}(h:A3 K F kvs xs):A3 K F' kvs xs:=Paired.Tb h fun _ _ ⟨h1,h2⟩=>⟨h1,h2.mono e⟩
theorem oz.to{a:af}{m:Dk}(h:oz K F H a m)(e:Same F F')(k:H' a=H a):oz K F' H' a m:=by
 cases m with
 | t kvs=>obtain⟨xs,h1,h2⟩:=h;exact⟨xs,k.trans h1,h2.mono e⟩
 | k kvs=>obtain⟨xs,h1,h2⟩:=h;exact⟨xs,k.trans h1,h2.mono e⟩
theorem oz.obj{a:af}{m:Dk}(h:oz K F H a m):∃o,H a=some o/\(∀xs,o≠.aq xs):=by
 cases m with
 | t kvs=>obtain⟨xs,h1,h2⟩:=h;exact⟨_,h1,fun _ z=>nomatch z⟩
 | k kvs=>obtain⟨xs,h1,h2⟩:=h;exact⟨_,h1,fun _ z=>nomatch z⟩
theorem oz.mono{a:af}{m:Dk}(h:oz K F H a m)(e:Same F F')(k:Same H H'):oz K F' H' a m:=by
 obtain⟨o,h1,_⟩:=h.obj;exact h.to e ((k _ _ h1).trans h1.symm)
end
inductive Fd where
 | pv (p:PV) | dc (es:List (Str×PV))
inductive Ob where
 | rcd (fs:List (Str×Fd)) | fn (x:Str) | J1 (m:Dk)
section
variable (K:ak) (F:Hp)
def Ib:List (Str×PV)->List (cC×V)->Prop
 | [],vs=>vs=[]
 | (k,p)::es,vs=>∃v r,vs=(Sum.inr k,v)::r/\dB K F p v/\Ib es r
def O0:Fd->V->Prop
 | .pv p,v=>dB K F p v
 | .dc es,v=>∃d vs,v=.ref d/\F d=some (.dK vs)/\Ib K F es vs
def Ef:List (Str×Fd)->List (Str×V)->Prop
 | [],vs=>vs=[]
 | (f,d)::es,vs=>∃v r,vs=(f,v)::r/\O0 K F d v/\Ef es r
def A4:Ob->af->Prop
 | .rcd fs,a=>∃C dx vs,Wb K C/\(∀f∈fs,pX K C f.1)/\F a=some (.SX C dx vs)/\Ef K F fs vs
 | .fn x,a=>W.nsIn K mainGlobals x=some (some (.ref a))
 | .J1 m,a=>oz K F F a m
end
section
variable {K:ak} {F F':Hp}
theorem Ib.mono(e:Same F F'):∀{es:List (Str×PV)} {vs:List (cC×V)},Ib K F es vs->Ib K F' es vs
 | [],_,h=>h
 | (_,_)::_,_,⟨v,r,h1,h2,h3⟩=>⟨v,r,h1,h2.mono e,Ib.mono e h3⟩
theorem O0.mono(e:Same F F'):∀{d:Fd} {v:V},O0 K F d v->O0 K F' d v
 | .pv _,_,h=>dB.mono e h
 | .dc _,_,⟨d,vs,h1,h2,h3⟩=>⟨d,vs,h1,e _ _ h2,h3.mono e⟩
theorem Ef.mono(e:Same F F'):∀{es:List (Str×Fd)} {vs:List (Str×V)},Ef K F es vs->Ef K F' es vs
 | [],_,h=>h
 | (_,_)::_,_,⟨v,r,h1,h2,h3⟩=>⟨v,r,h1,h2.mono e,Ef.mono e h3⟩
theorem A4.mono(e:Same F F'):∀{o:Ob} {a:af},A4 K F o a->A4 K F' o a
 | .rcd _,_,⟨C,dx,vs,h1,h2,h3,h4⟩=>⟨C,dx,vs,h1,h2,e _ _ h3,h4.mono e⟩
 | .fn _,_,h=>h
 | .J1 _,_,h=>oz.mono h e e
end
inductive Ent where
 | un | val (p:PV) | own (ps:List PV) | ex (C:Str) | ob (o:Ob) | gE (m:Dk)
abbrev gv:=Str->List PV->Option Ent
abbrev cg:=List Ent->Option (List PV)
abbrev gJ:=PV->List Ent->Option (List Ent)
abbrev fA:=List Ent->Option Bool
abbrev az:=List PV
abbrev aI:=List Ent
abbrev dG:=Option Ent
abbrev b8:=Option PV
structure dI (K:ak) (H₀ ae F:Hp) (ρ:aI) (σ:St) (H:Hp):Prop where
 sub:Same F H
 keep:Same H₀ H
 base:Same ae F
 fresh:∀a o,F a=some o->ae a=some o\/H₀ a=none
 val:∀(i:Nat) (p:PV),ρ[i]?=some (.val p)->∃v,σ[i]?=some (some v)/\dB K F p v
 own:∀(i:Nat) (ps:az),ρ[i]?=some (.own ps)->∃a vs,σ[i]?=some (some (.ref a))/\H a=some (.aq vs)/\H₀ a=none/\F a=none/\bC K F ps vs
 apart:∀(i j:Nat) (ps qs:az) (a:af),ρ[i]?=some (.own ps)->ρ[j]?=some (.own qs)->σ[i]?=some (some (.ref a))->σ[j]?=some (some (.ref a))->i=j
 obs:∀(i:Nat) (o:Ob),ρ[i]?=some (.ob o)->∃a,σ[i]?=some (some (.ref a))/\A4 K F o a
 gE:∀(i:Nat) (m:Dk),ρ[i]?=some (.gE m)->∃a,σ[i]?=some (some (.ref a))/\oz K F H a m/\H₀ a=none/\F a=none
 len:ρ.length=σ.length
section
variable {K:ak} {H₀ ae F F' H H':Hp} {ρ:aI} {σ:St}
theorem dI.after(R:dI K H₀ ae F ρ σ H)(h:Same H H')(f:Same F F')(s:Same F' H')(n:∀a o,F' a=some o->F a=some o\/H a=none):dI K H₀ ae F' ρ σ H' where
 sub:=s
 keep:=R.keep.trans h
 base:=R.base.trans f
 fresh:=fun a o e=>by
  rcases n a o e with q | q
  ·exact R.fresh a o q
  ·exact .inr (R.keep.free q)
 val:=fun i p e=>let ⟨v,h1,h2⟩:=R.val i p e;⟨v,h1,h2.mono f⟩
 own:=fun i ps e=>by
  obtain⟨a,vs,h1,h2,h3,h4,h5⟩:=R.own i ps e;refine⟨a,vs,h1,h _ _ h2,h3,?_,h5.mono f⟩;cases q:F' a with
  | none=>rfl
  | some o =>
   rcases n a o q with z | z
   ·rw[h4]at z;cases z
   ·rw[h2]at z;cases z
 apart:=R.apart
 obs:=fun i o e=>let ⟨a,h1,h2⟩:=R.obs i o e;⟨a,h1,h2.mono f⟩
 gE:=fun i m e=>by
  obtain⟨a,h1,h2,h3,h4⟩:=R.gE i m e;refine⟨a,h1,h2.mono f h,h3,?_⟩;obtain⟨ob,h5,_⟩:=h2.obj;cases q:F' a with
  | none=>rfl
  | some o =>
   rcases n a o q with z | z
   ·rw[h4]at z;cases z
   ·rw[h5]at z;cases z
 len:=R.len
theorem gR{p:af}{o:HO}(h:H p=none):Same H (eI H p o):=fun b u q=>by rw[aX (bP q h)];exact q
theorem dI.laid(R:dI K H₀ ae F ρ σ H){p:af}(o:HO)(hp:H p=none):dI K H₀ ae (eI F p o) ρ σ (eI H p o)/\Same F (eI F p o):=by
 have fp:F p=none:=R.sub.free hp;refine⟨R.after (gR hp) (gR fp) (fun b u q=>?_) (fun b u q=>?_),gR fp⟩
 ·by_cases hb:b=p
  ·subst hb;rw[bo]at q ⊢;exact q
  ·rw[aX hb]at q ⊢;exact R.sub _ _ q
 ·by_cases hb:b=p
  ·subst hb;exact .inr hp
  ·rw[aX hb]at q;exact .inl q
theorem dI.RX(R:dI K H₀ ae F ρ σ H){p:af}(o:HO)(hp:H p=none):dI K H₀ ae F ρ σ (eI H p o) :=
 R.after (gR hp) (Same.refl F) (R.sub.trans (gR hp)) fun _ _ q=>.inl q
end
abbrev FE:=aI->b8
def tE(K:ak)(H₀ ae:Hp)(f:FE):TE:=fun σ H Q=>∃F ρ p,dI K H₀ ae F ρ σ H/\f ρ=some p/\∀v H' F',dI K H₀ ae F' ρ σ H'->Same F F'->dB K F' p v->Q v H'
def tT(K:ak)(H₀ ae:Hp)(f:fA):TT:=fun σ H Q=>∃F ρ b,dI K H₀ ae F ρ σ H/\f ρ=some b/\∀H' F',dI K H₀ ae F' ρ σ H'->Same F F'->Q b H'
def tA(K:ak)(H₀ ae:Hp)(f:cg):TA:=fun σ H Q=>∃F ρ ps,dI K H₀ ae F ρ σ H/\f ρ=some ps/\∀vs H' F',dI K H₀ ae F' ρ σ H'->Same F F'->bC K F' ps vs->Q vs H'
def tF(K:ak)(H₀ ae:Hp)(f:cg):TE:=fun σ H Q=>∃F ρ ps,dI K H₀ ae F ρ σ H/\f ρ=some ps /\
 ∀a vs H1 F',dI K H₀ ae F' ρ σ H1->Same F F'->bC K F' ps vs->H1 a=none->Q (.ref a) (eI H1 a (.aq vs))
theorem _root_.L2.PE.imp{X:Cx}{e:ao}{t t':TE}(h:PE X e t)(hi:∀σ H Q,t' σ H Q->t σ H Q):PE X e t':=fun ag s σ H Q I hw=>h ag s σ H Q I (hi _ _ _ hw)
theorem _root_.L2.PT.imp{X:Cx}{e:ao}{t t':TT}(h:PT X e t)(hi:∀σ H Q,t' σ H Q->t σ H Q):PT X e t':=fun ag s σ H Q I hw=>h ag s σ H Q I (hi _ _ _ hw)
theorem _root_.L2.PA.imp{X:Cx}{e:List ao}{t t':TA}(h:PA X e t)(hi:∀σ H Q,t' σ H Q->t σ H Q):PA X e t':=fun pos ag s σ H Q I hw=>h pos ag s σ H Q I (hi _ _ _ hw)
theorem _root_.L2.PS.imp{X:Cx}{st:aG}{t t':TS}(h:PS X st t)(hi:∀D σ H,t' D σ H->t D σ H):PS X st t':=fun ag s σ H D I hw=>h ag s σ H D I (hi _ _ _ hw)
theorem _root_.L2.rh.imp{X:Cx}{st:List aG}{t t':TS}(h:rh X st t)(hi:∀D σ H,t' D σ H->t D σ H):rh X st t':=fun ag s σ H D I hw=>h ag s σ H D I (hi _ _ _ hw)
section
variable {X:Cx} {H₀ ae:Hp} {a b e:ao} {fa fb:FE} {pos:Pos}
def bI(f:cg):FE:=fun ρ=>(f ρ).map .aq
theorem wG{f:cg}{ρ:aI}{p:PV}(h:bI f ρ=some p):∃ps,f ρ=some ps/\p=.aq ps:=by
 unfold bI at h;cases z:f ρ with
 | none=>rw[z]at h;cases h
 | some ps=>rw[z]at h;cases h;exact⟨ps,rfl,rfl⟩
theorem Gq{f:cg}(h:PE X e (tF X.K H₀ ae f)):PE X e (tE X.K H₀ ae (bI f)):=h.imp <| by
 rintro σ H Q ⟨F,ρ,p,R,hf,q⟩
 obtain⟨ps,z,rfl⟩:=wG hf;refine⟨F,ρ,ps,R,z,fun a vs H1 F1 R1 s1 b1 hn=>?_⟩
 obtain⟨R2,s2⟩:=R1.laid (.aq vs) hn;exact q _ _ _ R2 (s1.trans s2) (bD.mpr ⟨a,vs,rfl,rG.of bo,b1.mono s2⟩)
def rd(i:Nat):FE:=fun ρ=>match ρ[i]? with | some (.val p)=>some p | _=>none
theorem A5(i:Nat){x:Str}{pos:Pos}(h:PE X (.Name x pos) (tN i)):PE X (.Name x pos) (tE X.K H₀ ae (rd i)):=h.imp <| by
 rintro σ H Q ⟨F,ρ,p,R,hf,q⟩
 unfold rd at hf;split at hf
 ·rename_i z;cases hf;obtain⟨v,h1,h2⟩:=R.val i p z;exact⟨v,h1,q v H F R (Same.refl F) h2⟩
 ·cases hf
theorem A6{p:PV}{v:V}(h:PE X e (tC v))(hb:∀F,dB X.K F p v):PE X e (tE X.K H₀ ae fun _=>some p):=h.imp <| by
 rintro σ H Q ⟨F,ρ,p',R,hf,q⟩
 cases hf;exact q v H F R (Same.refl F) (hb F)
theorem RY{i:Int}{j pos}:PE X (.Constant (.int i) j pos) (tE X.K H₀ ae fun _=>some (.int i)):=A6 ya fun _=>aN.mpr rfl
theorem acS{i:Bool}{j pos}:PE X (.Constant (.bool i) j pos) (tE X.K H₀ ae fun _=>some (.bl i)):=A6 RH fun _=>cb.mpr rfl
theorem XO{j pos}:PE X (.Constant .none j pos) (tE X.K H₀ ae fun _=>some .df):=A6 Tf fun _=>dP.mpr rfl
theorem XQ{i:Str}{j pos}:PE X (.Constant (.str i) j pos) (tE X.K H₀ ae fun _=>some (.str i)):=A6 Tg fun _=>cS.mpr rfl
def O1(K:ak)(r:R2)(g:PV->PV->b8):Prop:=∀(H₀ ae F:Hp) (ρ:aI) (σ:St) (H:Hp) (pa pb p:PV) (x y:V) (Q:VK),g pa pb=some p->dI K H₀ ae F ρ σ H->dB K F pa x->dB K F pb y ->
 (∀v H' F',dI K H₀ ae F' ρ σ H'->Same F F'->dB K F' p v->Q v H')->r x y H Q
def ab(fa fb:FE)(g:PV->PV->b8):FE:=fun ρ=>(fa ρ).bind fun x=>(fb ρ).bind fun y=>g x y
theorem Ic{fa fb:FE}{g:PV->PV->b8}{ρ:aI}{p:PV}(h:ab fa fb g ρ=some p):∃x y,fa ρ=some x/\fb ρ=some y/\g x y=some p:=by
 unfold ab at h;cases h1:fa ρ with
 | none=>rw[h1]at h;cases h
 | some x =>
  cases h2:fb ρ with
  | none=>rw[h1,h2]at h;cases h
  | some y=>rw[h1,h2]at h;exact⟨x,y,rfl,rfl,h⟩
theorem rO{K:ak}{r:R2}{g:PV->PV->b8}(hg:O1 K r g){σ:St}{H:Hp}{Q:VK}(h:tE K H₀ ae (ab fa fb g) σ H Q):W6 r (tE K H₀ ae fa) (tE K H₀ ae fb) σ H Q:=by
 obtain⟨F,ρ,p,R,hf,q⟩:=h;obtain⟨x,y,h1,h2,h3⟩:=Ic hf;exact⟨F,ρ,x,R,h1,fun v H1 F1 R1 s1 b1=>⟨F1,ρ,y,R1,h2,fun w H2 F2 R2 s2 b2 =>
  hg H₀ ae F2 ρ σ H2 x y p v w Q h3 R2 (b1.mono s2) b2 fun u H3 F3 R3 s3 b3=>q u H3 F3 R3 (s1.trans (s2.trans s3)) b3⟩⟩
theorem XR{op:Operator}{r:R2}{g:PV->PV->b8}(ho:OpR X (binaryOp op) r)(hg:O1 X.K r g)(ha:PE X a (tE X.K H₀ ae fa))(hb:PE X b (tE X.K H₀ ae fb)) :
  PE X (.BinOp a op b pos) (tE X.K H₀ ae (ab fa fb g)):=(RJ ho ha hb).imp fun _ _ _ h=>rO hg h
theorem XS{op:CmpOp}{r:R2}{g:PV->PV->b8}(ho:OpR X (compareOp op) r)(hg:O1 X.K r g)(ha:PE X a (tE X.K H₀ ae fa))(hb:PE X b (tE X.K H₀ ae fb))(hm:behindInMarks op b=false) :
  PE X (.Compare a [op] [b] pos) (tE X.K H₀ ae (ab fa fb g)):=(OB ho ha hb hm).imp fun _ _ _ h=>rO hg h
def toB(f:FE):fA:=fun ρ=>(f ρ).bind fun p=>match p with | .bl b=>some b | _=>none
theorem toB_some{f:FE}{ρ:aI}{b:Bool}(h:toB f ρ=some b):f ρ=some (.bl b):=by
 unfold toB at h;cases z:f ρ with
 | none=>rw[z]at h;cases h
 | some p =>
  rw[z]at h;cases p<;>first | (cases h;rfl) | cases h
theorem XT{op:CmpOp}{r:R2}{g:PV->PV->b8}(ho:OpR X (compareOp op) r)(hg:O1 X.K r g)(ha:PE X a (tE X.K H₀ ae fa))(hb:PE X b (tE X.K H₀ ae fb))(hm:behindInMarks op b=false) :
  PT X (.Compare a [op] [b] pos) (tT X.K H₀ ae (toB (ab fa fb g))):=(yd ho ha hb hm).imp fun σ H Q ⟨F,ρ,p,R,hf,q⟩ =>
 rO hg ⟨F,ρ,.bl p,R,toB_some hf,fun v H' F' R' s' b'=>⟨p,cb.mp b',q H' F' R' s'⟩⟩
theorem XU{f:FE}(h:PE X e (tE X.K H₀ ae f))(he:∀jE,isTrue e X.env jE=(do let v <-jE;standAt e.pos;holding [v] (truthy v)):=by intro _;rfl):PT X e (tT X.K H₀ ae (toB f)) :=
 (Th h he).imp fun σ H Q ⟨F,ρ,p,R,hf,q⟩=>⟨F,ρ,.bl p,R,toB_some hf,fun v H' F' R' s' b'=>⟨p,cb.mp b',q H' F' R' s'⟩⟩
def chain(fa fb fc:FE)(g g':PV->PV->b8):FE:=fun ρ=>(fa ρ).bind fun x=>(fb ρ).bind fun y=>(g x y).bind fun z=>match z with
 | .bl true=>(fc ρ).bind fun w=>g' y w
 | .bl false=>some (.bl false)
 | _=>none
end
section
variable {X:Cx} {ag:List (af×Obj)} {σ:St} {H:Hp} {s:av}
theorem _root_.L2.Inv.uf{a:af}{xs:List V}(I:Inv X ag σ H s)(h:rG X.K H a xs):∃(bg:cj) (n:Nat),Vals xs bg/\s.heap.get? a=some {cls:=.type "list",data:=.seq bg.toArray n}/\xs.length<=sizeLine:=by
 rcases h with h | ⟨bg,n,e,z,r⟩
 ·obtain⟨z,bg,n,r,e⟩:=h.ok I.hok;exact⟨bg,n,r,e,z⟩
 ·exact⟨bg,n,r,I.z0 a _ e,by rw[r.length];exact z⟩
end
section
variable {X:Cx} {H₀ ae:Hp} {a b c e:ao} {es:List ao} {fa fb fc:FE} {ga gb:fA} {ts:cg} {pos:Pos} {rest:List ao}
def gS(f g:fA):fA:=fun ρ=>(f ρ).bind fun x=>if x=true then g ρ else some false
def Ab(f g:fA):fA:=fun ρ=>(f ρ).bind fun x=>if x=true then some true else g ρ
def kl(f:fA):fA:=fun ρ=>(f ρ).map fun x=>!x
theorem aD{α β:Type}{o:Option α}{f:α->Option β}{b:β}(h:o.bind f=some b):∃a,o=some a/\f a=some b:=by
 cases o with
 | none=>cases h
 | some a=>exact⟨a,rfl,h⟩
theorem _root_.L2.PW.imp{X:Cx}{e:ao}{t t':TT}(h:PW X e t)(hi:∀σ H Q,t' σ H Q->t σ H Q):PW X e t':=fun jE ag s σ H Q I hw=>h jE ag s σ H Q I (hi _ _ _ hw)
theorem Ul(ha:PT X a (tT X.K H₀ ae ga)):PW X (.BoolOp .And [a] pos) (tT X.K H₀ ae ga):=Oq ha
theorem XW(ha:PT X a (tT X.K H₀ ae ga)):PW X (.BoolOp .Or [a] pos) (tT X.K H₀ ae ga):=Ti ha
theorem XX(ha:PT X a (tT X.K H₀ ae ga))(hb:PW X (.BoolOp .And (b::rest) pos) (tT X.K H₀ ae gb)):PW X (.BoolOp .And (a::b::rest) pos) (tT X.K H₀ ae (gS ga gb)) :=
 (Tj ha hb).imp <| by
  rintro σ H Q ⟨F,ρ,p,R,hf,q⟩
  obtain⟨x,h1,h2⟩:=aD hf;refine⟨F,ρ,x,R,h1,fun H1 F1 R1 s1=>?_⟩
  cases x with
  | true=>exact⟨F1,ρ,p,R1,h2,fun H2 F2 R2 s2=>q H2 F2 R2 (s1.trans s2)⟩
  | false =>
   have e:p=false:=(bW h2).symm;subst e;exact q H1 F1 R1 s1
theorem acT(ha:PT X a (tT X.K H₀ ae ga))(hb:PW X (.BoolOp .Or (b::rest) pos) (tT X.K H₀ ae gb)):PW X (.BoolOp .Or (a::b::rest) pos) (tT X.K H₀ ae (Ab ga gb)) :=
 (WX ha hb).imp <| by
  rintro σ H Q ⟨F,ρ,p,R,hf,q⟩
  obtain⟨x,h1,h2⟩:=aD hf;refine⟨F,ρ,x,R,h1,fun H1 F1 R1 s1=>?_⟩
  cases x with
  | false=>exact⟨F1,ρ,p,R1,h2,fun H2 F2 R2 s2=>q H2 F2 R2 (s1.trans s2)⟩
  | true =>
   have e:p=true:=(bW h2).symm;subst e;exact q H1 F1 R1 s1
theorem XY(ha:PT X a (tT X.K H₀ ae ga)):PT X (.UnaryOp .Not a pos) (tT X.K H₀ ae (kl ga)):=(Tn ha).imp <| by
 rintro σ H Q ⟨F,ρ,p,R,hf,q⟩
 unfold kl at hf;cases z:ga ρ with
 | none=>rw[z]at hf;cases hf
 | some x=>rw[z]at hf;cases hf;exact⟨F,ρ,x,R,z,fun H1 F1 R1 s1=>q H1 F1 R1 s1⟩
def oA(fa fb:FE):FE:=fun ρ=>(toB fa ρ).bind fun x=>if x=true then fb ρ else some (.bl false)
theorem XZ(ha:PE X a (tE X.K H₀ ae fa))(hb:PE X (.BoolOp .And (b::rest) pos) (tE X.K H₀ ae fb)):PE X (.BoolOp .And (a::b::rest) pos) (tE X.K H₀ ae (oA fa fb)) :=
 (Tp ha hb).imp <| by
  rintro σ H Q ⟨F,ρ,p,R,hf,q⟩
  obtain⟨x,h1,h2⟩:=aD hf;refine⟨F,ρ,_,R,toB_some h1,fun v H1 F1 R1 s1 b1=>⟨x,cb.mp b1,?_⟩⟩
  cases x with
  | true=>exact⟨F1,ρ,p,R1,h2,fun v H2 F2 R2 s2 b2=>q v H2 F2 R2 (s1.trans s2) b2⟩
  | false =>
   have e:p=.bl false:=(bW h2).symm;subst e;exact q _ H1 F1 R1 s1 (cb.mpr rfl)
def A7(fa:FE):FE:=fun ρ=>(toB fa ρ).map fun x=>.bl (!x)
theorem X0(ha:PE X a (tE X.K H₀ ae fa)):PE X (.UnaryOp .Not a pos) (tE X.K H₀ ae (A7 fa)):=(Tq ha).imp <| by
 rintro σ H Q ⟨F,ρ,p,R,hf,q⟩
 unfold A7 at hf;cases z:toB fa ρ with
 | none=>rw[z]at hf;cases hf
 | some x =>
  rw[z]at hf;cases hf;exact⟨F,ρ,_,R,toB_some z,fun v H1 F1 R1 s1 b1=>⟨x,cb.mp b1,q _ H1 F1 R1 s1 (cb.mpr rfl)⟩⟩
def rn(gc:fA)(fa fb:FE):FE:=fun ρ=>(gc ρ).bind fun x=>if x=true then fa ρ else fb ρ
theorem acU(hc:PT X c (tT X.K H₀ ae ga))(ha:PE X a (tE X.K H₀ ae fa))(hb:PE X b (tE X.K H₀ ae fb)):PE X (.IfExp c a b pos) (tE X.K H₀ ae (rn ga fa fb)) :=
 (KO hc ha hb).imp <| by
  rintro σ H Q ⟨F,ρ,p,R,hf,q⟩
  obtain⟨x,h1,h2⟩:=aD hf;refine⟨F,ρ,x,R,h1,fun H1 F1 R1 s1=>?_⟩
  cases x with
  | true=>exact⟨F1,ρ,p,R1,h2,fun v H2 F2 R2 s2 b2=>q v H2 F2 R2 (s1.trans s2) b2⟩
  | false=>exact⟨F1,ρ,p,R1,h2,fun v H2 F2 R2 s2 b2=>q v H2 F2 R2 (s1.trans s2) b2⟩
theorem O2{op ye:CmpOp}{r r':R2}{g g':PV->PV->b8}(ho:OpR X (compareOp op) r)(hg:O1 X.K r g)(AD:OpR X (compareOp ye) r')(hg':O1 X.K r' g')(ha:PE X a (tE X.K H₀ ae fa))(hb:PE X b (tE X.K H₀ ae fb))(hc:PE X c (tE X.K H₀ ae fc))
  (hm:lastMarks [op,ye] [b,c]=false:=by with_unfolding_all rfl):PE X (.Compare a [op,ye] [b,c] pos) (tE X.K H₀ ae (chain fa fb fc g g')):=(K6 ho AD ha hb hc hm).imp <| by
 rintro σ H Q ⟨F,ρ,p,R,hf,q⟩
 obtain⟨x,h1,hf⟩:=aD hf;obtain⟨y,h2,hf⟩:=aD hf;obtain⟨z,h3,hf⟩:=aD hf;refine⟨F,ρ,x,R,h1,fun v H1 F1 R1 s1 b1=>⟨F1,ρ,y,R1,h2,fun w H2 F2 R2 s2 b2=>?_⟩⟩
 refine hg H₀ ae F2 ρ σ H2 x y z v w _ h3 R2 (b1.mono s2) b2 fun u H3 F3 R3 s3 b3=>?_
 cases z with
 | bl k =>
  refine⟨k,cb.mp b3,?_⟩;cases k with
  | true =>
   obtain⟨t,h4,h5⟩:=aD hf;refine⟨F3,ρ,t,R3,h4,fun o H4 F4 R4 s4 b4=>?_⟩
   exact hg' H₀ ae F4 ρ σ H4 y t p w o _ h5 R4 (b2.mono (s3.trans s4)) b4 fun u5 H5 F5 R5 s5 b5=>q u5 H5 F5 R5 (s1.trans (s2.trans (s3.trans (s4.trans s5)))) b5
  | false =>
   have e:p=.bl false:=(bW hf).symm;subst e;exact q _ H3 F3 R3 (s1.trans (s2.trans s3)) (cb.mpr rfl)
 | _=>cases hf
theorem O3{op ye:CmpOp}{r r':R2}{g g':PV->PV->b8}(ho:OpR X (compareOp op) r)(hg:O1 X.K r g)(AD:OpR X (compareOp ye) r')(hg':O1 X.K r' g')(ha:PE X a (tE X.K H₀ ae fa))(hb:PE X b (tE X.K H₀ ae fb))(hc:PE X c (tE X.K H₀ ae fc))
  (hm:lastMarks [op,ye] [b,c]=false:=by with_unfolding_all rfl):PT X (.Compare a [op,ye] [b,c] pos) (tT X.K H₀ ae (toB (chain fa fb fc g g'))):=(K8 ho AD ha hb hc hm).imp <| by
 rintro σ H Q ⟨F,ρ,p,R,hf,q⟩
 have hf:=toB_some hf;obtain⟨x,h1,hf⟩:=aD hf;obtain⟨y,h2,hf⟩:=aD hf;obtain⟨z,h3,hf⟩:=aD hf;refine⟨F,ρ,x,R,h1,fun v H1 F1 R1 s1 b1=>⟨F1,ρ,y,R1,h2,fun w H2 F2 R2 s2 b2=>?_⟩⟩
 refine hg H₀ ae F2 ρ σ H2 x y z v w _ h3 R2 (b1.mono s2) b2 fun u H3 F3 R3 s3 b3=>?_
 cases z with
 | bl k =>
  refine⟨k,cb.mp b3,?_⟩;cases k with
  | true =>
   obtain⟨t,h4,h5⟩:=aD hf;refine⟨F3,ρ,t,R3,h4,fun o H4 F4 R4 s4 b4=>?_⟩
   exact hg' H₀ ae F4 ρ σ H4 y t (.bl p) w o _ h5 R4 (b2.mono (s3.trans s4)) b4 fun u5 H5 F5 R5 s5 b5=>⟨p,cb.mp b5,q H5 F5 R5 (s1.trans (s2.trans (s3.trans (s4.trans s5))))⟩
  | false =>
   have e:PV.bl p=.bl false:=(bW hf).symm;cases e;exact⟨false,rfl,q H3 F3 R3 (s1.trans (s2.trans s3))⟩
 | _=>cases hf
def ah:cg:=fun _=>some []
def aa(f:FE)(g:cg):cg:=fun ρ=>(f ρ).bind fun x=>(g ρ).map fun xs=>x::xs
theorem Eg{f:FE}{g:cg}{ρ:aI}{ps:az}(h:aa f g ρ=some ps):∃x xs,f ρ=some x/\g ρ=some xs/\ps=x::xs:=by
 obtain⟨x,h1,h2⟩:=aD h;cases z:g ρ with
 | none=>rw[z]at h2;cases h2
 | some xs=>rw[z]at h2;cases h2;exact⟨x,xs,h1,rfl,rfl⟩
theorem Gr:PA X [] (tA X.K H₀ ae ah):=jZ.imp <| by
 rintro σ H Q ⟨F,ρ,p,R,hf,q⟩
 cases hf;exact q [] H F R (Same.refl F) .nil
theorem ug(ha:PE X e (tE X.K H₀ ae fa))(hr:PA X es (tA X.K H₀ ae ts))(hs:starEach (e::es) X.env=(false,eval e X.env)::starEach es X.env:=by rfl):PA X (e::es) (tA X.K H₀ ae (aa fa ts)) :=
 (dW ha hr hs).imp <| by
  rintro σ H Q ⟨F,ρ,p,R,hf,q⟩
  obtain⟨x,xs,h1,h2,rfl⟩:=Eg hf;exact⟨F,ρ,x,R,h1,fun v H1 F1 R1 s1 b1=>⟨F1,ρ,xs,R1,h2,fun vs H2 F2 R2 s2 b2=>q _ H2 F2 R2 (s1.trans s2) (.cons (b1.mono s2) b2)⟩⟩
noncomputable def iB:Nat:=100000
theorem ik{n:Nat}(h:n<=iB):n<=sizeLine:=cz h (by decide)
def bh(ts:cg):FE:=fun ρ=>(ts ρ).bind fun ps=>if ps.length<=iB then some (.aA ps)else none
def cH(ts:cg):cg:=fun ρ=>(ts ρ).bind fun ps=>if ps.length<=iB then some ps else none
theorem aU{α:Type}{c:Prop} [Decidable c] {x y:α} (h:(if c then some x else none)=some y):c/\x=y:=by
 by_cases hc:c
 ·rw[if_pos hc]at h;exact⟨hc,bW h⟩
 ·rw[if_neg hc]at h;cases h
theorem RZ{x1}(h:PA X es (tA X.K H₀ ae ts)):PE X (.Tuple es x1 pos) (tE X.K H₀ ae (bh ts)):=(TQ h).imp <| by
 rintro σ H Q ⟨F,ρ,p,R,hf,q⟩
 obtain⟨ps,h1,h2⟩:=aD hf;obtain⟨hl,rfl⟩:=aU h2;refine⟨F,ρ,ps,R,h1,fun vs H1 F1 R1 s1 b1=>⟨ik (by rw[<-b1.length];exact hl),fun a hn=>?_⟩⟩
 obtain⟨R2,s2⟩:=R1.laid (.aA vs) hn;exact q _ _ _ R2 (s1.trans s2) (bY.mpr ⟨a,vs,rfl,jY.of bo,b1.mono s2⟩)
theorem Ly(h:PA X es (tA X.K H₀ ae ts)):PE X (.List es pos) (tF X.K H₀ ae (cH ts)):=(La h).imp <| by
 rintro σ H Q ⟨F,ρ,p,R,hf,q⟩
 obtain⟨ps,h1,h2⟩:=aD hf;obtain⟨hl,rfl⟩:=aU h2;exact⟨F,ρ,ps,R,h1,fun vs H1 F1 R1 s1 b1=>⟨ik (by rw[<-b1.length];exact hl),fun a hn=>q a vs H1 F1 R1 s1 b1 hn⟩⟩
end
structure Ie (K:ak) (H₀ ae F H:Hp):Prop where
 sub:Same F H
 keep:Same H₀ H
 base:Same ae F
 fresh:∀a o,F a=some o->ae a=some o\/H₀ a=none
theorem dI.post{K:ak}{H₀ ae F H:Hp}{ρ:aI}{σ:St}(R:dI K H₀ ae F ρ σ H):Ie K H₀ ae F H:=⟨R.sub,R.keep,R.base,R.fresh⟩
def yt(K:ak)(H₀ ae F:Hp)(Q:VK):Ent->Prop
 | .val p=>∀v F' H',Ie K H₀ ae F' H'->Same F F'->dB K F' p v->Q v H'
 | .own ps=>∀a vs F' H',Ie K H₀ ae F' H'->Same F F'->H' a=some (.aq vs)->H₀ a=none->F' a=none->bC K F' ps vs->Q (.ref a) H'
 | .gE m=>∀a F' H',Ie K H₀ ae F' H'->Same F F'->oz K F' H' a m->H₀ a=none->F' a=none->Q (.ref a) H'
 | .un=>False
 | .ex _=>False
 | .ob _=>False
theorem yt.mono{K:ak}{H₀ ae F F1:Hp}{Q:VK}{e:Ent}(h:yt K H₀ ae F Q e)(s:Same F F1):yt K H₀ ae F1 Q e:=by
 cases e with
 | un=>exact h
 | ex C=>exact h
 | ob _=>exact h
 | gE m=>exact fun a F' H' R z=>h a F' H' R (s.trans z)
 | val p=>exact fun v F' H' R z=>h v F' H' R (s.trans z)
 | own ps=>exact fun a vs F' H' R z=>h a vs F' H' R (s.trans z)
def R0(K:ak)(H F:Hp)(Q:VK)(E:XK):Ent->Prop
 | .ex C=>∀cls F' H',Ie K H F F' H'->Same F F'->ClsAt K C cls->E cls none H'
 | .val p=>yt K H F F Q (.val p)
 | .own ps=>yt K H F F Q (.own ps)
 | .gE m=>yt K H F F Q (.gE m)
 | .ob _=>False
 | .un=>False
def mW(P:bG)(w:aW):FJ:=fun outer H s E e s'=>∃a cls a0 B H',e=.ref a/\s'.os=s.os/\AllBare s'.gens/\Un (C0 outer) [] H H' s.heap s'.heap/\pH P w H' s'.heap/\Same H H'/\E cls none H' /\
 Heap.FlyingW B outer a cls a0 s'.heap/\(∀b o,H' b=some o->∃ob,B.get? b=some ob)/\∀b ob,s.heap.get? b=some ob->H b=none->b∉C0 outer->B.get? b=some ob
theorem uh{X:Cx}{P:bG}{w:aW}:DY (mW P w) X E0:=fun _ _ _ _ _ _ _ ⟨_,_,_,_,_,_,_,_,_,_,_,h,_⟩=>h.elim
def Eh(K:ak)(n:Nat)(f:az->dG):Sp:=fun vs H Q E=>∃F ps e,Same F H/\bC K F ps vs/\ps.length=n/\f ps=some e/\R0 K H F Q E e
section
variable {X:Cx} {H₀ ae:Hp} {e:ao} {es:List ao} {ts:cg} {pos p:Pos} {k n:Nat} {f:af} {fd:er} {ps:List Str} {x:Str} {g:az->dG}
def oC:Ent->b8
 | .val p=>some p
 | .own ps=>some (.aq ps)
 | .un=>none
 | .ex _=>none
 | .ob _=>none
 | .gE _=>none
def O4:Ent->Option az
 | .own ps=>some ps
 | _=>none
def ay(g:az->dG)(ts:cg):FE:=fun ρ=>(ts ρ).bind fun as=>(g as).bind oC
def qP(g:az->dG)(ts:cg):cg:=fun ρ=>(ts ρ).bind fun as=>(g as).bind O4
def aM(n:Nat)(g:az->dG):az->dG:=fun ps=>if ps.length=n then g ps else none
theorem wH{n:Nat}{g:az->dG}{ps:az}{p:Ent}(h:aM n g ps=some p):ps.length=n/\g ps=some p:=by
 unfold aM at h;by_cases hc:ps.length=n
 ·rw[if_pos hc]at h;exact⟨hc,h⟩
 ·rw[if_neg hc]at h;cases h
theorem Lz{K:ak}{H F F' H':Hp}{a:af}{vs:List V}(P:Ie K H F F' H')(ha:H' a=some (.aq vs))(hn:H a=none)(fn:F' a=none) :
  Same F (eI F' a (.aq vs))/\Same F' (eI F' a (.aq vs))/\Same (eI F' a (.aq vs)) H'/\∀b o,eI F' a (.aq vs) b=some o->F b=some o\/H b=none:=by
 refine⟨P.base.trans (gR fn),gR fn,fun b o e=>?_,fun b o e=>?_⟩
 ·by_cases hb:b=a
  ·subst hb;rw[bo]at e;cases e;exact ha
  ·rw[aX hb]at e;exact P.sub _ _ e
 ·by_cases hb:b=a
  ·subst hb;exact .inr hn
  ·rw[aX hb]at e;exact P.fresh _ _ e
theorem ui{σ:St}{H:Hp}{Q:VK}{E:XK}{K:ak}(h:tE K H₀ ae (ay (aM n g) ts) σ H Q):Gd (Eh K n g) [] E (tA K H₀ ae ts) σ H Q:=by
 obtain⟨F,ρ,p,R,hf,q⟩:=h;obtain⟨as,h1,h2⟩:=aD hf;obtain⟨en,h2,h4⟩:=aD h2;obtain⟨hl,h3⟩:=wH h2;refine⟨F,ρ,as,R,h1,fun vs H1 F1 R1 s1 b1=>?_⟩
 show Eh K n g (vs++[]) H1 Q E;rw[iP];refine⟨F1,as,en,R1.sub,b1,hl,h3,?_⟩;cases en with
 | un=>cases h4
 | ex C=>cases h4
 | ob _=>cases h4
 | gE _=>cases h4
 | val p' =>
  cases h4;exact fun v F2 H2 P ff b2=>q v H2 F2 (R1.after P.keep P.base P.sub P.fresh) (s1.trans ff) b2
 | own ps =>
  cases h4;intro a vs2 F2 H2 P ff ha hn fn b2;obtain⟨z1,z2,z3,z4⟩:=Lz P ha hn fn;exact q _ H2 _ (R1.after P.keep z1 z3 z4) (s1.trans z1) (bD.mpr ⟨a,vs2,rfl,rG.of bo,b2.mono z2⟩)
def Um(H:Hp)(a:af):Hp:=fun b=>if b=a then none else H b
theorem LB{H:Hp}{a:af}:Um H a a=none:=by unfold Um;rw[if_pos rfl]
theorem LC{H:Hp}{a b:af}(h:b≠a):Um H a b=H b:=by unfold Um;rw[if_neg h]
theorem O5{H:Hp}{a:af}{o:HO}(h:H a=some o):eI (Um H a) a o=H:=by
 funext b
 by_cases hb:b=a
 ·subst hb;rw[bo,h]
 ·rw[aX hb,LC hb]
theorem A8{F H:Hp}{a:af}(s:Same F H)(hn:F a=none):Same F (Um H a):=fun b o e=>by
 have:b≠a:=fun z=>by subst z;rw[hn]at e;cases e
 rw[LC this];exact s _ _ e
theorem Ig{σ:St}{H:Hp}{Q:VK}{E:XK}{K:ak}(h:tF K H₀ ae (qP (aM n g) ts) σ H Q):Gd (Eh K n g) [] E (tA K H₀ ae ts) σ H Q:=by
 obtain⟨F,ρ,p,R,hf,q⟩:=h;obtain⟨as,h1,h2⟩:=aD hf;obtain⟨en,h2,h4⟩:=aD h2;obtain⟨hl,h3⟩:=wH h2;refine⟨F,ρ,as,R,h1,fun vs H1 F1 R1 s1 b1=>?_⟩
 show Eh K n g (vs++[]) H1 Q E;rw[iP];refine⟨F1,as,en,R1.sub,b1,hl,h3,?_⟩;cases en with
 | un=>cases h4
 | ex C=>cases h4
 | ob _=>cases h4
 | gE _=>cases h4
 | val p'=>cases h4
 | own ps =>
  cases h4;intro a vs2 F2 H2 P ff ha hn fn b2;have:=q a vs2 (Um H2 a) F2 (R1.after (A8 P.keep hn) P.base (A8 P.sub fn) P.fresh) (s1.trans ff) b2 LB;rw[O5 ha]at this;exact this
theorem Uo(F:FnOk X.prog X.w X.K X.mg X.base (mW X.prog X.w) k f fd ps (Eh X.K n g))(hr:fm k X.A)(hg:Gl X x)(hm:X.mg x=some (.ref f))(hk:W.keepIn X.K (.ref f)=true)(hb:gC X.K fd ps [])
  (ha:PA X (e::es) (tA X.K H₀ ae ts)) (HS:(x==("__debug__":Str))=false:=by decide) (he:starEach (e::es) X.env=(false,eval e X.env)::starEach es X.env:=by rfl) (pI:(backTo pos (starEach es X.env)).any (·.1)=false:=by rfl) :
  PE X (.Call (.Name x p) (e::es) [] pos) (tE X.K H₀ ae (ay (aM n g) ts)):=(rH F hr hg hm hk hb .nil uh ha HS he pI).imp fun _ _ _ h=>ui h
end
inductive pJ where
 | nx (ρ:aI) | rt (p:Ent) | bk (ρ:aI) | ct (ρ:aI) | ex (made:Bool) (C:Str) (ρ:aI)
abbrev FS:=aI->Option pJ
def Ih(X:Cx)(H₀ ae F:Hp)(C:Str)(ρ:aI):Bool->Prop
 | true=>∀F' dt H' ag s h1 a cls vs,dI X.K H₀ ae F' ρ dt H'->Same F F'->Inv X ag dt H' s->ClsAt X.K C cls->Heap.MadeExcOf s.heap h1 a cls vs->X.xe (.ref a) {s with heap:=h1}
 | false=>∀dt ag H1 s1 e s',Inv X ag dt H1 s1->mW X.prog X.w X.stack H1 s1 (fun cls _ H2=>ClsAt X.K C cls/\∃F',dI X.K H₀ ae F' ρ dt H2/\Same F F') e s'->X.xe e s'
theorem Ih.mono{X:Cx}{H₀ ae F F1:Hp}{C:Str}{ρ:aI}{m:Bool}(h:Ih X H₀ ae F C ρ m)(s:Same F F1):Ih X H₀ ae F1 C ρ m:=by
 cases m with
 | true=>exact fun F' dt H' ag s1 h1 a cls vs R z=>h F' dt H' ag s1 h1 a cls vs R (s.trans z)
 | false =>
  rintro dt ag H1 s1 e s' I ⟨a,cls,a0,B,H',h1,h2,h3,h4,h5,h6,⟨c,F',R,z⟩,h8⟩;exact h dt ag H1 s1 e s' I ⟨a,cls,a0,B,H',h1,h2,h3,h4,h5,h6,⟨c,F',R,s.trans z⟩,h8⟩
def Gs(X:Cx)(H₀ ae F:Hp)(D:ov):pJ->Prop
 | .nx ρ=>∀F' dt H',dI X.K H₀ ae F' ρ dt H'->Same F F'->D.nx dt H'
 | .bk ρ=>∀F' dt H',dI X.K H₀ ae F' ρ dt H'->Same F F'->D.bk dt H'
 | .ct ρ=>∀F' dt H',dI X.K H₀ ae F' ρ dt H'->Same F F'->D.ct dt H'
 | .rt p=>yt X.K H₀ ae F D.rt p
 | .ex m C ρ=>Ih X H₀ ae F C ρ m
def tS(X:Cx)(H₀ ae:Hp)(f:FS):TS:=fun D σ H=>∃F ρ o,dI X.K H₀ ae F ρ σ H/\f ρ=some o/\Gs X H₀ ae F D o
theorem Gs.mono{X:Cx}{H₀ ae F F1:Hp}{D:ov}{o:pJ}(h:Gs X H₀ ae F D o)(s:Same F F1):Gs X H₀ ae F1 D o:=by
 cases o with
 | nx ρ=>exact fun F' dt H' R z=>h F' dt H' R (s.trans z)
 | bk ρ=>exact fun F' dt H' R z=>h F' dt H' R (s.trans z)
 | ct ρ=>exact fun F' dt H' R z=>h F' dt H' R (s.trans z)
 | rt p=>exact yt.mono h s
 | ex m C ρ=>exact Ih.mono h s
section
variable {X:Cx} {H₀ ae:Hp} {a b c e tg iter:ao} {es:List ao} {fe:FE} {gc:fA} {pos:Pos} {st:aG} {X1 body:List aG} {f g:FS}
def aH(f g:FS):FS:=fun ρ=>(f ρ).bind fun o=>match o with | .nx fO=>g fO | o=>some o
theorem Uq:rh X [] (tS X H₀ ae fun ρ=>some (.nx ρ)):=F8.imp <| by
 rintro D σ H ⟨F,ρ,o,R,hf,q⟩
 cases hf;exact q F σ H R (Same.refl F)
theorem O6(h1:PS X st (tS X H₀ ae f))(h2:rh X X1 (tS X H₀ ae g)):rh X (st::X1) (tS X H₀ ae (aH f g)):=(iy h1 h2).imp <| by
 rintro D σ H ⟨F,ρ,o,R,hf,q⟩
 obtain⟨o1,e1,e2⟩:=aD hf;refine⟨F,ρ,o1,R,e1,?_⟩;cases o1 with
 | nx fX=>exact fun F1 mQ H1 R1 s1=>⟨F1,fX,o,R1,e2,q.mono s1⟩
 | bk fX=>cases e2;exact q
 | ct fX=>cases e2;exact q
 | rt p=>cases e2;exact q
 | ex m C fX=>cases e2;exact q
theorem Ur(h1:PS X st (tS X H₀ ae f)):rh X [st] (tS X H₀ ae f):=mj h1
def bz(fe:FE):FS:=fun ρ=>(fe ρ).map fun p=>.rt (.val p)
theorem R6(he:PE X e (tE X.K H₀ ae fe)):PS X (.Return (some e) pos) (tS X H₀ ae (bz fe)):=(DP he).imp <| by
 rintro D σ H ⟨F,ρ,o,R,hf,q⟩
 unfold bz at hf;cases z:fe ρ with
 | none=>rw[z]at hf;cases hf
 | some p =>
  rw[z]at hf;cases hf;exact⟨F,ρ,p,R,z,fun v H1 F1 R1 s1 b1=>q v F1 H1 R1.post s1 b1⟩
def nI(i:Nat):FS:=fun ρ=>match ρ[i]? with
 | some (.own ps)=>some (.rt (.own ps))
 | some (.val p)=>some (.rt (.val p))
 | _=>none
theorem Ii(i:Nat){x:Str}{p:Pos}(h:PE X (.Name x p) (tN i)):PS X (.Return (some (.Name x p)) pos) (tS X H₀ ae (nI i)):=(DP h).imp <| by
 rintro D σ H ⟨F,ρ,o,R,hf,q⟩
 unfold nI at hf;split at hf
 ·rename_i ps z;cases hf;obtain⟨a,vs,h1,h2,h3,h4,h5⟩:=R.own i ps z;exact⟨_,h1,q a vs F H R.post (Same.refl F) h2 h3 h4 h5⟩
 ·rename_i p z;cases hf;obtain⟨v,h1,h2⟩:=R.val i p z;exact⟨_,h1,q v F H R.post (Same.refl F) h2⟩
 ·cases hf
theorem Us:PS X (.Return none pos) (tS X H₀ ae fun _=>some (.rt (.val .df))):=Ot.imp <| by
 rintro D σ H ⟨F,ρ,o,R,hf,q⟩
 cases hf;exact q _ F H R.post (Same.refl F) (dP.mpr rfl)
def gK(gc:fA)(f g:FS):FS:=fun ρ=>(gc ρ).bind fun x=>if x=true then f ρ else g ρ
theorem acX{p:List aG}{r:List aG}(hc:PT X c (tT X.K H₀ ae gc))(ha:rh X p (tS X H₀ ae f))(hb:rh X r (tS X H₀ ae g)):PS X (.If c p r pos) (tS X H₀ ae (gK gc f g)) :=
 (RI hc ha hb).imp <| by
  rintro D σ H ⟨F,ρ,o,R,hf,q⟩
  obtain⟨x,h1,h2⟩:=aD hf;refine⟨F,ρ,x,R,h1,fun H1 F1 R1 s1=>?_⟩
  cases x with
  | true=>exact⟨F1,ρ,o,R1,h2,q.mono s1⟩
  | false=>exact⟨F1,ρ,o,R1,h2,q.mono s1⟩
def qQ(fe:FE):FS:=fun ρ=>(fe ρ).map fun _=>.nx ρ
theorem Ut(he:PE X e (tE X.K H₀ ae fe))(hs:swapsWith e none pos.line X.env=pure false:=by rfl):PS X (.Expr e pos) (tS X H₀ ae (qQ fe)):=(iR he hs).imp <| by
 rintro D σ H ⟨F,ρ,o,R,hf,q⟩
 unfold qQ at hf;cases z:fe ρ with
 | none=>rw[z]at hf;cases hf
 | some p =>
  rw[z]at hf;cases hf;exact⟨F,ρ,p,R,z,fun v H1 F1 R1 s1 b1=>q F1 σ H1 R1 s1⟩
def tG(K:ak)(H₀ ae:Hp)(g:gJ):TG:=fun v σ H Q=>∃F ρ p fO,dI K H₀ ae F ρ σ H/\dB K F p v/\g p ρ=some fO/\∀dt H' F',dI K H₀ ae F' fO dt H'->Same F F'->Q dt H'
def aj(i:Nat)(p:PV)(ρ:aI):Option aI:=if i<ρ.length then some (ρ.set i (.val p))else none
theorem dI.set{K:ak}{F H:Hp}{ρ:aI}{σ:St}(R:dI K H₀ ae F ρ σ H){i:Nat}(hi:i<ρ.length){p:PV}{v:V}(hb:dB K F p v):dI K H₀ ae F (ρ.set i (.val p)) (σ.set i (some v)) H where
 sub:=R.sub
 keep:=R.keep
 base:=R.base
 fresh:=R.fresh
 val:=fun j q e=>by
  by_cases h:i=j
  ·subst h;rw[cL hi]at e;cases e;exact⟨v,cL (by rw[<-R.len];exact hi),hb⟩
  ·rw[b9 h]at e;rw[b9 h];exact R.val j q e
 own:=fun j ps e=>by
  by_cases h:i=j
  ·subst h;rw[cL hi]at e;cases e
  ·rw[b9 h]at e;rw[b9 h];exact R.own j ps e
 apart:=fun j k ps qs a h1 h2 h3 h4=>by
  by_cases hj:i=j
  ·subst hj;rw[cL hi]at h1;cases h1
  ·by_cases hk:i=k
   ·subst hk;rw[cL hi]at h2;cases h2
   ·rw[b9 hj]at h1 h3;rw[b9 hk]at h2 h4;exact R.apart j k ps qs a h1 h2 h3 h4
 obs:=fun j ps e=>by
  by_cases h:i=j
  ·subst h;rw[cL hi]at e;cases e
  ·rw[b9 h]at e;rw[b9 h];exact R.obs j ps e
 gE:=fun j ps e=>by
  by_cases h:i=j
  ·subst h;rw[cL hi]at e;cases e
  ·rw[b9 h]at e;rw[b9 h];exact R.gE j ps e
 len:=by rw[kG,kG];exact R.len
theorem _root_.L2.PG.imp{X:Cx}{e:ao}{t t':TG}(h:PG X e t)(hi:∀v σ H Q,t' v σ H Q->t v σ H Q):PG X e t':=fun ag s σ H v u Q I r hw=>h ag s σ H v u Q I r (hi _ _ _ _ hw)
theorem _root_.L2.JY.imp{X:Cx}{e:List ao}{t t':Ou}(h:JY X e t)(hi:∀v σ H Q,t' v σ H Q->t v σ H Q):JY X e t':=fun ag s σ H v u Q I r hw=>h ag s σ H v u Q I r (hi _ _ _ _ hw)
theorem Uu(i:Nat){x:Str}(h:PG X (.Name x pos) (gName i)):PG X (.Name x pos) (tG X.K H₀ ae (aj i)):=h.imp <| by
 rintro v σ H Q ⟨F,ρ,p,fO,R,hb,hf,q⟩
 obtain⟨hi,rfl⟩:=aU hf;exact q _ _ _ (R.set hi hb) (Same.refl F)
def X2(K:ak)(H₀ ae:Hp)(g:az->aI->Option aI):Ou:=fun vs σ H Q=>∃F ρ ps fO,dI K H₀ ae F ρ σ H/\bC K F ps vs/\g ps ρ=some fO/\∀dt H' F',dI K H₀ ae F' fO dt H'->Same F F'->Q dt H'
def cI:az->aI->Option aI:=fun ps ρ=>match ps with | []=>some ρ | _=>none
def aw(g:gJ)(r:az->aI->Option aI):az->aI->Option aI:=fun ps ρ=>match ps with | p::ps=>(g p ρ).bind fun fO=>r ps fO | []=>none
theorem Uv:JY X [] (X2 X.K H₀ ae cI):=Ov.imp <| by
 rintro vs σ H Q ⟨F,ρ,ps,fO,R,hb,hf,q⟩
 cases ps with
 | nil=>cases hf;exact⟨hb.cP,q _ _ _ R (Same.refl F)⟩
 | cons _ _=>cases hf
theorem O7{t:gJ}{u:az->aI->Option aI}(h1:PG X e (tG X.K H₀ ae t))(h2:JY X es (X2 X.K H₀ ae u))
  (hs:(assignEach (e::es) X.env).map (·.2)=assign e X.env::(assignEach es X.env).map (·.2):=by rfl):JY X (e::es) (X2 X.K H₀ ae (aw t u)):=(KQ h1 h2 hs).imp <| by
 rintro vs σ H Q ⟨F,ρ,ps,fO,R,hb,hf,q⟩
 cases ps with
 | nil=>cases hf
 | cons p ps =>
  obtain⟨v,r,rfl,b1,b2⟩:=hb.cG;obtain⟨fX,e1,e2⟩:=aD hf;exact⟨v,r,rfl,F,ρ,p,fX,R,b1,e1,fun mQ H1 F1 R1 s1=>⟨F1,fX,ps,fO,R1,b2.mono s1,e2,fun HQ H2 F2 R2 s2=>q HQ H2 F2 R2 (s1.trans s2)⟩⟩
def cM(n:Nat)(t:az->aI->Option aI):gJ:=fun p ρ=>match p with | .aA ps=>if ps.length=n then t ps ρ else none | _=>none
theorem X3{k:Nat}{t:az->aI->Option aI}{n:Nat}(hc:X.calm=true)(h:JY X es (X2 X.K H₀ ae t))
  (hn:(assignEach es X.env).length=n:=by rfl) (DQ:(assignEach es X.env).findIdx? (·.1)=none:=by rfl):PG X (.Tuple es k pos) (tG X.K H₀ ae (cM n t)):=(Ts hc h hn DQ).imp <| by
 rintro v σ H Q ⟨F,ρ,p,fO,R,hb,hf,q⟩
 cases p with
 | aA ps =>
  have hf:(if ps.length=n then t ps ρ else none)=some fO:=hf
  by_cases hl:ps.length=n
  ·rw[if_pos hl]at hf;obtain⟨a,vs,rfl,hs,X4⟩:=bY.mp hb;exact⟨a,vs,rfl,bH R.sub hs,by rw[<-X4.length];exact hl,F,ρ,ps,fO,R,X4,hf,q⟩
  ·rw[if_neg hl]at hf;cases hf
 | _=>cases hf
def bj(fe:FE)(g:gJ):FS:=fun ρ=>(fe ρ).bind fun p=>(g p ρ).map .nx
theorem Gu{fe:FE}{g:gJ}{D:ov}{σ:St}{H:Hp}(h:tS X H₀ ae (bj fe g) D σ H):ri (tE X.K H₀ ae fe) (tG X.K H₀ ae g) D σ H:=by
 obtain⟨F,ρ,o,R,hf,q⟩:=h;obtain⟨p,h1,h2⟩:=aD hf;cases z:g p ρ with
 | none=>rw[z]at h2;cases h2
 | some fO =>
  rw[z]at h2;cases h2;exact⟨F,ρ,p,R,h1,fun v H1 F1 R1 s1 b1=>⟨F1,ρ,p,fO,R1,b1,z,fun HQ H2 F2 R2 s2=>q F2 HQ H2 R2 (s1.trans s2)⟩⟩
theorem X5{g:gJ}(he:PE X e (tE X.K H₀ ae fe))(hg:PG X tg (tG X.K H₀ ae g))(hs:swapsWithSole [tg] e pos.line X.env=pure false:=by rfl)(hw:swappedStores [tg] e X.env=pure none:=by rfl)
  (h1:(assignEach [tg] X.env).map (·.2)=[assign tg X.env]:=by rfl):PS X (.Assign [tg] e pos) (tS X H₀ ae (bj fe g)):=(Tt he hg hs hw h1).imp fun _ _ _ h=>Gu h
theorem R7(i:Nat){x:Str}{iz:Pos}(h:PS X (.Assign [.Name x iz] e pos) (ri (tE X.K H₀ ae fe) (gName i))):PS X (.Assign [.Name x iz] e pos) (tS X H₀ ae (bj fe (aj i))):=h.imp fun D σ H h=>by
 obtain⟨F,ρ,p,R,h1,q⟩:=Gu h;exact⟨F,ρ,p,R,h1,fun v H1 F1 R1 s1 b1=>by
  obtain⟨F',fO,p',agK,R',b',hf,q'⟩:=q v H1 F1 R1 s1 b1;obtain⟨hi,rfl⟩:=aU hf;exact q' _ _ _ (R'.set hi b') (Same.refl F')⟩
def LD(K:ak)(J:It)(F:Hp)(ps:az):Prop:=∀(H₀ ae F':Hp) (ρ:aI) (σ:St) (H:Hp),dI K H₀ ae F' ρ σ H->Same F F'->∀i:Nat,
 (∀p,ps[i]?=some p->J.go i H/\∀x H',J.yld i H x H'->∃F'',dI K H₀ ae F'' ρ σ H'/\Same F' F''/\dB K F'' p x)/\(ps[i]?=none->J.stop i H)
def tI(K:ak)(H₀ ae:Hp)(fi:cg):TI:=fun σ H R=>∃F ρ ps,dI K H₀ ae F ρ σ H/\fi ρ=some ps/\∀J H' F',dI K H₀ ae F' ρ σ H'->Same F F'->LD K J F' ps->R J H'
theorem _root_.L2.PI.imp{X:Cx}{tg e:ao}{t t':TI}(h:PI X tg e t)(hi:∀σ H Q,t' σ H Q->t σ H Q):PI X tg e t':=fun ag s σ H R I hw=>h ag s σ H R I (hi _ _ _ hw)
def fy(set:gJ)(body:FS):az->aI->Option pJ
 | [],ρ=>some (.nx ρ)
 | p::ps,ρ=>(set p ρ).bind fun fX=>(body fX).bind fun o=>match o with
  | .nx vm=>fy set body ps vm
  | .ct vm=>fy set body ps vm
  | .bk vm=>some (.nx vm)
  | .rt p=>some (.rt p)
  | .ex m C vm=>some (.ex m C vm)
def il(fi:cg)(set:gJ)(body:FS):FS:=fun ρ=>(fi ρ).bind fun ps=>fy set body ps ρ
theorem X6{fi:cg}{g:gJ}{fb:FS}(hp:PassesOwn (model X.prog X.w) X.A X.env X.xe)(hc:X.calm=true)(hi:PI X tg iter (tI X.K H₀ ae fi))(hg:PG X tg (tG X.K H₀ ae g))(hb:rh X body (tS X H₀ ae fb))
  (hs:∀x,foldedSetIterable iter X.env x=pure x:=by intro _;rfl):PS X (.For tg iter body [] pos) (tS X H₀ ae (il fi g fb)):=(KZ hp hc hi hg hb hs).imp <| by
 rintro D σ H ⟨F,ρ,o,R,hf,q⟩
 obtain⟨ps,h1,h2⟩:=aD hf;refine⟨F,ρ,ps,R,h1,fun J H1 F1 R1 s1 wk=>?_⟩
 refine⟨fun i m dt H'=>m=ps.length-i/\i<=ps.length/\∃F' fO,dI X.K H₀ ae F' fO dt H'/\Same F1 F'/\fy g fb (ps.drop i) fO=some o,⟨ps.length,by simp,gO _,F1,ρ,R1,Same.refl _,h2⟩,?_⟩
 rintro i m dt H' ⟨rfl,hi,F',fO,R',s',hr⟩
 obtain⟨wg,wst⟩:=wk H₀ ae F' fO dt H' R' s' i;by_cases hJ:i<ps.length
 ·have hd:ps.drop i=ps[i]::ps.drop (i+1):=C5 hJ;obtain⟨go,wy⟩:=wg ps[i] (cJ hJ);rw[hd]at hr;obtain⟨fX,e1,hr⟩:=aD hr;obtain⟨o1,e2,hr⟩:=aD hr;refine .inr ⟨go,fun HQ H2=>∃F2 vm,dI X.K H₀ ae F2 vm HQ H2/\Same F1 F2/\fy g fb (ps.drop (i+1)) vm=some o,fun HQ H2 n2=>⟨ps.length-(i+1),by lia,rfl,hJ,n2⟩,fun x H2 y=>?_⟩
  obtain⟨F2,R2,s2,b2⟩:=wy x H2 y;refine⟨F2,fO,ps[i],fX,R2,b2,e1,fun tV H3 F3 R3 s3=>⟨F3,fX,o1,R3,e2,?_⟩⟩
  have up:Same F1 F3:=s'.trans (s2.trans s3);cases o1 with
  | nx vm=>exact fun F4 O8 H4 R4 s4=>⟨F4,vm,R4,up.trans s4,hr⟩
  | ct vm=>exact fun F4 O8 H4 R4 s4=>⟨F4,vm,R4,up.trans s4,hr⟩
  | bk vm =>
   cases hr;exact fun F4 O8 H4 R4 s4=>q F4 O8 H4 R4 (s1.trans (up.trans s4))
  | rt p =>
   cases hr;exact yt.mono q (s1.trans up)
  | ex m C vm =>
   cases hr;exact Ih.mono q (s1.trans up)
 ·have e:i=ps.length:=by lia
  subst e;rw[sH]at hr;cases hr;exact .inl ⟨wst (pO (aV _)),q F' dt H' R' (s1.trans s')⟩
theorem Ij{K:ak}{F:Hp}{a:af}{vs:List V}{ps:az}(hs:nG K F a vs)(hb:bC K F ps vs):LD K (Wf K a) F ps:=by
 intro H₀ ae F' ρ σ H R s i;have hq:nG K H a vs:=(s.trans R.sub).seq hs;refine⟨fun p e=>?_,fun e=>?_⟩
 ·obtain⟨v,e1,b1⟩:=hb.get e;refine⟨⟨vs,v,hq,e1⟩,fun x H' ⟨hH,y⟩=>?_⟩
  subst hH;have:=y vs hq;rw[e1]at this;cases this;exact⟨F',R,Same.refl _,b1.mono s⟩
 ·refine⟨vs,hq,?_⟩;rw[<-hb.length];exact sh.mp e
theorem LF{K:ak}{F:Hp}{a:af}{vs:List V}{ps:az}(hs:jY K F a vs)(hb:bC K F ps vs):LD K (Itt K a) F ps:=by
 intro H₀ ae F' ρ σ H R s i;have hq:jY K H a vs:=bH (s.trans R.sub) hs;refine⟨fun p e=>?_,fun e=>?_⟩
 ·obtain⟨v,e1,b1⟩:=hb.get e;refine⟨⟨vs,v,hq,e1⟩,fun x H' ⟨hH,y⟩=>?_⟩
  subst hH;have:=y vs hq;rw[e1]at this;cases this;exact⟨F',R,Same.refl _,b1.mono s⟩
 ·refine⟨vs,hq,?_⟩;rw[<-hb.length];exact sh.mp e
theorem Ei{K:ak}{F:Hp}(lo:Int)(n:Nat):LD K (Z8 lo n) F ((List.range n).map fun(i:Nat)=>.int (lo+i)):=by
 intro H₀ ae F' ρ σ H R s i;refine⟨fun p e=>?_,fun e=>?_⟩
 ·rw[cu]at e;by_cases hi:i<n
  ·rw[sv hi]at e;cases e;exact⟨hi,fun x H' ⟨hH,y⟩=>by subst hH y;exact⟨F',R,Same.refl _,aN.mpr rfl⟩⟩
  ·rw[pO (by simpa using hi)]at e;cases e
 ·rw[cu]at e;by_cases hi:i<n
  ·rw[sv hi]at e;cases e
  ·exact Dz hi
def dD(fe:FE):cg:=fun ρ=>(fe ρ).bind fun p=>match p with | .aA ps=>some ps | .aq ps=>some ps | _=>none
theorem R8(he:PE X e (tE X.K H₀ ae fe)):PI X tg e (tI X.K H₀ ae (dD fe)):=by
 intro ag s σ H R I h;obtain⟨F,ρ,ps,Rp,hf,q⟩:=h;obtain⟨p,h1,h2⟩:=aD hf;cases p with
 | aA qs =>
  cases h2;refine Tv he ag s σ H R I ⟨F,ρ,_,Rp,h1,fun v H1 F1 R1 s1 b1=>?_⟩
  obtain⟨a,vs,rfl,hs,hb⟩:=bY.mp b1;exact⟨a,rfl,⟨vs,bH R1.sub hs⟩,q _ H1 F1 R1 s1 (LF hs hb)⟩
 | aq qs =>
  cases h2;refine Ga he ag s σ H R I ⟨F,ρ,_,Rp,h1,fun v H1 F1 R1 s1 b1=>?_⟩
  obtain⟨a,vs,rfl,hs,hb⟩:=bD.mp b1;exact⟨a,rfl,⟨vs,(b7 R1.sub hs).sq⟩,q _ H1 F1 R1 s1 (Ij hs.sq hb)⟩
 | _=>cases h2
def ip(ts:cg):cg:=fun ρ=>(ts ρ).bind fun ps=>match ps with | [.int j]=>if -(2^62)<=j/\j<2^62 then some ((List.range j.toNat).map fun(i:Nat)=>.int (0+i))else none | _=>none
theorem O9{p:Pos}{ts:cg}(hg:Gl X "range")(hm:X.mg "range"=none)(ha:PA X [a] (tA X.K H₀ ae ts))(hs:starEach [a] X.env=[(false,eval a X.env)]:=by rfl):PI X tg (.Call (.Name "range" p) [a] [] pos) (tI X.K H₀ ae (ip ts)) :=
 (HP hg hm ha hs).imp <| by
  rintro σ H Rr ⟨F,ρ,ps,R,hf,q⟩
  obtain⟨as,h1,h2⟩:=aD hf;refine⟨F,ρ,as,R,h1,fun vs H1 F1 R1 s1 b1=>?_⟩
  match as,h2 with
  | [.int j],h2 =>
   obtain⟨hj,rfl⟩:=aU h2;obtain⟨v,r,rfl,bv,br⟩:=b1.cG;rw[br.cP,aN.mp bv];exact⟨j,rfl,hj.1,hj.2,q _ H1 F1 R1 s1 (Ei 0 j.toNat)⟩
end
section
variable {prog:bG} {w:aW} {A:bR} {R:Result->av->Prop} {s:av}
abbrev nb(prog:bG)(w:aW)(A:bR)(env:Env)(R:Result->av->Prop):cR:=notedBy (model prog w) A env fun e s'=>R (.error e) s'
abbrev Gv(ifs:List ao)(env:Env):Sem Bool:=forIn ifs true fun c r=>if r=true then do let ok <-isTrue c env (eval c env);pure (ForInStep.yield ok)else pure (ForInStep.yield r)
theorem Ik{elt tg iter:ao}{ifs:List ao}{scope:Scope}{pos:Pos}{it acc:ai}{env:Env}(I:Nat->av->Prop)
  (vt:∀n s,I n s->wpAny (model prog w) A (pyNext it) (fun r s1=>match r with
   | none=>R (.ok .next) s1
   | some v=>wpAny (model prog w) A (letOwnedTupleGo tg it v) (fun _ Wi=>wpAny (model prog w) A (assign tg env v) (fun _ s2=>wpAny (model prog w) A (Gv ifs env) (fun ok s3 =>
      if ok=true then wpAny (model prog w) A (eval elt env) (fun x s4=>wpAny (model prog w) A (call (.builtin "list.append") [acc,x]) (fun _ s5=>∃m,m<n/\I m s5) (nb prog w A env R) s4) (nb prog w A env R) s3
      else ∃m,m<n/\I m s3) (nb prog w A env R) s2) (nb prog w A env R) Wi) (nb prog w A env R) s1) (nb prog w A env R) s)
  (n:Nat) (h:I n s):codeAny (model prog w) A (.compLoop (.ListComp elt [⟨tg,iter,ifs,0⟩] scope pos) 0 it acc env) R s:=by
 refine codeAny_loop rfl I (fun n s hI=>?_) n h
 show wpAny _ A ((compTurn (.ListComp elt [⟨tg,iter,ifs,0⟩] scope pos) 0 it acc env).onRaise (fun x=>do noteFrame x env;theTreesLotGoes x)) _ _ s
 refine wpAny_noted ?_;rw[compTurn_list];refine au (wpAny_standAt (au (thn (vt n s hI) fun r s1 h1=>?_)))
 cases r with
 | none=>exact aJ h1
 | some v =>
  refine au (thn h1 fun _ Wi X7=>au (thn X7 fun _ s2 h2=>au (thn h2 fun ok s3 h3=>?_)))
  cases ok with
  | false=>exact aJ ⟨rfl,h3⟩
  | true=>exact au (au (thn h3 fun x s4 h4=>au (thn h4 fun _ s5 h5=>aJ (aJ ⟨rfl,h5⟩))))
end
def lq(env:Env):List (Str×NameKind)->List (Str×af)->List (Str×af)
 | [],cs=>cs
 | (n,k)::r,cs=>lq env r (if k==.free then(match env.cells.lookup n with | some c=>(n,c)::cs | none=>cs)else cs)
theorem uj{env:Env}{scope:Scope}(h:∀y∈scope.names,y.2=.free->∃c,env.cells.lookup y.1=some c):closureFor scope env=pure (lq env scope.names []):=by
 have all:∀(l:List (Str×NameKind)) (cs:List (Str×af)),(∀y∈l,y.2=.free->∃c,env.cells.lookup y.1=some c) ->
   (forIn l cs fun x r=>(match x with | (name,kind)=>if(kind==NameKind.free)=true then do let a <-cellOf env name;pure (ForInStep.yield ((name,a)::r))else pure (ForInStep.yield r):Sem (ForInStep (List (Str×af)))))=pure (lq env l cs):=by
  intro l;induction l with
  | nil=>intro cs _;rfl
  | cons y l ih =>
   intro cs hl;obtain⟨n,k⟩:=y;rw[List.forIn_cons];by_cases hk:k=.free
   ·subst hk;obtain⟨c,hc⟩:=hl (n,.free) cq rfl;have Aa:env.cells.lookup n=some c:=hc;have e1:cellOf env n=pure c:=by unfold cellOf;rw[Aa]
    simp only[pT,kJ,e1,pure_bind,lq,Aa];exact ih _ fun y hy=>hl y (cn _ hy)
   ·have hb:(k==NameKind.free)=false:=by simpa using hk
    simp only[hb,sy,kH,pure_bind,lq];exact ih _ fun y hy=>hl y (cn _ hy)
 unfold closureFor;have:=all scope.names [] h;simp only[bind_pure]at this ⊢;exact this
theorem A9{env:Env}:∀(l:List (Str×NameKind)) (cs:List (Str×af)) (p:Str×af),p∈lq env l cs->p∈cs\/env.cells.lookup p.1=some p.2
 | [],_,_,h=>.inl h
 | (n,k)::r,cs,p,h=>by
  unfold lq at h;rcases A9 r _ p h with q | q
  ·split at q
   ·split at q
    ·rename_i c hc;rcases bB.mp q with z | z
     ·subst z;exact .inr hc
     ·exact .inl z
    ·exact .inl q
   ·exact .inl q
  ·exact .inr q
theorem dh{env:Env}{l:List (Str×NameKind)}{x:Str}{c:af}(h:(lq env l []).lookup x=some c):env.cells.lookup x=some c:=by
 rcases A9 l [] (x,c) (eJ h)with q | q
 ·cases q
 ·exact q
theorem wI{env:Env}{x:Str}:∀(l:List (Str×NameKind)) (cs:List (Str×af)),(∃c,(x,c)∈cs)->∃c,(x,c)∈lq env l cs
 | [],_,h=>h
 | (n,k)::r,cs,⟨c,h⟩=>by
  unfold lq;refine wI r _ ⟨c,?_⟩;split
  ·split
   ·exact cn _ h
   ·exact h
  ·exact h
theorem lQ{env:Env}{x:Str}:∀(l:List (Str×NameKind)) (cs:List (Str×af)),(x,NameKind.free)∈l->(∃c,env.cells.lookup x=some c)->∃c,(x,c)∈lq env l cs
 | [],_,h,_=>by cases h
 | (n,k)::r,cs,h,hc=>by
  unfold lq;rcases bB.mp h with z | z
  ·cases z;obtain⟨c,e⟩:=hc;refine wI r _ ⟨c,?_⟩;simp[e]
  ·exact lQ r _ z hc
theorem j4{x:Str}{c:af}:∀{l:List (Str×af)},(x,c)∈l->∃c',l.lookup x=some c'
 | [],h=>by cases h
 | (n,d)::r,h=>by
  rw[jT];cases hx:x==n with
  | true=>exact⟨d,rfl⟩
  | false =>
   rcases bB.mp h with z | z
   ·cases z;simp at hx
   ·exact j4 z
def dq(X:Cx)(N:List Str)(scope:Scope)(C:af)(s:av)(H:Hp)(fp:List af):Cx where
 prog:=X.prog
 w:=X.w
 K:=X.K
 mg:=X.mg
 base:=X.base
 A:=X.A
 N:=N
 s₀:=s
 H₀:=H
 env:=compEnvC scope (lq X.env scope.names []) C X.env
 outer:=X.stack
 stack:=X.stack
 ex:=fp
 fn:=fun _=>false
 calm:=X.calm
 pn:=[]
 xe:=fun _ _=>False
theorem jl{env:Env}:∀(names:List (Str×NameKind)) (x:Str),(names.map fun(n,k)=>if(k==NameKind.free&&env.scope.kind==.function&&env.kindOf n==some .cell)then(n,NameKind.cell)else(n,k)).lookup x =
  (names.lookup x).map fun k=>if(k==NameKind.free&&env.scope.kind==.function&&env.kindOf x==some .cell)then NameKind.cell else k
 | [],_=>rfl
 | (n,j)::r,x=>by
  have e:(if(j==NameKind.free&&env.scope.kind==.function&&env.kindOf n==some .cell)=true then(n,NameKind.cell)else(n,j))=(n,if(j==NameKind.free&&env.scope.kind==.function&&env.kindOf n==some .cell)=true then NameKind.cell else j):=by split<;>rfl
  show List.lookup x ((if(j==NameKind.free&&env.scope.kind==.function&&env.kindOf n==some .cell)=true then(n,NameKind.cell)else(n,j))::_)=_
  rw[e,jT,jT];cases hx:x==n with
  | true =>
   have OX:x=n:=b6 hx;subst OX;rfl
  | false=>exact jl r x
theorem oD{env:Env}{names:List (Str×NameKind)}{x:Str}{k:NameKind}(h:(names.map fun(n,k)=>if(k==NameKind.free&&env.scope.kind==.function&&env.kindOf n==some .cell)then(n,NameKind.cell)else(n,k)).lookup x=some k) :
  names.lookup x=some k\/(k=.cell/\names.lookup x=some .free):=by
 rw[jl]at h;cases z:names.lookup x with
 | none=>rw[z]at h;cases h
 | some j =>
  rw[z]at h;have h:(if(j==NameKind.free&&env.scope.kind==.function&&env.kindOf x==some .cell)=true then NameKind.cell else j)=k:=bW h
  split at h
  ·rename_i hc;simp only[aZ]at hc;have hj:j=.free:=b6 hc.1.1;exact .inr ⟨h.symm,by rw[hj]⟩
  ·exact .inl (by rw[h])
theorem yu{env:Env}{names:List (Str×NameKind)}{x:Str}(h:names.lookup x=some .free) :
  (names.map fun(n,k)=>if(k==NameKind.free&&env.scope.kind==.function&&env.kindOf n==some .cell)then(n,NameKind.cell)else(n,k)).lookup x=some .cell \/
  (names.map fun(n,k)=>if(k==NameKind.free&&env.scope.kind==.function&&env.kindOf n==some .cell)then(n,NameKind.cell)else(n,k)).lookup x=some .free:=by
 rw[jl,h];show some (if _ then _ else _)=_\/some (if _ then _ else _)=_
 split
 ·exact .inl rfl
 ·exact .inr rfl
structure iq (X:Cx) (N:List Str) (link:List (Option Nat)) (scope:Scope):Prop where
 kind:scope.kind=.function
 cell:∀y∈scope.names,y.2≠.cell
 names:∀y∈scope.names,y.2=.local->scope.names.lookup y.1=some .local
 free:∀y∈scope.names,y.2=.free->(X.env.kindOf y.1=some .cell\/X.env.kindOf y.1=some .free)
 len:link.length=N.length
 link:∀(i j:Nat) (x:Str),link[i]?=some (some j)->N[i]?=some x->X.N[j]?=some x/\scope.names.lookup x=some .free
def inner(link:List (Option Nat))(σ:St):St:=link.map fun o=>o.bind fun j=>(σ[j]?).join
section
variable {X:Cx} {ag:List (af×Obj)} {σ:St} {H:Hp} {s:av}
theorem Inv.adopt{D:af}{o:HO}(I:Inv X ag σ H s)(hn:H D=none)(h1:X.s₀.heap.objs.size<=D)(h2:D≠X.env.locals)(h3:∀x c,X.env.cells.lookup x=some c->c≠D)(h4:∀p∈X.pn++ag,p.1≠D)
  (ho:fM X.prog X.w (eI H D o) s.heap D o):Inv X ag σ (eI H D o) s:=by
 have ne:∀b u,H b=some u->b≠D:=fun b u e z=>by rw[z,hn]at e;cases e
 refine I.step (h':=s.heap) (g':=s.gens) (t':=s.toks) (d':=s.drawn) (ch:=[D]) (fun b hb=>?_) (fun b u _ _ _ e _=>e) (fun b u _ _ _ e _=>⟨u.slots,e⟩) (fun b u hc _ n=>?_) (fun b u _ e=>⟨u,e⟩)
  (fun b xs e=>by rw[aX (ne b _ e)];exact e) (fun b u xs e=>by rw[aX (ne b _ e)];exact e) (fun b ps e=>by rw[aX (ne b _ e)];exact e) (fun m hm=>hm) (fun b u e=>?_) I.bare
 ·have e:b=D:=by simpa using hb
  subst e;exact⟨.inr h1,h2,h3,h4⟩
 ·rw[aX (fun z=>hc (by simp[z]))];exact n
 ·by_cases hb:b=D
  ·subst hb;rw[bo]at e;cases e;exact ho
  ·rw[aX hb]at e;exact(I.hok b u e).AA (fun _ _ _ q=>q) (fun c q=>by rw[aX (ne c _ q)];exact q) (fun c xs q=>by rw[aX (ne c _ q)];exact q) fun c ob v q=>by rw[aX (ne c _ q)];exact q
theorem Ej{N:List Str}{link:List (Option Nat)}{scope:Scope}{fp:List af}{C:af}{h:Heap}{tk:Nat}(S:iq X N link scope)(I:Inv X ag σ H s)(hfp:∀b∈fp,yc X ag H b)
  (hC:s.heap.objs.size<=C) (ns:h.Ns C fun _=>none) (hk:∀b o,s.heap.get? b=some o->h.get? b=some o) (hex:∀b∈fp,∃o,s.heap.get? b=some o) :
  Inv (dq X N scope C s H fp) [] (inner link σ) H {s with heap:=h,toks:=tk}:=by
 have tL:∀y∈scope.names,y.2=.free->∃c,X.env.cells.lookup y.1=some c:=fun y hy hf=>I.ok.has y.1 (S.free y hy hf)
 have ac1:∀x c,X.env.cells.lookup x=some c->c<s.heap.objs.size:=fun x c e=>let ⟨v,o,ho,_⟩:=I.cell x c e;bX ho
 refine⟨⟨I.ok.mod,S.kind,I.ok.glob,I.ok.blt,hC,fun x y c h1 h2=>I.ok.inj x y c (dh h1) (dh h2),fun x hx=>?_,fun x c hx=>(by cases hx),I.ok.hd,I.ok.frames,.inl rfl,fun b hb=>⟨?_,fun x c e=>(hfp b hb).2.2.2.2.1 x c (dh e)⟩,I.bs,cz I.ok.bsz I.sz,
  fun b o e hb=>?_,fun b hb z=>?_,I.stack,I.FZ,I.tabs⟩,rfl,I.bare,Un.kept hk,⟨_,ns,fun i x v e1 e2 e3=>?_⟩,fun x c e=>?_,I.hok.fresh hC,fun x c e=>I.freeC x c (dh e),fun p hp=>(by cases hp),I.hok.kept hk,by unfold inner;rw[aE];exact S.len⟩
 ·-- RC cells are there
  have OX:(scope.names.map fun(n,k)=>if(k==NameKind.free&&X.env.scope.kind==.function&&X.env.kindOf n==some .cell)then(n,NameKind.cell)else(n,k)).lookup x=some .cell\/(scope.names.map fun(n,k)=>if(k==NameKind.free&&X.env.scope.kind==.function&&X.env.kindOf n==some .cell)then(n,NameKind.cell)else(n,k)).lookup x=some .free:=hx
  have hf:scope.names.lookup x=some .free:=by
   rcases OX with h1 | h1
   ·rcases oD h1 with q | ⟨_,q⟩
    ·exact absurd rfl (S.cell _ (eJ q))
    ·exact q
   ·rcases oD h1 with q | ⟨z,_⟩
    ·exact q
    ·cases z
  have hm:=eJ hf;obtain⟨c,hc⟩:=lQ scope.names [] hm (tL _ hm rfl);exact j4 hc
 ·intro z;obtain⟨o,ho⟩:=hex b hb;exact absurd (dy (bX ho) (cz hC (nv z.symm))) (jh _)
 ·rcases(hfp b hb).2.2.2.1 with z | z
  ·exact I.ok.noex b o e z
  ·exact absurd (dy (bX e) (cz I.ok.bsz z)) (jh _)
 ·rcases bB.mp (I.DO b z)with q | q
  ·exact(hfp b hb).2.1 q
  ·exact(hfp b hb).2.2.1 q
 ·-- a slot: ae9 agL from RC ac2
  have hi:i<link.length:=by
   have:=(fU.mp e2).1;unfold inner at this
   rwa [aE]at this
  unfold inner at e2;rw[cu,cJ hi]at e2;have e2:(link[i].bind fun j=>(σ[j]?).join)=some v:=bW e2
  cases z:link[i]with
  | none=>rw[z]at e2;cases e2
  | some j =>
   rw[z]at e2;have e2:(σ[j]?).join=some v:=e2;have e4:σ[j]?=some (some v):=by
    cases q:σ[j]? with
    | none=>rw[q]at e2;cases e2
    | some q'=>rw[q]at e2;cases q' with
     | none=>cases e2
     | some v'=>cases e2;rfl
   obtain⟨hX,hf⟩:=S.link i j x (by rw[cJ hi,z]) e1
   have hm:=eJ hf;have hk2:=S.free _ hm rfl;obtain⟨m,hn,hl⟩:=I.loc;obtain⟨u,r,l⟩:=hl j x v hX e4 (by rcases hk2 with q | q;exact .inr (.inl q);exact .inr (.inr q))
   refine⟨u,r,.inr ⟨yu hf,?_⟩⟩;obtain⟨c,hc⟩:=lQ (env:=X.env) scope.names [] hm (tL _ hm rfl);obtain⟨c',Aa⟩:=j4 hc;refine⟨c',Aa,?_⟩;rcases l with⟨lk,_⟩ | ⟨_,d,hd,lM⟩
   ·rcases hk2 with q | q<;>(rw[show X.env.kindOf x=some .local from lk]at q;cases q)
   ·have:=dh Aa;rw[hd]at this;cases this;exact lM.keeps hk
 ·obtain⟨v,o,ho,hd⟩:=I.cell x c (dh e);exact⟨v,o,hk _ _ ho,hd⟩
end
abbrev TB:=V->St->Hp->(Option V->St->Hp->Prop)->Prop
def PB(X:Cx)(tg:ao)(ifs:List ao)(elt:ao)(tb:TB):Prop :=
 ∀(ag:List (af×Obj)) (s:av) (σ:St) (H:Hp) (v:V) (u:ai) (Q:Option V->St->Hp->Prop),Inv X ag σ H s->RelV v u->tb v σ H Q ->
  wpAny (model X.prog X.w) X.A (assign tg X.env u) (fun _ s2=>wpAny (model X.prog X.w) X.A (Gv ifs X.env) (fun ok s3 =>
   if ok=true then wpAny (model X.prog X.w) X.A (eval elt X.env) (fun y s4=>∃v' dt H',Inv X ag dt H' s4/\RelV v' y/\Q (some v') dt H') X.xe s3
   else ∃dt H',Inv X ag dt H' s3/\Q none dt H') X.xe s2) X.xe s
theorem Ba{X:Cx}{tg elt:ao}{g:TG}{te:TE}(hg:PG X tg g)(he:PE X elt te):PB X tg [] elt (fun v σ H Q=>g v σ H fun mQ H1=>te mQ H1 fun y H2=>Q (some y) mQ H2):=by
 intro ag s σ H v u Q I r h;refine thn (hg ag s σ H v u _ I r h) fun _ s2 ⟨mQ,H1,I1,q1⟩=>aJ ?_
 rw[if_pos rfl];exact thn (he ag s2 mQ H1 _ I1 q1) fun y s4 ⟨v',H2,I2,r2,q2⟩=>⟨v',mQ,H2,I2,r2,q2⟩
theorem Gw{X:Cx}{tg elt c:ao}{g:TG}{te:TE}{tc:TT}(hg:PG X tg g)(hc:PT X c tc)(he:PE X elt te) :
  PB X tg [c] elt (fun v σ H Q=>g v σ H fun mQ H1=>tc mQ H1 fun b H2=>if b=true then te mQ H2 fun y H3=>Q (some y) mQ H3 else Q none mQ H2):=by
 intro ag s σ H v u Q I r h;refine thn (hg ag s σ H v u _ I r h) fun _ s2 ⟨mQ,H1,I1,q1⟩=>?_
 refine wpAny_tests_one (thn (hc ag s2 mQ H1 _ I1 q1) fun b s3 ⟨H2,I2,q2⟩=>?_)
 cases b with
 | true =>
  rw[if_pos rfl]at q2 ⊢;exact thn (he ag s3 mQ H2 _ I2 q2) fun y s4 ⟨v',H3,I3,r3,q3⟩=>⟨v',mQ,H3,I3,r3,q3⟩
 | false =>
  rw[if_neg je]at q2 ⊢;exact⟨mQ,H2,I2,q2⟩
def wJ(link:List (Option Nat))(wi:TI)(tb:TB):TE:=fun σ H Q=>wi σ H fun J H1=>∃W:Nat->Nat->List V->St->Hp->Prop,(∃m,W 0 m [] (inner link σ) H1)/\∀i m acc dt H',W i m acc dt H' ->
 (J.stop i H'/\acc.length<=sizeLine/\∀D,H' D=none->Q (.ref D) (eI H' D (.aq acc))) \/
 (J.go i H'/\acc.length<sizeLine/\∀x H2,J.yld i H' x H2->tb x dt H2 fun o tV H3=>∃m',m'<m/\W (i+1) m' (acc++o.toList) tV H3)
structure ac3 (X:Cx) (ag:List (af×Obj)) (H:Hp) (C:af):Prop where
 free:H C=none
 above:X.s₀.heap.objs.size<=C
 loc:C≠X.env.locals
 cell:∀x c,X.env.cells.lookup x=some c->c≠C
 pin:∀p∈X.pn++ag,p.1≠C
theorem wK{X:Cx}{N:List Str}{link:List (Option Nat)}{scope:Scope}{tg iter elt:ao}{ifs:List ao}{pos iz:Pos}{wi:TI}{tb:TB}{use:Option (ai->Sem Unit)}{Q':cR}{ag:List (af×Obj)}{s:av}{σ:St}{H:Hp}{Q:VK}(hc:X.calm=true)(S:iq X N link scope)(hi:PI X tg iter wi)
  (hb:∀(C:af) (s:av) (H:Hp) (fp:List af),PB (dq X N scope C s H fp) tg ifs elt tb) (hs:∀x,foldedSetIterable iter X.env x=pure x) (I:Inv X ag σ H s) (h:wJ link wi tb σ H Q)
  (ac4:∀(s5:av) (D C:af) (H5:Hp) (m:ee),Inv X ag σ H5 s5->Q (.ref D) H5->s5.heap.Ns C m->ac3 X ag H5 C->compPost (model X.prog X.w) X.A X.xe use Q' (.ref D) C (.ok .next) s5) :
  wpAny (model X.prog X.w) X.A (comprehension (.ListComp elt [⟨tg,iter,ifs,0⟩] scope pos) scope X.env iz (newList []) false (eval iter X.env) use) Q' X.xe s:=by
 have tL:∀y∈scope.names,y.2=.free->∃c,X.env.cells.lookup y.1=some c:=fun y hy hf=>I.ok.has y.1 (S.free y hy hf)
 refine wpAny_comprehension_free (use:=use) rfl hs (uj tL) S.kind S.names (thn (hi ag s σ H _ I h) fun v s1 h1=>thn h1 fun itv s2 h2=>?_)
 obtain⟨it,fp,tn,J,H2,rfl,I2,T,st2,f2,W,⟨m0,w0⟩,vt⟩:=h2;refine jQ (wpAny_newFunctionEnv S.cell (by intro y hy;simp at hy) (fun Ia ns sb=>?_) S.kind)
 dsimp only at ns sb ⊢
 generalize hD:s2.heap.push {cls:=.type "list",dict:=none,data:=.seq ([]:cj).toArray}=HD at ns sb ⊢
 have hC:HD.objs.size=s2.heap.objs.size+1:=by rw[<-hD,sL]
 have hDC:s2.heap.objs.size≠HD.objs.size:=by rw[hC];exact cX (DB _)
 have LG:s2.heap.objs.size<=HD.objs.size:=by rw[hC];exact sQ _
 have old:∀b o,s2.heap.get? b=some o->Ia.get? b=some o:=fun b o e=>by
  have hJ:=bX e;exact sb.extBut b o (cX (dy hJ LG)) (cD _ (by rw[<-hD];exact cD _ e))
 have ac5:Ia.get? s2.heap.objs.size=some {cls:=.type "list",data:=.seq ([]:cj).toArray} :=
  sb.extBut _ _ hDC (cD _ (by rw[<-hD];exact d3 _ rfl))
 generalize eD:s2.heap.objs.size=D at *
 generalize eC:HD.objs.size=C at *
 have exO:∀b∈fp,∃o,s2.heap.get? b=some o:=fun b nY=>let ⟨o,e,_⟩:=T.obj _ _ st2 b nY;⟨o,e⟩
 have I3:∀tk,Inv (dq X N scope C s2 H2 fp) [] (inner link σ) H2 {s2 with heap:=Ia,toks:=tk}:=fun tk =>
  Ej S I2 f2 (by rw[eD];exact LG) ns old exO
 have fpD:∀b∈fp,b≠D:=fun b nY z=>by
  obtain⟨o,e⟩:=exO b nY;have:=bX e;rw[z,<-eD]at this;exact jh _ this
 have DT:∀{H':Hp} {pl:List (af×Obj)},(∀b∈fp,H' b=none)->(∀p∈pl,p.1=D)->∀b∈fp,yc (dq X N scope C s2 H2 fp) pl H' b:=fun {H' pl} hn hp b nY=>by
  have K0:=(I3 0).ok.exf b nY;exact⟨hn b nY,K0.1,(I3 0).ok.exfs b nY,.inl nY,K0.2,fun p AZ z=>fpD b nY (z▸hp p (by simpa[dq]using AZ))⟩
 have X8:∀x c,(dq X N scope C s2 H2 fp).env.cells.lookup x=some c->c≠D:=fun x c e z=>by
  obtain⟨v,o,ho,_⟩:=I2.cell x c (dh e);have:=bX ho;rw[z,<-eD]at this;exact jh _ this
 have fsD:D∉(dq X N scope C s2 H2 fp).fs:=fun z=>by
  obtain⟨_,o,ho,_⟩:=I2.stack.mem z;have:=bX ho;rw[<-eD]at this;exact jh _ this
 have loop:∀s3:av,s3={s2 with heap:=Ia,toks:=s2.toks+([]:List (Str×ai)).length} ->
   codeAny (model X.prog X.w) X.A (.compLoop (.ListComp elt [⟨tg,iter,ifs,0⟩] scope pos) 0 (.ref it) (.ref D) (dq X N scope C s2 H2 fp).env) (compPost (model X.prog X.w) X.A X.xe use Q' (.ref D) C) s3:=by
  rintro s3 rfl
  refine Ik (fun n s'=>∃i acc dt H' bg nn,Inv (dq X N scope C s2 H2 fp) [] dt H' s'/\tn i s'.heap/\(∀b∈fp,H' b=none)/\H' D=none/\s'.heap.get? D=some {cls:=.type "list",data:=.seq (bg:cj).toArray nn}/\Vals acc bg/\W i n acc dt H') ?_ m0
   ⟨0,[],_,H2,[],0,I3 _,T.keep _ _ _ st2 fun b nY o e=>old b o e,fun b nY=>(f2 b nY).1,I2.hok.fresh (nv eD),ac5,.nil,w0⟩
  rintro n s4 ⟨i,acc,O8,H4,bg,nn,I4,qO,fr4,hD4,Lj,hv,w4⟩
  have X9:Inv (dq X N scope C s2 H2 fp) [(D,{cls:=.type "list",data:=.seq bg.toArray nn})] O8 H4 s4:=I4.ou fun p hp=>by
   have e:p=(D,{cls:=.type "list",data:=.seq bg.toArray nn}):=by simpa using hp
   subst e;exact⟨Lj,hD4,hDC,fsD,fun v=>by simp⟩
  have LH:∀p∈[(D,({cls:=.type "list",data:=.seq bg.toArray nn}:Obj))],p.1=D:=fun p hp=>by
   have e:p=(D,{cls:=.type "list",data:=.seq bg.toArray nn}):=by simpa using hp
   rw[e]
  rcases vt i n acc O8 H4 w4 with⟨stop,hz,q⟩ | ⟨go,hz,step⟩
  ·refine thn (T.done (dq X N scope C s2 H2 fp) rfl rfl rfl hc i _ s4 O8 H4 _ X9 (DT fr4 LH) qO stop) fun r s5 ⟨hr,I5⟩=>?_
   subst hr;obtain⟨m,hn,_⟩:=I5.loc;have pD:=I5.pin (D,{cls:=.type "list",data:=.seq bg.toArray nn}) (dZ _ (cW.mpr rfl))
   have lt2:∀b o,s2.heap.get? b=some o->b≠D/\b≠C:=fun b o e=>by
    have:=bX e;rw[eD]at this;exact⟨cX this,cX (dy this LG)⟩
   have R9:X.env.locals≠D/\X.env.locals≠C:=by
    have:=I2.lt;rw[eD]at this;exact⟨cX this,cX (dy this LG)⟩
   have I6:Inv X ag σ H4 s5:=I2.WV I5.os I5.base I5.hok I5.bare fun b nY=>⟨(f2 b nY).2.2.2.1,(f2 b nY).2.1,(f2 b nY).2.2.2.2.1,(f2 b nY).2.2.2.2.2⟩
   have I7:=Inv.adopt (D:=D) (o:=.aq acc) I6 pD.2.1 (cz I2.sz (nv eD)) (eP R9.1) (fun x c e=>let ⟨v,o,ho,_⟩:=I2.cell x c e;(lt2 c o ho).1)
    (fun p hp=>(lt2 p.1 p.2 (I2.pin p hp).1).1) ⟨hz,bg,nn,hv,pD.1⟩
   exact ac4 s5 D C _ m I7 (q D pD.2.1) hn ⟨by rw[aX (eP hDC)];exact I5.free,cz (cz I2.sz (nv eD)) LG,eP R9.2,fun x c e=>let ⟨v,o,ho,_⟩:=I2.cell x c e;(lt2 c o ho).2,fun p hp=>(lt2 p.1 p.2 (I2.pin p hp).1).2⟩
  ·refine thn (T.item (dq X N scope C s2 H2 fp) rfl rfl rfl hc i _ s4 O8 H4 _ X9 (DT fr4 LH) qO go) fun r s5 ⟨u,hr,h5⟩=>?_
   subst hr;refine thn h5 fun _ s5' ⟨x,H5,I5,r5,y5,Tw,fr5⟩=>?_
   have I5':=I5.pinned (DT fr5 LH) (T.obj _ _ Tw);have fin:∀{o:Option V} {Z9:St} {H6:Hp} {s6:av},Inv (dq X N scope C s2 H2 fp) ([(D,{cls:=.type "list",data:=.seq bg.toArray nn})]++tW fp s5'.heap) Z9 H6 s6 ->
     tn (i+1) s6.heap/\(∀b∈fp,H6 b=none)/\H6 D=none/\s6.heap.get? D=some {cls:=.type "list",data:=.seq bg.toArray nn}:=fun {o Z9 H6 s6} I6=>by
    have pD:=I6.pin (D,_) (dZ _ (kz _ (cW.mpr rfl)));refine⟨T.keep _ _ _ Tw fun b nY o e=>(I6.pin (b,o) (dZ _ (dZ _ (kK nY e)))).1,fun b nY=>?_,pD.2.1,pD.1⟩
    obtain⟨o,e,d⟩:=T.obj _ _ Tw b nY;exact(I6.pin (b,o) (dZ _ (dZ _ (kK nY e)))).2.1
   refine lI (hb C s2 H2 fp _ s5' O8 H5 x u _ I5' r5 (step x H5 y5)) (fun _ s6 h6=>lI h6 (fun ok s7 h7=>?_) fun _ _ z=>False.elim z) fun _ _ z=>False.elim z
   cases ok with
   | false =>
    rw[if_neg je]at h7 ⊢;obtain⟨σ8,H8,I8,m',hm',w8⟩:=h7;obtain⟨a1,a2,a3,a4⟩:=fin (o:=none) I8;exact⟨m',hm',i+1,_,σ8,H8,bg,nn,I8.ou (fun p hp=>by cases hp),a1,a2,a3,a4,by simpa using hv,w8⟩
   | true =>
    rw[if_pos rfl]at h7 ⊢;refine lI h7 (fun y s8 ⟨v8,σ8,H8,I8,r8,m',hm',w8⟩=>?_) fun _ _ z=>False.elim z
    obtain⟨a1,a2,a3,a4⟩:=fin (o:=some v8) I8;have hl:=hv.length;refine pW F.slot_list_append ⟨_,a4,rfl⟩ F.entry_list_append (F.args_list_append_2 _ _) (PySem.list_append D bg.toArray nn y (by rw[bJ];lia)) ⟨a4,?_⟩
    have I9:Inv (dq X N scope C s2 H2 fp) [] σ8 H8 s8:=I8.ou (fun p hp=>by cases hp)
    have qq:=PySem.IsL.update a4 fun z=>z.push y
    have hp:bg.toArray.push y=(bg++[y]).toArray:=by simp
    rw[hp]at qq;refine⟨m',hm',i+1,_,σ8,H8,bg++[y],_,I9.turned (it:=D) (fun b o hne e=>(De _ _ (eP hne)).trans e) a3 hDC (.inr (nv eD)) X8 (fun p hp=>by simp[dq]at hp),T.keep _ _ _ a1 fun b nY o e=>(De _ _ (eP (fpD b nY))).trans e,a2,a3,qq,hv.append (.cons r8 .nil),w8⟩
 exact codeAny_compStart_list (loop _ rfl) (T.self _ 0 _ _ _ (T.keep _ _ _ st2 fun b nY o e=>old b o e) (loop _ rfl))
theorem Gx{X:Cx}{N:List Str}{link:List (Option Nat)}{scope:Scope}{tg iter elt:ao}{ifs:List ao}{pos:Pos}{wi:TI}{tb:TB}(hc:X.calm=true)(S:iq X N link scope)(hi:PI X tg iter wi)
  (hb:∀(C:af) (s:av) (H:Hp) (fp:List af),PB (dq X N scope C s H fp) tg ifs elt tb) (hs:∀x,foldedSetIterable iter X.env x=pure x:=by intro _;rfl) :
  PE X (.ListComp elt [⟨tg,iter,ifs,0⟩] scope pos) (wJ link wi tb):=by
 intro ag s σ H Q I h;rw[eval_ListComp];refine wK hc S hi hb hs I h fun s5 D C H5 m I5 q hn L=>⟨m,hn,fun h' sb=>?_⟩
 exact⟨.ref D,H5,I5.turned (t':=s5.toks) (it:=C) (fun b o hne e=>(sb.2 b hne).trans e) L.free L.loc (.inr L.above) L.cell L.pin,rfl,q⟩
theorem Gy{X:Cx}{N:List Str}{link:List (Option Nat)}{scope:Scope}{tg iter elt:ao}{ifs:List ao}{pos iz vz:Pos}{wi:TI}{tb:TB}{i:Nat}{x:Str}(hc:X.calm=true)(hN:X.N.Nodup)(hx:X.N[i]?=some x)(hl:X.env.scope.names.lookup x=some .local)(S:iq X N link scope)(hi:PI X tg iter wi)
  (hb:∀(C:af) (s:av) (H:Hp) (fp:List af),PB (dq X N scope C s H fp) tg ifs elt tb) (hw:swapsWith (.ListComp elt [⟨tg,iter,ifs,0⟩] scope pos) (some (.Name x iz)) vz.line X.env=pure true) (hs:∀x,foldedSetIterable iter X.env x=pure x:=by intro _;rfl) :
  PS X (.Assign [.Name x iz] (.ListComp elt [⟨tg,iter,ifs,0⟩] scope pos) vz) (ri (wJ link wi tb) (gName i)):=by
 intro ag s σ H D I h;rw[exec_Assign_Name_used _ _ _ _ hw];refine au (wpAny_standAt (au ?_));show wpAny _ X.A (do let _ <-comprehension (.ListComp elt [⟨tg,iter,ifs,0⟩] scope pos) scope X.env _ (newList []) false (eval iter X.env) (some (assign (.Name x iz) X.env))) _ _ s
 refine au (thn (wK (use:=some (assign (.Name x iz) X.env)) (Q':=fun _ s'=>SP X ag D .next s') hc S hi hb hs I h fun s5 a C H5 m I5 q hn L=>?_) fun _ s' q=>aJ (aJ q))
 show wpAny _ X.A (assign (.Name x iz) X.env (.ref a)) _ _ s5;refine wpAny_assign_Name (store_ok2 (v:=.ref a) I5 hN hx (.inl hl) rfl (fun s6 I6 k=>?_) (.inr hl))
 refine⟨m,?_,fun h' sb=>?_⟩
 ·obtain⟨o,es,ep,ho,r⟩:=hn;obtain⟨b,sb1,hor⟩:=k;have ne:C≠b:=fun z=>by
   rcases hor with w | w
   ·exact L.loc (z.trans w)
   ·exact L.cell x b w z.symm
  exact⟨o,es,ep,(sb1.2 C ne).trans ho,r⟩
 ·exact⟨_,H5,I6.turned (t':=s6.toks) (it:=C) (fun b o hne e=>(sb.2 b hne).trans e) L.free L.loc (.inr L.above) L.cell L.pin,q⟩
def lT(bd:PV->Option b8):az->Option az
 | []=>some []
 | p::ps=>(bd p).bind fun o=>(lT bd ps).map fun r=>o.toList++r
def j5{α β:Type}(f:α->Option β):List α->Option (List β)
 | []=>some []
 | p::ps=>(f p).bind fun o=>(j5 f ps).map fun r=>o::r
def bL(link:List (Option Nat))(ρ:aI):aI:=link.map fun o=>match o with
 | none=>.un
 | some j=>match ρ[j]? with | some (.val p)=>.val p | some (.ob o)=>.ob o | _=>.un
def KG(L:List Nat)(g:gJ):Prop:=∀p ρ fX,g p ρ=some fX->fX.length=ρ.length/\∀j:Nat,j∉L->fX[j]?=ρ[j]?
def Yb(L:List Nat)(g:az->aI->Option aI):Prop:=∀p ρ fX,g p ρ=some fX->fX.length=ρ.length/\∀j:Nat,j∉L->fX[j]?=ρ[j]?
theorem Pb(i:Nat):KG [i] (aj i):=fun p ρ fX h=>by
 obtain⟨_,rfl⟩:=aU h;exact⟨kG,fun j hj=>b9 (fun z=>hj (by simp[z]))⟩
theorem Pc:Yb [] cI:=fun p ρ fX h=>by
 cases p with
 | nil=>cases h;exact⟨rfl,fun _ _=>rfl⟩
 | cons _ _=>cases h
theorem LI{L M:List Nat}{g:gJ}{r:az->aI->Option aI}(h1:KG L g)(h2:Yb M r):Yb (L++M) (aw g r):=fun p ρ fX h=>by
 cases p with
 | nil=>cases h
 | cons p ps =>
  obtain⟨vm,e1,e2⟩:=aD h;obtain⟨l1,k1⟩:=h1 p ρ vm e1;obtain⟨l2,k2⟩:=h2 ps vm fX e2;exact⟨l2.trans l1,fun j hj=>(k2 j fun z=>hj (dZ _ z)).trans (k1 j fun z=>hj (kz _ z))⟩
theorem Uw{L:List Nat}{n:Nat}{r:az->aI->Option aI}(h:Yb L r):KG L (cM n r):=fun p ρ fX e=>by
 cases p with
 | aA ps =>
  have e:(if ps.length=n then r ps ρ else none)=some fX:=e
  by_cases hl:ps.length=n
  ·rw[if_pos hl]at e;exact h ps ρ fX e
  ·rw[if_neg hl]at e;cases e
 | _=>cases e
section
variable {K:ak} {H₀ ae F H:Hp} {ρ:aI} {σ:St}
theorem dM{link:List (Option Nat)}{i:Nat}{e:Ent}(h:(bL link ρ)[i]?=some e):e=.un\/(∃j p,link[i]?=some (some j)/\ρ[j]?=some (.val p)/\e=.val p)\/∃j o,link[i]?=some (some j)/\ρ[j]?=some (.ob o)/\e=.ob o:=by
 unfold bL at h;rw[cu]at h;cases z:link[i]? with
 | none=>rw[z]at h;cases h
 | some o =>
  rw[z]at h;cases o with
  | none=>cases h;exact .inl rfl
  | some j =>
   have h:(match ρ[j]? with | some (.val p)=>Ent.val p | some (.ob o)=>.ob o | _=>.un)=e:=bW h
   cases q:ρ[j]? with
   | none=>rw[q]at h;exact .inl h.symm
   | some w =>
    rw[q]at h;cases w with
    | val p=>exact .inr (.inl ⟨j,p,rfl,q,h.symm⟩)
    | ob p=>exact .inr (.inr ⟨j,p,rfl,q,h.symm⟩)
    | un=>exact .inl h.symm
    | own _=>exact .inl h.symm
    | ex _=>exact .inl h.symm
    | gE _=>exact .inl h.symm
theorem dI.inner(R:dI K H₀ ae F ρ σ H)(link:List (Option Nat)):dI K H F F (bL link ρ) (inner link σ) H where
 sub:=R.sub
 keep:=Same.refl _
 base:=Same.refl _
 fresh:=fun a o e=>.inl e
 val:=fun i p e=>by
  rcases dM e with z | ⟨j,q,h1,h2,h3⟩ | ⟨j,q,h1,h2,h3⟩
  ·cases z
  ·cases h3;obtain⟨v,e1,b1⟩:=R.val j _ h2;refine⟨v,?_,b1⟩;unfold L2.PL.inner;rw[cu,h1];show some ((σ[j]?).join)=_;rw[e1];rfl
  ·cases h3
 own:=fun i ps e=>by
  rcases dM e with z | ⟨j,q,h1,h2,h3⟩ | ⟨j,q,h1,h2,h3⟩
  ·cases z
  ·cases h3
  ·cases h3
 apart:=fun i j ps qs a e=>by
  rcases dM e with z | ⟨j,q,h1,h2,h3⟩ | ⟨j,q,h1,h2,h3⟩
  ·cases z
  ·cases h3
  ·cases h3
 obs:=fun i p e=>by
  rcases dM e with z | ⟨j,q,h1,h2,h3⟩ | ⟨j,q,h1,h2,h3⟩
  ·cases z
  ·cases h3
  ·cases h3;obtain⟨v,e1,b1⟩:=R.obs j _ h2;refine⟨v,?_,b1⟩;unfold L2.PL.inner;rw[cu,h1];show some ((σ[j]?).join)=_;rw[e1];rfl
 gE:=fun i ps e=>by
  rcases dM e with z | ⟨j,q,h1,h2,h3⟩ | ⟨j,q,h1,h2,h3⟩
  ·cases z
  ·cases h3
  ·cases h3
 len:=by unfold bL L2.PL.inner;rw[aE,aE]
theorem dI.cY{link:List (Option Nat)}{fX:aI}{L:List Nat}(R:dI K H₀ ae F fX σ H)(hl:fX.length=(bL link ρ).length)(hk:∀j:Nat,j∉L->fX[j]?=(bL link ρ)[j]?)(hL:∀i∈L,link[i]?=some none):dI K H₀ ae F (bL link ρ) σ H where
 sub:=R.sub
 keep:=R.keep
 base:=R.base
 fresh:=R.fresh
 val:=fun i p e=>by
  have hi:i∉L:=fun z=>by
   rcases dM e with q | ⟨j,q,h1,h2,h3⟩ | ⟨j,q,h1,h2,h3⟩
   ·cases q
   ·rw[hL i z]at h1;cases h1
   ·rw[hL i z]at h1;cases h1
  exact R.val i p ((hk i hi).trans e)
 own:=fun i ps e=>by
  rcases dM e with z | ⟨j,q,h1,h2,h3⟩ | ⟨j,q,h1,h2,h3⟩
  ·cases z
  ·cases h3
  ·cases h3
 apart:=fun i j ps qs a e=>by
  rcases dM e with z | ⟨j,q,h1,h2,h3⟩ | ⟨j,q,h1,h2,h3⟩
  ·cases z
  ·cases h3
  ·cases h3
 obs:=fun i p e=>by
  have hi:i∉L:=fun z=>by
   rcases dM e with q | ⟨j,q,h1,h2,h3⟩ | ⟨j,q,h1,h2,h3⟩
   ·cases q
   ·rw[hL i z]at h1;cases h1
   ·rw[hL i z]at h1;cases h1
  exact R.obs i p ((hk i hi).trans e)
 gE:=fun i ps e=>by
  rcases dM e with z | ⟨j,q,h1,h2,h3⟩ | ⟨j,q,h1,h2,h3⟩
  ·cases z
  ·cases h3
  ·cases h3
 len:=hl.symm.trans R.len
end
def dX(link:List (Option Nat))(fi:cg)(g:gJ)(fe:FE):cg:=fun ρ=>(fi ρ).bind fun ps=>if ps.length<=iB then j5 (fun p=>(g p (bL link ρ)).bind fe) ps else none
def fP(link:List (Option Nat))(fi:cg)(g:gJ)(ft:fA)(fe:FE):cg:=fun ρ=>(fi ρ).bind fun ps=>if ps.length<=iB then
 lT (fun p=>(g p (bL link ρ)).bind fun fX=>(ft fX).bind fun b=>if b=true then(fe fX).map some else some none) ps else none
theorem wL(f:PV->b8):∀ps,lT (fun p=>(f p).map some) ps=j5 f ps
 | []=>rfl
 | p::ps=>by
  unfold lT j5;rw[wL f ps];cases f p<;>rfl
theorem aQ{α:Type}{c:Prop} [Decidable c] {x:Option α} {y:α} (h:(if c then x else none)=some y):c/\x=some y:=by
 by_cases hc:c
 ·rw[if_pos hc]at h;exact⟨hc,h⟩
 ·rw[if_neg hc]at h;cases h
section
variable {X:Cx} {H₀ ae:Hp} {N:List Str} {link:List (Option Nat)} {scope:Scope} {tg iter elt c:ao} {pos:Pos} {fi:cg} {g:gJ} {fe:FE} {ft:fA} {L:List Nat}
theorem Bb{tb:TB}{bd:aI->PV->Option b8}{σ:St}{H:Hp}{Q:VK}
  (hb:∀(H1 F1 F2:Hp) (ρ:aI) (p:PV) (o:b8) (x:V) (dt:St) (H2:Hp) (Q':Option V->St->Hp->Prop),bd ρ p=some o->dI X.K H1 F1 F2 (bL link ρ) dt H2->dB X.K F2 p x ->
   (∀o' tV H3 F3,dI X.K H1 F1 F3 (bL link ρ) tV H3->Same F2 F3->bC X.K F3 o.toList (Option.toList o')->Q' o' tV H3)->tb x dt H2 Q')
  (h:tF X.K H₀ ae (fun ρ=>(fi ρ).bind fun ps=>if ps.length<=iB then lT (bd ρ) ps else none) σ H Q):wJ link (tI X.K H₀ ae fi) tb σ H Q:=by
 obtain⟨F,ρ,rs,R,hf,q⟩:=h;obtain⟨ps,h1,h2⟩:=aD hf;obtain⟨dQ,h3⟩:=aQ h2;refine⟨F,ρ,ps,R,h1,fun J H1 F1 R1 s1 wk=>?_⟩
 refine⟨fun i m acc dt H'=>m=ps.length-i/\i<=ps.length/\acc.length<=i/\∃F' done rest,dI X.K H1 F1 F' (bL link ρ) dt H'/\lT (bd ρ) (ps.drop i)=some rest/\done++rest=rs/\bC X.K F' done acc,
  ⟨ps.length,rfl,gO _,aV _,F1,[],rs,R1.inner link,h3,rfl,.nil⟩,?_⟩
 rintro i m acc dt H' ⟨rfl,hi,ha,F',done,rest,R',hr,hd,X4⟩
 obtain⟨wg,wst⟩:=wk H1 F1 F' (bL link ρ) dt H' R' R'.base i;by_cases hJ:i<ps.length
 ·have hdr:ps.drop i=ps[i]::ps.drop (i+1):=C5 hJ;rw[hdr]at hr;obtain⟨o,e1,e2⟩:=aD hr;cases z:lT (bd ρ) (ps.drop (i+1))with
  | none=>rw[z]at e2;cases e2
  | some r2 =>
   rw[z]at e2;cases e2;obtain⟨go,wy⟩:=wg ps[i] (cJ hJ);refine .inr ⟨go,kA (cz ha hi) (kA dQ (by decide)),fun x H2 y=>?_⟩
   obtain⟨F2,R2,s2,b2⟩:=wy x H2 y;refine hb H1 F1 F2 ρ ps[i] o x dt H2 _ e1 R2 b2 fun o' tV H3 F3 R3 s3 b3=>⟨ps.length-(i+1),by lia,rfl,hJ,?_,F3,done++o.toList,r2,R3,z,by rw[<-hd,d8],(X4.mono (s2.trans s3)).append b3⟩
   rw[bU];cases o'<;>simp <;> lia
 ·have e:i=ps.length:=by lia
  subst e;rw[sH]at hr;cases hr;rw[iP]at hd;subst hd;refine .inl ⟨wst (pO (aV _)),cz ha (ik dQ),fun D hn=>?_⟩
  exact q D acc H' F' (R1.after R'.keep R'.base R'.sub R'.fresh) (s1.trans R'.base) X4 hn
theorem yv{α:Type}{tb:α->TB}{ifs:List ao}(h:∀b,PB X tg ifs elt (tb b)):PB X tg ifs elt (fun v σ H Q=>∃b,tb b v σ H Q):=fun ag s σ H v u Q I r ⟨b,hw⟩=>h b ag s σ H v u Q I r hw
theorem lU{σ:St}{H:Hp}{Q:VK}(hg:KG L g)(hL:∀i∈L,link[i]?=some none)(h:tF X.K H₀ ae (dX link fi g fe) σ H Q) :
  wJ link (tI X.K H₀ ae fi) (fun v σ H Q=>∃b:Hp×Hp,tG X.K b.1 b.2 g v σ H fun mQ H1=>tE X.K b.1 b.2 fe mQ H1 fun y H2=>Q (some y) mQ H2) σ H Q:=by
 refine Bb (bd:=fun ρ p=>((g p (bL link ρ)).bind fe).map some) (fun H1 F1 F2 ρ p o x dt H2 Q' e R2 b2 k=>⟨(H1,F1),?_⟩) ?_
 ·cases z:(g p (bL link ρ)).bind fe with
  | none=>rw[z]at e;cases e
  | some r =>
   rw[z]at e;cases e;obtain⟨fX,e1,e2⟩:=aD z;obtain⟨l1,k1⟩:=hg _ _ _ e1;exact⟨F2,bL link ρ,p,fX,R2,b2,e1,fun tV H3 F3 R3 s3=>⟨F3,fX,r,R3,e2,fun v H4 F4 R4 s4 b4=>k (some v) tV H4 F4 (R4.cY l1 k1 hL) (s3.trans s4) (.cons b4 .nil)⟩⟩
 ·obtain⟨F,ρ,rs,R,hf,q⟩:=h;refine⟨F,ρ,rs,R,?_,q⟩;rw[<-hf];show((fi ρ).bind fun ps=>if ps.length<=iB then lT (fun p=>((g p (bL link ρ)).bind fe).map some) ps else none)=(fi ρ).bind fun ps=>if ps.length<=iB then j5 (fun p=>(g p (bL link ρ)).bind fe) ps else none
  simp only[wL]
theorem Ux(hc:X.calm=true)(S:iq X N link scope)(hi:PI X tg iter (tI X.K H₀ ae fi))(hg:KG L g)(hL:∀i∈L,link[i]?=some none)
  (ht:∀(C:af) (s:av) (H:Hp) (fp:List af) (H₀ ae:Hp),PG (dq X N scope C s H fp) tg (tG X.K H₀ ae g)) (he:∀(C:af) (s:av) (H:Hp) (fp:List af) (H₀ ae:Hp),PE (dq X N scope C s H fp) elt (tE X.K H₀ ae fe))
  (hs:∀x,foldedSetIterable iter X.env x=pure x:=by intro _;rfl):PE X (.ListComp elt [⟨tg,iter,[],0⟩] scope pos) (tF X.K H₀ ae (dX link fi g fe)) :=
 (Gx hc S hi (fun C s H fp=>yv fun b:Hp×Hp=>Ba (ht C s H fp b.1 b.2) (he C s H fp b.1 b.2)) hs).imp fun σ H Q h=>lU hg hL h
theorem mY{σ:St}{H:Hp}{Q:VK}(hg:KG L g)(hL:∀i∈L,link[i]?=some none)(h:tF X.K H₀ ae (fP link fi g ft fe) σ H Q) :
  wJ link (tI X.K H₀ ae fi) (fun v σ H Q=>∃b:Hp×Hp,tG X.K b.1 b.2 g v σ H fun mQ H1=>tT X.K b.1 b.2 ft mQ H1 fun t H2=>if t=true then tE X.K b.1 b.2 fe mQ H2 fun y H3=>Q (some y) mQ H3 else Q none mQ H2) σ H Q:=by
 refine Bb (bd:=fun ρ p=>(g p (bL link ρ)).bind fun fX=>(ft fX).bind fun b=>if b=true then(fe fX).map some else some none) (fun H1 F1 F2 ρ p o x dt H2 Q' e R2 b2 k=>⟨(H1,F1),?_⟩) h
 obtain⟨fX,e1,e2⟩:=aD e;obtain⟨b,e3,e4⟩:=aD e2;obtain⟨l1,k1⟩:=hg _ _ _ e1;refine⟨F2,bL link ρ,p,fX,R2,b2,e1,fun tV H3 F3 R3 s3=>⟨F3,fX,b,R3,e3,fun H4 F4 R4 s4=>?_⟩⟩
 cases b with
 | true =>
  rw[if_pos rfl]at e4 ⊢;cases z:fe fX with
  | none=>rw[z]at e4;cases e4
  | some r =>
   rw[z]at e4;cases e4;exact⟨F4,fX,r,R4,z,fun v H5 F5 R5 s5 b5=>k (some v) tV H5 F5 (R5.cY l1 k1 hL) (s3.trans (s4.trans s5)) (.cons b5 .nil)⟩
 | false =>
  rw[if_neg je]at e4 ⊢;cases e4;exact k none tV H4 F4 (R4.cY l1 k1 hL) (s3.trans s4) .nil
theorem Pd(hc:X.calm=true)(S:iq X N link scope)(hi:PI X tg iter (tI X.K H₀ ae fi))(hg:KG L g)(hL:∀i∈L,link[i]?=some none)
  (ht:∀(C:af) (s:av) (H:Hp) (fp:List af) (H₀ ae:Hp),PG (dq X N scope C s H fp) tg (tG X.K H₀ ae g)) (hw:∀(C:af) (s:av) (H:Hp) (fp:List af) (H₀ ae:Hp),PT (dq X N scope C s H fp) c (tT X.K H₀ ae ft))
  (he:∀(C:af) (s:av) (H:Hp) (fp:List af) (H₀ ae:Hp),PE (dq X N scope C s H fp) elt (tE X.K H₀ ae fe))
  (hs:∀x,foldedSetIterable iter X.env x=pure x:=by intro _;rfl):PE X (.ListComp elt [⟨tg,iter,[c],0⟩] scope pos) (tF X.K H₀ ae (fP link fi g ft fe)) :=
 (Gx hc S hi (fun C s H fp=>yv fun b:Hp×Hp=>Gw (ht C s H fp b.1 b.2) (hw C s H fp b.1 b.2) (he C s H fp b.1 b.2)) hs).imp fun σ H Q h=>mY hg hL h
theorem uk{t:TE}{f:cg}{i:Nat}{st:aG}(ht:∀σ H Q,tF X.K H₀ ae f σ H Q->t σ H Q)(h:PS X st (ri t (gName i))):PS X st (tS X H₀ ae (bj (bI f) (aj i))):=h.imp fun D σ H h=>by
 obtain⟨F,ρ,o,R,hf,q⟩:=h;obtain⟨p,h1,h2⟩:=aD hf;obtain⟨ps,z,rfl⟩:=wG h1;cases w:aj i (.aq ps) ρ with
 | none=>rw[w]at h2;cases h2
 | some fO =>
  rw[w]at h2;cases h2;obtain⟨hi,rfl⟩:=aU w;refine ht _ _ _ ⟨F,ρ,ps,R,z,fun a vs H1 F1 R1 s1 b1 hn=>?_⟩
  obtain⟨R2,s2⟩:=R1.laid (.aq vs) hn;exact q _ _ _ (R2.set hi (bD.mpr ⟨a,vs,rfl,rG.of bo,b1.mono s2⟩)) (s1.trans s2)
end
section
variable {K:ak} {H₀ ae F H:Hp} {ρ:aI} {σ:St}
theorem dI.LJ(R:dI K H₀ ae F ρ σ H){i:Nat}(hi:i<ρ.length){a:af}{ps:az}{vs:List V}(hn:H a=none)(hb:bC K F ps vs):dI K H₀ ae F (ρ.set i (.own ps)) (σ.set i (some (.ref a))) (eI H a (.aq vs)) where
 sub:=R.sub.trans (gR hn)
 keep:=R.keep.trans (gR hn)
 base:=R.base
 fresh:=R.fresh
 val:=fun j q e=>by
  by_cases h:i=j
  ·subst h;rw[cL hi]at e;cases e
  ·rw[b9 h]at e;rw[b9 h];exact R.val j q e
 own:=fun j qs e=>by
  by_cases h:i=j
  ·subst h;rw[cL hi]at e;cases e;exact⟨a,vs,cL (by rw[<-R.len];exact hi),bo,R.keep.free hn,R.sub.free hn,hb⟩
  ·rw[b9 h]at e;rw[b9 h];obtain⟨b,ws,h1,h2,h3⟩:=R.own j qs e;exact⟨b,ws,h1,by rw[aX (bP h2 hn)];exact h2,h3⟩
 apart:=fun j k qs rs b h1 h2 h3 h4=>by
  have old:∀(m:Nat) (l:az),i≠m->(ρ.set i (.own ps))[m]?=some (.own l)->(σ.set i (some (.ref a)))[m]?=some (some (.ref b))->b≠a:=fun m l hm e1 e2=>by
   rw[b9 hm]at e1 e2;obtain⟨c,ws,q1,q2,_⟩:=R.own m l e1;rw[e2]at q1;cases q1;exact bP q2 hn
  have new:∀m:Nat,i=m->(σ.set i (some (.ref a)))[m]?=some (some (.ref b))->b=a:=fun m hm e2=>by
   subst hm;rw[cL (by rw[<-R.len];exact hi)]at e2
   cases e2;rfl
  by_cases hj:i=j
  ·by_cases hk:i=k
   ·exact hj.symm.trans hk
   ·exact absurd (new j hj h3) (old k rs hk h2 h4)
  ·by_cases hk:i=k
   ·exact absurd (new k hk h4) (old j qs hj h1 h3)
   ·rw[b9 hj]at h1 h3;rw[b9 hk]at h2 h4;exact R.apart j k qs rs b h1 h2 h3 h4
 obs:=fun j q e=>by
  by_cases h:i=j
  ·subst h;rw[cL hi]at e;cases e
  ·rw[b9 h]at e;rw[b9 h];exact R.obs j q e
 gE:=fun j m e=>by
  by_cases h:i=j
  ·subst h;rw[cL hi]at e;cases e
  ·rw[b9 h]at e;rw[b9 h];obtain⟨b,h1,h2,h3,h4⟩:=R.gE j m e;obtain⟨ob,h5,_⟩:=h2.obj;exact⟨b,h1,h2.to (Same.refl F) (aX (bP h5 hn)),h3,h4⟩
 len:=by rw[kG,kG];exact R.len
theorem dI.mut(R:dI K H₀ ae F ρ σ H){i:Nat}{a:af}{ps qs:az}{ws:List V}(hi:ρ[i]?=some (.own ps))(ha:σ[i]?=some (some (.ref a)))(hb:bC K F qs ws):dI K H₀ ae F (ρ.set i (.own qs)) σ (eI H a (.aq ws)):=by
 obtain⟨a',vs,h1,h2,h3,h4,h5⟩:=R.own i ps hi;rw[ha]at h1;cases h1;have hJ:i<ρ.length:=(fU.mp hi).1;have sub:∀{G:Hp},G a=none->Same G H->Same G (eI H a (.aq ws)):=fun {G} hg s b o e=>by
  rw[aX (bP e hg)];exact s _ _ e
 have oth:∀(m:Nat) (l:az),i≠m->ρ[m]?=some (.own l)->∀b,σ[m]?=some (some (.ref b))->b≠a:=fun m l hm e1 b e2 z=>by
  subst z;exact hm (R.apart i m ps l b hi e1 ha e2)
 exact {
  sub:=sub h4 R.sub
  keep:=sub h3 R.keep
  base:=R.base
  fresh:=R.fresh
  val:=fun j q e=>by
   by_cases h:i=j
   ·subst h;rw[cL hJ]at e;cases e
   ·rw[b9 h]at e;exact R.val j q e
  own:=fun j ls e=>by
   by_cases h:i=j
   ·subst h;rw[cL hJ]at e;cases e;exact⟨a,ws,ha,bo,h3,h4,hb⟩
   ·rw[b9 h]at e;obtain⟨b,us,q1,q2,q3⟩:=R.own j ls e;exact⟨b,us,q1,by rw[aX (oth j ls h e b q1)];exact q2,q3⟩
  apart:=fun j k l1 l2 b e1 e2 e3 e4=>by
   have f:∀(m:Nat) (l:az),(ρ.set i (.own qs))[m]?=some (.own l)->∃l',ρ[m]?=some (.own l'):=fun m l e=>by
    by_cases h:i=m
    ·subst h;exact⟨_,hi⟩
    ·rw[b9 h]at e;exact⟨_,e⟩
   obtain⟨m1,z1⟩:=f j l1 e1;obtain⟨m2,z2⟩:=f k l2 e2;exact R.apart j k m1 m2 b z1 z2 e3 e4
  obs:=fun j q e=>by
   by_cases h:i=j
   ·subst h;rw[cL hJ]at e;cases e
   ·rw[b9 h]at e;exact R.obs j q e
  gE:=fun j m e=>by
   by_cases h:i=j
   ·subst h;rw[cL hJ]at e;cases e
   ·rw[b9 h]at e;obtain⟨b,q1,q2,q3,q4⟩:=R.gE j m e;obtain⟨ob,q5,q6⟩:=q2.obj;exact⟨b,q1,q2.to (Same.refl F) (aX (KN q5 h2 (q6 _))),q3,q4⟩
  len:=by rw[kG];exact R.len}
def el(L:Option (List Nat))(i:Nat)(e:Ent):Ent:=match e with
 | .own ps=>(match L with | none=>.val (.aq ps) | some l=>if i∈l then .val (.aq ps)else .own ps)
 | .gE m=>.ob (.J1 m)
 | e=>e
def gn(L:Option (List Nat)):Nat->aI->aI
 | _,[]=>[]
 | i,e::r=>el L i e::gn L (i+1) r
def fB(L:Option (List Nat))(ρ:aI):aI:=gn L 0 ρ
theorem qR{L:Option (List Nat)}:∀(ρ:aI) (k i:Nat),(gn L k ρ)[i]?=(ρ[i]?).map (el L (k+i))
 | [],_,_=>by simp[gn]
 | e::r,k,0=>by simp[gn]
 | e::r,k,i+1=>by
  simp only[gn,List.getElem?_cons_succ];rw[qR r (k+1) i]
  congr 2
  lia
theorem LM{L:Option (List Nat)}{ρ:aI}{i:Nat}:(fB L ρ)[i]?=(ρ[i]?).map (el L i):=by
 unfold fB;rw[qR,fV]
theorem qS{L:Option (List Nat)}:∀(ρ:aI) (k:Nat),(gn L k ρ).length=ρ.length
 | [],_=>rfl
 | e::r,k=>by simp only[gn,bA,qS r]
theorem ir{L:Option (List Nat)}{i:Nat}{e:Ent}(h:el L i e≠e):(∃ps,e=.own ps/\el L i e=.val (.aq ps))\/∃m,e=.gE m/\el L i e=.ob (.J1 m):=by
 cases e with
 | own ps =>
  left
  refine⟨ps,rfl,?_⟩;unfold el at h ⊢;cases L with
  | none=>rfl
  | some l =>
   simp only at h ⊢;split
   ·rfl
   ·rename_i z;rw[if_neg z]at h;exact absurd rfl h
 | gE m=>exact .inr ⟨m,rfl,rfl⟩
 | _=>exact absurd rfl h
def Ek(L:Option (List Nat))(ρ:aI)(σ:St)(b:af):Prop:=∃(i:Nat) (e:Ent),ρ[i]?=some e/\el L i e≠e/\σ[i]?=some (some (.ref b))
open Classical in
noncomputable def wM (L:Option (List Nat)) (ρ:aI) (σ:St) (F H:Hp):Hp:=fun b=>if Ek L ρ σ b then H b else F b
theorem oE{L:Option (List Nat)}{ρ:aI}{i:Nat}{e:Ent}(h:(fB L ρ)[i]?=some e):∃en,ρ[i]?=some en/\el L i en=e:=by
 rw[LM]at h;cases z:ρ[i]? with
 | none=>rw[z]at h;cases h
 | some en=>rw[z]at h;exact⟨en,rfl,bW h⟩
theorem dI.ac7(R:dI K H₀ ae F ρ σ H){L:Option (List Nat)}{b:af}(h:Ek L ρ σ b):H₀ b=none/\F b=none/\∃o,H b=some o:=by
 obtain⟨i,e,h1,h2,h3⟩:=h;rcases ir h2 with⟨ps,rfl,_⟩ | ⟨m,rfl,_⟩
 ·obtain⟨a,vs,q1,q2,q3,q4,_⟩:=R.own i ps h1;rw[h3]at q1;cases q1;exact⟨q3,q4,_,q2⟩
 ·obtain⟨a,q1,q2,q3,q4⟩:=R.gE i m h1;rw[h3]at q1;cases q1;obtain⟨o,q5,_⟩:=q2.obj;exact⟨q3,q4,o,q5⟩
theorem dI.nF(R:dI K H₀ ae F ρ σ H)(L:Option (List Nat)):∃F',dI K H₀ ae F' (fB L ρ) σ H/\Same F F'/\∀(i:Nat) (e:Ent) (a:af) (o:HO),ρ[i]?=some e->el L i e≠e->σ[i]?=some (some (.ref a))->H a=some o->F' a=some o:=by
 have pos:∀{b:af},Ek L ρ σ b->wM L ρ σ F H b=H b:=fun {b} h=>by unfold wM;rw[if_pos h]
 have neg:∀{b:af},¬Ek L ρ σ b->wM L ρ σ F H b=F b:=fun {b} h=>by unfold wM;rw[if_neg h]
 have sm:Same F (wM L ρ σ F H):=fun b o e=>by
  by_cases h:Ek L ρ σ b
  ·rw[pos h];exact R.sub _ _ e
  ·rw[neg h];exact e
 refine⟨wM L ρ σ F H,?_,sm,fun i e a o e1 e2 e3 e4=>by rw[pos ⟨i,e,e1,e2,e3⟩];exact e4⟩
 exact {
  sub:=fun b o e=>by
   by_cases h:Ek L ρ σ b
   ·rw[pos h]at e;exact e
   ·rw[neg h]at e;exact R.sub _ _ e
  keep:=R.keep
  base:=R.base.trans sm
  fresh:=fun b o e=>by
   by_cases h:Ek L ρ σ b
   ·exact .inr (R.ac7 h).1
   ·rw[neg h]at e;exact R.fresh _ _ e
  val:=fun i p e=>by
   obtain⟨en,z,e⟩:=oE e;by_cases hne:el L i en≠en
   ·rcases ir hne with⟨ps,rfl,e2⟩ | ⟨m,rfl,e2⟩
    ·rw[e2]at e;cases e;obtain⟨a,vs,q1,q2,q3,q4,q5⟩:=R.own i ps z;refine⟨_,q1,bD.mpr ⟨a,vs,rfl,rG.of ?_,q5.mono sm⟩⟩;rw[pos ⟨i,_,z,hne,q1⟩];exact q2
    ·rw[e2]at e;cases e
   ·have hne:=sE.mp hne;rw[hne]at e;subst e;obtain⟨v,h1,h2⟩:=R.val i _ z;exact⟨v,h1,h2.mono sm⟩
  own:=fun i ps e=>by
   obtain⟨en,z,e⟩:=oE e;by_cases hne:el L i en≠en
   ·rcases ir hne with⟨qs,rfl,e2⟩ | ⟨m,rfl,e2⟩
    ·rw[e2]at e;cases e
    ·rw[e2]at e;cases e
   ·have hne:=sE.mp hne;rw[hne]at e;subst e;obtain⟨a,vs,q1,q2,q3,q4,q5⟩:=R.own i ps z;refine⟨a,vs,q1,q2,q3,?_,q5.mono sm⟩;rw[neg]
    ·exact q4
    ·rintro⟨j,e',h1,h2,h3⟩
     rcases ir h2 with⟨rs,rfl,e2⟩ | ⟨m,rfl,e2⟩
     ·have:=R.apart i j ps rs a z h1 q1 h3;subst this;rw[z]at h1;cases h1;exact h2 hne
     ·obtain⟨b,r1,r2,_⟩:=R.gE j m h1;rw[h3]at r1;cases r1;obtain⟨o,r5,r6⟩:=r2.obj;rw[q2]at r5;exact r6 _ (bW r5).symm
  apart:=fun j k ps qs a e1 e2=>by
   have old:∀(m:Nat) (l:az),(fB L ρ)[m]?=some (.own l)->∃l',ρ[m]?=some (.own l'):=fun m l e=>by
    obtain⟨en,z,e⟩:=oE e;by_cases hne:el L m en≠en
    ·rcases ir hne with⟨qs,rfl,e2⟩ | ⟨d,rfl,e2⟩
     ·exact⟨qs,z⟩
     ·rw[e2]at e;cases e
    ·rw[sE.mp hne]at e;subst e;exact⟨l,z⟩
   obtain⟨l1,z1⟩:=old j ps e1;obtain⟨l2,z2⟩:=old k qs e2;exact R.apart j k l1 l2 a z1 z2
  obs:=fun i o e=>by
   obtain⟨en,z,e⟩:=oE e;by_cases hne:el L i en≠en
   ·rcases ir hne with⟨qs,rfl,e2⟩ | ⟨m,rfl,e2⟩
    ·rw[e2]at e;cases e
    ·rw[e2]at e;cases e;obtain⟨a,q1,q2,_⟩:=R.gE i m z;exact⟨a,q1,q2.to sm (pos ⟨i,_,z,hne,q1⟩)⟩
   ·rw[sE.mp hne]at e;subst e;obtain⟨a,h1,h2⟩:=R.obs i _ z;exact⟨a,h1,h2.mono sm⟩
  gE:=fun i m e=>by
   obtain⟨en,z,e⟩:=oE e;by_cases hne:el L i en≠en
   ·rcases ir hne with⟨qs,rfl,e2⟩ | ⟨m,rfl,e2⟩
    ·rw[e2]at e;cases e
    ·rw[e2]at e;cases e
   ·rw[sE.mp hne]at e;subst e;exact absurd (fun q=>by cases q) hne
  len:=by unfold fB;rw[qS];exact R.len}
theorem dI.Uy{F' H':Hp}(R:dI K H₀ ae F ρ σ H){F1:Hp}(R1:dI K H₀ ae F1 (fB none ρ) σ H)(s1:Same F F1)
  (hf:∀(i:Nat) (e:Ent) (a:af) (o:HO),ρ[i]?=some e->el none i e≠e->σ[i]?=some (some (.ref a))->H a=some o->F1 a=some o)
  (R2:dI K H₀ ae F' (fB none ρ) σ H') (s2:Same F1 F'):dI K H₀ ae F ρ σ H' where
 sub:=s1.trans (s2.trans R2.sub)
 keep:=R2.keep
 base:=R.base
 fresh:=R.fresh
 val:=R.val
 own:=fun i ps e=>by
  obtain⟨a,vs,h1,h2,h3,h4,h5⟩:=R.own i ps e;exact⟨a,vs,h1,R2.sub _ _ (s2 _ _ (hf i _ a _ e (fun z=>by cases z) h1 h2)),h3,h4,h5⟩
 apart:=R.apart
 obs:=R.obs
 gE:=fun i m e=>by
  obtain⟨a,h1,h2,h3,h4⟩:=R.gE i m e;obtain⟨o,h5,_⟩:=h2.obj;exact⟨a,h1,h2.to (Same.refl F) ((R2.sub _ _ (s2 _ _ (hf i _ a _ e (fun z=>by cases z) h1 h5))).trans h5.symm),h3,h4⟩
 len:=R.len
end
section
variable {X:Cx} {H₀ ae:Hp} {e:ao} {fe:FE} {gc:fA} {pos:Pos} {st:aG} {f:FS}
def jm(gc:fA):fA:=fun ρ=>gc (fB none ρ)
theorem Yc(h:PT X e (tT X.K H₀ ae gc)):PT X e (tT X.K H₀ ae (jm gc)):=h.imp <| by
 rintro σ H Q ⟨F,ρ,b,R,hf,q⟩
 obtain⟨F1,R1,s1,k1⟩:=R.nF none;exact⟨F1,fB none ρ,b,R1,hf,fun H' F' R2 s2=>q H' F (R.Uy R1 s1 k1 R2 s2) (Same.refl F)⟩
def um:PV->Bool
 | .aA _=>false
 | .aq _=>false
 | _=>true
theorem Bc{K:ak}{F F':Hp}{p:PV}{v:V}(h:um p=true)(b:dB K F p v):dB K F' p v:=by
 cases p with
 | df=>exact dP.mpr (dP.mp b)
 | bl _=>exact cb.mpr (cb.mp b)
 | int _=>exact aN.mpr (aN.mp b)
 | str _=>exact cS.mpr (cS.mp b)
 | aA _=>cases h
 | aq _=>cases h
def hV(fe:FE):FE:=fun ρ=>(fe (fB none ρ)).bind fun p=>if um p=true then some p else none
theorem LN(h:PE X e (tE X.K H₀ ae fe)):PE X e (tE X.K H₀ ae (hV fe)):=h.imp <| by
 rintro σ H Q ⟨F,ρ,p,R,hf,q⟩
 obtain⟨p',h1,h2⟩:=aD hf;obtain⟨hp,rfl⟩:=aU h2;obtain⟨F1,R1,s1,k1⟩:=R.nF none;exact⟨F1,fB none ρ,p',R1,h1,fun v H' F' R2 s2 b2=>q v H' F (R.Uy R1 s1 k1 R2 s2) (Same.refl F) (Bc hp b2)⟩
def mF(L:List Nat)(f:FS):FS:=fun ρ=>f (fB (some L) ρ)
theorem Yd(L:List Nat)(h:PS X st (tS X H₀ ae f)):PS X st (tS X H₀ ae (mF L f)):=h.imp <| by
 rintro D σ H ⟨F,ρ,o,R,hf,q⟩
 obtain⟨F1,R1,s1,k1⟩:=R.nF (some L);exact⟨F1,_,o,R1,hf,q.mono s1⟩
def jA(i:Nat)(fo:cg):FS:=fun ρ=>(fo ρ).bind fun ps=>if i<ρ.length then some (.nx (ρ.set i (.own ps)))else none
theorem uo{i:Nat}{fo:cg}{t:TE}{D:ov}{σ:St}{H:Hp}(ht:∀σ H Q,tF X.K H₀ ae fo σ H Q->t σ H Q)(h:tS X H₀ ae (jA i fo) D σ H):ri t (gName i) D σ H:=by
 obtain⟨F,ρ,o,R,hf,q⟩:=h;obtain⟨ps,h1,h2⟩:=aD hf;obtain⟨hi,rfl⟩:=aU h2;refine ht _ _ _ ⟨F,ρ,ps,R,h1,fun a vs H1 F1 R1 s1 b1 hn=>?_⟩
 exact q F1 _ _ (R1.LJ hi hn b1) s1
def gL(i:Nat)(ts:cg)(g:az->az->Option az):FS:=fun ρ=>match ρ[i]? with
 | some (.own ps)=>(ts ρ).bind fun as=>(g ps as).map fun qs=>.nx (ρ.set i (.own qs))
 | _=>none
def Pe(K:ak)(r:V->List V->Hp->VK->Prop)(g:az->az->Option az):Prop:=∀(H₀ ae F:Hp) (ρ:aI) (σ:St) (H:Hp) (a:af) (ps as qs:az) (vs ws:List V) (Q:VK),g ps as=some qs->dI K H₀ ae F ρ σ H->H a=some (.aq vs)->bC K F ps vs->bC K F as ws ->
 (∀us,bC K F qs us->Q .df (eI H a (.aq us)))->r (.ref a) ws H Q
theorem yw{i:Nat}{ts:cg}{g:az->az->Option az}{r:V->List V->Hp->VK->Prop}{D:ov}{σ:St}{H:Hp}(hg:Pe X.K r g)(h:tS X H₀ ae (gL i ts g) D σ H) :
  tDrop (tBM X.K "list" r (tN i) (tA X.K H₀ ae ts)) D σ H:=by
 obtain⟨F,ρ,o,R,hf,q⟩:=h;unfold gL at hf;split at hf
 ·rename_i ps z;obtain⟨as,h1,h2⟩:=aD hf;cases w:g ps as with
  | none=>rw[w]at h2;cases h2
  | some qs =>
   rw[w]at h2;cases h2;obtain⟨a,vs,e1,e2,_⟩:=R.own i ps z;refine⟨.ref a,e1,.inl ⟨rfl,vs,nG.of e2⟩,F,ρ,as,R,h1,fun ws H1 F1 R1 s1 b1=>?_⟩
   obtain⟨a',Uk,e1',e2',_,_,e5⟩:=R1.own i ps z;rw[e1]at e1';cases e1';refine hg H₀ ae F1 ρ σ H1 a ps as qs Uk ws _ w R1 e2' e5 b1 fun us bu=>?_
   exact q F1 σ _ (R1.mut z e1 bu) s1
 ·cases hf
def nJ:az->az->Option az:=fun ps as=>match as with | [p]=>if ps.length<iB then some (ps++[p])else none | _=>none
def qa:az->az->Option az:=fun ps as=>match as with
 | [.aq qs]=>if ps.length+qs.length<=iB then some (ps++qs)else none
 | [.aA qs]=>if ps.length+qs.length<=iB then some (ps++qs)else none
 | _=>none
theorem Pf{K:ak}:Pe K Gk nJ:=by
 intro H₀ ae F ρ σ H a ps as qs vs ws Q hg R ha b1 b2 k;unfold nJ at hg;split at hg
 ·rename_i p;obtain⟨hl,rfl⟩:=aU hg;obtain⟨w,r,rfl,bw,br⟩:=b2.cG;rw[br.cP];exact⟨a,vs,w,rfl,rfl,ha,by rw[<-b1.length];exact dy hl (by decide),k _ (b1.append (.cons bw .nil))⟩
 ·cases hg
def Sa(K:ak)(r:V->List V->Hp->VK->Prop)(g:az->Option az):Prop:=∀(H₀ ae F:Hp) (ρ:aI) (σ:St) (H:Hp) (a:af) (ps qs:az) (vs:List V) (Q:VK),g ps=some qs->dI K H₀ ae F ρ σ H->H a=some (.aq vs)->bC K F ps vs ->
 (∀us,bC K F qs us->Q .df (eI H a (.aq us)))->r (.ref a) [] H Q
def Be(i:Nat)(g:az->Option az):FS:=fun ρ=>match ρ[i]? with
 | some (.own ps)=>(g ps).map fun qs=>.nx (ρ.set i (.own qs))
 | _=>none
theorem LO{i:Nat}{g:az->Option az}{r:V->List V->Hp->VK->Prop}{D:ov}{σ:St}{H:Hp}(hg:Sa X.K r g)(h:tS X H₀ ae (Be i g) D σ H) :
  tDrop (Xk X.K "list" r (tN i)) D σ H:=by
 obtain⟨F,ρ,o,R,hf,q⟩:=h;unfold Be at hf;split at hf
 ·rename_i ps z;cases w:g ps with
  | none=>rw[w]at hf;cases hf
  | some qs =>
   rw[w]at hf;cases hf;obtain⟨a,vs,e1,e2,_,_,e5⟩:=R.own i ps z;refine⟨.ref a,e1,.inl ⟨rfl,vs,nG.of e2⟩,?_⟩;exact hg H₀ ae F ρ σ H a ps qs vs _ w R e2 e5 fun us bu=>q F σ _ (R.mut z e1 bu) (Same.refl F)
 ·cases hf
def Ye(K:ak):V->List V->Hp->VK->Prop:=fun x vs H Q=>∃l b xs zs,x=.ref l/\vs=[.ref b]/\H l=some (.aq xs)/\(rG K H b zs\/jY K H b zs)/\xs.length+zs.length<=sizeLine/\Q .df (eI H l (.aq (xs++zs)))
theorem yx(l:af)(bg:Array ai)(n:Nat)(b:af)(more:Array ai)(n2:Nat)(dd:Option af)(sl:Array nE)(h0:¬(!bg.isEmpty&&Builtin.List.listTooLong (bg.size+more.size))=true)(h1:bg.size<=sizeLine)(h2:bg.size+more.size<=sizeLine+1) :
  Meets (Builtin.«list.extend» ⟨[.ref l,.ref b],[]⟩) (fun _ R s=>s.heap.get? l=some {cls:=.type "list",dict:=none,data:=.seq bg n,slots:=#[]}/\s.heap.get? b=some {cls:=.type "tuple",dict:=dd,data:=.seq more n2,slots:=sl} /\
   R (.ok (.ret Value.none)) {s with heap:=s.heap.update l (Obj.mapSeq fun x=>x++more),toks:=s.toks}) :=
 .of_wp fun prog w A R s h=>by
  obtain⟨hp,g,d,tk,os⟩:=s;obtain⟨hl,hb,h⟩:=h;have f1:=AutoSeq1.idx_int;have f2:=AutoSeq1.sub_tuple_tuple;have f3:=AutoSeq1.sub_list_list;have f4:=AutoSeq1.sub_tuple_list;have f5:=AutoSeq1.sub_list_tuple;have hz':(bg++more).size<=sizeLine+1:=by rw[Array.size_append];exact h2
  wp_walk using (wpAny_updateSeq hl rfl (hz:=h1) (_hz':=hz')),lz hl,lz hb
  exact⟨_,rfl,h⟩
theorem Uz{X:Cx}:MtM X "list.extend" (Ye X.K):=by
 intro ag s σ H x vs v us Q I rx rv h;obtain⟨l,b,xs,zs,rfl,rfl,hH,hB,hz,q⟩:=h;cases rx;obtain⟨u,rfl,ru⟩:=rv.one;cases ru;obtain⟨z,bg,n,r,hl,e⟩:=I.OL hH;have go:∀(jz:cj),Vals zs jz->(¬(!bg.toArray.isEmpty&&Builtin.List.listTooLong (bg.toArray.size+jz.toArray.size))=true/\bg.toArray.size<=sizeLine/\bg.toArray.size+jz.toArray.size<=sizeLine+1) /\
   EP X ag σ Q Value.none {s with heap:=s.heap.update l (Obj.mapSeq fun x=>x++jz.toArray),toks:=s.toks}:=fun jz r2=>by
  have Ph:=r2.length;have hsz:bg.toArray.size+jz.toArray.size<=sizeLine:=by rw[bJ,bJ];lia
  refine⟨⟨?_,by rw[bJ];lia,by lia⟩,.df,_,I.OK (its':=bg++jz) hH e (by simp) (r.append r2) (by rw[bU];lia),rfl,q⟩
  rw[Li hsz,Bool.and_false];exact je
 rcases hB with hB | hB
 ·obtain⟨jz,n2,r2,e2,_⟩:=I.uf hB;obtain⟨⟨g1,g2,g3⟩,g4⟩:=go jz r2;exact pW F.slot_list_extend ⟨_,e,rfl⟩ F.entry_list_extend (F.args_list_extend_2 _ _) (AutoSeq1.list_extend_list_list_0 l bg.toArray n b jz.toArray n2 g1 g2 g3) ⟨e,e2,g4⟩
 ·obtain⟨jz,r2,⟨⟨cls,dd,dat,sl⟩,e2,hc,n2,hd⟩,_⟩:=I.tuple hB;simp only at hc hd;subst hc hd;obtain⟨⟨g1,g2,g3⟩,g4⟩:=go jz r2;exact pW F.slot_list_extend ⟨_,e,rfl⟩ F.entry_list_extend (F.args_list_extend_2 _ _) (yx l bg.toArray n b jz.toArray n2 dd sl g1 g2 g3) ⟨e,e2,g4⟩
theorem Pj{K:ak}:Pe K (Ye K) qa:=by
 intro H₀ ae F ρ σ H a ps as qs vs ws Q hg R ha b1 b2 k;unfold qa at hg;split at hg
 ·rename_i rs;obtain⟨hl,rfl⟩:=aU hg;obtain⟨w,r,rfl,bw,br⟩:=b2.cG;rw[br.cP];obtain⟨b,zs,rfl,hs,hb⟩:=bD.mp bw;exact⟨a,b,vs,zs,rfl,rfl,ha,.inl (b7 R.sub hs),by rw[<-b1.length,<-hb.length];exact ik hl,k _ (b1.append hb)⟩
 ·rename_i rs;obtain⟨hl,rfl⟩:=aU hg;obtain⟨w,r,rfl,bw,br⟩:=b2.cG;rw[br.cP];obtain⟨b,zs,rfl,hs,hb⟩:=bY.mp bw;exact⟨a,b,vs,zs,rfl,rfl,ha,.inr (bH R.sub hs),by rw[<-b1.length,<-hb.length];exact ik hl,k _ (b1.append hb)⟩
 ·cases hg
end
def rT(K:ak)(g:PV->PV->b8):R2:=fun x y H Q=>∃H₀ ae F ρ τ pa pb p,g pa pb=some p/\dI K H₀ ae F ρ τ H/\dB K F pa x/\dB K F pb y/\∀v H' F',dI K H₀ ae F' ρ τ H'->Same F F'->dB K F' p v->Q v H'
abbrev yy(X:Cx)(f:ai->ai->Sem ai)(g:PV->PV->b8):Prop:=OpR X f (rT X.K g)
theorem oF{K:ak}{g:PV->PV->b8}:O1 K (rT K g) g:=fun H₀ ae F ρ σ H pa pb p x y Q e R ba bb k=>⟨H₀,ae,F,ρ,σ,pa,pb,p,e,R,ba,bb,k⟩
def sizeOk(n:Nat)(p:PV):b8:=if n<=iB then some p else none
theorem lV{n:Nat}{p q:PV}(h:sizeOk n p=some q):n<=sizeLine/\p=q:=by
 obtain⟨h1,h2⟩:=aU h;exact⟨ik h1,h2⟩
def bZ:PV->PV->b8
 | .int i,.int j=>some (.int (i+j))
 | .str x,.str y=>sizeOk (x.length+y.length) (.str (x++y))
 | .aA xs,.aA ys=>sizeOk (xs.length+ys.length) (.aA (xs++ys))
 | .aq xs,.aq ys=>sizeOk (xs.length+ys.length) (.aq (xs++ys))
 | _,_=>none
def Pk:PV->PV->b8
 | .int i,.int j=>some (.int (i-j))
 | _,_=>none
def Pl:Int:=18446744073709551616
def km:PV->PV->b8
 | .int i,.int j=>if(-Pl<i/\i<Pl)\/(-Pl<j/\j<Pl)then some (.int (i*j))else none
 | _,_=>none
def dz:PV->PV->b8
 | .int i,.int j=>if 0<j/\j<1073741824 then some (.int (i/j))else none
 | _,_=>none
def cw:PV->PV->b8
 | .int i,.int j=>if 0<j then some (.int (i%j))else none
 | _,_=>none
def Bf:PV->PV->b8
 | .int i,.int j=>if 0<=j/\j<=1000/\i.natAbs<1000 then some (.int (i^j.toNat))else none
 | _,_=>none
section
variable {X:Cx}
theorem LP{prog:bG}{w:aW}{A:bR}{E:cR}{s:av}{t b:af}{ws:cj}{Q:cR}(ht:IsTup s.heap t ([]:cj).toArray)(hb:IsTup s.heap b ws.toArray)(h1:Q (.ref b) s):wpAny (model prog w) A (binaryOp .Add (.ref t) (.ref b)) Q E s:=by
 obtain⟨⟨cls,dd,data,sl⟩,ho,hc,n,hd⟩:=id ht;obtain⟨⟨acs,dd2,Xe,sl2⟩,ho2,Xf,n2,Xg⟩:=id hb;simp only at hc hd Xf Xg;subst hc hd Xf Xg;exact concat_meets ⟨_,ho,rfl⟩ ⟨_,ho2,rfl⟩ DC seq_tuple_add Dd C9 (C6 _ _) (tuple_addW0 t b _ ws.toArray n n2 dd dd2 sl sl2 (by simp)) ⟨ho,ho2,h1⟩
theorem yz:yy X (binaryOp .Add) bZ:=by
 rintro ag s σ H x y v u Q I rx ry ⟨H₀,ae,F,ρ,τ,pa,pb,p,e,R,ba,bb,k⟩;unfold bZ at e;split at e
 ·cases e;rw[aN.mp ba]at rx;rw[aN.mp bb]at ry;exact TC ag s σ H _ _ v u Q I rx ry ⟨_,_,rfl,rfl,k _ H F R (Same.refl F) (aN.mpr rfl)⟩
 ·obtain⟨hz,rfl⟩:=lV e;rw[cS.mp ba]at rx;rw[cS.mp bb]at ry;exact DW ag s σ H _ _ v u Q I rx ry ⟨_,_,rfl,rfl,hz,k _ H F R (Same.refl F) (cS.mpr rfl)⟩
 ·rename_i xs ys;obtain⟨hz,rfl⟩:=lV e;obtain⟨a,vs,rfl,ha,hZ⟩:=bY.mp ba;obtain⟨b,ws,rfl,hb,N7⟩:=bY.mp bb;have ha':=bH R.sub ha;have nY:=bH R.sub hb;cases xs with
  | nil =>
   rw[hZ.cP]at ha';cases rx;cases ry;obtain⟨bg,r1,p1,_⟩:=I.tuple ha';obtain⟨jz,r2,p2,_⟩:=I.tuple nY;cases r1;exact LP p1 p2 ⟨.ref b,H,I,rfl,k _ H F R (Same.refl F) (bY.mpr ⟨b,ws,rfl,hb,N7⟩)⟩
  | cons x0 xr =>
   refine OI ag s σ H _ _ v u Q I rx ry ⟨a,b,vs,ws,rfl,rfl,ha',nY,?_,by rw[<-hZ.length,<-N7.length];exact hz,fun z=>?_,fun z q hq=>?_⟩
   ·intro z;have:=hZ.length;rw[z]at this;cases this
   ·subst z;have hy:ys=[]:=by
     have:=N7.length;exact J9 this
    subst hy;rw[iP]at k;exact k _ H F R (Same.refl F) (bY.mpr ⟨a,vs,rfl,ha,hZ⟩)
   ·obtain⟨R2,s2⟩:=R.laid (.aA (vs++ws)) hq;exact k _ _ _ R2 s2 (bY.mpr ⟨q,_,rfl,jY.of bo,(hZ.append N7).mono s2⟩)
 ·rename_i xs ys;obtain⟨hz,rfl⟩:=lV e;obtain⟨a,vs,rfl,ha,hZ⟩:=bD.mp ba;obtain⟨b,ws,rfl,hb,N7⟩:=bD.mp bb;cases rx;cases ry;obtain⟨bg,n,r,e1,z1⟩:=I.uf (b7 R.sub ha);obtain⟨jz,n2,r2,e2,z2⟩:=I.uf (b7 R.sub hb);have hl:=r.length;have Ph:=r2.length;have hz':vs.length+ws.length<=sizeLine:=by rw[<-hZ.length,<-N7.length];exact hz
  refine PySem.P.add_list e1 e2 ?_ (by rw[bJ,bJ];lia)
  have ea:bg.toArray++jz.toArray=(bg++jz).toArray:=by simp
  rw[ea];obtain⟨R2,s2⟩:=R.laid (.aq (vs++ws)) I.fresh;exact⟨.ref _,_,I.Xl (t':=s.toks) (r.append r2) (by rw[bU];lia),rfl,k _ _ _ R2 s2 (bD.mpr ⟨_,_,rfl,rG.of bo,(hZ.append N7).mono s2⟩)⟩
 ·cases e
theorem jF{f:ai->ai->Sem ai}{C:Int->Int->Prop}{h:Int->Int->V}{g:PV->PV->b8}(ho:OpR X f (rI C h))
  (hg:∀pa pb p,g pa pb=some p->∃i j,pa=.int i/\pb=.int j/\C i j/\∀F,dB X.K F p (h i j)):yy X f g:=by
 rintro ag s σ H x y v u Q I rx ry ⟨H₀,ae,F,ρ,τ,pa,pb,p,e,R,ba,bb,k⟩;obtain⟨i,j,rfl,rfl,hc,hp⟩:=hg pa pb p e;rw[aN.mp ba]at rx;rw[aN.mp bb]at ry;exact ho ag s σ H _ _ v u Q I rx ry ⟨i,j,rfl,rfl,hc,k _ H F R (Same.refl F) (hp F)⟩
theorem Bg{f:ai->ai->Sem ai}{h:Int->Int->V}(ho:OpR X f (DU h)):OpR X f (rI (fun _ _=>True) h):=by
 rintro ag s σ H x y v u Q I rx ry ⟨i,j,h1,h2,_,q⟩;exact ho ag s σ H x y v u Q I rx ry ⟨i,j,h1,h2,q⟩
theorem Pm:yy X (binaryOp .Sub) Pk:=jF (Bg TF) fun pa pb p e=>by
 unfold Pk at e;split at e
 ·cases e;exact⟨_,_,rfl,rfl,trivial,fun F=>aN.mpr rfl⟩
 ·cases e
theorem Pn:yy X (binaryOp .Mult) km:=by
 rintro ag s σ H x y v u Q I rx ry ⟨H₀,ae,F,ρ,τ,pa,pb,p,e,R,ba,bb,k⟩;unfold km at e;split at e
 ·obtain⟨hc,rfl⟩:=aU e;rw[aN.mp ba]at rx;rw[aN.mp bb]at ry;exact TJ ag s σ H _ _ v u Q I rx ry ⟨_,_,rfl,rfl,hc,k _ H F R (Same.refl F) (aN.mpr rfl)⟩
 ·cases e
theorem LQ:yy X (binaryOp .FloorDiv) dz:=jF Oy fun pa pb p e=>by
 unfold dz at e;split at e
 ·obtain⟨hc,rfl⟩:=aU e;exact⟨_,_,rfl,rfl,hc,fun F=>aN.mpr rfl⟩
 ·cases e
theorem Po:yy X (binaryOp .Mod) cw:=jF TK fun pa pb p e=>by
 unfold cw at e;split at e
 ·obtain⟨hc,rfl⟩:=aU e;exact⟨_,_,rfl,rfl,hc,fun F=>aN.mpr rfl⟩
 ·cases e
theorem Pp:yy X (binaryOp .Pow) Bf:=jF TL fun pa pb p e=>by
 unfold Bf at e;split at e
 ·obtain⟨⟨h1,h2,h3⟩,rfl⟩:=aU e;exact⟨_,_,rfl,rfl,⟨h1,by lia,Nat.lt_trans h3 (by decide)⟩,fun F=>aN.mpr rfl⟩
 ·cases e
end
def UA:Operator->Option (PV->PV->b8)
 | .Add=>some bZ
 | .Sub=>some Pk
 | .Mult=>some km
 | .FloorDiv=>some dz
 | .Mod=>some cw
 | .Pow=>some Bf
 | _=>none
theorem Pq{X:Cx}{op:Operator}{g:PV->PV->b8}(h:UA op=some g):yy X (binaryOp op) g:=by
 unfold UA at h;split at h
 ·cases h;exact yz
 ·cases h;exact Pm
 ·cases h;exact Pn
 ·cases h;exact LQ
 ·cases h;exact Po
 ·cases h;exact Pp
 ·cases h
mutual
def eqT:PV->PV->Bool
 | .df,.df=>true
 | .bl a,.bl b=>a==b
 | .bl a,.int b=>(if a then 1 else 0)==b
 | .int a,.bl b=>a==(if b then 1 else 0)
 | .int a,.int b=>a==b
 | .str a,.str b=>a==b
 | .aA xs,.aA ys=>lr xs ys
 | .aq xs,.aq ys=>lr xs ys
 | _,_=>false
def lr:az->az->Bool
 | [],[]=>true
 | x::xs,y::ys=>eqT x y&&lr xs ys
 | _,_=>false
end
mutual
def jG:PV->Nat
 | .aA xs=>eX xs+1
 | .aq xs=>eX xs+1
 | _=>0
def eX:az->Nat
 | []=>0
 | x::xs=>max (jG x) (eX xs)
end
mutual
theorem lW:∀p:PV,eqT p p=true
 | .df=>by simp[eqT]
 | .bl _=>by simp[eqT]
 | .int _=>by simp[eqT]
 | .str _=>by simp[eqT]
 | .aA xs=>by simp only[eqT];exact qb xs
 | .aq xs=>by simp only[eqT];exact qb xs
theorem qb:∀ps:az,lr ps ps=true
 | []=>by simp[lr]
 | x::xs=>by simp only[lr,lW x,qb xs,Bool.and_self]
end
theorem oG:∀{xs ys:az},xs.length≠ys.length->lr xs ys=false
 | [],[],h=>absurd rfl h
 | [],_::_,_=>by simp[lr]
 | _::_,[],_=>by simp[lr]
 | x::xs,y::ys,h=>by
  simp only[lr,oG (xs:=xs) (ys:=ys) (by simpa using h),Bool.and_false]
def lX(xs ys:az)(j:Nat):Bool:=match xs[j]?,ys[j]? with
 | some x,some y=>eqT x y
 | _,_=>true
theorem oH:∀{xs ys:az},xs.length=ys.length->(List.range xs.length).all (lX xs ys)=lr xs ys
 | [],[],_=>by simp[lr]
 | [],_::_,h=>by cases h
 | _::_,[],h=>by cases h
 | x::xs,y::ys,h=>by
  have ih:=oH (xs:=xs) (ys:=ys) (by simpa using h)
  rw[bA,List.range_succ_eq_map,jV,List.all_map];have e0:lX (x::xs) (y::ys) 0=eqT x y:=rfl;have e1:(lX (x::xs) (y::ys) ∘ Nat.succ)=lX xs ys:=by
   funext j
   simp[lX,Function.comp]
  rw[e0,e1,ih];simp[lr]
section
variable {X:Cx} {ag:List (af×Obj)} {σ:St} {H F:Hp} {s:av}
theorem uq(I:Inv X ag σ H s)(hs:Same F H){a:af}{vs ws:List V}(h1:rG X.K F a vs)(h2:jY X.K F a ws):False:=by
 obtain⟨bg,n,r,e,_⟩:=I.uf (b7 hs h1);obtain⟨jz,r2,p2,_⟩:=I.tuple (bH hs h2);obtain⟨o,e2,hc,_⟩:=p2;rw[e]at e2;cases e2;simp at hc
mutual
theorem dB.inj(I:Inv X ag σ H s)(hs:Same F H):∀{p q:PV} {v:V},dB X.K F p v->dB X.K F q v->p=q
 | .df,q,v,h,h'=>by
  have e:=dP.mp h;subst e;cases q with
  | df=>rfl
  | bl _=>have:=cb.mp h';cases this
  | int _=>have:=aN.mp h';cases this
  | str _=>have:=cS.mp h';cases this
  | aA _=>obtain⟨_,_,e,_⟩:=bY.mp h';cases e
  | aq _=>obtain⟨_,_,e,_⟩:=bD.mp h';cases e
 | .bl b,q,v,h,h'=>by
  have e:=cb.mp h;subst e;cases q with
  | df=>have:=dP.mp h';cases this
  | bl _=>have:=cb.mp h';cases this;rfl
  | int _=>have:=aN.mp h';cases this
  | str _=>have:=cS.mp h';cases this
  | aA _=>obtain⟨_,_,e,_⟩:=bY.mp h';cases e
  | aq _=>obtain⟨_,_,e,_⟩:=bD.mp h';cases e
 | .int b,q,v,h,h'=>by
  have e:=aN.mp h;subst e;cases q with
  | df=>have:=dP.mp h';cases this
  | bl _=>have:=cb.mp h';cases this
  | int _=>have:=aN.mp h';cases this;rfl
  | str _=>have:=cS.mp h';cases this
  | aA _=>obtain⟨_,_,e,_⟩:=bY.mp h';cases e
  | aq _=>obtain⟨_,_,e,_⟩:=bD.mp h';cases e
 | .str b,q,v,h,h'=>by
  have e:=cS.mp h;subst e;cases q with
  | df=>have:=dP.mp h';cases this
  | bl _=>have:=cb.mp h';cases this
  | int _=>have:=aN.mp h';cases this
  | str _=>have:=cS.mp h';cases this;rfl
  | aA _=>obtain⟨_,_,e,_⟩:=bY.mp h';cases e
  | aq _=>obtain⟨_,_,e,_⟩:=bD.mp h';cases e
 | .aA xs,q,v,h,h'=>by
  obtain⟨a,vs,rfl,h1,h2⟩:=bY.mp h;cases q with
  | df=>have:=dP.mp h';cases this
  | bl _=>have:=cb.mp h';cases this
  | int _=>have:=aN.mp h';cases this
  | str _=>have:=cS.mp h';cases this
  | aA ys =>
   obtain⟨b,ws,e,g1,g2⟩:=bY.mp h';cases e;have:=I.pZ (bH hs h1) (bH hs g1);subst this;rw[bC.inj I hs h2 g2]
  | aq _ =>
   obtain⟨b,ws,e,g1,g2⟩:=bD.mp h';cases e;exact(uq I hs g1 h1).elim
 | .aq xs,q,v,h,h'=>by
  obtain⟨a,vs,rfl,h1,h2⟩:=bD.mp h;cases q with
  | df=>have:=dP.mp h';cases this
  | bl _=>have:=cb.mp h';cases this
  | int _=>have:=aN.mp h';cases this
  | str _=>have:=cS.mp h';cases this
  | aq ys =>
   obtain⟨b,ws,e,g1,g2⟩:=bD.mp h';cases e;have:=I.tQ (b7 hs h1).sq (b7 hs g1).sq;subst this;rw[bC.inj I hs h2 g2]
  | aA _ =>
   obtain⟨b,ws,e,g1,g2⟩:=bY.mp h';cases e;exact(uq I hs h1 g1).elim
theorem bC.inj(I:Inv X ag σ H s)(hs:Same F H):∀{ps qs:az} {vs:List V},bC X.K F ps vs->bC X.K F qs vs->ps=qs
 | [],[],_,_,_=>rfl
 | [],_::_,vs,h,h'=>by
  rw[h.cP]at h';obtain⟨_,_,e,_⟩:=h'.cG;cases e
 | _::_,[],vs,h,h'=>by
  rw[h'.cP]at h;obtain⟨_,_,e,_⟩:=h.cG;cases e
 | p::ps,q::qs,vs,h,h'=>by
  obtain⟨v,r,rfl,h1,h2⟩:=h.cG;obtain⟨v',r',e,g1,g2⟩:=h'.cG;cases e;rw[dB.inj I hs h1 g1,bC.inj I hs h2 g2]
end
end
section
variable {A:bR} {s:av}
theorem bq{u w:ai}{b c:Bool}(h:b=c)(r:SeqAt.RcAt A s u w b):SeqAt.RcAt A s u w c:=h▸r
theorem aP{u w:ai}{b c:Bool}(h:b = !c)(r:SeqAt.RcNeAt A s u w b):SeqAt.RcNeAt A s u w (!c):=h▸r
theorem Gz{u w:ai}{b:Bool}(hf:∀x t,u≠.float x t)(h:SeqAt.RcAt A s u w b)(hb:u=w->b=true):SeqAt.EqAt A s u w b:=fun prog v E Q hq=>by
 unfold eqBool;refine jW ?_;refine DG (fun z=>?_) (fun _=>?_)
 ·rw[hb (b6 z)]at hq;exact au (iQ (aJ hq))
 ·cases u with
  | float x t=>exact absurd rfl (hf x t)
  | _=>exact au (h prog v E _ (kC hq))
theorem wN{K:ak}{F:Hp}{p:PV}{x:V}{u:ai}(b:dB K F p x)(r:RelV x u):∀y t,u≠.float y t:=fun y t z=>by
 subst z;cases p with
 | df=>rw[dP.mp b]at r;cases r
 | bl _=>rw[cb.mp b]at r;cases r
 | int _=>rw[aN.mp b]at r;obtain⟨_,r⟩:=r;cases r
 | str _=>rw[cS.mp b]at r;obtain⟨_,r⟩:=r;cases r
 | aA _=>obtain⟨_,_,rfl,_⟩:=bY.mp b;cases r
 | aq _=>obtain⟨_,_,rfl,_⟩:=bD.mp b;cases r
end
theorem GA{xs ys:az}{m n:Nat}(h1:xs.length=m)(h2:ys.length=n):((List.range (min m n)).all (lX xs ys)&&(m==n))=lr xs ys:=by
 subst h1 h2;by_cases h:xs.length=ys.length
 ·rw[<-h,Nat.min_self,oH h];simp
 ·rw[oG h];simp[h]
section
variable {X:Cx} {ag:List (af×Obj)} {σ:St} {H F:Hp} {s:av}
inductive KV (K:ak) (F:Hp) (s:av):PV->ai->Prop
 | df:KV K F s .df .none
 | bl {b:Bool}:KV K F s (.bl b) (.bool b)
 | int {i:Int} {t:Tok}:KV K F s (.int i) (.int i t)
 | str {x:Str} {t:Tok}:KV K F s (.str x) (.str x t)
 | aA {ps:az} {a:af} (vs:List V) (bg:cj) (h:bC K F ps vs) (r:Vals vs bg) (p:s.heap.IsTuple a bg.toArray):KV K F s (.aA ps) (.ref a)
 | aq {ps:az} {a:af} (vs:List V) (bg:cj) (h:bC K F ps vs) (r:Vals vs bg) (p:s.heap.IsList a bg.toArray):KV K F s (.aq ps) (.ref a)
theorem qT(I:Inv X ag σ H s)(hs:Same F H){p:PV}{x:V}{u:ai}(b:dB X.K F p x)(r:RelV x u):KV X.K F s p u:=by
 cases p with
 | df=>rw[dP.mp b]at r;cases r;exact .df
 | bl _=>rw[cb.mp b]at r;cases r;exact .bl
 | int _=>rw[aN.mp b]at r;obtain⟨t,rfl⟩:=r;exact .int
 | str _=>rw[cS.mp b]at r;obtain⟨t,rfl⟩:=r;exact .str
 | aA _ =>
  obtain⟨a,vs,rfl,h,l⟩:=bY.mp b;cases r;obtain⟨bg,rr,p,_⟩:=I.tuple (bH hs h);exact .aA vs bg l rr p
 | aq _ =>
  obtain⟨a,vs,rfl,h,l⟩:=bD.mp b;cases r;obtain⟨bg,rr,p,_⟩:=I.list (b7 hs h).sq;exact .aq vs bg l rr p.isList
mutual
theorem El(I:Inv X ag σ H s)(hs:Same F H):∀(p q:PV) (A:bR) (u w:ai),KV X.K F s p u->KV X.K F s q w->A.units+jG p<cLine->SeqAt.RcAt A s u w (eqT p q)
 | .df,q,A,u,w,ha,hb,hu=>by
  have iC:A.units<cLine:=by lia
  cases ha;cases hb with
  | df=>exact bq (by simp[eqT]) (SeqAt.RcAt.none_none)
  | bl=>exact bq (by simp[eqT]) (SeqAt.RcAt.none_bool _)
  | int=>exact bq (by simp[eqT]) (SeqAt.RcAt.none_int _ _)
  | str=>exact bq (by simp[eqT]) (SeqAt.RcAt.none_str _ _)
  | aA qc mG lR rR pR=>exact bq (by simp[eqT]) (SeqAt.RcAt.none_tuple pR iC)
  | aq qc mG lR rR pR=>exact bq (by simp[eqT]) (SeqAt.RcAt.none_list pR iC)
 | .bl k,q,A,u,w,ha,hb,hu=>by
  have iC:A.units<cLine:=by lia
  cases ha;cases hb with
  | df=>exact bq (by simp[eqT]) (SeqAt.RcAt.bool_none _)
  | bl=>exact bq (by simp[eqT]) (SeqAt.RcAt.bool_bool _ _)
  | int=>exact bq (by simp[eqT]) (SeqAt.RcAt.bool_int _ _ _)
  | str=>exact bq (by simp[eqT]) (SeqAt.RcAt.bool_str _ _ _)
  | aA qc mG lR rR pR=>exact bq (by simp[eqT]) (SeqAt.RcAt.bool_tuple _ pR iC)
  | aq qc mG lR rR pR=>exact bq (by simp[eqT]) (SeqAt.RcAt.bool_list _ pR iC)
 | .int k,q,A,u,w,ha,hb,hu=>by
  have iC:A.units<cLine:=by lia
  cases ha;cases hb with
  | df=>exact bq (by simp[eqT]) (SeqAt.RcAt.int_none _ _)
  | bl=>exact bq (by simp[eqT]) (SeqAt.RcAt.int_bool _ _ _)
  | int=>exact bq (by simp[eqT]) (SeqAt.RcAt.int_int _ _ _ _)
  | str=>exact bq (by simp[eqT]) (SeqAt.RcAt.int_str _ _ _ _)
  | aA qc mG lR rR pR=>exact bq (by simp[eqT]) (SeqAt.RcAt.int_tuple _ _ pR iC)
  | aq qc mG lR rR pR=>exact bq (by simp[eqT]) (SeqAt.RcAt.int_list _ _ pR iC)
 | .str k,q,A,u,w,ha,hb,hu=>by
  have iC:A.units<cLine:=by lia
  cases ha;cases hb with
  | df=>exact bq (by simp[eqT]) (SeqAt.RcAt.str_none _ _)
  | bl=>exact bq (by simp[eqT]) (SeqAt.RcAt.str_bool _ _ _)
  | int=>exact bq (by simp[eqT]) (SeqAt.RcAt.str_int _ _ _ _)
  | str=>exact bq (by simp[eqT]) (SeqAt.RcAt.str_str _ _ _ _)
  | aA qc mG lR rR pR=>exact bq (by simp[eqT]) (SeqAt.RcAt.str_tuple _ _ pR iC)
  | aq qc mG lR rR pR=>exact bq (by simp[eqT]) (SeqAt.RcAt.str_list _ _ pR iC)
 | .aA xs,q,A,u,w,ha,hb,hu=>by
  have iC:A.units<cLine:=by lia
  cases ha with
  | aA UB Em lL rL pL =>
  cases hb with
  | df=>exact bq (by simp[eqT]) (SeqAt.RcAt.tuple_none pL iC)
  | bl=>exact bq (by simp[eqT]) (SeqAt.RcAt.tuple_bool _ pL iC)
  | int=>exact bq (by simp[eqT]) (SeqAt.RcAt.tuple_int _ _ pL iC)
  | str=>exact bq (by simp[eqT]) (SeqAt.RcAt.tuple_str _ _ pL iC)
  | @aA ys _ qc mG lR rR pR =>
   have e1:xs.length=Em.toArray.size:=by rw[bJ,<-rL.length,<-lL.length]
   have e2:ys.length=mG.toArray.size:=by rw[bJ,<-rR.length,<-lR.length]
   refine bq ?_ (SeqAt.RcAt.tuples (e:=lX xs ys) pL pR iC fun j h1 h2=>?_)
   ·rw[GA e1 e2];simp[eqT]
   ·exact oI I hs xs ys A.in1 UB qc Em mG lL lR rL rR (by rw[lD];simp only[jG]at hu;lia) j (by simpa using h1) (by simpa using h2)
  | aq qc mG lR rR pR=>exact bq (by simp[eqT]) (SeqAt.RcAt.tuple_list pL pR iC)
 | .aq xs,q,A,u,w,ha,hb,hu=>by
  have iC:A.units<cLine:=by lia
  cases ha with
  | aq UB Em lL rL pL =>
  cases hb with
  | df=>exact bq (by simp[eqT]) (SeqAt.RcAt.list_none pL iC)
  | bl=>exact bq (by simp[eqT]) (SeqAt.RcAt.list_bool _ pL iC)
  | int=>exact bq (by simp[eqT]) (SeqAt.RcAt.list_int _ _ pL iC)
  | str=>exact bq (by simp[eqT]) (SeqAt.RcAt.list_str _ _ pL iC)
  | aA qc mG lR rR pR=>exact bq (by simp[eqT]) (SeqAt.RcAt.list_tuple pL pR iC)
  | @aq ys _ qc mG lR rR pR =>
   by_cases hl:xs.length=ys.length
   ·have sz:Em.toArray.size=mG.toArray.size:=by rw[bJ,bJ,<-rL.length,<-rR.length,<-lL.length,<-lR.length];exact hl
    have e0:Em.toArray.size=xs.length:=by rw[bJ,<-rL.length,<-lL.length]
    refine bq ?_ (SeqAt.RcAt.lists (e:=lX xs ys) pL pR sz iC fun j h1 h2=>?_)
    ·rw[e0,oH hl];simp[eqT]
    ·exact oI I hs xs ys A.in1 UB qc Em mG lL lR rL rR (by rw[lD];simp only[jG]at hu;lia) j (by simpa using h1) (by simpa using h2)
   ·have sz:(Em.toArray.size != mG.toArray.size)=true:=by rw[bJ,bJ,<-rL.length,<-rR.length,<-lL.length,<-lR.length];simpa using hl
    exact bq (by simp[eqT,oG hl]) (SeqAt.RcAt.lists_lengths pL pR sz iC)
theorem oI(I:Inv X ag σ H s)(hs:Same F H):∀(ps qs:az) (A:bR) (vs ws:List V) (us zs:cj),bC X.K F ps vs->bC X.K F qs ws->Vals vs us->Vals ws zs->A.units+eX ps<cLine ->
  ∀(j:Nat) (h1:j<us.length) (h2:j<zs.length),SeqAt.EqAt A s us[j] zs[j] (lX ps qs j)
 | [],qs,A,vs,ws,us,zs,b1,b2,r1,r2,hu=>fun j h1 h2=>by
  rw[b1.cP]at r1;cases r1;cases h1
 | p::ps,qs,A,vs,ws,us,zs,b1,b2,r1,r2,hu=>fun j h1 h2=>by
  obtain⟨v,vr,rfl,c1,d1⟩:=b1.cG;cases qs with
  | nil =>
   rw[b2.cP]at r2;cases r2;cases h2
  | cons q qs =>
   obtain⟨w,wr,rfl,c2,d2⟩:=b2.cG;cases r1 with
   | cons ra rr =>
    cases r2 with
    | cons sa sr =>
     have hm:A.units+jG p<cLine/\A.units+eX ps<cLine:=by
      simp only[eX]at hu
      lia
     cases j with
     | zero =>
      refine Gz (wN c1 ra) (El I hs p q A _ _ (qT I hs c1 ra) (qT I hs c2 sa) hm.1) fun z=>?_
      simp only[List.getElem_cons_zero]at z;rw[<-z]at sa;have e:=ra.inj sa;subst e;rw[dB.inj I hs c1 c2];exact lW q
     | succ j =>
      exact oI I hs ps qs A _ _ _ _ d1 d2 rr sr hm.2 j (by simpa using h1) (by simpa using h2)
end
theorem UC(I:Inv X ag σ H s)(hs:Same F H){p q:PV}{A:bR}{x y:V}{u w:ai}(b1:dB X.K F p x)(b2:dB X.K F q y)(r1:RelV x u)(r2:RelV y w)(hu:A.units+jG p<cLine):SeqAt.EqAt A s u w (eqT p q):=by
 refine Gz (wN b1 r1) (El I hs p q A _ _ (qT I hs b1 r1) (qT I hs b2 r2) hu) fun z=>?_
 rw[<-z]at r2;have e:=r1.inj r2;subst e;rw[dB.inj I hs b1 b2];exact lW q
theorem UD(I:Inv X ag σ H s)(hs:Same F H):∀(p q:PV) (A:bR) (u w:ai),KV X.K F s p u->KV X.K F s q w->A.units+jG p<cLine->SeqAt.RcNeAt A s u w (!(eqT p q))
 | .df,q,A,u,w,ha,hb,hu=>by
  have iC:A.units<cLine:=by lia
  cases ha;cases hb with
  | df=>exact aP (by simp[eqT]) (SeqAt.RcNeAt.none_none)
  | bl=>exact aP (by simp[eqT]) (SeqAt.RcNeAt.none_bool _)
  | int=>exact aP (by simp[eqT]) (SeqAt.RcNeAt.none_int _ _)
  | str=>exact aP (by simp[eqT]) (SeqAt.RcNeAt.none_str _ _)
  | aA qc mG lR rR pR=>exact aP (by simp[eqT]) (SeqAt.RcNeAt.none_tuple pR iC)
  | aq qc mG lR rR pR=>exact aP (by simp[eqT]) (SeqAt.RcNeAt.none_list pR iC)
 | .bl k,q,A,u,w,ha,hb,hu=>by
  have iC:A.units<cLine:=by lia
  cases ha;cases hb with
  | df=>exact aP (by simp[eqT]) (SeqAt.RcNeAt.bool_none _)
  | bl=>exact aP (by simp[eqT]) (SeqAt.RcNeAt.bool_bool _ _)
  | int=>exact aP (by simp[eqT]) (SeqAt.RcNeAt.bool_int _ _ _)
  | str=>exact aP (by simp[eqT]) (SeqAt.RcNeAt.bool_str _ _ _)
  | aA qc mG lR rR pR=>exact aP (by simp[eqT]) (SeqAt.RcNeAt.bool_tuple _ pR iC)
  | aq qc mG lR rR pR=>exact aP (by simp[eqT]) (SeqAt.RcNeAt.bool_list _ pR iC)
 | .int k,q,A,u,w,ha,hb,hu=>by
  have iC:A.units<cLine:=by lia
  cases ha;cases hb with
  | df=>exact aP (by simp[eqT]) (SeqAt.RcNeAt.int_none _ _)
  | bl=>exact aP (by simp[eqT]) (SeqAt.RcNeAt.int_bool _ _ _)
  | int=>exact aP (by simp[eqT]) (SeqAt.RcNeAt.int_int _ _ _ _)
  | str=>exact aP (by simp[eqT]) (SeqAt.RcNeAt.int_str _ _ _ _)
  | aA qc mG lR rR pR=>exact aP (by simp[eqT]) (SeqAt.RcNeAt.int_tuple _ _ pR iC)
  | aq qc mG lR rR pR=>exact aP (by simp[eqT]) (SeqAt.RcNeAt.int_list _ _ pR iC)
 | .str k,q,A,u,w,ha,hb,hu=>by
  have iC:A.units<cLine:=by lia
  cases ha;cases hb with
  | df=>exact aP (by simp[eqT]) (SeqAt.RcNeAt.str_none _ _)
  | bl=>exact aP (by simp[eqT]) (SeqAt.RcNeAt.str_bool _ _ _)
  | int=>exact aP (by simp[eqT]) (SeqAt.RcNeAt.str_int _ _ _ _)
  | str=>exact aP (by simp[eqT]) (SeqAt.RcNeAt.str_str _ _ _ _)
  | aA qc mG lR rR pR=>exact aP (by simp[eqT]) (SeqAt.RcNeAt.str_tuple _ _ pR iC)
  | aq qc mG lR rR pR=>exact aP (by simp[eqT]) (SeqAt.RcNeAt.str_list _ _ pR iC)
 | .aA xs,q,A,u,w,ha,hb,hu=>by
  have iC:A.units<cLine:=by lia
  cases ha with
  | aA UB Em lL rL pL =>
  cases hb with
  | df=>exact aP (by simp[eqT]) (SeqAt.RcNeAt.tuple_none pL iC)
  | bl=>exact aP (by simp[eqT]) (SeqAt.RcNeAt.tuple_bool _ pL iC)
  | int=>exact aP (by simp[eqT]) (SeqAt.RcNeAt.tuple_int _ _ pL iC)
  | str=>exact aP (by simp[eqT]) (SeqAt.RcNeAt.tuple_str _ _ pL iC)
  | @aA ys _ qc mG lR rR pR =>
   have e1:xs.length=Em.toArray.size:=by rw[bJ,<-rL.length,<-lL.length]
   have e2:ys.length=mG.toArray.size:=by rw[bJ,<-rR.length,<-lR.length]
   refine aP ?_ (SeqAt.RcNeAt.tuples (e:=lX xs ys) pL pR iC fun j h1 h2=>?_)
   ·rw[GA e1 e2];simp[eqT]
   ·exact oI I hs xs ys A.in1 UB qc Em mG lL lR rL rR (by rw[lD];simp only[jG]at hu;lia) j (by simpa using h1) (by simpa using h2)
  | aq qc mG lR rR pR=>exact aP (by simp[eqT]) (SeqAt.RcNeAt.tuple_list pL pR iC)
 | .aq xs,q,A,u,w,ha,hb,hu=>by
  have iC:A.units<cLine:=by lia
  cases ha with
  | aq UB Em lL rL pL =>
  cases hb with
  | df=>exact aP (by simp[eqT]) (SeqAt.RcNeAt.list_none pL iC)
  | bl=>exact aP (by simp[eqT]) (SeqAt.RcNeAt.list_bool _ pL iC)
  | int=>exact aP (by simp[eqT]) (SeqAt.RcNeAt.list_int _ _ pL iC)
  | str=>exact aP (by simp[eqT]) (SeqAt.RcNeAt.list_str _ _ pL iC)
  | aA qc mG lR rR pR=>exact aP (by simp[eqT]) (SeqAt.RcNeAt.list_tuple pL pR iC)
  | @aq ys _ qc mG lR rR pR =>
   by_cases hl:xs.length=ys.length
   ·have sz:Em.toArray.size=mG.toArray.size:=by rw[bJ,bJ,<-rL.length,<-rR.length,<-lL.length,<-lR.length];exact hl
    have e0:Em.toArray.size=xs.length:=by rw[bJ,<-rL.length,<-lL.length]
    refine aP ?_ (SeqAt.RcNeAt.lists (e:=lX xs ys) pL pR sz iC fun j h1 h2=>?_)
    ·rw[e0,oH hl];simp[eqT]
    ·exact oI I hs xs ys A.in1 UB qc Em mG lL lR rL rR (by rw[lD];simp only[jG]at hu;lia) j (by simpa using h1) (by simpa using h2)
   ·have sz:(Em.toArray.size != mG.toArray.size)=true:=by rw[bJ,bJ,<-rL.length,<-rR.length,<-lL.length,<-lR.length];simpa using hl
    exact aP (by simp[eqT,oG hl]) (SeqAt.RcNeAt.lists_lengths pL pR sz iC)
end
def iS:Nat:=1000
def dS(p q:PV):b8:=if jG p<=iS then some (.bl (eqT p q))else none
def yA(p q:PV):b8:=if jG p<=iS then some (.bl (!eqT p q))else none
section
variable {X:Cx}
theorem UE(hu:X.A.units+1150<cLine):yy X (compareOp .Eq) dS:=by
 rintro ag s σ H x y v u Q I rx ry ⟨H₀,ae,F,ρ,τ,pa,pb,p,e,R,ba,bb,k⟩;obtain⟨hd,rfl⟩:=aU e;have Ap:jG pa<=1000:=hd;exact El I R.sub pa pb X.A v u (qT I R.sub ba rx) (qT I R.sub bb ry) (by lia) X.prog X.w X.xe _ ⟨.bl _,H,I,rfl,k _ H F R (Same.refl F) (cb.mpr rfl)⟩
theorem UG(hu:X.A.units+1150<cLine):yy X (compareOp .NotEq) yA:=by
 rintro ag s σ H x y v u Q I rx ry ⟨H₀,ae,F,ρ,τ,pa,pb,p,e,R,ba,bb,k⟩;obtain⟨hd,rfl⟩:=aU e;have Ap:jG pa<=1000:=hd;exact UD I R.sub pa pb X.A v u (qT I R.sub ba rx) (qT I R.sub bb ry) (by lia) X.prog X.w X.xe _ ⟨.bl _,H,I,rfl,k _ H F R (Same.refl F) (cb.mpr rfl)⟩
def Bh:PV->PV->b8
 | .int i,.int j=>some (.bl (decide (i<j)))
 | _,_=>none
def J2:PV->PV->b8
 | .int i,.int j=>some (.bl (decide (i<=j)))
 | _,_=>none
def gtO:PV->PV->b8
 | .int i,.int j=>some (.bl (decide (j<i)))
 | _,_=>none
def Wj:PV->PV->b8
 | .int i,.int j=>some (.bl (decide (j<=i)))
 | _,_=>none
theorem UH:yy X (compareOp .Lt) Bh:=jF (Bg RL) fun pa pb p e=>by
 unfold Bh at e;split at e
 ·cases e;exact⟨_,_,rfl,rfl,trivial,fun F=>cb.mpr rfl⟩
 ·cases e
theorem UI:yy X (compareOp .LtE) J2:=jF (Bg W7) fun pa pb p e=>by
 unfold J2 at e;split at e
 ·cases e;exact⟨_,_,rfl,rfl,trivial,fun F=>cb.mpr rfl⟩
 ·cases e
theorem UJ:yy X (compareOp .Gt) gtO:=jF (Bg W8) fun pa pb p e=>by
 unfold gtO at e;split at e
 ·cases e;exact⟨_,_,rfl,rfl,trivial,fun F=>cb.mpr rfl⟩
 ·cases e
theorem UK:yy X (compareOp .GtE) Wj:=jF (Bg W9) fun pa pb p e=>by
 unfold Wj at e;split at e
 ·cases e;exact⟨_,_,rfl,rfl,trivial,fun F=>cb.mpr rfl⟩
 ·cases e
def LR:PV->Bool
 | .df=>true
 | _=>false
def Wk:PV->PV->b8
 | p,.df=>some (.bl (LR p))
 | _,_=>none
def UL:PV->PV->b8
 | p,.df=>some (.bl (!LR p))
 | _,_=>none
theorem GB{K:ak}{F:Hp}{p:PV}{x:V}(b:dB K F p x):decide (x=.df)=LR p:=by
 cases p with
 | df=>rw[dP.mp b];rfl
 | bl _=>rw[cb.mp b];rfl
 | int _=>rw[aN.mp b];rfl
 | str _=>rw[cS.mp b];rfl
 | aA _=>obtain⟨_,_,rfl,_⟩:=bY.mp b;rfl
 | aq _=>obtain⟨_,_,rfl,_⟩:=bD.mp b;rfl
theorem UM:yy X (compareOp .Is) Wk:=by
 rintro ag s σ H x y v u Q I rx ry ⟨H₀,ae,F,ρ,τ,pa,pb,p,e,R,ba,bb,k⟩;unfold Wk at e;split at e
 ·cases e;refine TM ag s σ H x y v u Q I rx ry ⟨dP.mp bb,k _ H F R (Same.refl F) (cb.mpr ?_)⟩;rw[GB ba]
 ·cases e
theorem Pr:yy X (compareOp .IsNot) UL:=by
 rintro ag s σ H x y v u Q I rx ry ⟨H₀,ae,F,ρ,τ,pa,pb,p,e,R,ba,bb,k⟩;unfold UL at e;split at e
 ·rename_i pa';cases e;refine OA ag s σ H x y v u Q I rx ry ⟨dP.mp bb,k _ H F R (Same.refl F) (cb.mpr ?_)⟩;rw[GB ba]
 ·cases e
def En(p:PV)(ps:az):Bool:=ps.any fun q=>eqT q p
def qd(neg:Bool):PV->PV->b8
 | p,.aq ps=>if eX ps<=iS then some (.bl (if neg then !En p ps else En p ps))else none
 | p,.aA ps=>if eX ps<=iS then some (.bl (if neg then !En p ps else En p ps))else none
 | _,_=>none
open Classical in
noncomputable def mH (K:ak) (F:Hp) (p:PV) (u:ai):Bool:=if h:∃q x,dB K F q x/\RelV x u then eqT h.choose p else false
theorem GC{ag:List (af×Obj)}{σ:St}{H F:Hp}{s:av}(I:Inv X ag σ H s)(hs:Same F H){p q:PV}{x:V}{u:ai}(b:dB X.K F q x)(r:RelV x u):mH X.K F p u=eqT q p:=by
 have h:∃q x,dB X.K F q x/\RelV x u:=⟨q,x,b,r⟩
 unfold mH;rw[dif_pos h];obtain⟨y,b',r'⟩:=h.choose_spec;have e:=r.inj r';subst e;rw[dB.inj I hs b' b]
theorem oJ{ag:List (af×Obj)}{σ:St}{H F:Hp}{s:av}(I:Inv X ag σ H s)(hs:Same F H){p:PV}:∀{ps:az} {vs:List V} {us:cj},bC X.K F ps vs->Vals vs us->us.any (mH X.K F p)=En p ps
 | [],_,_,b,r=>by
  rw[b.cP]at r;cases r;rfl
 | q::ps,_,_,b,r=>by
  obtain⟨v,vr,rfl,c1,d1⟩:=b.cG;cases r with
  | cons ra rr =>
   rw[nu,GC I hs c1 ra,oJ I hs d1 rr];rfl
theorem oK{ag:List (af×Obj)}{σ:St}{H F:Hp}{s:av}{A:bR}(I:Inv X ag σ H s)(hs:Same F H){p:PV}{y:V}{w:ai}(bp:dB X.K F p y)(rp:RelV y w) :
  ∀{ps:az} {vs:List V} {us:cj},bC X.K F ps vs->Vals vs us->A.units+eX ps<cLine->∀u∈us,SeqAt.EqAt A s u w (mH X.K F p u)
 | [],_,_,b,r,_=>fun u hu=>by
  rw[b.cP]at r;cases r;cases hu
 | q::ps,_,_,b,r,hz=>fun u hu=>by
  obtain⟨v,vr,rfl,c1,d1⟩:=b.cG;simp only[eX]at hz;cases r with
  | cons ra rr =>
   rcases bB.mp hu with rfl | hu
   ·rw[GC I hs c1 ra];exact UC I hs c1 bp ra rp (by lia)
   ·exact oK I hs bp rp d1 rr (by lia) u hu
theorem UN(hu:X.A.units+1150<cLine):yy X (compareOp .In) (qd false):=by
 rintro ag s σ H x y v u Q I rx ry ⟨H₀,ae,F,ρ,τ,pa,pb,p,e,R,ba,bb,k⟩;unfold qd at e;split at e
 ·obtain⟨hd,rfl⟩:=aU e;have Ap:eX _<=1000:=hd;obtain⟨a,vs,rfl,ha,hZ⟩:=bD.mp bb;cases ry;obtain⟨bg,r,pl,_⟩:=I.list ((b7 R.sub ha).sq);refine SeqAt.in_listAt (mH X.K F pa) pl.isList (fun w hw=>oK I R.sub ba rx hZ r (by rw[lD];lia) w (by simpa using hw)) ⟨.bl _,H,I,rfl,k _ H F R (Same.refl F) (cb.mpr ?_)⟩
  rw[show bg.toArray.any (mH X.K F pa)=bg.any (mH X.K F pa) by simp,oJ I R.sub hZ r]
  rfl
 ·obtain⟨hd,rfl⟩:=aU e;have Ap:eX _<=1000:=hd;obtain⟨a,vs,rfl,ha,hZ⟩:=bY.mp bb;cases ry;obtain⟨bg,r,pl,_⟩:=I.tuple (bH R.sub ha);refine SeqAt.in_tupleAt (mH X.K F pa) pl (fun w hw=>oK I R.sub ba rx hZ r (by rw[lD];lia) w (by simpa using hw)) ⟨.bl _,H,I,rfl,k _ H F R (Same.refl F) (cb.mpr ?_)⟩
  rw[show bg.toArray.any (mH X.K F pa)=bg.any (mH X.K F pa) by simp,oJ I R.sub hZ r]
  rfl
 ·cases e
theorem Il(hu:X.A.units+1150<cLine):yy X (compareOp .NotIn) (qd true):=by
 rintro ag s σ H x y v u Q I rx ry ⟨H₀,ae,F,ρ,τ,pa,pb,p,e,R,ba,bb,k⟩;unfold qd at e;split at e
 ·obtain⟨hd,rfl⟩:=aU e;have Ap:eX _<=1000:=hd;obtain⟨a,vs,rfl,ha,hZ⟩:=bD.mp bb;cases ry;obtain⟨bg,r,pl,_⟩:=I.list ((b7 R.sub ha).sq);refine SeqAt.notIn_listAt (mH X.K F pa) pl.isList (fun w hw=>oK I R.sub ba rx hZ r (by rw[lD];lia) w (by simpa using hw)) ⟨.bl _,H,I,rfl,k _ H F R (Same.refl F) (cb.mpr ?_)⟩
  rw[show bg.toArray.any (mH X.K F pa)=bg.any (mH X.K F pa) by simp,oJ I R.sub hZ r]
  rfl
 ·obtain⟨hd,rfl⟩:=aU e;have Ap:eX _<=1000:=hd;obtain⟨a,vs,rfl,ha,hZ⟩:=bY.mp bb;cases ry;obtain⟨bg,r,pl,_⟩:=I.tuple (bH R.sub ha);refine SeqAt.notIn_tupleAt (mH X.K F pa) pl (fun w hw=>oK I R.sub ba rx hZ r (by rw[lD];lia) w (by simpa using hw)) ⟨.bl _,H,I,rfl,k _ H F R (Same.refl F) (cb.mpr ?_)⟩
  rw[show bg.toArray.any (mH X.K F pa)=bg.any (mH X.K F pa) by simp,oJ I R.sub hZ r]
  rfl
 ·cases e
end
def Eo:CmpOp->Option (PV->PV->b8)
 | .Eq=>some dS
 | .NotEq=>some yA
 | .Lt=>some Bh
 | .LtE=>some J2
 | .Gt=>some gtO
 | .GtE=>some Wj
 | .Is=>some Wk
 | .IsNot=>some UL
 | .In=>some (qd false)
 | .NotIn=>some (qd true)
theorem mn{X:Cx}(hu:X.A.units+1150<cLine){op:CmpOp}{g:PV->PV->b8}(h:Eo op=some g):yy X (compareOp op) g:=by
 cases op<;>cases h
 ·exact UE hu
 ·exact UG hu
 ·exact UH
 ·exact UI
 ·exact UJ
 ·exact UK
 ·exact UM
 ·exact Pr
 ·exact UN hu
 ·exact Il hu
section
variable {K:ak} {F:Hp}
theorem bC.atI{ps:az}{vs:List V}{i:Int}{p:PV}(h:bC K F ps vs)(e:L2.atI ps i=some p):∃v,L2.atI vs i=some v/\dB K F p v:=by
 unfold L2.atI at e ⊢;rw[<-h.length];cases z:Le ps.length i with
 | none=>rw[z]at e;cases e
 | some j =>
  rw[z]at e;exact h.get e
end
def aF:PV->PV->b8
 | .aA xs,.int i=>atI xs i
 | .aq xs,.int i=>atI xs i
 | .str z,.int i=>if z.length<=iB then(atI z.cps.toList i).map fun c=>.str ⟨#[c]⟩else none
 | _,_=>none
section
variable {X:Cx} {H₀ ae:Hp} {a b e:ao} {fa fb:FE} {pos p2:Pos} {lo hi:Option ao}
theorem ixT:TY X (rT X.K aF):=by
 rintro value slice ag s σ H x y v u Q I rx ry ⟨H₀,ae,F,ρ,τ,pa,pb,p,e,R,ba,bb,k⟩ hs;unfold aF at e;split at e
 ·obtain⟨a,vs,rfl,ha,hZ⟩:=bY.mp ba;rw[aN.mp bb]at ry;obtain⟨w,hw,bw⟩:=hZ.atI e;exact T1 value slice ag s σ H _ _ v u Q I rx ry ⟨a,vs,_,w,rfl,rfl,bH R.sub ha,hw,k _ H F R (Same.refl F) bw⟩ hs
 ·obtain⟨a,vs,rfl,ha,hZ⟩:=bD.mp ba;rw[aN.mp bb]at ry;obtain⟨w,hw,bw⟩:=hZ.atI e;exact Gi value slice ag s σ H _ _ v u Q I rx ry ⟨a,vs,_,w,rfl,rfl,(b7 R.sub ha).sq,hw,k _ H F R (Same.refl F) bw⟩ hs
 ·rename_i z i;obtain⟨hz,e⟩:=aQ e;rw[cS.mp ba]at rx;rw[aN.mp bb]at ry;cases w:atI z.cps.toList i with
  | none=>rw[w]at e;cases e
  | some c =>
   rw[w]at e;cases e;exact T2 value slice ag s σ H _ _ v u Q I rx ry ⟨z,i,c,rfl,rfl,ik hz,w,k _ H F R (Same.refl F) (cS.mpr rfl)⟩ hs
 ·cases e
theorem Yg(ha:PE X a (tE X.K H₀ ae fa))(hb:PE X b (tE X.K H₀ ae fb))(hs:ml b):PE X (.Subscript a b pos) (tE X.K H₀ ae (ab fa fb aF)):=(Gh ixT ha hb hs).imp fun _ _ _ h=>rO oF h
def j6(xs:az)(lo hi:Option Int):az:=(xs.drop (HT.fI xs.length 0 lo)).take (HT.fI xs.length xs.length hi-HT.fI xs.length 0 lo)
theorem bC.cut{K:ak}{F:Hp}{ps:az}{vs:List V}(h:bC K F ps vs)(lo hi:Option Int):bC K F (j6 ps lo hi) (vv vs lo hi):=by
 unfold j6 vv;rw[h.length];exact(h.drop _).take _
theorem oM{prog:bG}{w:aW}{A:bR}{E:cR}{s:av}{t sl:af}{bg:Array ai}{vl vu:ai}{lo hi:Option Int}{Q:cR}(ht:IsTup s.heap t bg)(hs:s.heap.IsSliceOf sl vl vu .none)(pl:IsPart vl lo)(pu:IsPart vu hi)
  (h0:HT.fI bg.size 0 lo=0) (h1:HT.fI bg.size bg.size hi=bg.size) (h:Q (.ref t) s):wpAny (model prog w) A (getItem (.ref t) (.ref sl)) Q E s:=by
 obtain⟨os,TV,hcs,Xh⟩:=id hs;have hT:s.TypeIs (.ref sl) "slice":=⟨os,TV,hcs⟩;unfold getItem
 try with_reducible refine jW ?_
 first | refine au (aJ ?_) | skip
 refine au (wpAny_sequenceKey ht.typeIs (by decide) ?_)
 refine au (nj (name:=Str.ofString "__getitem__") ht.typeIs pK (jf pK ht.typeIs entry_tuple_getitem ?_ (args_tuple_getitem _ _)));show wpAny _ _ (Builtin.Tuple.tupleItemsOf (.ref t) >>= _) _ _ s;refine au (tupleItemsOf_ ht (au (xW hT ?_)));rw[if_pos (by decide)]
 refine au (HT.kj hs pl pu ?_);have hc:(((HT.fI bg.size 0 lo:Nat):Int)==0&&(1:Int)==1&&(HT.fI bg.size bg.size hi-HT.fI bg.size 0 lo)==bg.size)=true:=by
  rw[h0,h1];simp
 show wpAny _ _ (if(((HT.fI bg.size 0 lo:Nat):Int)==0&&(1:Int)==1&&(HT.fI bg.size bg.size hi-HT.fI bg.size 0 lo)==bg.size)=true then _ else _) _ _ s
 rw[if_pos hc];unfold Builtin.Tuple.tupleIsExact;refine au (au (xW ht.typeIs (aJ ?_)));rw[if_pos (by decide)]
 exact au (iQ (aJ ⟨_,rfl,aJ h⟩))
def Pt(lo hi:Option Int):PV->b8
 | .aq ps=>some (.aq (j6 ps lo hi))
 | .aA ps=>some (.aA (j6 ps lo hi))
 | _=>none
def rSl(K:ak):V->Option Int->Option Int->Hp->VK->Prop:=fun x lo hi H Q=>∃H₀ ae F ρ τ pa p,Pt lo hi pa=some p/\dI K H₀ ae F ρ τ H/\dB K F pa x/\∀v H' F',dI K H₀ ae F' ρ τ H'->Same F F'->dB K F' p v->Q v H'
theorem slT:SlR X (rSl X.K):=by
 rintro ag s σ H x v vl vu lo hi sl Q I rx hs pl pu ⟨H₀,ae,F,ρ,τ,pa,p,e,R,ba,k⟩;unfold Pt at e;split at e
 ·cases e;obtain⟨a,vs,rfl,ha,hZ⟩:=bD.mp ba;refine Gj ag s σ H _ v vl vu lo hi sl Q I rx hs pl pu ⟨a,vs,rfl,(b7 R.sub ha).sq,fun q hq=>?_⟩
  obtain⟨R2,s2⟩:=R.laid (.aq (vv vs lo hi)) hq;exact k _ _ _ R2 s2 (bD.mpr ⟨q,_,rfl,rG.of bo,(hZ.cut lo hi).mono s2⟩)
 ·rename_i ps;cases e;obtain⟨a,vs,rfl,ha,hZ⟩:=bY.mp ba;by_cases hw:HT.fI vs.length 0 lo=0/\HT.fI vs.length vs.length hi=vs.length
  ·cases rx;obtain⟨bg,r,ht,hz⟩:=I.tuple (bH R.sub ha);have dQ:bg.toArray.size=vs.length:=by rw[bJ];exact r.length.symm
   refine⟨"tuple",_,pK.lookup,ht.typeIs,?_⟩;refine oM ht hs pl pu (by rw[dQ];exact hw.1) (by rw[dQ];exact hw.2) ⟨.ref a,H,I,rfl,k _ H F R (Same.refl F) ?_⟩
   have hc:j6 ps lo hi=ps:=by
    unfold j6;rw[hZ.length,hw.1,hw.2,List.drop_zero,Nat.sub_zero,<-hZ.length,List.take_length]
   rw[hc];exact ba
  ·refine TX ag s σ H _ v vl vu lo hi sl Q I rx hs pl pu ⟨a,vs,rfl,bH R.sub ha,hw,fun q hq=>?_⟩
   obtain⟨R2,s2⟩:=R.laid (.aA (vv vs lo hi)) hq;exact k _ _ _ R2 s2 (bY.mpr ⟨q,_,rfl,jY.of bo,(hZ.cut lo hi).mono s2⟩)
 ·cases e
abbrev FO:=aI->Option (Option Int)
def Bi(K:ak)(H₀ ae:Hp)(f:FO):TO:=fun σ H Q=>∃F ρ o,dI K H₀ ae F ρ σ H/\f ρ=some o/\∀H' F',dI K H₀ ae F' ρ σ H'->Same F F'->Q o H'
theorem _root_.L2.PO.imp{X:Cx}{e:Option ao}{t t':TO}(h:PO X e t)(hi:∀σ H Q,t' σ H Q->t σ H Q):PO X e t':=fun ag s σ H Q I hw=>h ag s σ H Q I (hi _ _ _ hw)
def Pu:FO:=fun _=>some none
def lh(fe:FE):FO:=fun ρ=>(fe ρ).bind fun p=>match p with | .int i=>some (some i) | _=>none
theorem LU:PO X none (Bi X.K H₀ ae Pu):=OG.imp <| by
 rintro σ H Q ⟨F,ρ,o,R,hf,q⟩
 cases hf;exact q H F R (Same.refl F)
theorem LV(h:PE X e (tE X.K H₀ ae fa)):PO X (some e) (Bi X.K H₀ ae (lh fa)):=(OH h).imp <| by
 rintro σ H Q ⟨F,ρ,o,R,hf,q⟩
 obtain⟨p,h1,h2⟩:=aD hf;cases p with
 | int i =>
  cases h2;exact⟨F,ρ,_,R,h1,fun v H1 F1 R1 s1 b1=>⟨i,aN.mp b1,q H1 F1 R1 s1⟩⟩
 | _=>cases h2
def cutE(fa:FE)(fl fh:FO):FE:=fun ρ=>(fa ρ).bind fun p=>(fl ρ).bind fun l=>(fh ρ).bind fun h=>Pt l h p
theorem Sb{fl fh:FO}(ha:PE X e (tE X.K H₀ ae fa))(hl:PO X lo (Bi X.K H₀ ae fl))(hh:PO X hi (Bi X.K H₀ ae fh)):PE X (.Subscript e (.Slice lo hi none p2) pos) (tE X.K H₀ ae (cutE fa fl fh)):=(AJ slT ha hl hh).imp <| by
 rintro σ H Q ⟨F,ρ,p,R,hf,q⟩
 obtain⟨pa,h1,hf⟩:=aD hf;obtain⟨l,h2,hf⟩:=aD hf;obtain⟨h,h3,h4⟩:=aD hf;exact⟨F,ρ,pa,R,h1,fun v H1 F1 R1 s1 b1=>⟨F1,ρ,l,R1,h2,fun H2 F2 R2 s2=>⟨F2,ρ,h,R2,h3,fun H3 F3 R3 s3 =>
  ⟨H₀,ae,F3,ρ,σ,pa,p,h4,R3,b1.mono (s2.trans s3),fun w H4 F4 R4 s4 b4=>q w H4 F4 R4 (s1.trans (s2.trans (s3.trans s4))) b4⟩⟩⟩⟩
end
def rC(K:ak)(g:az->b8):List V->Hp->VK->Prop:=fun xs H Q=>∃H₀ ae F ρ τ ps p,g ps=some p/\dI K H₀ ae F ρ τ H/\bC K F ps xs/\∀v H' F',dI K H₀ ae F' ρ τ H'->Same F F'->dB K F' p v->Q v H'
abbrev Ep(X:Cx)(f:ai)(g:az->b8):Prop:=mR X f (rC X.K g)
def cf(g:az->b8)(ts:cg):FE:=fun ρ=>(ts ρ).bind g
theorem kP{H₀ ae:Hp}{K:ak}{g:az->b8}{ts:cg}{σ:St}{H:Hp}{Q:VK}(h:tE K H₀ ae (cf g ts) σ H Q):tCB (rC K g) (tA K H₀ ae ts) σ H Q:=by
 obtain⟨F,ρ,p,R,hf,q⟩:=h;obtain⟨ps,h1,h2⟩:=aD hf;exact⟨F,ρ,ps,R,h1,fun vs H1 F1 R1 s1 b1=>⟨H₀,ae,F1,ρ,σ,ps,p,h2,R1,b1,fun v H' F' R' s' b'=>q v H' F' R' (s1.trans s') b'⟩⟩
def cZ:az->b8
 | [.aA ps]=>some (.int ps.length)
 | [.aq ps]=>some (.int ps.length)
 | [.str z]=>if z.length<=iB then some (.int z.length)else none
 | _=>none
def mJ:az->b8
 | [.aq ps]=>some (.aA ps)
 | [.aA ps]=>some (.aA ps)
 | _=>none
def LW:az->b8
 | [.aq ps]=>some (.aq ps)
 | [.aA ps]=>some (.aq ps)
 | _=>none
def yB:az->b8
 | [.int i]=>some (.int i)
 | [.bl b]=>some (.int (if b then 1 else 0))
 | _=>none
noncomputable def iD:az->Option (List Int)
 | []=>some []
 | .int i::r=>(iD r).map fun ns=>i::ns
 | _::_=>none
def Er:az->b8
 | [.aq ps]=>(iD ps).map fun ns=>.int ns.sum
 | _=>none
theorem oN{K:ak}{F:Hp}:∀{ps:az} {ns:List Int} {vs:List V},iD ps=some ns->bC K F ps vs->vs=ns.map V.int
 | [],ns,vs,h,b=>by cases h;exact b.cP
 | .int i::r,ns,vs,h,b=>by
  unfold iD at h;cases z:iD r with
  | none=>rw[z]at h;cases h
  | some ms =>
   rw[z]at h;cases h;obtain⟨v,vr,rfl,c,d⟩:=b.cG;rw[aN.mp c,oN z d];rfl
 | .df::_,_,_,h,_=>by cases h
 | .bl _::_,_,_,h,_=>by cases h
 | .str _::_,_,_,h,_=>by cases h
 | .aA _::_,_,_,h,_=>by cases h
 | .aq _::_,_,_,h,_=>by cases h
section
variable {X:Cx}
theorem eS{K:ak}{F:Hp}{p:PV}{vs:List V}(b:bC K F [p] vs):∃v,vs=[v]/\dB K F p v:=by
 obtain⟨v,r,rfl,c,d⟩:=b.cG;rw[d.cP];exact⟨v,rfl,c⟩
theorem GD{K:ak}{F:Hp}{p q:PV}{vs:List V}(b:bC K F [p,q] vs):∃v w,vs=[v,w]/\dB K F p v/\dB K F q w:=by
 obtain⟨v,r,rfl,c,d⟩:=b.cG;obtain⟨w,rfl,e⟩:=eS d;exact⟨v,w,rfl,c,e⟩
theorem Im:Ep X (.builtin "len") cZ:=by
 rintro ag s σ H xs us Q I rs ⟨H₀,ae,F,ρ,τ,ps,p,e,R,bs,k⟩;unfold cZ at e;split at e
 ·cases e;obtain⟨v,rfl,b⟩:=eS bs;obtain⟨a,vs,rfl,ha,hZ⟩:=bY.mp b;exact kL ag s σ H _ us Q I rs ⟨a,vs,rfl,.inr (bH R.sub ha),k _ H F R (Same.refl F) (aN.mpr (by rw[hZ.length]))⟩
 ·cases e;obtain⟨v,rfl,b⟩:=eS bs;obtain⟨a,vs,rfl,ha,hZ⟩:=bD.mp b;exact kL ag s σ H _ us Q I rs ⟨a,vs,rfl,.inl (b7 R.sub ha).sq,k _ H F R (Same.refl F) (aN.mpr (by rw[hZ.length]))⟩
 ·obtain⟨hz,rfl⟩:=aU e;obtain⟨v,rfl,b⟩:=eS bs;rw[cS.mp b]at rs;exact yj ag s σ H _ us Q I rs ⟨_,rfl,ik hz,k _ H F R (Same.refl F) (aN.mpr rfl)⟩
 ·cases e
theorem Io:Ep X (.type "tuple") mJ:=by
 rintro ag s σ H xs us Q I rs ⟨H₀,ae,F,ρ,τ,ps,p,e,R,bs,k⟩;unfold mJ at e;split at e
 ·cases e;obtain⟨v,rfl,b⟩:=eS bs;obtain⟨a,vs,rfl,ha,hZ⟩:=bD.mp b;refine mU ag s σ H _ us Q I rs ⟨a,vs,rfl,.inl ⟨(b7 R.sub ha).sq,fun q hq=>?_⟩⟩
  obtain⟨R2,s2⟩:=R.laid (.aA vs) hq;exact k _ _ _ R2 s2 (bY.mpr ⟨q,_,rfl,jY.of bo,hZ.mono s2⟩)
 ·cases e;obtain⟨v,rfl,b⟩:=eS bs;obtain⟨a,vs,rfl,ha,hZ⟩:=bY.mp b;exact mU ag s σ H _ us Q I rs ⟨a,vs,rfl,.inr ⟨bH R.sub ha,k _ H F R (Same.refl F) b⟩⟩
 ·cases e
theorem Ip:Ep X (.type "list") LW:=by
 rintro ag s σ H xs us Q I rs ⟨H₀,ae,F,ρ,τ,ps,p,e,R,bs,k⟩;unfold LW at e;split at e
 ·cases e;obtain⟨v,rfl,b⟩:=eS bs;obtain⟨a,vs,rfl,ha,hZ⟩:=bD.mp b;refine kM ag s σ H _ us Q I rs ⟨a,vs,rfl,.inl (b7 R.sub ha).sq,fun q hq=>?_⟩
  obtain⟨R2,s2⟩:=R.laid (.aq vs) hq;exact k _ _ _ R2 s2 (bD.mpr ⟨q,_,rfl,rG.of bo,hZ.mono s2⟩)
 ·cases e;obtain⟨v,rfl,b⟩:=eS bs;obtain⟨a,vs,rfl,ha,hZ⟩:=bY.mp b;refine kM ag s σ H _ us Q I rs ⟨a,vs,rfl,.inr (bH R.sub ha),fun q hq=>?_⟩
  obtain⟨R2,s2⟩:=R.laid (.aq vs) hq;exact k _ _ _ R2 s2 (bD.mpr ⟨q,_,rfl,rG.of bo,hZ.mono s2⟩)
 ·cases e
theorem Iq:Ep X (.type "int") yB:=by
 rintro ag s σ H xs us Q I rs ⟨H₀,ae,F,ρ,τ,ps,p,e,R,bs,k⟩;unfold yB at e;split at e
 ·cases e;obtain⟨v,rfl,b⟩:=eS bs;rw[aN.mp b]at rs;exact wt ag s σ H _ us Q I rs (.inl ⟨_,rfl,k _ H F R (Same.refl F) (aN.mpr rfl)⟩)
 ·cases e;obtain⟨v,rfl,b⟩:=eS bs;rw[cb.mp b]at rs;exact wt ag s σ H _ us Q I rs (.inr ⟨_,rfl,k _ H F R (Same.refl F) (aN.mpr rfl)⟩)
 ·cases e
theorem Pw{ag:List (af×Obj)}{σ:St}{H F:Hp}{s:av}(I:Inv X ag σ H s)(hs:Same F H){ps:az}{ns:List Int}{v:V}(hn:iD ps=some ns)(b:dB X.K F (.aq ps) v) :
  ∃a,v=.ref a/\∃xs:Array (Int×Tok),s.heap.IsList a (intItems xs)/\ns=xs.toList.map (·.1):=by
 obtain⟨a,vs,rfl,ha,hZ⟩:=bD.mp b;obtain⟨bg,r,pl,_⟩:=I.list (b7 hs ha).sq;have ev:=oN hn hZ;subst ev;have hi:=nH r;obtain⟨xs,ex⟩:=hi.allInts.items;refine⟨a,rfl,xs,?_,?_⟩
 ·rw[<-ex];exact pl.isList
 ·rw[<-hi.numsOf,<-nums_intItems,<-ex]
theorem Ir(hc:X.A.handled=none):Ep X (.builtin "sum") Er:=by
 rintro ag s σ H xs us Q I rs ⟨H₀,ae,F,ρ,τ,ps,p,e,R,bs,k⟩;unfold Er at e;split at e
 ·rename_i ps;cases z:iD ps with
  | none=>rw[z]at e;cases e
  | some ns =>
   rw[z]at e;cases e;obtain⟨v,rfl,b⟩:=eS bs;obtain⟨a,rfl,xs,hl,hn⟩:=Pw I R.sub z b;obtain⟨u,rfl,ru⟩:=lg rs;cases ru;refine sum_intListG hc hl fun h' tk t' hk=>⟨.int ns.sum,H,I.kept (t':=tk) hk,⟨t',?_⟩,k _ H F R (Same.refl F) (aN.mpr rfl)⟩
   rw[preSum_eq,nk (by simp),hn]
 ·cases e
end
def Iu(fa:FE):FE:=fun ρ=>(fa ρ).bind fun p=>match p with | .int i=>some (.int (-i)) | _=>none
theorem Sd{X:Cx}{H₀ ae:Hp}{a:ao}{fa:FE}{pos:Pos}(ha:PE X a (tE X.K H₀ ae fa)):PE X (.UnaryOp .USub a pos) (tE X.K H₀ ae (Iu fa)):=(RK K3 ha).imp <| by
 rintro σ H Q ⟨F,ρ,p,R,hf,q⟩
 obtain⟨x,h1,h2⟩:=aD hf;cases x with
 | int i =>
  cases h2;exact⟨F,ρ,_,R,h1,fun v H1 F1 R1 s1 b1=>⟨i,aN.mp b1,q _ H1 F1 R1 s1 (aN.mpr rfl)⟩⟩
 | _=>cases h2
inductive Ty where
 | int | str | bool | tuple | list
def Ty.nm:Ty->String
 | .int=>"int" | .str=>"str" | .bool=>"bool" | .tuple=>"tuple" | .list=>"list"
def ie:Ty->PV->Bool
 | .int,.int _=>true
 | .int,.bl _=>true
 | .bool,.bl _=>true
 | .str,.str _=>true
 | .tuple,.aA _=>true
 | .list,.aq _=>true
 | _,_=>false
def GF(x:Str):Option Ty :=
 if x==("int":Str)then some .int
 else if x==("str":Str)then some .str
 else if x==("bool":Str)then some .bool
 else if x==("tuple":Str)then some .tuple
 else if x==("list":Str)then some .list
 else none
def Se(t:Ty)(fa:FE):FE:=fun ρ=>(fa ρ).map fun p=>.bl (ie t p)
def adb:PV->String
 | .df=>"NoneType" | .bl _=>"bool" | .int _=>"int" | .str _=>"str" | .aA _=>"tuple" | .aq _=>"list"
section
variable {K:ak}
theorem Px(p:PV)(t:Ty):W.kitOne K (.type (adb p)) (.type t.nm)=some (ie t p):=by
 cases p<;>cases t<;>kernel_rfl
end
section
variable {X:Cx} {H₀ ae:Hp} {a:ao} {fa:FE} {pos p1 p2:Pos}
def rIs(K:ak)(t:Ty):List V->Hp->VK->Prop:=fun xs H Q=>∃H₀ ae F ρ τ p x,xs=[x,.ty t.nm]/\dI K H₀ ae F ρ τ H/\dB K F p x/\Q (.bl (ie t p)) H
theorem Py(t:Ty):mR X (.builtin "isinstance") (rIs X.K t):=by
 rintro ag s σ H xs us Q I rs ⟨H₀,ae,F,ρ,τ,p,x,ex,R,b,q⟩;subst ex;obtain⟨u,w,rfl,ru,TZ⟩:=K9 rs;cases TZ;have e:=Px (K:=X.K) p t;have fin:∀tk,EP X ag σ Q (.bool (ie t p)) {s with toks:=tk}:=fun tk=>⟨.bl _,H,I.tok tk,rfl,q⟩
 cases p with
 | df =>
  rw[dP.mp b]at ru;cases ru;exact W.kia_one W.kitx_none I.z0 True.intro e (fun z=>nomatch z) fin
 | bl y =>
  rw[cb.mp b]at ru;cases ru;exact W.kia_one W.kitx_bool I.z0 True.intro e (fun z=>nomatch z) fin
 | int i =>
  rw[aN.mp b]at ru;obtain⟨tk,rfl⟩:=ru;exact W.kia_one W.kitx_int I.z0 True.intro e (fun z=>nomatch z) fin
 | str y =>
  rw[cS.mp b]at ru;obtain⟨tk,rfl⟩:=ru;exact W.kia_one W.kitx_str I.z0 True.intro e (fun z=>nomatch z) fin
 | aA ps =>
  obtain⟨ad,vs,rfl,ha,_⟩:=bY.mp b;cases ru;obtain⟨bg,_,⟨o,h1,h2,_⟩,_⟩:=I.tuple (bH R.sub ha);exact W.kia_one W.kitx_tuple I.z0 ⟨o,h1,h2⟩ e (fun z=>nomatch z) fin
 | aq ps =>
  obtain⟨ad,vs,rfl,ha,_⟩:=bD.mp b;cases ru;obtain⟨bg,n,_,h1,_⟩:=I.uf (b7 R.sub ha);exact W.kia_one W.kitx_list I.z0 ⟨_,h1,rfl⟩ e (fun z=>nomatch z) fin
theorem ro:bootBuiltins "isinstance"=some (.builtin "isinstance"):=by kernel_rfl
theorem kQ(t:Ty):bootBuiltins (Str.ofString t.nm)=some (.type t.nm):=by cases t<;>kernel_rfl
theorem LX{x:Str}{t:Ty}(h:GF x=some t):x=Str.ofString t.nm:=by
 unfold GF at h;split at h
 ·rename_i e;cases h;exact b6 e
 ·split at h
  ·rename_i e;cases h;exact b6 e
  ·split at h
   ·rename_i e;cases h;exact b6 e
   ·split at h
    ·rename_i e;cases h;exact b6 e
    ·split at h
     ·rename_i e;cases h;exact b6 e
     ·cases h
theorem ade{x:Str}{t:Ty}(ht:GF x=some t)(hg:Gl X "isinstance")(hm:X.mg "isinstance"=none)(hg2:Gl X x)(hm2:X.mg x=none)(ha:PE X a (tE X.K H₀ ae fa))(hs:∀es,starEach (a::es) X.env=(false,eval a X.env)::starEach es X.env) :
  PE X (.Call (.Name "isinstance" p1) [a,.Name x p2] [] pos) (tE X.K H₀ ae (Se t fa)):=by
 have hx:=LX ht;subst hx;have hn:(Str.ofString t.nm)≠"__name__":=by cases t<;>decide
 have HS:((Str.ofString t.nm)==("__debug__":Str))=false:=by cases t<;>decide
 refine(lN (Py t) hg hm ro (dW ha (dW (Oo (v:=.ty t.nm) hg2 hm2 (kQ t) rfl hn HS) jZ rfl) (hs _)) (by decide) (by decide) (hs _)).imp fun σ H Q ⟨F,ρ,p,R,hf,q⟩=>?_
 unfold Se at hf;cases z:fa ρ with
 | none=>rw[z]at hf;cases hf
 | some p' =>
  rw[z]at hf;cases hf;exact⟨F,ρ,p',R,z,fun v H1 F1 R1 s1 b1=>⟨H₀,ae,F1,ρ,σ,p',v,rfl,R1,b1,q _ H1 F1 R1 s1 (cb.mpr rfl)⟩⟩
end
def SI(h:Heap)(it l:af)(k:Nat)(xs:Array ai):Prop:=(h.IsListIter it l k/\h.IsList l xs)\/(h.IsTupleIter it l k/\h.IsTuple l xs)
theorem SI.at{h h':Heap}{it l:af}{k:Nat}{xs:Array ai}(x:SI h it l k xs)(h1:∀o,h.get? it=some o->h'.get? it=some o)(h2:∀o,h.get? l=some o->h'.get? l=some o):SI h' it l k xs:=by
 rcases x with⟨⟨o,e,r⟩,⟨o',e',r'⟩⟩ | ⟨⟨o,e,r⟩,⟨o',e',r'⟩⟩
 ·exact .inl ⟨⟨o,h1 o e,r⟩,⟨o',h2 o' e',r'⟩⟩
 ·exact .inr ⟨⟨o,h1 o e,r⟩,⟨o',h2 o' e',r'⟩⟩
theorem SI.Sf{h:Heap}{it l:af}{k:Nat}{xs:Array ai}(x:SI h it l k xs):∃o,h.get? it=some o/\∃vs,o.data=.fields vs:=by
 rcases x with⟨⟨o,e,_,d⟩,_⟩ | ⟨⟨o,e,_,d⟩,_⟩
 ·exact⟨o,e,_,d⟩
 ·exact⟨o,e,_,d⟩
theorem SI.sq{h:Heap}{it l:af}{k:Nat}{xs:Array ai}(x:SI h it l k xs):∃o n,h.get? l=some o/\o.data=.seq xs n:=by
 rcases x with⟨_,⟨o,e,_,n,d⟩⟩ | ⟨_,⟨o,e,_,n,d⟩⟩
 ·exact⟨o,n,e,d⟩
 ·exact⟨o,n,e,d⟩
theorem SI.ne{h:Heap}{it l:af}{k:Nat}{xs:Array ai}(x:SI h it l k xs):l≠it:=fun z=>by
 obtain⟨o,e,vs,d⟩:=x.Sf;obtain⟨o',n,e',d'⟩:=x.sq;subst z;rw[e]at e';cases e';rw[d]at d';cases d'
section
variable {prog:bG} {w:aW} {A:bR} {E:cR} {s:av}
theorem Es{it t:af}{i:Nat}{bg:Array ai}{x:ai}{Q:cR}(vA:s.heap.IsTupleIter it t i)(ht:s.heap.IsTuple t bg)(hx:bg[i]?=some x)
  (hQ:∀h',h'.IsTupleIter it t (i+1)->Heap.SameBut it s.heap h'->Q x {s with heap:=h'}):wpAny (model prog w) A (Builtin.SmallTypes.nextOf (.ref it)) Q E s:=by
 obtain⟨o,ho,hc,hd⟩:=id vA;obtain⟨ol,Wl,_,nl,Iv⟩:=ht;unfold Builtin.SmallTypes.nextOf;refine au (nj (name:=Str.ofString "__next__") vA.typeIs xq (jf xq vA.typeIs Kc (by
  show wpAny _ _ (field (.ref it) 0 >>= _) _ _ s;refine au (lH ho hd (x:=.ref t) rfl ?_);show wpAny _ _ (if(Value.ref t==Value.none)=true then _ else _) _ _ s
  rw[if_neg (show ¬((Value.ref t==Value.none)=true)from je)]
  show wpAny _ _ (field (.ref it) 1 >>= _) _ _ s;refine au (lH ho hd (x:=.int i 0) rfl ?_);show wpAny _ _ (seqItems? (.ref t) >>= _) _ _ s;refine au (wpAny_seqItems Wl Iv ?_);simp only[gM,hx];refine au (sJ ho hd (by simp) (aJ ⟨x,rfl,aJ (hQ _ ⟨_,xx _ ho (Dg (pQ hd _)),(Du ..).trans hc,by rw[pQ hd];simp[rawInt]⟩ (pP ..))⟩))) (Kb _)))
theorem Et{it t:af}{i:Nat}{bg:Array ai}{Q:cR}(hh:A.handled=none)(vA:s.heap.IsTupleIter it t i)(ht:s.heap.IsTuple t bg)(hx:bg[i]?=none)
  (hE:∀h' e,Heap.ExtBut it s.heap h'->(∃o,h'.get? e=some o/\o.cls=.type "StopIteration")->E (.ref e) {s with heap:=h'}):wpAny (model prog w) A (Builtin.SmallTypes.nextOf (.ref it)) Q E s:=by
 obtain⟨o,ho,hc,hd⟩:=id vA;obtain⟨ol,Wl,_,nl,Iv⟩:=ht;unfold Builtin.SmallTypes.nextOf;refine au (nj (name:=Str.ofString "__next__") vA.typeIs xq (jf xq vA.typeIs Kc (by
  show wpAny _ _ (field (.ref it) 0 >>= _) _ _ s;refine au (lH ho hd (x:=.ref t) rfl ?_);show wpAny _ _ (if(Value.ref t==Value.none)=true then _ else _) _ _ s
  rw[if_neg (show ¬((Value.ref t==Value.none)=true)from je)]
  show wpAny _ _ (field (.ref it) 1 >>= _) _ _ s;refine au (lH ho hd (x:=.int i 0) rfl ?_);show wpAny _ _ (seqItems? (.ref t) >>= _) _ _ s;refine au (wpAny_seqItems Wl Iv ?_);simp only[gM,hx];refine au (iQ (au (sJ ho hd (by simp) ?_)))
  show wpAny _ _ (newExc (.type "StopIteration") [] >>= _) _ _ _;refine au ?_;simp only[newExc,newTuple];refine au (jQ ?_ (by size_fits))
  refine au (m:=firstArgMember _ _) (wpAny_of_eq (a:=Value.none) (by first | rfl | (simp only[firstArgMember];rfl)) ?_)
  refine jQ ?_ (by size_fits)
  simp only[raiseNew];refine au (wpAny_handled ?_)
  first | rw[show A.in1.handled=none from hh] | rw[hh]
  exact au (aJ (wpAny_throw (hE _ _ (((pP ..).extBut.push _).push _) ⟨_,d3 _ rfl,rfl⟩)))) (Kb _)))
theorem SI.next{it l:af}{k:Nat}{xs:Array ai}{x:ai}{Q:cR}(hi:SI s.heap it l k xs)(hx:xs[k]?=some x)(hQ:∀h',SI h' it l (k+1) xs->Heap.SameBut it s.heap h'->Q x {s with heap:=h'}) :
  wpAny (model prog w) A (Builtin.SmallTypes.nextOf (.ref it)) Q E s:=by
 have ne:=hi.ne;rcases hi with⟨h1,h2⟩ | ⟨h1,h2⟩
 ·exact wpAny_nextOf_list_item h1 h2 hx fun h' a b=>hQ h' (.inl ⟨a,h2.extBut b.extBut ne⟩) b
 ·exact Es h1 h2 hx fun h' a b=>hQ h' (.inr ⟨a,h2.extBut b.extBut ne⟩) b
theorem SI.stop{it l:af}{k:Nat}{xs:Array ai}{Q:cR}(hh:A.handled=none)(hi:SI s.heap it l k xs)(hx:xs[k]?=none)
  (hE:∀h' e,Heap.ExtBut it s.heap h'->(∃o,h'.get? e=some o/\o.cls=.type "StopIteration")->E (.ref e) {s with heap:=h'}):wpAny (model prog w) A (Builtin.SmallTypes.nextOf (.ref it)) Q E s:=by
 rcases hi with⟨h1,h2⟩ | ⟨h1,h2⟩
 ·exact wpAny_nextOf_list_end hh h1 h2 hx hE
 ·exact Et hh h1 h2 hx hE
end
section
variable {prog:bG} {w:aW} {A:bR} {E:cR} {s:av} {z TI TO i1 i2 l1 l2:Nat} {k:Nat} {xs ys:Array ai}
def wO(h:Heap)(l:af)(xs:Array ai)(c:String):Prop:=(c="list_iterator"/\h.IsList l xs)\/(c="tuple_iterator"/\h.IsTuple l xs)
theorem rP{l:af}{xs:Array ai}{c:String}{Q:cR}(h:wO s.heap l xs c)(hQ:Q (.ref s.heap.objs.size) {s with heap:=s.heap.push {cls:=.type c,data:=.fields #[.ref l,.int 0 0]}}):wpAny (model prog w) A (pyIter (.ref l)) Q E s:=by
 rcases h with⟨rfl,h⟩ | ⟨rfl,h⟩
 ·exact Dq h hQ
 ·exact wpAny_pyIter_tuple h hQ
end
def GG(K:ak)(H:Hp)(c:Bool)(l:af)(vs:List V):Prop:=if c=true then nG K H l vs else jY K H l vs
def J3(h:Heap)(c:Bool)(it l:af)(k:Nat):Prop:=if c=true then h.IsListIter it l k else h.IsTupleIter it l k
def Iw(c:Bool):String:=if c=true then "list_iterator" else "tuple_iterator"
section
variable {X:Cx} {ag:List (af×Obj)} {σ:St} {H:Hp} {s:av}
theorem GG.get(I:Inv X ag σ H s){c:Bool}{l:af}{vs:List V}(h:GG X.K H c l vs):∃bg:cj,Vals vs bg/\wO s.heap l bg.toArray (Iw c):=by
 unfold GG at h;unfold Iw;cases c with
 | true =>
  obtain⟨bg,r,pl,_⟩:=I.list (show nG X.K H l vs from h)
  exact⟨bg,r,.inl ⟨rfl,pl.isList⟩⟩
 | false =>
  obtain⟨bg,r,pl,_⟩:=I.tuple (show jY X.K H l vs from h)
  exact⟨bg,r,.inr ⟨rfl,pl⟩⟩
theorem GG.inj(I:Inv X ag σ H s){c:Bool}{l:af}{vs ws:List V}(h:GG X.K H c l vs)(h':GG X.K H c l ws):vs=ws:=by
 unfold GG at h h';cases c with
 | true=>exact I.tQ h h'
 | false=>exact I.pZ h h'
theorem Sg{h:Heap}{c:Bool}{it l:af}{k:Nat}{xs:Array ai}(h1:J3 h c it l k)(h2:wO h l xs (Iw c)):SI h it l k xs:=by
 unfold J3 at h1;cases c with
 | true =>
  rcases h2 with⟨_,q⟩ | ⟨q,_⟩
  ·exact .inl ⟨h1,q⟩
  ·exact absurd q (by decide)
 | false =>
  rcases h2 with⟨q,_⟩ | ⟨_,q⟩
  ·exact absurd q (by decide)
  ·exact .inr ⟨h1,q⟩
theorem Pz{h:Heap}{c:Bool}{it l:af}{k k':Nat}{xs:Array ai}{h0:Heap}(h1:SI h it l k xs)(h2:wO h0 l xs (Iw c))(kp:∀o,h0.get? l=some o->h.get? l=some o):J3 h c it l k:=by
 unfold J3;cases c with
 | true =>
  rcases h2 with⟨_,⟨o,e,hc,_⟩⟩ | ⟨q,_⟩
  ·rcases h1 with⟨a,_⟩ | ⟨_,⟨o',e',Aa,_⟩⟩
   ·exact a
   ·have e2:=kp o e;rw[e']at e2;cases e2;rw[hc]at Aa;simp at Aa
  ·exact absurd q (by decide)
 | false =>
  rcases h2 with⟨q,_⟩ | ⟨_,⟨o,e,hc,_⟩⟩
  ·exact absurd q (by decide)
  ·rcases h1 with⟨_,⟨o',e',Aa,_⟩⟩ | ⟨a,_⟩
   ·have e2:=kp o e;rw[e']at e2;cases e2;rw[hc]at Aa;simp at Aa
   ·exact a
theorem Inv.turns{t':Nat}{h':Heap}{ch:List af}(I:Inv X ag σ H s)(hf:∀b∈ch,yc X ag H b)(kp:∀b o,b∉ch->s.heap.get? b=some o->h'.get? b=some o):Inv X ag σ H {s with heap:=h',toks:=t'}:=by
 have WS:∀b u,H b=some u->b∉ch:=fun b u e z=>by rw[(hf b z).1]at e;cases e
 refine I.step (g':=s.gens) (d':=s.drawn) (ch:=ch) (fun b hb=>⟨(hf b hb).2.2.2.1,(hf b hb).2.1,(hf b hb).2.2.2.2.1,(hf b hb).2.2.2.2.2⟩) (fun b o _ _ hc e _=>kp b o hc e) (fun b o _ _ hc e _=>⟨o.slots,kp b o hc e⟩) (fun _ _ _ _ n=>n)
  (fun b o hc e=>⟨o,kp b o hc e⟩) (fun _ _ e=>e) (fun _ _ _ e=>e) (fun _ _ e=>e) (fun m hm=>?_) (fun b u e=>?_) I.bare
 ·obtain⟨o,es,ep,ho,r⟩:=hm;exact⟨o,es,ep,kp _ o (fun z=>(hf _ z).2.1 rfl) ho,r⟩
 ·refine(I.hok b u e).AA (fun c v hc q=>kp c v ?_ q) (fun _ q=>q) (fun _ _ q=>q) fun _ _ _ q=>q
  rcases hc with z | z
  ·rw[z];exact WS b u e
  ·exact WS c _ z
end
theorem J3.at{h h':Heap}{c:Bool}{it l:af}{k:Nat}(x:J3 h c it l k)(h1:∀o,h.get? it=some o->h'.get? it=some o):J3 h' c it l k:=by
 cases c with
 | true =>
  obtain⟨o,e,r⟩:=(show h.IsListIter it l k from x)
  exact(show h'.IsListIter it l k from⟨o,h1 o e,r⟩)
 | false =>
  obtain⟨o,e,r⟩:=(show h.IsTupleIter it l k from x)
  exact(show h'.IsTupleIter it l k from⟨o,h1 o e,r⟩)
theorem J3.obj{h:Heap}{c:Bool}{it l:af}{k:Nat}(x:J3 h c it l k):∃o,h.get? it=some o/\∀v,o.data≠.cell v:=by
 unfold J3 at x;split at x
 ·obtain⟨o,e,_,d⟩:=x;exact⟨o,e,fun v=>by rw[d];simp⟩
 ·obtain⟨o,e,_,d⟩:=x;exact⟨o,e,fun v=>by rw[d];simp⟩
def Si:ao->Bool
 | .Tuple _ _ _=>true
 | _=>false
def LY:PV->Option az
 | .aA ps=>some ps
 | .aq ps=>some ps
 | _=>none
def Bj(p q:PV):PV:=.aA [p,q]
theorem LZ{K:ak}{F:Hp}{p:PV}{ps:az}{x:V}(h:LY p=some ps)(b:dB K F p x):∃c l vs,x=.ref l/\GG K F c l vs/\bC K F ps vs/\∀F',Same F F'->GG K F' c l vs:=by
 cases p with
 | aA qs =>
  cases h;obtain⟨l,vs,rfl,h1,h2⟩:=bY.mp b;exact⟨false,l,vs,rfl,h1,h2,fun F' s=>bH s h1⟩
 | aq qs =>
  cases h;obtain⟨l,vs,rfl,h1,h2⟩:=bD.mp b;exact⟨true,l,vs,rfl,h1.sq,h2,fun F' s=>(b7 s h1).sq⟩
 | _=>cases h
theorem L0{prog:bG}{w:aW}{A:bR}{it l:af}{xs:Array ai}(hh:A.handled=none):Draws prog w A it [it,l] xs.size (fun i x=>xs[i]?=some x) (fun i h=>SI h it l i xs) where
 live:=fun i h st=>by
  obtain⟨o,e,_⟩:=st.Sf;exact⟨o,e⟩
 frame:=fun i h h' st k=>st.at (fun o e=>k it (by simp) o e) (fun o e=>k l (by simp) o e)
 item:=fun i s Q E hi st hQ=>SI.next st (xt hi) fun h' a b=>hQ _ h' s.toks (xt hi) a b
 done:=fun s Q E st hE=>SI.stop hh st (Array.getElem?_eq_none (aV _)) hE
set_option maxHeartbeats 2000000 in
theorem L1(l:af)(xs:Array ai)(c:String)(part:Obj) :
  Meets (Builtin.«enumerate.__new__» ⟨[.type "enumerate",.ref l],[]⟩) (fun _ R s=>wO s.heap l xs c/\s.heap.get? l=some part /\
   ∀h1 h2:Heap,h1=s.heap.push {cls:=.type c,data:=.fields #[.ref l,.int 0 0]}->h2=h1.push {cls:=.type "enumerate",data:=.fields #[.none,.bool false,.ref s.heap.objs.size,rawInt 0,.none,.none]}->R (.ok (.ret (.ref h1.objs.size))) {s with heap:=h2}) :=
 .of_wp fun prog w A R s h=>by
  obtain⟨hp,g,d,tk,os⟩:=s;obtain⟨hl,hpt,h⟩:=h;have hL:wO (Shared.heap ⟨hp,g,d,tk,os⟩) l xs c:=hl;have L3:=sub_enumerate;rcases hl with⟨rfl,⟨o,e,hc,n,hd⟩⟩ | ⟨rfl,⟨o,e,hc,n,hd⟩⟩
  ·obtain⟨oc,od,odt,Xc⟩:=o;replace hc:oc=.type "list":=hc;replace hd:odt=.seq xs n:=hd;subst hc hd
   wp_walk using lz e
   refine wpAny_stack_any fun st=>aJ ?_
   split
   ·rename_i c' _ _ _ _ _;cases(c'==Value.type "enumerate")<;>(wp_walk using lz e,rP hL)<;>exact⟨_,rfl,h _ _ rfl rfl⟩
   ·wp_walk using lz e,rP hL
    exact⟨_,rfl,h _ _ rfl rfl⟩
  ·obtain⟨oc,od,odt,Xc⟩:=o;replace hc:oc=.type "tuple":=hc;replace hd:odt=.seq xs n:=hd;subst hc hd
   wp_walk using lz e
   refine wpAny_stack_any fun st=>aJ ?_
   split
   ·rename_i c' _ _ _ _ _;cases(c'==Value.type "enumerate")<;>(wp_walk using lz e,rP hL)<;>exact⟨_,rfl,h _ _ rfl rfl⟩
   ·wp_walk using lz e,rP hL
    exact⟨_,rfl,h _ _ rfl rfl⟩
theorem PC{prog:bG}{w:aW}{A:bR}{E:cR}{s:av}{e it l:af}{k:Nat}{i:Int}{xs:Array ai}{old:ai}{Q:nE->av->Prop}(hh:A.handled=none)(a1:IsEnum s.heap e it i old)(st:SI s.heap it l k xs)(hx:xs[k]?=none)(hQ:∀h',Heap.ExtBut it s.heap h'->Q none {s with heap:=h'}):wpAny (model prog w) A (pyNext (.ref e)) Q E s:=by
 have ty:s.TypeIs (.ref e) "enumerate":=⟨_,a1,rfl⟩;unfold pyNext;refine au (xU (nj (name:=Str.ofString "__next__") ty F.slot_enumerate_next (jf F.slot_enumerate_next ty F.entry_enumerate_next (by
  show wpAny _ _ (field (.ref e) 2 >>= _) _ _ _;refine au (lH a1 rfl (x:=.ref it) rfl (au (SI.stop hh st hx fun h' y sb ⟨o,ho,hc⟩=>?_)))
  exact au (Dw (T:="StopIteration") (b:=true) ⟨o,ho,hc⟩ isSubtype_stop (aJ (hQ _ sb)))) (F.args_enumerate_next_1 _))))
def Ien(K:ak)(c:Bool)(l:af):It where
 go:=fun i H=>∃vs v,GG K H c l vs/\vs[i]?=some v
 yld:=fun i H x H'=>∃T v,H T=none/\x=.ref T/\H'=eI H T (.aA [.int i,v])/\∀vs,GG K H c l vs->vs[i]?=some v
 stop:=fun i H=>∃vs,GG K H c l vs/\vs.length<=i
def eTn(e it l:Nat)(c:Bool)(i:Nat)(h:Heap):Prop:=(∃old,IsEnum h e it i old)/\J3 h c it l i
theorem PD{P:bG}{w:aW}{K:ak}{elts:List ao}{x1:Nat}{Yh:Pos}{e it l:Nat}{c:Bool}(ord:it<e)(o1:l<it) :
  Turn P w K (.Tuple elts x1 Yh) (Ien K c l) [e,it] e (eTn e it l c) where
 mem:=cq
 obj:=by
  rintro i h ⟨⟨_,a1⟩,a2⟩ b hb
  simp only[bB,eY,fg]at hb;rcases hb with rfl | rfl
  ·exact⟨_,a1,fun v=>by simp⟩
  ·exact a2.obj
 keep:=fun i h h' ⟨⟨old,a1⟩,a2⟩ k=>⟨⟨old,k e (by simp) _ a1⟩,a2.at fun o x=>k it (by simp) o x⟩
 item:=by
  rintro X hP hw hK hc i ag s σ H E I hf ⟨⟨old,a1⟩,a2⟩ ⟨vs,v,hv,ev⟩
  subst hP hw hK;obtain⟨bg,r1,k1⟩:=hv.get I;obtain⟨x,ex,rx⟩:=r1.get ev;have hJ:i<bg.toArray.size:=by
   have:=(fU.mp ex).1;simpa using this
  have ne:e≠it:=sM ord;have nel:e≠l:=sM (Nat.lt_trans o1 ord);have Iv:X.A.in1.handled=none:=I.ok.hd hc;refine wpAny_pyNext_enum_itemD (L0 (xs:=bg.toArray) (l:=l) Iv) a1 (Sg a2 k1) hJ ne (by simp[ne,nel]) fun x' h' tk OX hO st hT hs' kp=>⟨_,rfl,?_⟩
  have xe:x'=x:=by
   have e1:bg.toArray[i]?=some x:=by simpa using ex
   rw[e1]at OX;cases OX;rfl
  subst xe;refine wpAny_letOwnedTupleGo_enum hO fun h'' adh sb=>?_
  have big:∀b∈[e,it],b<s.heap.objs.size:=fun b hb=>by
   simp only[bB,eY,fg]at hb;have h1:e<s.heap.objs.size:=bX a1;rcases hb with rfl | rfl<;>lia
  have eT:e≠s.heap.objs.size:=cX (big e (by simp))
  have kp2:∀b o,b∉[e,it]->s.heap.get? b=some o->h''.get? b=some o:=fun b o hb z=>by
   simp only[bB,eY,fg,not_or]at hb;exact sb.extBut _ _ hb.1 (kp b o hb.1 hb.2 z)
  have I1:Inv X ag σ H {s with heap:=h'',toks:=tk+1}:=Inv.turns I hf kp2
  have hn:H s.heap.objs.size=none:=I.fresh;have fp0:=I.KU (H':=H) (aV _) hn;have pr:h''.get? s.heap.objs.size=some {cls:=.type "tuple",data:=.seq #[.int i tk,x']}:=sb.extBut _ _ (eP eT) hT
  have I2:=Inv.adopt (D:=s.heap.objs.size) (o:=.aA [.int i,v]) I1 hn (by
    rcases fp0.2.2.2.1 with q | q
    ·exact I.sz
    ·exact q) fp0.2.1 fp0.2.2.2.2.1 fp0.2.2.2.2.2 ⟨(by show 2<=sizeLine;decide),[.int i tk,x'],.cons ⟨tk,rfl⟩ (.cons rx .nil),⟨_,pr,rfl,0,rfl⟩⟩
  refine⟨.ref s.heap.objs.size,_,I2,rfl,⟨s.heap.objs.size,v,hn,rfl,rfl,fun Uk h1=>?_⟩,⟨⟨_,adh⟩,?_⟩,fun b hb=>?_⟩
  ·rw[<-GG.inj I hv h1];exact ev
  ·have nli:l≠it:=cX o1;have q:=Pz (k':=i) st k1 fun o z=>kp l o (eP nel) nli z
   exact q.at fun o z=>sb.extBut _ _ (eP ne) z
  ·rw[aX (cX (big b hb))];exact(hf b hb).1
 done:=by
  rintro X hP hw hK hc i ag s σ H E I hf ⟨⟨old,a1⟩,a2⟩ ⟨vs,hv,he⟩
  subst hP hw hK;obtain⟨bg,r1,k1⟩:=hv.get I;have hz:bg.toArray[i]?=none:=Array.getElem?_eq_none (by rw[bJ,<-r1.length];exact he)
  refine PC (I.ok.hd hc) a1 (Sg a2 k1) hz fun h' sb=>⟨rfl,?_⟩
  exact Inv.turns (t':=s.toks) I hf fun b o hb z=>by
   simp only[bB,eY,fg,not_or]at hb;exact sb b o hb.2 z
 self:=fun A i s Q E ⟨⟨_,a1⟩,_⟩ q=>wpAny_pyIter_enum a1 q
def fx:Nat->az->az
 | _,[]=>[]
 | k,p::r=>Bj (.int k) p::fx (k+1) r
theorem qe:∀(ps:az) (k i:Nat),(fx k ps)[i]?=ps[i]?.map fun p=>Bj (.int ((k+i:Nat):Int)) p
 | [],k,i=>by simp[fx]
 | p::r,k,0=>by simp[fx]
 | p::r,k,i+1=>by
  simp only[fx,List.getElem?_cons_succ];rw[qe r (k+1) i,show k+1+i=k+(i+1) by lia]
def mZ(fa:FE):cg:=fun ρ=>(fa ρ).bind fun p=>(LY p).map fun ps=>fx 0 ps
theorem PF{K:ak}{F:Hp}{c:Bool}{l:af}{ps:az}{vs:List V}(k1:∀F',Same F F'->GG K F' c l vs)(b1:bC K F ps vs):LD K (Ien K c l) F (fx 0 ps):=by
 intro H₀ ae F' ρ σ H R s i;have h1:=k1 H (s.trans R.sub);refine⟨fun p e=>?_,fun e=>?_⟩
 ·rw[qe]at e;cases z1:ps[i]? with
  | none=>rw[z1]at e;cases e
  | some p1 =>
   rw[z1]at e;cases e;obtain⟨v,e1,c1'⟩:=b1.get z1;refine⟨⟨vs,v,h1,e1⟩,fun x H' ⟨T,v',hn,hx,hH,p5⟩=>?_⟩
   have g1:=p5 vs h1;rw[e1]at g1;cases g1;subst hx hH;obtain⟨R2,s2⟩:=R.laid (.aA [.int i,v]) hn;refine⟨_,R2,s2,bY.mpr ⟨T,[.int i,v],rfl,jY.of bo,.cons ?_ (.cons (c1'.mono (s.trans s2)) .nil)⟩⟩;rw[fV];exact aN.mpr rfl
 ·refine⟨vs,h1,?_⟩;rw[qe]at e;cases z1:ps[i]? with
  | none =>
   have:=sh.mp z1;rw[b1.length]at this;exact this
  | some p1=>rw[z1]at e;cases e
section
variable {X:Cx} {H₀ ae:Hp} {a tg:ao} {fa:FE} {pos p:Pos}
theorem adi(ht:Si tg=true)(hg:Gl X "enumerate")(hm:X.mg "enumerate"=none)(ha:PE X a (tE X.K H₀ ae fa))(hs:starEach [a] X.env=[(false,eval a X.env)]) :
  PI X tg (.Call (.Name "enumerate" p) [a] [] pos) (tI X.K H₀ ae (mZ fa)):=by
 rintro ag s σ H R I ⟨F,ρ,zs,Rp,hf,q⟩;obtain⟨pa,f1,hf⟩:=aD hf;cases f3:LY pa with
 | none=>rw[f3]at hf;cases hf
 | some ps =>
  rw[f3]at hf;cases hf;have hA:=dW ha jZ hs pos ag s σ H (fun vs H'=>∃F' x,vs=[x]/\dI X.K H₀ ae F' ρ σ H'/\Same F F'/\dB X.K F' pa x) I
   ⟨F,ρ,pa,Rp,f1,fun v H1 F1 R1 s1 b1=>⟨F1,v,rfl,R1,s1,b1⟩⟩
  refine Call_ (ld_blt I hg hm boot_enumerate (pM (thn hA fun us s1 ⟨vs,H1,I1,r1,F1,x,ev,R1,Wi,b1⟩=>?_) hs rfl))
  subst ev;obtain⟨u1,rfl,Yi⟩:=lg r1;obtain⟨c1,l1,vs1,rfl,q1,bl1,k1⟩:=LZ f3 b1;cases Yi;obtain⟨bg,v1,kk1⟩:=(k1 H1 R1.sub).get I1;obtain⟨part,Sj⟩:∃o,s1.heap.get? l1=some o:=by
   rcases kk1 with⟨_,⟨o,e,_⟩⟩ | ⟨_,⟨o,e,_⟩⟩
   ·exact⟨o,e⟩
   ·exact⟨o,e⟩
  have lt1:l1<s1.heap.objs.size:=bX Sj;refine callType_new PySem.F.called_enumerate (by decide) (PySem.F.typeCall_enumerate_1 _) (PySem.F.newCall_enumerate_1 _) (fun obj=>PySem.F.args_object_init_2 obj _) PySem.F.entry_enumerate_new (L1 l1 bg.toArray (Iw c1) part) ⟨kk1,Sj,fun h1 h2 e1 e2=>?_⟩
  have z1:h1.objs.size=s1.heap.objs.size+1:=by rw[e1];exact sL ..
  have p1:∀b o,s1.heap.get? b=some o->h1.get? b=some o:=fun b o e=>by rw[e1];exact cD _ e
  have p2:∀b o,h1.get? b=some o->h2.get? b=some o:=fun b o e=>by rw[e2];exact cD _ e
  have g2:IsEnum h2 h1.objs.size s1.heap.objs.size 0 .none:=by rw[e2];exact d3 _ rfl
  have g1:h2.get? s1.heap.objs.size=some {cls:=.type (Iw c1),data:=.fields #[.ref l1,.int 0 0]}:=p2 _ _ (by rw[e1];exact d3 _ rfl)
  have itc:J3 h2 c1 s1.heap.objs.size l1 0:=by
   cases c1 with
   | true=>exact(show h2.IsListIter s1.heap.objs.size l1 0 from⟨_,g1,rfl,rfl⟩)
   | false=>exact(show h2.IsTupleIter s1.heap.objs.size l1 0 from⟨_,g1,rfl,rfl⟩)
  have I2:Inv X ag σ H1 {s1 with heap:=h2,toks:=s1.toks}:=I1.kept fun b o e=>p2 _ _ (p1 _ _ e)
  have C0:∀b,s1.heap.objs.size<=b->H1 b=none:=fun b hb=>I1.hok.fresh hb
  refine⟨⟨_,g2,rfl⟩,?_⟩;show wpAny _ _ (pyIter (.ref h1.objs.size)) _ _ {s1 with heap:=h2,toks:=s1.toks}
  refine wpAny_pyIter_enum g2 ?_;cases tg with
  | Tuple elts x1 Yh =>
   refine⟨h1.objs.size,[h1.objs.size,s1.heap.objs.size],_,_,H1,rfl,I2,PD (it:=s1.heap.objs.size) (l:=l1) (c:=c1) (by lia) lt1,⟨⟨_,g2⟩,itc⟩,fun b hb=>?_,q _ H1 F1 R1 Wi (PF k1 bl1)⟩
   simp only[bB,eY,fg]at hb;have Ui:s1.heap.objs.size<=b:=by rcases hb with rfl | rfl<;>lia
   exact I1.KU (H':=H1) Ui (C0 b Ui)
  | _=>cases ht
end
theorem PH{P:bG}{w:aW}{K:ak}{mg:ee}{base:Heap}{x qual:Str}{st:aG}{f:af}{fd:er}{N ps:List Str}{k:Nat}{sp:Sp}(F:DH K x qual st f fd)(S:ez N ps (aO st))(len:∀vs H Q E,sp vs H Q E->vs.length=ps.length)
  (hbody:∀(dR:ai) (A:bR) (outer:List Env) (s:av) (H:Hp) (vs:List V) (Q:VK) (E:XK),fm k (A.deeper (envOfC qual (aO st) s.heap.objs.size f dR))->sp vs H Q E ->
   ∃t,rh (mD (mW P w) P w K mg base N qual (aO st) f dR A outer s H E) (dH st) t/\t {nx:=fun _ H'=>Q .df H',rt:=Q} (start N vs) H):FnOk P w K mg base (mW P w) (k+1) f fd ps sp:=by
 obtain⟨oc,od,kV,doc,pm,an,dR,ct,vp,rfl,lk,vU⟩:=F.ex;exact Ge lk vU S len fun A outer s H vs Q E hr ox=>hbody dR A outer s H vs Q E hr ox
def PJ(mg:ee)(D:Str)(dv:ai):Prop:=mg D=some dv\/(mg D=none/\bootBuiltins D=some dv/\D≠"__name__")
def L4(K:ak)(mg:ee)(C D:Str)(b:Bool):Prop:=∃cls dv,ClsAt K C cls/\PJ mg D dv/\((∃Da,dv=.ref Da)\/∃T,dv=.type T)/\W.exmOne K cls dv=some b/\W.kitOne K cls dv=some b
def GH(K:ak)(mg:ee)(P:Params)(T:Str)(ck:List (Str×Str)):Prop :=
 ∃a es n,mg T=some (.ref a)/\K.lookup a=some ⟨.type "dict",none,.dict es n,#[]⟩/\W.KeysLit P es.toList/\∀k fn,ck.lookup k=some fn->∃f,W.nsIn K a k=some (some (.ref f))/\mg fn=some (.ref f)/\W.nsIn K mainGlobals fn=some (some (.ref f))
section
variable {X:Cx} {H₀ ae:Hp} {e ke:ao} {es:List ao} {fk:FE} {ts:cg} {pos p sp:Pos}
def adk(K:ak)(a:af):R2:=fun x y H Q=>∃k f,x=.ref a/\y=.str k/\W.nsIn K a k=some (some (.ref f))/\Q (.ref f) H
theorem UO{a:af}{es:Array DictEntry}{n:Nat}(hl:X.K.lookup a=some ⟨.type "dict",none,.dict es n,#[]⟩)(hk:W.KeysLit X.w.params es.toList):TY X (adk X.K a):=by
 rintro value slice ag s σ H x y v u Q I rx ry ⟨k,f,ex,ey,e,q⟩ hs;subst ex ey;cases rx;obtain⟨t,rfl⟩:=ry;have hm:=W.mapOf_K (prog:=X.prog) I.z0 hl hk;exact tail_any hm.typeIs slot_dict_getitem.lookup (wpAny_getItem_of (strKind_is X.prog X.w k t) hm (W.find_K hl e) ⟨.ref f,H,I.tok _,rfl,q⟩) hs
theorem yC(v k:ao)(sp:Pos)(args:List ao)(pos:Pos)(env:Env):eval (.Call (.Subscript v k sp) args [] pos) env=(do callWith pos (<-eval (.Subscript v k sp) env) [] (backTo pos (starEach args env)) (backToKw pos (keywordEach [] env))):=rfl
def UP(ck:List (Str×Str))(fns:List (Str×Nat))(call:gv)(ts:cg)(ρ:aI):PV->b8
 | .str k=>(ck.lookup k).bind fun fn=>(fns.lookup fn).bind fun m=>ay (aM m (call fn)) ts ρ
 | _=>none
def Iy(ck:List (Str×Str))(fns:List (Str×Nat))(call:gv)(fk:FE)(ts:cg):FE:=fun ρ=>(fk ρ).bind (UP ck fns call ts ρ)
theorem Yj{T:Str}{ck:List (Str×Str)}{fns:List (Str×Nat)}{call:gv}(ht:GH X.K X.mg X.w.params T ck)
  (WU:∀x n,fns.lookup x=some n->∃k f fd ps,FnOk X.prog X.w X.K X.mg X.base (mW X.prog X.w) k f fd ps (Eh X.K n (call x))/\fm k X.A/\X.mg x=some (.ref f)/\W.keepIn X.K (.ref f)=true/\gC X.K fd ps [])
  (hg:Gl X T) (hk:PE X ke (tE X.K H₀ ae fk)) (hs:ml ke) (ha:PA X (e::es) (tA X.K H₀ ae ts)) (HS:(T==("__debug__":Str))=false) (he:starEach (e::es) X.env=(false,eval e X.env)::starEach es X.env) (pI:(backTo pos (starEach es X.env)).any (·.1)=false) :
  PE X (.Call (.Subscript (.Name T p) ke sp) (e::es) [] pos) (tE X.K H₀ ae (Iy ck fns call fk ts)):=by
 rintro ag s σ H Q I ⟨F,ρ,pr,R,hf,q⟩;obtain⟨pk,h1,h2⟩:=aD hf;cases pk with
 | str k =>
  obtain⟨fn,h3,h2⟩:=aD (show(ck.lookup k).bind (fun fn=>(fns.lookup fn).bind fun m=>ay (aM m (call fn)) ts ρ)=some pr from h2)
  obtain⟨m,h4,h2⟩:=aD h2;obtain⟨a,WR,n,t1,t2,t3,t4⟩:=ht;obtain⟨f,n1,n2,_⟩:=t4 k fn h3;obtain⟨j,f',fd,ps,G,hr,m1,m2,m3⟩:=WU fn m h4;have:=bW (n2.symm.trans m1);cases this;rw[yC];refine au (thn (Gh (UO t2 t3) (F7 (v:=.ref a) hg t1 rfl HS) hk hs ag s σ H (fun v H1=>v=.ref f/\∃F1,dI X.K H₀ ae F1 ρ σ H1/\Same F F1) I ?_) fun u s1 ⟨x,H1,I1,rx,ex,F1,R1,m1'⟩=>?_)
  ·exact⟨F,ρ,_,R,h1,fun v H1 F1 R1 s1 b1=>⟨k,f,rfl,cS.mp b1,n1,rfl,F1,R1,s1⟩⟩
  ·subst ex;cases rx;refine W.callWith_K (h₀:=X.base) I.ok.mod.kin m2 (thn (ha pos ag s1 σ H1 _ I1 (ui (n:=m) (g:=call fn) (E:=E0) (Q:=Q) ⟨F1,ρ,pr,R1,h2,fun v H2 F2 R2 s2 b2=>q v H2 F2 R2 (m1'.trans s2) b2⟩)) fun us s2 ⟨vs,H2,I2,r,q2⟩=>⟨I2.z0,?_⟩) he pI
   exact Lb G hr m3 .nil uh I2 r q2
 | _=>cases h2
end
section
variable {X:Cx} {H₀ ae:Hp} {a b e:ao} {es:List ao} {fa fb:FE} {ts:cg} {pos p:Pos} {k n:Nat} {f:af} {fd:er} {ps:List Str} {x:Str} {g:az->dG}
def Yk(K:ak)(H₀ ae F:Hp)(ρ:aI)(σ:St)(Q:VK):Ent->Prop
 | .val p=>∀v H' F',dI K H₀ ae F' ρ σ H'->Same F F'->dB K F' p v->Q v H'
 | .own ps=>∀a vs H1 F',dI K H₀ ae F' ρ σ H1->Same F F'->bC K F' ps vs->H1 a=none->Q (.ref a) (eI H1 a (.aq vs))
 | _=>False
def tR(K:ak)(H₀ ae:Hp)(f:aI->dG):TE:=fun σ H Q=>∃F ρ e,dI K H₀ ae F ρ σ H/\f ρ=some e/\Yk K H₀ ae F ρ σ Q e
def Eu(f:FE):aI->dG:=fun ρ=>(f ρ).map .val
theorem Yl(h:PE X e (tE X.K H₀ ae fa)):PE X e (tR X.K H₀ ae (Eu fa)):=h.imp <| by
 rintro σ H Q ⟨F,ρ,en,R,hf,q⟩
 cases z:fa ρ with
 | none=>unfold Eu at hf;rw[z]at hf;cases hf
 | some p =>
  unfold Eu at hf;rw[z]at hf;cases hf;exact⟨F,ρ,p,R,z,q⟩
def Bk(g:az->dG)(ts:cg):aI->dG:=fun ρ=>(ts ρ).bind g
theorem Iz{σ:St}{H:Hp}{Q:VK}{E:XK}{K:ak}(h:tR K H₀ ae (Bk (aM n g) ts) σ H Q):Gd (Eh K n g) [] E (tA K H₀ ae ts) σ H Q:=by
 obtain⟨F,ρ,en,R,hf,q⟩:=h;obtain⟨as,h1,h2⟩:=aD hf;cases en with
 | un=>exact q.elim
 | ex C=>exact q.elim
 | ob _=>exact q.elim
 | gE _=>exact q.elim
 | val p=>exact ui ⟨F,ρ,p,R,by unfold ay;rw[h1];show(aM n g as).bind oC=_;rw[h2];rfl,q⟩
 | own ps=>exact Ig ⟨F,ρ,ps,R,by unfold qP;rw[h1];show(aM n g as).bind O4=_;rw[h2];rfl,q⟩
theorem Ew(F:FnOk X.prog X.w X.K X.mg X.base (mW X.prog X.w) k f fd ps (Eh X.K n g))(hr:fm k X.A)(hg:Gl X x)(hm:X.mg x=some (.ref f))(hk:W.keepIn X.K (.ref f)=true)(hb:gC X.K fd ps [])
  (ha:PA X (e::es) (tA X.K H₀ ae ts)) (HS:(x==("__debug__":Str))=false:=by decide) (he:starEach (e::es) X.env=(false,eval e X.env)::starEach es X.env:=by rfl) (pI:(backTo pos (starEach es X.env)).any (·.1)=false:=by rfl) :
  PE X (.Call (.Name x p) (e::es) [] pos) (tR X.K H₀ ae (Bk (aM n g) ts)):=(rH F hr hg hm hk hb .nil uh ha HS he pI).imp fun _ _ _ h=>Iz h
def IA:PV->PV->dG
 | .aq xs,.aq ys=>if xs.length+ys.length<=iB then some (.own (xs++ys))else none
 | x,y=>(bZ x y).map .val
def PK(fa fb:FE):aI->dG:=fun ρ=>(fa ρ).bind fun x=>(fb ρ).bind fun y=>IA x y
def Ym(K:ak):R2:=fun x y H Q=>∃H₀ ae F ρ τ pa pb en,IA pa pb=some en/\dI K H₀ ae F ρ τ H/\dB K F pa x/\dB K F pb y/\Yk K H₀ ae F ρ τ Q en
theorem Bl{pa pb:PV}{en:Ent}(h:IA pa pb=some en):(∃xs ys,pa=.aq xs/\pb=.aq ys/\xs.length+ys.length<=iB/\en=.own (xs++ys))\/∃p,bZ pa pb=some p/\en=.val p:=by
 unfold IA at h;split at h
 ·obtain⟨h1,h2⟩:=aU h;exact .inl ⟨_,_,rfl,rfl,h1,h2.symm⟩
 ·cases z:bZ pa pb with
  | none=>rw[z]at h;cases h
  | some p=>rw[z]at h;cases h;exact .inr ⟨p,rfl,rfl⟩
theorem PM:OpR X (binaryOp .Add) (Ym X.K):=by
 rintro ag s σ H x y v u Q I rx ry ⟨H₀,ae,F,ρ,τ,pa,pb,en,e,R,ba,bb,k⟩;rcases Bl e with⟨xs,ys,rfl,rfl,hz,rfl⟩ | ⟨p,hp,rfl⟩
 ·obtain⟨a,vs,rfl,ha,hZ⟩:=bD.mp ba;obtain⟨b,ws,rfl,hb,N7⟩:=bD.mp bb;cases rx;cases ry;obtain⟨bg,n,r,e1,z1⟩:=I.uf (b7 R.sub ha);obtain⟨jz,n2,r2,e2,z2⟩:=I.uf (b7 R.sub hb);have hl:=r.length;have Ph:=r2.length;have hz':vs.length+ws.length<=sizeLine:=by rw[<-hZ.length,<-N7.length];exact ik hz
  refine PySem.P.add_list e1 e2 ?_ (by rw[bJ,bJ];lia)
  have ea:bg.toArray++jz.toArray=(bg++jz).toArray:=by simp
  rw[ea];exact⟨.ref _,_,I.Xl (t':=s.toks) (r.append r2) (by rw[bU];lia),rfl,k _ _ _ _ R (Same.refl F) (hZ.append N7) I.fresh⟩
 ·exact yz ag s σ H x y v u Q I rx ry ⟨H₀,ae,F,ρ,τ,pa,pb,p,hp,R,ba,bb,k⟩
theorem Yn(ha:PE X a (tE X.K H₀ ae fa))(hb:PE X b (tE X.K H₀ ae fb)):PE X (.BinOp a .Add b pos) (tR X.K H₀ ae (PK fa fb)):=(RJ PM ha hb).imp <| by
 rintro σ H Q ⟨F,ρ,en,R,hf,q⟩
 obtain⟨x,h1,hf⟩:=aD hf;obtain⟨y,h2,hf⟩:=aD hf;refine⟨F,ρ,x,R,h1,fun v H1 F1 R1 s1 b1=>⟨F1,ρ,y,R1,h2,fun w H2 F2 R2 s2 b2=>⟨H₀,ae,F2,ρ,σ,x,y,en,hf,R2,b1.mono s2,b2,?_⟩⟩⟩
 cases en with
 | un=>exact q.elim
 | ex C=>exact q.elim
 | ob _=>exact q.elim
 | gE _=>exact q.elim
 | val p=>exact fun v H' F' R' s' b'=>q v H' F' R' (s1.trans (s2.trans s')) b'
 | own ps=>exact fun a vs H' F' R' s' b' hn=>q a vs H' F' R' (s1.trans (s2.trans s')) b' hn
def L5(i:Nat)(f:aI->dG):FS:=fun ρ=>(f ρ).bind fun e=>if i<ρ.length then some (.nx (ρ.set i e))else none
theorem L6{i:Nat}{f:aI->dG}{t:TE}{D:ov}{σ:St}{H:Hp}(hv:∀ρ e,f ρ=some e->(∃p,e=.val p)\/∃ps,e=.own ps)(ht:∀σ H Q,tR X.K H₀ ae f σ H Q->t σ H Q)(h:tS X H₀ ae (L5 i f) D σ H):ri t (gName i) D σ H:=by
 obtain⟨F,ρ,o,R,hf,q⟩:=h;obtain⟨en,h1,h2⟩:=aD hf;obtain⟨hi,rfl⟩:=aU h2;refine ht _ _ _ ⟨F,ρ,en,R,h1,?_⟩;rcases hv ρ en h1 with⟨p,rfl⟩ | ⟨ps,rfl⟩
 ·exact fun v H1 F1 R1 s1 b1=>q F1 _ _ (R1.set hi b1) s1
 ·exact fun a vs H1 F1 R1 s1 b1 hn=>q F1 _ _ (R1.LJ hi hn b1) s1
theorem PN(f:FE)(ρ:aI)(e:Ent)(h:Eu f ρ=some e):(∃p,e=.val p)\/∃ps,e=.own ps:=by
 unfold Eu at h;cases z:f ρ with
 | none=>rw[z]at h;cases h
 | some p=>rw[z]at h;cases h;exact .inl ⟨p,rfl⟩
theorem PQ(fa fb:FE)(ρ:aI)(e:Ent)(h:PK fa fb ρ=some e):(∃p,e=.val p)\/∃ps,e=.own ps:=by
 obtain⟨x,h1,h⟩:=aD h;obtain⟨y,h2,h⟩:=aD h;rcases Bl h with⟨xs,ys,_,_,_,rfl⟩ | ⟨p,_,rfl⟩
 ·exact .inr ⟨_,rfl⟩
 ·exact .inl ⟨_,rfl⟩
def mK:Ent->dG
 | .val p=>some (.val p)
 | .own ps=>some (.own ps)
 | _=>none
def ur(g:az->dG)(ts:cg):aI->dG:=fun ρ=>(ts ρ).bind fun as=>(g as).bind mK
theorem wQ{e e':Ent}(h:mK e=some e'):e'=e/\((∃p,e=.val p)\/∃ps,e=.own ps):=by
 unfold mK at h;split at h
 ·cases h;exact⟨rfl,.inl ⟨_,rfl⟩⟩
 ·cases h;exact⟨rfl,.inr ⟨_,rfl⟩⟩
 ·cases h
theorem L7(g:az->dG)(ts:cg)(ρ:aI)(e:Ent)(h:ur g ts ρ=some e):(∃p,e=.val p)\/∃ps,e=.own ps:=by
 obtain⟨as,h1,h⟩:=aD h;obtain⟨en,h2,h⟩:=aD h;obtain⟨rfl,h3⟩:=wQ h;exact h3
theorem PR{g:az->dG}{ts:cg}{ρ:aI}{e:Ent}(h:ur g ts ρ=some e):Bk g ts ρ=some e:=by
 obtain⟨as,h1,h⟩:=aD h;obtain⟨en,h2,h⟩:=aD h;obtain⟨rfl,h3⟩:=wQ h;unfold Bk;rw[h1];exact h2
theorem PU{e:ao}{g:az->dG}{ts:cg}(h:PE X e (tR X.K H₀ ae (Bk g ts))):PE X e (tR X.K H₀ ae (ur g ts)):=h.imp fun σ H Q ⟨F,ρ,en,R,hf,q⟩=>⟨F,ρ,en,R,PR hf,q⟩
end
def Bm:az->b8
 | [.int i]=>if 0<=i/\i<1000 then some (.str (toString i))else none
 | _=>none
theorem IB{X:Cx}:Ep X (.type "str") Bm:=by
 rintro ag s σ H xs us Q I rs ⟨H₀,ae,F,ρ,τ,ps,p,e,R,bs,k⟩;unfold Bm at e;split at e
 ·rename_i i;obtain⟨⟨h0,h1⟩,rfl⟩:=aU e;obtain⟨v,rfl,b⟩:=eS bs;rw[aN.mp b]at rs;have hz:i.natAbs.log2<1920:=by
   by_cases h:i.natAbs=0
   ·rw[h];decide
   ·exact kA (Nat.log2_le_self _) (by lia)
  exact yf ag s σ H _ us Q I rs ⟨i,rfl,hz,k _ H F R (Same.refl F) (cS.mpr rfl)⟩
 ·cases e
def IC(w:b8):PV->b8
 | .bl b=>if b=true then some (.bl true)else w
 | .aq ps=>if ps.isEmpty=true then w else some (.aq ps)
 | .aA ps=>if ps.isEmpty=true then w else some (.aA ps)
 | _=>none
def Yo(fa fb:FE):FE:=fun ρ=>(fa ρ).bind (IC (fb ρ))
theorem L8{K:ak}{w:b8}{x p:PV}{F H:Hp}{v:V}(h:IC w x=some p)(b:dB K F x v)(s:Same F H):∃k,Xa K v H k/\(if k=true then p=x else w=some p):=by
 cases x with
 | bl c =>
  rw[cb.mp b];refine⟨c,rfl,?_⟩;cases c with
  | true=>exact(bW h).symm
  | false=>exact h
 | aq ps =>
  obtain⟨a,vs,rfl,h1,h2⟩:=bD.mp b;refine⟨!vs.isEmpty,.inl ⟨vs,(b7 s h1).sq,rfl⟩,?_⟩;cases ps with
  | nil=>rw[h2.cP];exact h
  | cons q r =>
   obtain⟨v0,vr,rfl,_,_⟩:=h2.cG;exact(bW h).symm
 | aA ps =>
  obtain⟨a,vs,rfl,h1,h2⟩:=bY.mp b;refine⟨!vs.isEmpty,.inr (.inl ⟨vs,bH s h1,rfl⟩),?_⟩;cases ps with
  | nil=>rw[h2.cP];exact h
  | cons q r =>
   obtain⟨v0,vr,rfl,_,_⟩:=h2.cG;exact(bW h).symm
 | _=>cases h
theorem Yp{X:Cx}{H₀ ae:Hp}{a b:ao}{rest:List ao}{fa fb:FE}{pos:Pos}(ha:PE X a (tE X.K H₀ ae fa))(hb:PE X (.BoolOp .Or (b::rest) pos) (tE X.K H₀ ae fb)):PE X (.BoolOp .Or (a::b::rest) pos) (tE X.K H₀ ae (Yo fa fb)):=by
 rintro ag s σ H Q I ⟨F,ρ,p,R,hf,q⟩;obtain⟨x,h1,h2⟩:=aD hf;refine BoolOp_or (thn (ha ag s σ H (fun v H1=>∃F1,dI X.K H₀ ae F1 ρ σ H1/\Same F F1/\dB X.K F1 x v) I ⟨F,ρ,x,R,h1,fun v H1 F1 R1 s1 b1=>⟨F1,R1,s1,b1⟩⟩) fun v s1 ⟨xv,H1,I1,r1,F1,R1,m1,b1⟩=>?_)
 obtain⟨k,ht,hk⟩:=L8 h2 b1 R1.sub;refine thn (TN ag s1 σ H1 xv v (fun k' H'=>k'=k/\H'=H1) I1 r1 ⟨k,ht,rfl,rfl⟩) fun c s2 ⟨H2,I2,ec,eh⟩=>?_
 subst ec eh;cases c with
 | false=>exact hb ag s2 σ H2 Q I2 ⟨F1,ρ,p,R1,hk,fun v' H3 F3 R3 s3 b3=>q v' H3 F3 R3 (m1.trans s3) b3⟩
 | true =>
  have hk:p=x:=hk;subst hk;exact⟨xv,H2,I2,r1,q xv H2 F1 R1 m1 b1⟩
section
variable {X:Cx} {H₀ ae:Hp} {a b:ao} {fa fb:FE} {pos p ID zp:Pos}
theorem L9{e:ao}{X:Cx}(h:starEach [e] X.env=(false,eval e X.env)::starEach [] X.env){pos:Pos}{Q:cj->av->Prop}{E:cR}{s:av}{M:Model}{A:bR}(hq:wpAny M A (eval e X.env) (fun v s1=>Q [v] s1) E s):wpAny M A (spliced (backTo pos (starEach [e] X.env))) Q E s:=by
 rw[h];show wpAny _ _ (spliced ((false,eval e X.env)::backTo pos (starEach [] X.env))) _ _ s;exact Calls.spliced_cons (thn hq fun v s1 q=>Calls.spliced_nil q)
end
def insI(x:Int):List Int->List Int
 | []=>[x]
 | y::r=>if x<=y then x::y::r else y::insI x r
def gT:List Int->List Int
 | []=>[]
 | x::r=>insI x (gT r)
theorem qf(x:Int):∀l:List Int,(insI x l).Perm (x::l)
 | []=>.refl _
 | y::r=>by
  unfold insI;split
  ·exact .refl _
  ·exact((qf x r).cons y).trans (.swap x y r)
theorem gw:∀l:List Int,(gT l).Perm l
 | []=>.refl _
 | x::r=>(qf x (gT r)).trans ((gw r).cons x)
theorem GI(x:Int):∀l:List Int,l.Pairwise (· <= ·)->(insI x l).Pairwise (· <= ·)
 | [],_=>List.pairwise_singleton _ _
 | y::r,h=>by
  obtain⟨h1,h2⟩:=xE.mp h;unfold insI;split
  ·rename_i hx;refine xE.mpr ⟨fun z hz=>?_,h⟩
   rcases bB.mp hz with rfl | hz
   ·exact hx
   ·exact jX hx (h1 z hz)
  ·rename_i hx;refine xE.mpr ⟨fun z hz=>?_,GI x r h2⟩
   rcases bB.mp ((qf x r).mem_iff.mp hz)with rfl | hz
   ·lia
   ·exact h1 z hz
theorem uu:∀l:List Int,(gT l).Pairwise (· <= ·)
 | []=>.nil
 | x::r=>GI x _ (uu r)
def GJ:az->b8
 | [.aq ps]=>(iD ps).bind fun ns=>if(ns.length<64\/ns.length<128/\ns.Nodup)then some (.aq ((gT ns).map .int))else none
 | _=>none
theorem uv:∀{us:cj} {ns:List Int},IntsAre us ns->Vals (ns.map V.int) us:=by
 intro us ns h;induction h with
 | nil=>exact .nil
 | cons a t _ ih=>exact .cons ⟨t,rfl⟩ ih
theorem mq{K:ak}{F:Hp}:∀ns:List Int,bC K F (ns.map .int) (ns.map V.int)
 | []=>.nil
 | n::r=>.cons (aN.mpr rfl) (mq r)
theorem Ex{X:Cx}:Ep X (.builtin "sorted") GJ:=by
 rintro ag s σ H xs us Q I rs ⟨H₀,ae,F,ρ,τ,ps,p,e,R,bs,k⟩;unfold GJ at e;split at e
 ·rename_i ps;obtain⟨ns,z,e⟩:=aD e;obtain⟨h64,rfl⟩:=aU e;obtain⟨v,rfl,b⟩:=eS bs;obtain⟨a,vs,rfl,ha,hZ⟩:=bD.mp b;obtain⟨bg,r,pl,_⟩:=I.list (b7 R.sub ha).sq;have ev:=oN z hZ;subst ev;have hi:=nH r;have dQ:bg.length=ns.length:=by rw[<-r.length,aE]
  obtain⟨u,rfl,ru⟩:=lg rs;cases ru;refine N6.Ec pl.isList hi (h64.imp (by lia) (fun z=>⟨by lia,z.2⟩)) fun out rm hI hp hu=>?_
  have e1:rm=gT ns:=W.ksm_same (hp.trans (gw ns).symm) hu (uu ns);subst e1;obtain⟨ep,vn⟩:=sortedAll_at s.heap bg out;have hz:H (s.heap.objs.size+1)=none:=I.hok.fresh (sQ _);obtain⟨R2,s2⟩:=R.laid (.aq ((gT ns).map V.int)) hz;refine⟨.ref (s.heap.objs.size+1),eI H (s.heap.objs.size+1) (.aq ((gT ns).map V.int)),I.laid (t':=s.toks) (fun b u e=>sortedAll_old e) (sQ _) ⟨?_,out.toList,ep,uv hI,vn⟩,rfl,k _ _ _ R2 s2 (bD.mpr ⟨_,_,rfl,rG.of bo,mq _⟩)⟩
  rw[aE,(gw ns).length_eq];have vx:ns.length<=128:=by lia
  exact cz vx (by decide)
 ·cases e
section
variable {X:Cx} {H₀ ae:Hp} {e:ao} {lo hi:Option ao} {fa:FE} {fl fh:FO} {pos p2:Pos}
def UQ:PV->Option az
 | .aq xs=>some xs
 | _=>none
def PX(fa:FE)(fl fh:FO):aI->dG:=fun ρ=>(fa ρ).bind fun p=>(fl ρ).bind fun l=>(fh ρ).bind fun h=>(UQ p).map fun xs=>.own (j6 xs l h)
theorem Yq(ha:PE X e (tE X.K H₀ ae fa))(hl:PO X lo (Bi X.K H₀ ae fl))(hh:PO X hi (Bi X.K H₀ ae fh)):PE X (.Subscript e (.Slice lo hi none p2) pos) (tR X.K H₀ ae (PX fa fl fh)):=(AJ Gj ha hl hh).imp <| by
 rintro σ H Q ⟨F,ρ,en,R,hf,q⟩
 obtain⟨pa,h1,hf⟩:=aD hf;obtain⟨l,h2,hf⟩:=aD hf;obtain⟨h,h3,h4⟩:=aD hf;cases pa with
 | aq xs =>
  cases h4;refine⟨F,ρ,_,R,h1,fun v H1 F1 R1 s1 b1=>⟨F1,ρ,l,R1,h2,fun H2 F2 R2 s2=>⟨F2,ρ,h,R2,h3,fun H3 F3 R3 s3=>?_⟩⟩⟩
  obtain⟨a,vs,rfl,ha,hZ⟩:=bD.mp (b1.mono (s2.trans s3));exact⟨a,vs,rfl,(b7 R3.sub ha).sq,fun q' hq=>q q' _ H3 F3 R3 (s1.trans (s2.trans s3)) (hZ.cut l h) hq⟩
 | _=>cases h4
theorem PY(fa:FE)(fl fh:FO)(ρ:aI)(e:Ent)(h:PX fa fl fh ρ=some e):(∃p,e=.val p)\/∃ps,e=.own ps:=by
 obtain⟨pa,h1,hf⟩:=aD h;obtain⟨l,h2,hf⟩:=aD hf;obtain⟨k,h3,h4⟩:=aD hf;cases pa with
 | aq xs=>cases h4;exact .inr ⟨_,rfl⟩
 | _=>cases h4
end
theorem Yr{α β:Type}{o:Option α}{f:α->β}{b:β}(h:o.map f=some b):∃a,o=some a/\f a=b:=by
 cases o with
 | none=>cases h
 | some a=>exact⟨a,rfl,bW h⟩
section
variable {X:Cx} {H₀ ae:Hp} {e:ao} {fa:FE} {pos p:Pos} {x:Str}
def Ys:PV->Option az
 | .aq xs=>some xs
 | .aA xs=>some xs
 | _=>none
def UR(fa:FE):aI->dG:=fun ρ=>(fa ρ).bind fun p=>(Ys p).map fun xs=>.own xs
theorem Yt(hg:Gl X "list")(hm:X.mg "list"=none)(ha:PE X e (tE X.K H₀ ae fa))(he:starEach [e] X.env=(false,eval e X.env)::starEach [] X.env):PE X (.Call (.Name "list" p) [e] [] pos) (tR X.K H₀ ae (UR fa)) :=
 (ki (T:="list") kM hg hm (kQ .list) (ug ha Gr he) (by decide) (by decide) he rfl).imp <| by
  rintro σ H Q ⟨F,ρ,en,R,hf,q⟩
  obtain⟨pa,h1,hf⟩:=aD hf;refine⟨F,ρ,[pa],R,?_,fun vs H1 F1 R1 s1 b1=>?_⟩
  ·show(fa ρ).bind _=_;rw[h1];rfl
  ·obtain⟨w,rfl,bw⟩:=eS b1;cases pa with
   | aq xs =>
    cases hf;obtain⟨a,us,rfl,ha,hZ⟩:=bD.mp bw;exact⟨a,us,rfl,.inl (b7 R1.sub ha).sq,fun l hl=>q l us H1 F1 R1 s1 hZ hl⟩
   | aA xs =>
    cases hf;obtain⟨a,us,rfl,ha,hZ⟩:=bY.mp bw;exact⟨a,us,rfl,.inr (bH R1.sub ha),fun l hl=>q l us H1 F1 R1 s1 hZ hl⟩
   | _=>cases hf
theorem PZ(fa:FE)(ρ:aI)(e:Ent)(h:UR fa ρ=some e):(∃p,e=.val p)\/∃ps,e=.own ps:=by
 obtain⟨pa,h1,h2⟩:=aD h;cases z:Ys pa with
 | none=>rw[z]at h2;cases h2
 | some xs=>rw[z]at h2;cases h2;exact .inr ⟨_,rfl⟩
end
section
variable {X:Cx} {H₀ ae:Hp}
def Sk(fo:cg):cg:=fun ρ=>(fo (fB none ρ)).bind fun ps=>if ps.all um=true then some ps else none
theorem wR{K:ak}{F F':Hp}:∀{ps:az} {vs:List V},ps.all um=true->bC K F ps vs->bC K F' ps vs
 | [],_,_,b=>by rw[b.cP];exact .nil
 | p::ps,_,h,b=>by
  rw[jV,aZ]at h;obtain⟨v,vr,rfl,b1,b2⟩:=b.cG;exact .cons (Bc h.1 b1) (wR h.2 b2)
theorem Bn{K:ak}{fo:cg}{σ:St}{H:Hp}{Q:VK}(h:tF K H₀ ae (Sk fo) σ H Q):tF K H₀ ae fo σ H Q:=by
 obtain⟨F,ρ,ps,R,hf,q⟩:=h;obtain⟨ps',h1,h2⟩:=aD hf;obtain⟨hp,rfl⟩:=aU h2;obtain⟨F1,R1,s1,k1⟩:=R.nF none;exact⟨F1,fB none ρ,ps',R1,h1,fun a vs H1 F' R2 s2 b2 hn=>q a vs H1 F (R.Uy R1 s1 k1 R2 s2) (Same.refl F) (wR hp b2) hn⟩
end
end L2.PL
namespace PySem
open Sem (wp)
theorem rz:entryFor table "set.__iter__"=some Builtin.«frozenset.__iter__» := entryFor_alias (id':="frozenset.__iter__") (by kernel_rfl) rfl (by decide +kernel) (by kernel_rfl)
theorem fJ:Slot "set_iterator" "__next__" "set_iterator.__next__" :=
 .of (owner:="set_iterator") (n:="__next__") (by rw[typeLookup_type,builtinLookup_eq_fast];kernel_rfl) (by decide +kernel) (by decide +kernel) (by decide +kernel)
  (by first | exact .inl (by decide +kernel) | exact .inr (by decide +kernel)) (by rw[isSubtype_type];kernel_rfl)
theorem m6:entryFor table "set_iterator.__next__"=some Builtin.«set_iterator.__next__» := entryFor_of_tree (by kernel_rfl)
theorem oO(a:ai):argsOk "set_iterator.__next__" ⟨[a],[]⟩:=by unfold argsOk;kernel_rfl
theorem oQ:Slot "set_iterator" "__iter__" "set_iterator.__iter__" :=
 .of (owner:="set_iterator") (n:="__iter__") (by rw[typeLookup_type,builtinLookup_eq_fast];kernel_rfl) (by decide +kernel) (by decide +kernel) (by decide +kernel)
  (by first | exact .inl (by decide +kernel) | exact .inr (by decide +kernel)) (by rw[isSubtype_type];kernel_rfl)
theorem vB:entryFor table "set_iterator.__iter__"=some Builtin.«dict_keyiterator.__iter__» := entryFor_alias (id':="dict_keyiterator.__iter__") (by kernel_rfl) rfl (by decide +kernel) (by kernel_rfl)
theorem yD(a:ai):argsOk "set_iterator.__iter__" ⟨[a],[]⟩:=by unfold argsOk;kernel_rfl
def eF(es:Array (Int×ai))(ep:Nat)(t:SetTable):Obj:={cls:=.type "set",dict:=none,data:=.set es ep t,slots:=#[]}
abbrev BT(w:aW):Bool:=w.params.followText "set-order"
section
variable {prog:bG} {w:aW} {A:bR} {E:cR} {s:av} {a:af} {es:Array (Int×ai)} {ep:Nat} {t:SetTable}
theorem nK{Q:Bool->av->Prop}(h:Q (BT w) s):wpAny (model prog w) A setsByText Q E s:=by
 unfold setsByText;exact au (DA (aJ h))
theorem yE{Q:Bool->av->Prop}(hS:s.heap.get? a=some (eF es ep t))(hf:t.fits es.size=true)(hg:BT w=true\/t.plain=true)(h:Q false s):wpAny (model prog w) A (setDrawn a) Q E s:=by
 unfold setDrawn;refine au (lA hS rfl hf ?_);refine au (nK ?_);refine aJ ?_;have e:(!BT w&&(!t.plain&&decide (es.size>1)))=false:=by
  rcases hg with g | g
  ·rw[g];rfl
  ·rw[g];cases BT w<;>rfl
 show Q (!BT w&&(!t.plain&&decide (es.size>1))) s;rw[e];exact h
theorem Ey{Q:cR}(hS:s.heap.get? a=some (eF es ep t))(hf:t.fits es.size=true)(hg:BT w=true\/t.plain=true)
  (hQ:Q (.ref s.heap.objs.size) {s with heap:=s.heap.push {cls:=.type "set_iterator",data:=.fields #[.int 0 0,.int 0 0,.ref a,.int es.size 0,.int ep 0]}}):wpAny (model prog w) A (pyIter (.ref a)) Q E s:=by
 have hT:s.TypeIs (.ref a) "set":=⟨_,hS,rfl⟩;refine wpAny_pyIter_slot hT F.slot_set_iter (jf F.slot_set_iter hT rz ?_ (F.args_set_iter_1 _));unfold Builtin.«frozenset.__iter__» Builtin.Frozenset.slot0;refine au (au (m:=slotArgs "__iter__" 0 _) (aJ ?_));show wpAny _ _ (pure a) _ _ s;refine aJ ?_;unfold Builtin.Frozenset.sizeOf setEntries;refine au (au (au (lA hS rfl hf (aJ (aJ ?_)))));refine au (yE hS hf hg ?_);rw[if_neg je];refine au (aJ ?_);refine au (wpAny_setEpoch_of hS rfl hf ?_);unfold newFields;refine au (jQ (aJ ⟨_,rfl,"set_iterator",_,⟨_,d3 _ rfl,rfl⟩,fJ.lookup,?_⟩));simpa[rawInt]using hQ
end
section
variable {prog:bG} {w:aW} {A:bR} {E:cR} {s:av} {a:af} {es:Array (Int×ai)} {ep:Nat} {t:SetTable}
def GL(t:SetTable):Nat->Nat
 | 0=>0
 | i+1=>t.place.getD i 0+1
def fD(w:aW)(t:SetTable)(i:Nat):Nat:=if BT w=true then 0 else GL t i
def lY(w:aW)(a:af)(ep:Nat)(es:Array (Int×ai)):Array (Int×ai):=if BT w=true then pickOrder (w.params.setOrder a ep) es else es
structure gU (w:aW) (a:af) (ep:Nat) (es:Array (Int×ai)) (t:SetTable):Prop where
 fits:t.fits es.size=true
 size:(lY w a ep es).size=es.size
 led:BT w=false->t.led=true/\t.plain=true/\∀i,i<=es.size->SetTable.below t.place (GL t i)=i
theorem gU.ok(g:gU w a ep es t):BT w=true\/t.plain=true:=by
 cases h:BT w with
 | true=>exact .inl rfl
 | false=>exact .inr (g.led h).2.1
theorem gU.place(g:gU w a ep es t):t.place.size=es.size:=by
 have:=g.fits;simp only[SetTable.fits,aZ,bN]at this;exact this.1
theorem Bo(hS:s.heap.get? a=some (eF es ep t))(g:gU w a ep es t)(i:Nat)(hi:i<=es.size){Q:Option (ai×Nat)->av->Prop}
  (h:Q (((lY w a ep es)[i]?).map fun e=>(e.2,fD w t (i+1))) s):wpAny (model prog w) A (setNext a (fD w t i) i ep) Q E s:=by
 unfold setNext;refine au (lA hS rfl g.fits ?_);refine au (nK ?_);cases hb:BT w with
 | true =>
  rw[if_pos rfl];dsimp only
  rw[if_neg (by simp)]
  unfold setWalk;refine au (au (lA hS rfl g.fits ?_));refine au (nK ?_);rw[hb,if_pos rfl];refine au (DA ?_);refine aJ (aJ ?_);unfold lY fD at h;rw[hb]at h;simp only[kJ]at h;unfold fD;rw[hb];exact h
 | false =>
  obtain⟨hl,hp,hw⟩:=g.led hb;rw[if_neg je];refine au (aJ ?_);show wpAny _ _ (if(!t.plain&&decide (es.size>1))=true then _ else _) _ _ s
  rw[hp];rw[if_neg (by simp)]
  refine au ?_;show wpAny _ _ (if(!t.led&&!es.isEmpty)=true then _ else _) _ _ s
  rw[hl,if_neg (by simp)]
  refine aJ ?_;refine aJ ?_;unfold lY fD at h;rw[hb]at h;simp only[sy,kH]at h;have e:SetTable.below t.place (fD w t i)=i:=by unfold fD;rw[hb,if_neg je];exact hw i hi
  rw[e];have pI:=g.place;by_cases hJ:i<es.size
  ·have h1:es[i]?=some es[i]:=by simp[hJ]
   have h2:t.place[i]?=some (t.place[i]'(by lia)):=by simp[show i<t.place.size by lia]
   rw[h1,h2];rw[h1]at h;have h3:GL t (i+1)=t.place[i]'(by lia)+1:=by
    show t.place.getD i 0+1=_;simp[Array.getD,show i<t.place.size by lia]
   rw[h3]at h;exact h
  ·have h1:es[i]?=none:=by simp;lia
   rw[h1];rw[h1]at h;exact h
end
section
variable {prog:bG} {w:aW} {A:bR} {E:cR} {s:av} {a it:af} {es:Array (Int×ai)} {ep:Nat} {t:SetTable}
def gF(h:Heap)(it a:af)(sl i n ep:Nat):Prop:=∃o,h.get? it=some o/\o.cls=.type "set_iterator"/\o.data=.fields #[.int sl 0,.int i 0,.ref a,.int n 0,.int ep 0]
theorem gF.typeIs{sl i n:Nat}(x:gF s.heap it a sl i n ep):s.TypeIs (.ref it) "set_iterator":=let ⟨o,ho,hc,_⟩:=x;⟨o,ho,hc⟩
theorem Ma(vA:gF s.heap it a (fD w t i) i es.size ep)(hS:s.heap.get? a=some (eF es ep t))(g:gU w a ep es t)(hi:i<es.size){Q:nE->av->Prop}
  (hQ:∀v h',(∃e,(lY w a ep es)[i]?=some e/\v=e.2)->gF h' it a (fD w t (i+1)) (i+1) es.size ep->Heap.SameBut it s.heap h'->Q (some v) {s with heap:=h'}):wpAny (model prog w) A (pyNext (.ref it)) Q E s:=by
 obtain⟨o,ho,hc,hd⟩:=id vA;unfold pyNext;refine au (xU (nj (name:=Str.ofString "__next__") vA.typeIs fJ (jf fJ vA.typeIs m6 ?_ (oO _))));unfold Builtin.«set_iterator.__next__»;refine au (m:=slotArgs "__next__" 0 _) (aJ ?_);refine au (wpAny_fieldsOf ho hd ?_);dsimp only
 unfold setEntries;refine au (au (lA hS rfl g.fits (aJ ?_)));dsimp only
 rw[if_neg (by simp)]
 have h1:(lY w a ep es)[i]?=some ((lY w a ep es)[i]'(by rw[g.size];exact hi)):=by simp[g.size,hi]
 refine au ?_;rw[show((fD w t i:Nat):Int).toNat=fD w t i from gM _,show((i:Nat):Int).toNat=i from gM _,show((ep:Nat):Int).toNat=ep from gM _]
 refine Bo hS g i (nz hi) ?_;rw[h1];dsimp only[Option.map]
 show wpAny _ _ (setField (.ref it) 0 (rawInt (fD w t (i+1):Nat)) >>= _) _ _ s;refine au (sJ ho hd (by simp) ?_)
 obtain⟨o1,g1,c1,d1⟩:∃o1,(s.heap.update it (Obj.mapFields (·.setIfInBounds 0 (rawInt (fD w t (i+1):Nat))))).get? it=some o1/\o1.cls=.type "set_iterator"/\o1.data=.fields #[.int (fD w t (i+1):Nat) 0,.int i 0,.ref a,.int es.size 0,.int ep 0] :=
  ⟨_,xx _ ho (Dg (pQ hd _)),(Du ..).trans hc,by rw[pQ hd];simp[rawInt]⟩
 have b1:Heap.SameBut it s.heap (s.heap.update it (Obj.mapFields (·.setIfInBounds 0 (rawInt (fD w t (i+1):Nat))))):=pP ..
 generalize (s.heap.update it (Obj.mapFields (·.setIfInBounds 0 (rawInt (fD w t (i+1):Nat)))))=H1 at g1 b1 ⊢
 refine au (sJ (s:={s with heap:=H1}) g1 d1 (by simp) ?_)
 have US:gF (H1.update it (Obj.mapFields (·.setIfInBounds 1 (rawInt ((i:Int)+1))))) it a (fD w t (i+1)) (i+1) es.size ep :=
  ⟨_,xx _ g1 (Dg (pQ d1 _)),(Du ..).trans c1,by rw[pQ d1];simp[rawInt]⟩
 exact aJ ⟨_,rfl,aJ (hQ _ _ ⟨_,h1,rfl⟩ US (b1.trans (pP ..)))⟩
theorem P5(hh:A.handled=none)(vA:gF s.heap it a (fD w t es.size) es.size es.size ep)(hS:s.heap.get? a=some (eF es ep t))(g:gU w a ep es t){Q:nE->av->Prop}
  (hQ:∀h',Heap.ExtBut it s.heap h'->Q none {s with heap:=h'}):wpAny (model prog w) A (pyNext (.ref it)) Q E s:=by
 obtain⟨o,ho,hc,hd⟩:=id vA;unfold pyNext;refine au (xU (nj (name:=Str.ofString "__next__") vA.typeIs fJ (jf fJ vA.typeIs m6 ?_ (oO _))));unfold Builtin.«set_iterator.__next__»;refine au (m:=slotArgs "__next__" 0 _) (aJ ?_);refine au (wpAny_fieldsOf ho hd ?_);dsimp only
 unfold setEntries;refine au (au (lA hS rfl g.fits (aJ ?_)));dsimp only
 rw[if_neg (by simp)]
 have h1:(lY w a ep es)[es.size]?=none:=by simp[g.size]
 refine au ?_;rw[show((fD w t es.size:Nat):Int).toNat=fD w t es.size from gM _,show((es.size:Nat):Int).toNat=es.size from gM _,show((ep:Nat):Int).toNat=ep from gM _]
 refine Bo hS g es.size (aV _) ?_;rw[h1];dsimp only[Option.map]
 show wpAny _ _ (setField (.ref it) 2 .none >>= _) _ _ s;refine au (sJ ho hd (by simp) ?_)
 show wpAny _ _ (newExc (.type "StopIteration") [] >>= _) _ _ _;refine au ?_;simp only[newExc,newTuple];refine au (jQ ?_ (by size_fits))
 refine au (m:=firstArgMember _ _) (wpAny_of_eq (a:=Value.none) (by first | rfl | (simp only[firstArgMember];rfl)) ?_)
 refine jQ ?_ (by size_fits)
 simp only[raiseNew];refine au (wpAny_handled ?_);rw[show A.in1.handled=none from hh]
 refine au (aJ (wpAny_throw ?_));refine au (Dw (T:="StopIteration") (b:=true) ⟨_,d3 _ rfl,rfl⟩ isSubtype_stop ?_);exact aJ (hQ _ (((pP ..).extBut.push _).push _))
theorem Mb{sl i n:Nat}{Q:cR}(vA:gF s.heap it a sl i n ep)(h:Q (.ref it) s):wpAny (model prog w) A (pyIter (.ref it)) Q E s:=by
 refine wpAny_pyIter_slot vA.typeIs oQ (jf oQ vA.typeIs vB ?_ (yD _));show wpAny _ _ (ret (.ref it)) _ _ s;exact aJ ⟨_,rfl,"set_iterator",_,vA.typeIs,fJ.lookup,h⟩
theorem Walks.adl(hh:A.handled=none)(I a:af)(hne:a≠I)(g:gU w a ep es t) :
  Walks prog w A I [I,a] [I] es.size (fun i v=>∃e,(lY w a ep es)[i]?=some e/\v=e.2) (fun i h=>gF h I a (fD w t i) i es.size ep/\h.get? a=some (eF es ep t)) where
 sub:=fun b hb=>by simp at hb;simp[hb]
 frame:=fun _ _ _ st hk=>⟨let ⟨o,ho,r⟩:=st.1;⟨o,hk I (by simp) o ho,r⟩,hk a (by simp) _ st.2⟩
 item:=fun i s Q E hi st hQ=>Ma st.1 st.2 g hi fun v h' hv US hs'=>hQ v h' s.toks hv ⟨US,hs'.extBut a _ hne st.2⟩ fun b o hb e=>hs'.extBut b o (fun h=>hb (by simp[h])) e
 done:=fun s Q E st hQ=>P5 hh st.1 st.2 g fun h' he'=>hQ h' s.toks fun b o hb e=>he' b o (fun h=>hb (by simp[h])) e
 self:=fun _ _ _ _ st hQ=>Mb st.1 hQ
theorem Mc{r:af}{Q:Bool->av->Prop}(hT:s.TypeIs (.ref r) "set")(h:Q false s):wpAny (model prog w) A (Builtin.List.listLengthHint (.ref r)) Q E s:=by
 unfold Builtin.List.listLengthHint;refine au (wpAny_specialOf hT F.slot_set_len.lookup ?_)
 generalize hid:("set.__len__":String)=id0
 wp_delta
 rw[show splitId id0=some ("set","__len__")from by subst hid;decide +kernel]
 subst hid;refine au (Dw (T:="set") (b:=true) hT (by rw[isSubtype_type];kernel_rfl) ?_)
 refine DG (fun hab=>absurd hab (by decide)) (fun _=>?_)
 refine DG (fun _=>?_) (fun hab=>absurd (by decide +kernel) hab)
 refine au (xW hT ?_);exact aJ h
theorem P6(g:gU w a ep es t):W.KdlSrc prog w "set" a a es.size (fun i v=>∃e,(lY w a ep es)[i]?=some e/\v=e.2) (fun h=>h.get? a=some (eF es ep t)) where
 type:=fun _ hm=>⟨_,hm,rfl⟩
 there:=fun _ hm=>⟨bX hm,bX hm⟩
 keep:=fun _ _ hm hk=>hk a (.inl rfl) _ hm
 notList:=by decide
 notTuple:=by decide
 hint:=fun _ _ _ _ hm hq=>Mc ⟨_,hm,rfl⟩ hq
 iter:=fun A s hh hm=>⟨_,_,(fun _ _ hq=>Ey hm g.fits g.ok hq),Walks.adl hh _ a (cX (bX hm)) g,⟨⟨_,d3 _ rfl,rfl,by
  have:fD w t 0=0:=by unfold fD GL;split<;>rfl
  rw[this];rfl⟩,cD _ hm⟩⟩
end
section
open PyProof.Rows
theorem uw{α:Type}:∀(l:List α) (i:Nat) (h:i<l.length),([l[i]]++l.eraseIdx i).Perm l
 | [],i,h=>absurd h (by simp)
 | x::l,0,_=>.refl _
 | x::l,i+1,h=>by
  have h':i<l.length:=by simpa using h
  have ih:=uw l i h';rw[List.getElem_cons_succ,List.eraseIdx_cons_succ];exact(List.Perm.swap x l[i] (l.eraseIdx i)).trans (ih.cons x)
theorem GN{α:Type}(nx:Nat->Nat):∀(P7 k:Nat) (left:List α) (out:Array α),P7=left.length->(pickOrder.go nx P7 k left out).toList.Perm (out.toList++left)
 | 0,k,left,out,h=>by
  have:left=[]:=J9 h.symm;subst this;rw[iP];exact .refl _
 | P7+1,k,left,out,h=>by
  have hl:nx k%left.length<left.length:=Nat.mod_lt _ (by lia)
  unfold pickOrder.go;rw[cJ hl];refine(GN nx P7 (k+1) (left.eraseIdx (nx k%left.length)) (out.push left[nx k%left.length]) (by rw[List.length_eraseIdx_of_lt hl];lia)).trans ?_
  rw[nr,d8];refine List.Perm.append_left _ ?_;exact uw left _ hl
theorem IE{α:Type}(nx:Nat->Nat)(xs:Array α):(pickOrder nx xs).toList.Perm xs.toList:=by
 unfold pickOrder;have:=GN nx xs.size 0 xs.toList #[] (by simp)
 simpa using this
theorem Bp(w:aW)(a:af)(ep:Nat)(es:Array (Int×ai)):(lY w a ep es).toList.Perm es.toList:=by
 unfold lY;split
 ·exact IE _ _
 ·exact .refl _
theorem Md(w:aW)(a:af)(ep:Nat)(es:Array (Int×ai)):(lY w a ep es).size=es.size:=by
 have:=(Bp w a ep es).length_eq;simpa using this
def intOf:ai->Int
 | .int n _=>n
 | _=>0
theorem Bq:∀(l:List (Int×ai)),(∀e∈l,∃n t,e.2=.int n t)->IntsAre (l.map (·.2)) (l.map fun e=>intOf e.2)
 | [],_=>.nil
 | e::l,h=>by
  obtain⟨n,t,q⟩:=h e cq;have ih:=Bq l fun x hx=>h x (cn _ hx)
  rw[bK,bK,q];exact .cons n t ih
def kn(place:Array Nat)(led:Bool):SetTable:={mask:=7,place:=place,dummies:=#[],finger:=0,led:=led,moves:=0,plain:=true}
theorem Ez:∀k:_root_.Fin 64,hashInt ((k:Nat):Int)=((k:Nat):Int):=by decide +kernel
theorem UT:∀(k:_root_.Fin 64) (led:Bool),(kn #[] led).freeSlot ((k:Nat):Int)=some ((k:Nat)%8,false):=by decide +kernel
theorem UU:∀(p:_root_.Fin 8) (k:_root_.Fin 64) (led:Bool),∃q:_root_.Fin 8,(kn #[(p:Nat)] led).freeSlot ((k:Nat):Int)=some ((q:Nat),false)/\q≠p:=by decide +kernel
theorem P8:∀p:_root_.Fin 8,SetTable.below #[(p:Nat)] 0=0/\SetTable.below #[(p:Nat)] ((p:Nat)+1)=1:=by decide +kernel
theorem P9:∀p q:_root_.Fin 8,p<q->SetTable.below #[(p:Nat),(q:Nat)] 0=0/\SetTable.below #[(p:Nat),(q:Nat)] ((p:Nat)+1)=1/\SetTable.below #[(p:Nat),(q:Nat)] ((q:Nat)+1)=2:=by decide +kernel
theorem Qa:∀p q:_root_.Fin 8,q≠p->SetTable.below #[(p:Nat)] (q:Nat)=if p<q then 1 else 0:=by decide +kernel
theorem Yu(k:_root_.Fin 64)(led:Bool)(h:Int)(x:ai)(hh:h=((k:Nat):Int)):layNew (kn #[] led) #[] h x=(#[(h,x)],kn #[(k:Nat)%8] led,false,false):=by
 subst hh;unfold layNew;rw[UT k led];rfl
theorem Yv(p:_root_.Fin 8)(k:_root_.Fin 64)(led:Bool)(h:Int)(x:ai)(hh:h=((k:Nat):Int))(e:Int×ai) :
  ∃q:_root_.Fin 8,q≠p/\layNew (kn #[(p:Nat)] led) #[e] h x=if p<q then(#[e,(h,x)],kn #[(p:Nat),(q:Nat)] led,false,false)else(#[(h,x),e],kn #[(q:Nat),(p:Nat)] led,false,false):=by
 subst hh;obtain⟨q,hq,hne⟩:=UU p k led;refine⟨q,hne,?_⟩;have hb:=Qa p q hne;unfold layNew;rw[hq];dsimp only
 unfold SetTable.put;show _=_;have nY:SetTable.below (kn #[(p:Nat)] led).place (q:Nat)=if p<q then 1 else 0:=hb
 rw[nY];by_cases hJ:p<q
 ·rw[if_pos hJ,if_pos hJ];rfl
 ·rw[if_neg hJ,if_neg hJ];rfl
end
section
open PyProof.Rows
section
variable {prog:bG} {w:aW} {A:bR} {E:cR} {s:av} {a:af} {es vC:Array (Int×ai)} {ep:Nat} {t t1:SetTable}
theorem Br(h:∀e∈es.toList,∃k tk,e.2=.int k tk/\e.1=hashInt k):ElemsOf (intKind prog w) es.toList:=fun e he=>by
 obtain⟨k,tk,h1,h2⟩:=h e he;exact⟨⟨k,by rw[h1];exact intKind_is _ _ _ _,h2⟩,by rw[h1];rfl⟩
theorem Qb(hS:s.heap.get? a=some (eF es ep t))(vC:Array (Int×ai))(t1:SetTable):(s.heap.update a (Obj.putSet vC t1)).get? a=some (eF vC (ep+1) t1):=by
 have:=xx (Obj.putSet vC t1) hS (by rw[putSet_of vC t1 (show(eF es ep t).data=_ from rfl)];rfl)
 rw[putSet_of vC t1 (show(eF es ep t).data=_ from rfl)]at this
 exact this
theorem EA{k:Int}{tk:Tok}{Q:Bool->av->Prop}(hS:s.heap.get? a=some (eF es ep t))(hf:t.fits es.size=true)(Sl:∀e∈es.toList,∃k tk,e.2=.int k tk/\e.1=hashInt k)(hb:es.size+1<scanBound)
  (UW:es.toList.findIdx? (fun e=>(intKind prog w).is k e.2)=none) (hL:layNew t es (hashInt k) (.int k tk)=(vC,t1,false,false)) (hp:t1.plain=true) (Uj:t1.tooFull=false) (hz:vC.size<=sizeLine)
  (h:Q true {s with heap:=s.heap.update a (Obj.putSet vC t1)}):wpAny (model prog w) A (setAddHashed a (.int k tk) (hashInt k)) Q E s:=by
 have hE:=Br (prog:=prog) (w:=w) Sl;unfold setAddHashed setAddHashedIn;refine jW (au (lA hS rfl hf ?_));dsimp only
 rw[byScan_of (x:=.int k tk) rfl (by lia) hE]
 simp only[↓reduceIte];unfold setAddByScan;refine au ?_;refine au (iQ ?_);refine au (wpAny_setScan_of (knd:=intKind prog w) (k:=k) (intKind_is _ _ _ _) hS rfl hf hE ?_);rw[UW];dsimp only
 rw[hL];dsimp only
 refine au ?_;show wpAny _ _ (pure ()) _ _ s;refine aJ ?_;rw[hp,if_pos rfl];refine au ?_;rw[hashByValue_scannable 8 (x:=.int k tk) rfl];refine aJ ?_;have e:(if plainKind (Value.int k tk)=true then t1 else {t1 with plain:=false})=t1:=if_pos rfl
 rw[e];refine au (wpAny_storeSet_of hS rfl ?_ hz);rw[Uj,if_neg (by simp)]
 exact aJ (aJ h)
theorem EB{k:Int}{tk:Tok}{j:Nat}{Q:Bool->av->Prop}(hS:s.heap.get? a=some (eF es ep t))(hf:t.fits es.size=true)(Sl:∀e∈es.toList,∃k tk,e.2=.int k tk/\e.1=hashInt k)(hb:es.size+1<scanBound)
  (hj:es.toList.findIdx? (fun e=>(intKind prog w).is k e.2)=some j) (h:Q false s):wpAny (model prog w) A (setAddHashed a (.int k tk) (hashInt k)) Q E s:=by
 have hE:=Br (prog:=prog) (w:=w) Sl;unfold setAddHashed setAddHashedIn;refine jW (au (lA hS rfl hf ?_));dsimp only
 rw[byScan_of (x:=.int k tk) rfl (by lia) hE]
 simp only[↓reduceIte];unfold setAddByScan;refine au ?_;refine au (iQ ?_);refine au (wpAny_setScan_of (knd:=intKind prog w) (k:=k) (intKind_is _ _ _ _) hS rfl hf hE ?_);rw[hj];dsimp only
 exact aJ (aJ h)
end
def gy(led:Bool)(xs:List Int)(es:Array (Int×ai))(t:SetTable):Prop :=
 (∀e∈es.toList,∃k tk,e.2=.int k tk/\e.1=hashInt k)/\(es.toList.map fun e=>intOf e.2).Perm xs /\
 ((xs=[]/\es=#[]/\t=kn #[] led)\/(∃(p:_root_.Fin 8) (x:Int),xs=[x]/\t=kn #[(p:Nat)] led)\/∃(p q:_root_.Fin 8) (x y:Int),xs=[x,y]/\p<q/\t=kn #[(p:Nat),(q:Nat)] led)
theorem gy.fits{led:Bool}{xs:List Int}{es:Array (Int×ai)}{t:SetTable}(h:gy led xs es t):t.fits es.size=true/\es.size=xs.length/\es.size<=2:=by
 obtain⟨_,hp,hc⟩:=h;have hl:=hp.length_eq;simp at hl;rcases hc with⟨rfl,rfl,rfl⟩ | ⟨p,x,rfl,rfl⟩ | ⟨p,q,x,y,rfl,_,rfl⟩
 ·exact⟨rfl,hl,by decide⟩
 ·simp at hl;exact⟨by rw[hl];rfl,hl,by lia⟩
 ·simp at hl;exact⟨by rw[hl];rfl,hl,by lia⟩
theorem gy.good{w:aW}{a:af}{ep:Nat}{xs:List Int}{es:Array (Int×ai)}{t:SetTable}(h:gy (!BT w) xs es t):gU w a ep es t:=by
 obtain⟨f1,f2,f3⟩:=h.fits;refine⟨f1,Md w a ep es,fun hb=>?_⟩
 obtain⟨_,hp,hc⟩:=h;rw[hb]at hc;rcases hc with⟨rfl,rfl,rfl⟩ | ⟨p,x,rfl,rfl⟩ | ⟨p,q,x,y,rfl,hJ,rfl⟩
 ·refine⟨rfl,rfl,fun i hi=>?_⟩
  have:i=0:=by simpa using hi
  subst this;rfl
 ·obtain⟨b1,b2⟩:=P8 p;refine⟨rfl,rfl,fun i hi=>?_⟩
  have:es.size=1:=f2;have:i=0\/i=1:=by lia
  rcases this with rfl | rfl
  ·exact b1
  ·exact b2
 ·obtain⟨b1,b2,b3⟩:=P9 p q hJ;refine⟨rfl,rfl,fun i hi=>?_⟩
  have:es.size=2:=f2;have:i=0\/i=1\/i=2:=by lia
  rcases this with rfl | rfl | rfl
  ·exact b1
  ·exact b2
  ·exact b3
section
variable {prog:bG} {w:aW} {A:bR} {E:cR} {s:av} {a:af} {es:Array (Int×ai)} {ep:Nat} {t:SetTable}
def m7(xs:List Int)(k:Int):List Int:=if k∈xs then xs else xs++[k]
theorem EC{led:Bool}{xs:List Int}{k:Int}{tk:Tok}{Q:Bool->av->Prop}(hS:s.heap.get? a=some (eF es ep t))(h2:gy led xs es t)(hk:0<=k/\k<64)(hx:xs.length<=1)
  (h:∀b h' vC ep1 t1,Heap.SameBut a s.heap h'->h'.get? a=some (eF vC ep1 t1)->gy led (m7 xs k) vC t1->Q b {s with heap:=h'}):wpAny (model prog w) A (setAddHashed a (.int k tk) (hashInt k)) Q E s:=by
 obtain⟨f1,f2,f3⟩:=h2.fits;obtain⟨Sl,hp,hc⟩:=id h2;have hb:es.size+1<scanBound:=by
  have:scanBound=4096:=rfl
  lia
 have rA:∀e∈es.toList,(intKind prog w).is k e.2=true↔intOf e.2=k:=fun e he=>by
  obtain⟨n,UX,q,_⟩:=Sl e he;rw[q];show Value.isInt k (.int n UX)=true↔n=k;simp[Value.isInt]
 cases hr:es.toList.findIdx? (fun e=>(intKind prog w).is k e.2)with
 | some j =>
  obtain⟨hj,hpj,_⟩:=J7.mp hr;have hin:k∈xs:=by
   have h1:=(rA _ (xN hj)).mp hpj;exact hp.mem_iff.mp (bF.mpr ⟨_,xN hj,h1⟩)
  refine EB hS f1 Sl hb hr ?_;have:=h false s.heap es ep t (Heap.SameBut.refl a s.heap) hS (by unfold m7;rw[if_pos hin];exact h2)
  exact this
 | none =>
  have UW:k∉xs:=fun hin=>by
   obtain⟨e,he,q⟩:=bF.mp (hp.mem_iff.mpr hin);have:=List.findIdx?_eq_none_iff.mp hr e he;rw[(rA e he).mpr q]at this;cases this
  have hk':hashInt k=k:=by
   have:=Ez ⟨k.toNat,by lia⟩
   rw[show(((⟨k.toNat,by lia⟩:_root_.Fin 64):Nat):Int)=k from xB hk.1]at this
   exact this
  have hkc:hashInt k=(((⟨k.toNat,by lia⟩:_root_.Fin 64):Nat):Int):=by
   rw[hk'];exact(xB hk.1).symm
  have fin:∀vC t1,layNew t es (hashInt k) (.int k tk)=(vC,t1,false,false)->t1.plain=true->t1.tooFull=false->vC.size<=2->gy led (m7 xs k) vC t1->wpAny (model prog w) A (setAddHashed a (.int k tk) (hashInt k)) Q E s:=fun vC t1 hL q1 q2 q3 q4 =>
   EA hS f1 Sl hb hr hL q1 q2 (cz q3 (by decide)) (h true _ vC (ep+1) t1 (pP ..) (Qb hS vC t1) q4)
  have UY:m7 xs k=xs++[k]:=by unfold m7;rw[if_neg UW]
  rcases hc with⟨rfl,rfl,rfl⟩ | ⟨p,x,rfl,rfl⟩ | ⟨p,q,x,y,rfl,hJ,rfl⟩
  ·refine fin _ _ (Yu ⟨k.toNat,by lia⟩ led _ _ hkc) rfl rfl (by simp) ?_
   rw[UY];refine⟨fun e he=>?_,.refl _,.inr (.inl ⟨⟨(⟨k.toNat,by lia⟩:_root_.Fin 64).val%8,Nat.mod_lt _ (by decide)⟩,k,rfl,rfl⟩)⟩
   have he:e∈[(hashInt k,Value.int k tk)]:=he;have he:=cW.mp he;subst he;exact⟨k,tk,rfl,rfl⟩
  ·have UZ:es.size=1:=f2;obtain⟨e0,rfl⟩:∃e0,es=#[e0]:=Array.size_eq_one_iff.mp UZ
   obtain⟨q,hne,hL⟩:=Yv p ⟨k.toNat,by lia⟩ led (hashInt k) (.int k tk) hkc e0
   have hq:(intOf e0.2)=x:=by
    have hm:intOf e0.2∈[x]:=hp.mem_iff.mp (bF.mpr ⟨e0,by simp,rfl⟩)
    simpa using hm
   have h0:=Sl e0 (by simp)
   by_cases hJ:p<q
   ·rw[if_pos hJ]at hL;refine fin _ _ hL rfl rfl (by simp) ?_
    rw[UY];refine⟨fun e he=>?_,?_,.inr (.inr ⟨p,q,x,k,rfl,hJ,rfl⟩)⟩
    ·have he:e∈[e0,(hashInt k,Value.int k tk)]:=he;simp only[bB,eY,fg]at he;rcases he with rfl | rfl
     ·exact h0
     ·exact⟨k,tk,rfl,rfl⟩
    ·show [intOf e0.2,k].Perm ([x]++[k]);rw[hq];exact .refl _
   ·rw[if_neg hJ]at hL;refine fin _ _ hL rfl rfl (by simp) ?_
    rw[UY];refine⟨fun e he=>?_,?_,.inr (.inr ⟨q,p,x,k,rfl,?_,rfl⟩)⟩
    ·have he:e∈[(hashInt k,Value.int k tk),e0]:=he;simp only[bB,eY,fg]at he;rcases he with rfl | rfl
     ·exact⟨k,tk,rfl,rfl⟩
     ·exact h0
    ·show [k,intOf e0.2].Perm ([x]++[k]);rw[hq];exact .swap x k []
    ·have h3:(q:Nat)≠(p:Nat):=fun e=>hne (_root_.Fin.ext e)
     have h4:¬(p:Nat)<(q:Nat):=hJ;show(q:Nat)<(p:Nat)
     lia
  ·simp at hx
end
end
end PySem
namespace PySem
open PyProof.Rows
def qh(val:Nat->Int):Nat->List Int
 | 0=>[]
 | i+1=>m7 (qh val i) (val i)
theorem uz(val:Nat->Int):∀i,(qh val i).length<=i
 | 0=>aV _
 | i+1=>by
  have:=uz val i;unfold qh m7;split
  ·lia
  ·simp;lia
section
variable {prog:bG} {w:aW} {A:bR} {R:Result->av->Prop} {I:af} {fp wr:List af} {G:Array GenState->Array GenState->Prop} {n:Nat} {P:Nat->ai->Prop} {St:Nat->av->Prop}
theorem Bs(W:WalksS prog w A.in1 I fp wr G n P St)(S:af)(hSf:S∉fp)(val:Nat->Int)(U0:∀i v,P i v->∃t,v=.int (val i) t)(Yw:∀i,i<n->0<=val i/\val i<64)(hn:n<=2)(led:Bool) :
  ∀(k i:Nat) (s:av),n-i=k->i<=n->St i s->(∃es ep t,s.heap.get? S=some (eF es ep t)/\gy led (qh val i) es t) ->
   (∀s',Moved (S::wr) G s s'->(∃es ep t,s'.heap.get? S=some (eF es ep t)/\gy led (qh val n) es t)->R (.ok (.ret .none)) s') ->
   codeAny (model prog w) A (.builtin "set.update.loop" ⟨[.ref S,.ref I],[]⟩) R s:=by
 have hSw:S∉wr:=fun h=>hSf (W.sub _ h)
 have L3:∀b∈wr,b∈S::wr:=fun b hb=>cn _ hb
 intro k;induction k with
 | zero =>
  intro i s hk hi DQ hS hR;have hin:i=n:=by lia
  subst hin;refine xP F.entry_set_update_loop ?_;rw[Dl Dc _];show wpAny _ A.in1 (pyNext (.ref I) >>= _) _ _ s;refine au (W.done s _ _ DQ fun s' hm=>?_)
  show wpAny _ A.in1 (ret Value.none) _ _ s';exact aJ (hR s' (hm.mono L3) (by
   obtain⟨es,ep,t,ho,rest⟩:=hS;exact⟨es,ep,t,hm.heap S _ hSw ho,rest⟩))
 | succ k ih =>
  intro i s hk hi DQ hS hR;have hJ:i<n:=by lia
  refine xP F.entry_set_update_loop ?_;rw[Dl Dc _];show wpAny _ A.in1 (pyNext (.ref I) >>= _) _ _ s;refine au (W.item i s _ _ hJ DQ fun v s' hP adp hm=>?_)
  obtain⟨t,rfl⟩:=U0 i v hP;obtain⟨es,ep,tb,ho,h2⟩:=hS;have AD:=hm.heap S _ hSw ho;show wpAny _ A.in1 (holding [Value.int (val i) t] (setAdd S (.int (val i) t)) >>= _) _ _ s';refine au (jW ?_);unfold setAdd;refine jW ?_;refine au ((intKind prog w).pyHash (k:=val i) (intKind_is _ _ _ _) ?_);have hl1:=uz val i;refine EC (s:={s' with toks:=s'.toks+1}) AD h2 (Yw i hJ) (by lia) fun b h' vC ep1 t1 hsb hS2 h2'=>?_
  refine aJ ⟨plainId_quiet Dc _,ih (i+1) _ (by lia) hJ (W.frame _ s' _ _ adp (sQ _) fun b hb o e=>?_) ⟨vC,ep1,t1,hS2,h2'⟩ fun OC ads adt=>?_⟩
  ·rw[hsb.2 b (fun h:b=S=>hSf (by rw[<-h];exact hb))];exact e
  ·refine hR OC (Moved.trans W.gtrans ((hm.mono L3).then_heap (sQ _) fun b o hb e=>?_) ads) adt
   rw[hsb.2 b (fun h:b=S=>hb (by rw[h];exact cq))];exact e
end
section
variable {prog:bG} {w:aW} {A:bR} {E:cR} {s:av}
theorem vD(a:ai){Q₁:cR}
  (h:Q₁ (.ref s.heap.objs.size) {s with heap:=s.heap.push {cls:=.type "set",dict:=none,data:=.set #[] 0 (.fresh 0 0 (!BT w))}}) :
  codeAny (model prog w) A (.call (.builtin "set.__new__") ⟨[.type "set",a],[]⟩) (wants Q₁ E) s:=by
 refine codeAny_of_tree ?_;show wpAny _ A.in1 (do checkBuiltinCall "set.__new__" ⟨[.type "set",a],[]⟩;again (.builtin "set.__new__" ⟨[.type "set",a],[]⟩)) _ _ s
 refine au (wpAny_of_eq (F.newCall_set_1 a) (aJ ⟨plainId_quiet F.plain_set_new _,xP F.entry_set_new ?_⟩));rw[Dl F.plain_set_new _];unfold Builtin.«set.__new__» Builtin.Frozenset.newClass;have L3:=sub_set_self;obtain⟨hp,g,d,tk,os⟩:=s;dsimp only
 wp_walk
 refine DA (aJ ?_);dsimp only
 simp only[newObj];refine au (wpAny_alloc (aJ ?_));exact aJ h
end
theorem gy.nil(led:Bool):gy led [] #[] (kn #[] led):=by
 refine⟨fun e he=>?_,List.Perm.refl _,.inl ⟨rfl,rfl,rfl⟩⟩
 cases he
section
variable {prog:bG} {w:aW} {A:bR} {E:cR} {s:av}
set_option maxHeartbeats 3200000 in
theorem Bt{l:af}{items:Array ai}{ns:List Int}{Q:cR}(hh:A.handled=none)(hl:s.heap.IsList l items)(hi:IntsAre items.toList ns)(hb:items.size<=2)(Yw:∀i,i<items.size->0<=ns.getD i 0/\ns.getD i 0<64)
  (h:∀(h':Heap) (tk:Nat) es ep t,h'.get? s.heap.objs.size=some (eF es ep t)->gy (!BT w) (qh (fun i=>ns.getD i 0) items.size) es t->(∀b o,b<s.heap.objs.size->s.heap.get? b=some o->h'.get? b=some o)->Q (.ref s.heap.objs.size) {s with heap:=h',toks:=tk}) :
  wpAny (model prog w) A (call (.type "set") [.ref l]) Q E s:=by
 obtain⟨c,tl,ahb⟩:=F.called_set.mro;have afn:=F.called_set.made;have L3:=F.called_set.sub;refine wpAny_call (codeAny_of_tree ?_);show wpAny _ _ (callAny (.type "set") _) _ _ _;refine aJ ⟨Code.quiet_builtin _ (by decide +kernel),xP F.entry_type_call ?_⟩
 rw[Around.under_plain (weight_type_call_type "set" [.ref l] []) rfl];have h1:=F.called_set.notType;have h2:=F.called_set.canCreate;have hct:=F.typeCall_set_1 (.ref l)
 repeat (any_goals (first | assumption | wp_step))
 refine nA (vD (.ref l) (E:=E) (Q₁:=fun obj s₁=>obj=.ref s.heap.objs.size/\s₁={s with heap:=s.heap.push {cls:=.type "set",dict:=none,data:=.set #[] 0 (.fresh 0 0 (!BT w))}}) ⟨rfl,rfl⟩) fun r s₁ hr=>?_
 cases r with
 | error e=>exact hr
 | ok fl =>
  cases fl with
  | ret obj =>
   obtain⟨rfl,rfl⟩:=hr;obtain⟨led,Yx⟩:∃led,led = !BT w:=⟨_,rfl⟩
   rw[<-Yx];have hS:(s.heap.push {cls:=.type "set",dict:=none,data:=.set #[] 0 (.fresh 0 0 led)}).get? s.heap.objs.size=some {cls:=.type "set",dict:=none,data:=.set #[] 0 (.fresh 0 0 led)}:=d3 _ rfl
   have hT:Shared.TypeIs {s with heap:=s.heap.push {cls:=.type "set",dict:=none,data:=.set #[] 0 (.fresh 0 0 led)}} (.ref s.heap.objs.size) "set":=⟨_,hS,rfl⟩
   have hli:=F.called_set.init.lookup;have hbi:=F.called_set.init.bind (.ref s.heap.objs.size)
   repeat (any_goals (first | assumption | wp_step))
   refine nA (codeAny_call_builtin (R:=wants (fun r AF=>r=.none/\∃h' tk,AF={s with heap:=h',toks:=tk} /\
     (∃es ep t,h'.get? s.heap.objs.size=some (eF es ep t)/\gy led (qh (fun i=>ns.getD i 0) items.size) es t) /\
     (∀b o,b<s.heap.objs.size->s.heap.get? b=some o->h'.get? b=some o)) E) F.called_set.init.plain F.entry_set_init (check_set_init_1 hT ?_)) fun adu AF Me=>?_
   ·obtain⟨ol,Wl,hcl,nl,Iv⟩:=hl;obtain⟨ahc,Yy,afo,U1⟩:=ol;simp only at hcl Iv;subst hcl;subst Iv;have adv:(s.heap.push {cls:=.type "set",dict:=none,data:=.set #[] 0 (.fresh 0 0 led)}).get? l=some {cls:=.type "list",dict:=Yy,data:=.seq items nl,slots:=U1}:=cD _ Wl
    have ahd:=F.sub_list_set;have ahe:=F.sub_list_frozenset;have hne:(Value.type "list"==Value.type "dict")=false:=by decide
    have hl1:(s.heap.push {cls:=.type "set",dict:=none,data:=.set #[] 0 (.fresh 0 0 led)}).IsList l items:=⟨_,adv,rfl,nl,rfl⟩
    unfold Builtin.«set.__init__» noKeywords Builtin.Frozenset.updateFrom
    generalize hPI:pyIter=PI
    wp_walk
    subst hPI;refine Dq hl1 ?_;refine au (wpAny_runValue ?_);have hlS:l<s.heap.objs.size:=bX Wl;have hh3:A.in1.in1.in1.handled=none:=by simp[hh]
    have adw:l≠(s.heap.push {cls:=.type "set",dict:=none,data:=.set #[] 0 (.fresh 0 0 led)}).objs.size:=by
     rw[sL];exact cX (xH hlS)
    have hSf:s.heap.objs.size∉[(s.heap.push {cls:=.type "set",dict:=none,data:=.set #[] 0 (.fresh 0 0 led)}).objs.size,l]:=by
     rw[sL];simp only[bB,cW,eY,fg,not_or];exact⟨cX (DB _),sM hlS⟩
    have U0:∀(i:Nat) (v:ai),items[i]?=some v->∃t,v=.int ((fun i=>ns.getD i 0) i) t:=fun i v hv =>
     PyProof.Rows.IntsAre.int_at hi i v (by rw[ig];exact hv)
    refine Bs ((Walks.list hh3 _ l adw items).toS) s.heap.objs.size hSf (fun i=>ns.getD i 0) U0 Yw hb led (items.size-0) 0 _ (by lia) (gO _)
     ⟨⟨_,d3 _ rfl,rfl,rfl⟩,(hl1.push _)⟩ ?hS0 ?hR
    case hS0 =>
     exact⟨#[],0,kn #[] led,cD _ hS,gy.nil led⟩
    case hR =>
     intro s' hm hS';obtain⟨h',g',d',UX,Xc⟩:=s';have eg:g'=s.gens:=hm.gens;have ed:d'=s.drawn:=hm.drawn;have eo:Xc=s.os:=hm.os;subst eg;subst ed;subst eo;show wpAny _ _ _ _ _ _;refine aJ ?_;show wpAny _ _ (ret Value.none) _ _ _;refine aJ ⟨rfl,h',UX,rfl,hS',fun b o hb e=>?_⟩
     have hb1:b≠s.heap.objs.size:=cX hb;have hb2:b≠(s.heap.push {cls:=.type "set",dict:=none,data:=.set #[] 0 (.fresh 0 0 led)}).objs.size:=by
      rw[sL];exact cX (xH hb)
     exact hm.heap b o (by simp only[bB,cW,eY,fg,not_or];exact⟨hb1,hb2⟩) (cD _ (cD _ e))
   ·cases adu with
    | error e=>exact Me
    | ok Yz =>
     cases Yz with
     | ret r =>
      obtain⟨rfl,h',tk,rfl,⟨es,ep,t,hS',h2'⟩,hk'⟩:=Me
      repeat (any_goals (first | assumption | wp_step))
      exact h _ _ es ep t hS' (by rw[<-Yx];exact h2') hk'
     | _=>exact Me.elim
  | _=>exact hr.elim
end
section
variable {prog:bG} {w:aW} {A:bR} {E:cR} {s:av} {a:af} {es:Array (Int×ai)} {ep:Nat} {t:SetTable}
theorem vE{xs:List Int}{Q:cR}(hh:A.handled=none)(hS:s.heap.get? a=some (eF es ep t))(h2:gy (!BT w) xs es t)
  (h:∀(h1 h':Heap) (tk:Nat) (D:af) (out:Array ai) (rm:List Int) (e:Nat),(∀b o,s.heap.get? b=some o->h1.get? b=some o)->(∀b o,h1.get? b=some o->h'.get? b=some o)->h1.objs.size<=D->h'.get? D=some (seqObj "list" out e)->IntsAre out.toList rm->rm.Perm xs->rm.Pairwise (· <= ·)->Q (.ref D) {s with heap:=h',toks:=tk}) :
  wpAny (model prog w) A (call (.builtin "sorted") [.ref a]) Q E s:=by
 have g:gU w a ep es t:=h2.good;obtain⟨f1,f2,f3⟩:=h2.fits;refine Calls.call_function_entry kind_sorted plain_sorted entry_sorted (args_sorted1 _) ?_;unfold Builtin.«sorted»;refine au (m:=checkCount "sorted" 1 1 _) (aJ ?_);refine au (W.kdu_collect (A:=A.in1) (P6 (prog:=prog) g) (by simp[hh]) hS (cz f3 (by decide)) fun h' tk acc hk vF=>?_)
 have ady:acc.toList=(lY w a ep es).toList.map (·.2):=by
  refine List.ext_getElem? fun j=>?_
  rw[cu,ig,ig];by_cases hj:j<es.size
  ·have h1:j<acc.size:=by rw[vF.1];exact hj
   obtain⟨e,he,hv⟩:=vF.2 j acc[j] (by simp[h1])
   rw[he];simp[h1,hv]
  ·have h1:acc[j]?=none:=by
    have:=vF.1;simp;lia
   have h2:(lY w a ep es)[j]?=none:=by
    have:=g.size;simp;lia
   rw[h1,h2];rfl
 have hop:=Bp w a ep es;have hI:IntsAre acc.toList ((lY w a ep es).toList.map fun e=>intOf e.2):=by
  rw[ady];exact Bq _ fun e he=>by
   obtain⟨k,tk,q,_⟩:=h2.1 e (hop.mem_iff.mp he);exact⟨k,tk,q⟩
 have YA:((lY w a ep es).toList.map fun e=>intOf e.2).Perm xs:=(hop.map _).trans h2.2.1
 have dQ:acc.toList.length<=2:=by
  rw[dw,vF.1];exact f3
 refine au (wpAny_newList ?_ (cz dQ (by decide)))
 have RG:(h'.push (seqObj "list" acc.toList.toArray 0)).get? h'.objs.size=some (seqObj "list" acc.toList.toArray 0):=d3 _ rfl;show wpAny _ _ _ _ _ {s with heap:=h'.push (seqObj "list" acc.toList.toArray 0),toks:=tk}
 refine au (jW (jf slot_list_sort ⟨_,RG,rfl⟩ entry_list_sort (list_sort_tree (s:={s with heap:=h'.push (seqObj "list" acc.toList.toArray 0),toks:=tk}) RG hI (by lia) fun out rm a1 a2 a3=>⟨_,rfl,?_⟩) (args_list_sort _)))
 obtain⟨e,vn⟩:=sortedHeap_at (out:=out) (vs:=acc.toList) RG;refine aJ ⟨_,rfl,h h' _ tk h'.objs.size out rm e hk (fun b o hb=>?_) (aV _) vn a1 (a2.trans YA) a3⟩
 have hJ:b<h'.objs.size:=bX hb;rw[sortedHeap_old (cX hJ) (by rw[size_push'];exact xH hJ)]
 exact cD _ hb
end
end PySem
namespace L2.PL
open PySem PySem.Spec PyProof.Rows
def Mf(ts:cg):FE:=fun ρ=>(ts ρ).bind fun ps=>(iD ps).bind fun ns=>if(ns.length<=2/\ns.all (fun n=>decide (0<=n/\n<64))=true)then some (.aq ((gT (qh (fun i=>ns.getD i 0) ns.length)).map .int))else none
section
variable {X:Cx} {H₀ ae:Hp} {es:List ao} {ts:cg} {pos p ID zp lp:Pos}
theorem U2(hh:X.A.handled=none)(hgl:Gl X "sorted")(YB:X.mg "sorted"=none)(hg:Gl X "set")(hm:X.mg "set"=none)(ha:PA X es (tA X.K H₀ ae ts)) :
  PE X (.Call (.Name "sorted" p) [.Call (.Name "set" zp) [.List es lp] [] ID] [] pos) (tE X.K H₀ ae (Mf ts)):=by
 rintro ag s σ H Q I ⟨F,ρ,z,Rp,hf,q⟩;obtain⟨ps,f1,hf⟩:=aD hf;obtain⟨ns,f2,hf⟩:=aD hf;obtain⟨⟨Ph,hal⟩,e0⟩:=aU hf;clear hf;subst e0;have pI:ps.length<=2:=by
  have:∀{l:az} {m:List Int},iD l=some m->l.length=m.length:=fun {l}=>by
   induction l with
   | nil=>intro m h;cases h;rfl
   | cons a l ih =>
    intro m h;cases a with
    | int i =>
     obtain⟨m',h1,h2⟩:=Yr (show(iD l).map (fun ns=>i::ns)=some m from h)
     subst h2;rw[bA,bA,ih h1]
    | _=>cases h
  rw[this f2];exact Ph
 refine nq (ld_blt I hgl YB boot_sorted ?_ (by decide) (by decide))
 refine J8 (L9 rfl ?_) rfl rfl;have hA:=Ly (pos:=lp) ha ag s σ H (fun v H'=>∃F' l vs,v=.ref l/\dI X.K H₀ ae F' ρ σ H'/\Same F F'/\H' l=some (.aq vs)/\bC X.K F' ps vs) I
  ⟨F,ρ,ps,Rp,(by show(ts ρ).bind _=_;rw[f1];exact if_pos (cz pI (by decide))),fun a vs H1 F' R1 s1 b1 hn=>⟨F',a,vs,rfl,R1.RX (.aq vs) hn,s1,bo,b1⟩⟩
 refine Call_ (ld_blt I hg hm boot_set (pM (L9 rfl (thn hA fun u s1 ⟨v,H1,I1,r1,F1,l,vs,ev,R1,sm1,hl,b1⟩=>?_)) rfl rfl))
 subst ev;cases r1;obtain⟨bg,r,pl,_⟩:=I1.list (nG.of hl);have ev:=oN f2 b1;subst ev;have hi:=nH r;have dQ:bg.length=ns.length:=by rw[<-r.length,aE]
 have hsz:bg.toArray.size=ns.length:=by rw[bJ];exact dQ
 refine Bt (items:=bg.toArray) (ns:=ns) hh pl.isList hi (by lia) (fun i hi'=>?_) fun h' tk WR ep t hS h2 hk=>?_
 ·have hin:i<ns.length:=by lia
  have:=gu.mp hal _ (xN hin);rw[C4,cJ hin];exact jR this
 ·rw[hsz]at h2;have I2:Inv X ag σ H1 {s1 with heap:=h',toks:=tk}:=I1.kept fun b o e=>hk b o (bX e) e
  refine vE (s:={s1 with heap:=h',toks:=tk}) hh hS h2 fun h1 h'' UX D out rm e k1 k2 hD vn hI hp hu=>?_
  have I3:Inv X ag σ H1 {s1 with heap:=h1,toks:=UX}:=I2.kept (t':=UX) k1
  have e1:rm=gT (qh (fun i=>ns.getD i 0) ns.length):=W.ksm_same (hp.trans (gw _).symm) hu (uu _)
  subst e1;have hz:H1 D=none:=I3.hok.fresh hD;obtain⟨R2,s2⟩:=R1.laid (.aq ((gT (qh (fun i=>ns.getD i 0) ns.length)).map V.int)) hz
  refine⟨.ref D,eI H1 D (.aq ((gT (qh (fun i=>ns.getD i 0) ns.length)).map V.int)),I3.laid (t':=UX) k2 hD ⟨?_,out.toList,e,uv hI,vn⟩,rfl,q _ _ _ R2 (sm1.trans s2) (bD.mpr ⟨_,_,rfl,rG.of bo,mq _⟩)⟩
  rw[aE,(gw _).length_eq];have:=uz (fun i=>ns.getD i 0) ns.length
  exact cz this (cz Ph (by decide))
end
noncomputable def U3:az->Option (List Int)
 | [.int n]=>if 0<=n/\n<=1000 then some (rangeInts 0 1 n.toNat)else none
 | [.int a,.int b]=>if 0<=a/\a<=b/\b<=1000 then some (rangeInts a 1 (b-a).toNat)else none
 | [.int a,.int b,.int c]=>if(-1000<=a/\a<=1000 /\ -1000<=b/\b<=a/\c = -1)then some (rangeInts a (-1) (a-b).toNat)else none
 | _=>none
def lrg(ts:cg):cg:=fun ρ=>(ts ρ).bind fun ps=>(U3 ps).map fun l=>l.map .int
section
variable {X:Cx} {H₀ ae:Hp} {e:ao} {es:List ao} {ts:cg} {pos p ID zp:Pos}
theorem ED{a c:Int}{n:Nat}{acc:Array ai}(h:ItemsOf (fun(i:Nat) (v:ai)=>∃t:Tok,v=Value.int (a+i*c) t) acc n):Vals ((rangeInts a c n).map V.int) acc.toList:=by
 have:∀(l:cj) (k:Nat),(∀(j:Nat) (v:ai),l[j]?=some v->∃t:Tok,v=Value.int (a+((k+j:Nat):Int)*c) t)->Vals (((List.range' k l.length).map fun(i:Nat)=>a+(i:Int)*c).map V.int) l:=by
  intro l;induction l with
  | nil=>intro k _;exact .nil
  | cons x l ih =>
   intro k hx;obtain⟨t,ht⟩:=hx 0 x rfl;rw[bA,List.range'_succ,bK,bK];refine .cons ⟨t,by rw[ht];rfl⟩ (ih (k+1) fun j v hv=>?_)
   have:=hx (j+1) v (by simpa using hv)
   rw[show k+(j+1)=k+1+j by lia]at this
   exact this
 have h2:=this acc.toList 0 fun j v hv=>by
  rw[fV];exact h.2 j v (by rw[<-ig];exact hv)
 rw[dw,h.1,<-List.range_eq_range']at h2;exact h2
theorem YC(hh:X.A.handled=none)(hgl:Gl X "list")(YB:X.mg "list"=none)(hg:Gl X "range")(hm:X.mg "range"=none)(ha:PA X (e::es) (tA X.K H₀ ae ts))(hs:starEach (e::es) X.env=(false,eval e X.env)::starEach es X.env)(hs2:(backTo ID (starEach es X.env)).any (·.1)=false) :
  PE X (.Call (.Name "list" p) [.Call (.Name "range" zp) (e::es) [] ID] [] pos) (tF X.K H₀ ae (lrg ts)):=by
 rintro ag s σ H Q I ⟨F,ρ,zs,Rp,hf,q⟩;obtain⟨ps,f1,hf⟩:=aD hf;obtain⟨ns,f2,e0⟩:=Yr hf;clear hf;subst e0;refine nq (ld_blt I hgl YB (kQ .list) ?_ (by decide) (by decide))
 refine pM (L9 rfl ?_) rfl rfl;have hA:=ha ID ag s σ H (fun vs H'=>∃F',dI X.K H₀ ae F' ρ σ H'/\Same F F'/\bC X.K F' ps vs) I ⟨F,ρ,ps,Rp,f1,fun vs H1 F1 R1 s1 b1=>⟨F1,R1,s1,b1⟩⟩
 refine Call_ (ld_blt I hg hm boot_range (pM (thn hA fun us s1 ⟨vs,H1,I1,r1,F1,R1,sm1,b1⟩=>?_) hs hs2))
 have fin:∀(r:af) (h1:Heap) (YD:Nat) (a b c:Int) (t u v:Tok) (n:Nat),(∀b o,s1.heap.get? b=some o->h1.get? b=some o)->IsRange h1 r a b c t u v->Builtin.Range.small a b c=true->Builtin.Range.rangeSize a b c=n->n<=3000->ns=rangeInts a c n ->
   wpAny (model X.prog X.w) X.A (call (.type "list") [.ref r]) (EP X ag σ Q) X.xe {s1 with heap:=h1,toks:=YD}:=fun r h1 YD a b c t u v n hk hr Yw hn vx ON=>by
  refine call_list_range (s:={s1 with heap:=h1,toks:=YD}) hh hr Yw hn (by lia) fun h' tk acc c' hk2 hS vF=>?_
  have I2:Inv X ag σ H1 {s1 with heap:=h1,toks:=YD}:=I1.kept (t':=YD) hk
  have hz:H1 h1.objs.size=none:=I2.hok.fresh (aV _);have hv:=ED vF;rw[<-ON]at hv;refine⟨.ref h1.objs.size,eI H1 h1.objs.size (.aq (ns.map V.int)),I2.laid (t':=tk) hk2 (aV _) ⟨?_,acc.toList,c',hv,hS⟩,rfl,q _ _ H1 F1 R1 sm1 (mq ns) hz⟩;rw[aE,ON,rangeInts_length];exact cz vx (by decide)
 unfold U3 at f2;split at f2
 ·rename_i n _;obtain⟨⟨h0,h1⟩,e1⟩:=aU f2;obtain⟨v,rfl,bv⟩:=eS b1;rw[aN.mp bv]at r1;obtain⟨u,rfl,ru⟩:=lg r1;obtain⟨tk0,rfl⟩:=ru;refine call_range_1 ?_;refine fin _ _ _ 0 n 1 _ _ _ n.toNat (fun b o e=>cD _ e) (xY ..) ?_ ?_ (by lia) e1.symm
  ·exact small_one (by decide) (by decide) (by lia) (by lia)
  ·unfold Builtin.Range.rangeSize;rw[if_pos (by decide)]
   split<;>lia
 ·rename_i a b _;obtain⟨⟨h0,h1,h2⟩,e1⟩:=aU f2;obtain⟨v1,v2,rfl,bv1,bv2⟩:=GD b1;rw[aN.mp bv1,aN.mp bv2]at r1;obtain⟨u1,u2,rfl,Yi,ru2⟩:=K9 r1;obtain⟨k1,rfl⟩:=Yi;obtain⟨k2,rfl⟩:=ru2;refine call_range_2 ?_;refine fin _ _ _ a b 1 _ _ _ (b-a).toNat (fun b o e=>cD _ e) (xY ..) (small_one (by lia) (by lia) (by lia) (by lia)) (rangeSize_nat a b) (by lia) e1.symm
 ·rename_i a b c _;obtain⟨⟨h0,h1,h2,h3,rfl⟩,e1⟩:=aU f2;obtain⟨v1,r,rfl,bv1,b1'⟩:=b1.cG;obtain⟨v2,v3,rfl,bv2,bv3⟩:=GD b1';rw[aN.mp bv1,aN.mp bv2,aN.mp bv3]at r1;cases r1 with
  | cons Yi r1 =>
   obtain⟨u2,u3,rfl,ru2,ru3⟩:=K9 r1;obtain⟨k1,rfl⟩:=Yi;obtain⟨k2,rfl⟩:=ru2;obtain⟨k3,rfl⟩:=ru3;refine call_range_3 (by decide) ?_ (Or.inl (PyProof.noPylong_small (by lia)))
   refine fin _ _ _ a b (-1) _ _ _ (a-b).toNat (fun b o e=>cD _ e) (xY ..) (W.small_down (by lia) (by lia) (by lia) (by lia)) (W.rangeSize_downNat a b) (by lia) e1.symm
 ·cases f2
end
abbrev YE:=aI->Option Ob
def tO(K:ak)(H₀ ae:Hp)(f:YE):TE:=fun σ H Q=>∃F ρ o,dI K H₀ ae F ρ σ H/\f ρ=some o/\∀a H' F',dI K H₀ ae F' ρ σ H'->Same F F'->A4 K F' o a->Q (.ref a) H'
section
variable {X:Cx} {H₀ ae:Hp} {e ke:ao} {es:List ao} {fo:YE} {fe fk:FE} {ts:cg} {pos p sp:Pos} {x:Str} {k n:Nat} {f:af} {fd:er} {ps:List Str} {g:Ob->az->dG}
def rdO(i:Nat):YE:=fun ρ=>match ρ[i]? with | some (.ob o)=>some o | _=>none
def spO(K:ak)(n:Nat)(g:Ob->az->dG):Sp:=fun vs H Q E=>∃F o ps e a us,vs=.ref a::us/\Same F H/\A4 K F o a/\bC K F ps us/\ps.length=n/\g o ps=some e/\R0 K H F Q E e
abbrev adI(X:Cx)(fns:List (Str×Nat))(call:Str->Ob->az->dG):Prop:=∀x n,fns.lookup x=some n->∃k f fd ps,FnOk X.prog X.w X.K X.mg X.base (mW X.prog X.w) k f fd ps (spO X.K n (call x))/\fm k X.A/\X.mg x=some (.ref f)/\W.keepIn X.K (.ref f)=true/\gC X.K fd ps []
def EE(K:ak)(mg:ee)(P:Params)(T:Str)(ck:List (Str×PV)):Prop :=
 ∃a es n,mg T=some (.ref a)/\K.lookup a=some ⟨.type "dict",none,.dict es n,#[]⟩/\W.KeysLit P es.toList/\∀k p,ck.lookup k=some p->∃u v,W.nsIn K a k=some (some u)/\RelV v u/\∀F,dB K F p v
def Qc(i:Nat)(ρ:aI)(k:PV):b8:=match ρ[i]? with
 | some (.own ps)=>(match k with | .int n=>atI ps n | _=>none)
 | some (.val p)=>aF p k
 | _=>none
def YF(i:Nat)(fk:FE):FE:=fun ρ=>(fk ρ).bind (Qc i ρ)
theorem Mg{i:Nat}(hx:PE X (.Name x p) (tN i))(hk:PE X ke (tE X.K H₀ ae fk))(hs:ml ke):PE X (.Subscript (.Name x p) ke sp) (tE X.K H₀ ae (YF i fk)):=by
 rintro ag s σ H Q I ⟨F,ρ,pr,R,hf,q⟩;obtain⟨k,h1,h2⟩:=aD hf;unfold Qc at h2;split at h2
 ·rename_i ps hp;split at h2
  ·rename_i n;obtain⟨a,vs,e1,e2,e3,e4,e5⟩:=R.own i ps hp;refine Gh Gi hx hk hs ag s σ H Q I ⟨.ref a,e1,F,ρ,.int n,R,h1,fun w H1 F1 R1 s1 b1=>?_⟩
   obtain⟨a',Uk,g1,g2,g3,g4,g5⟩:=R1.own i ps hp;rw[e1]at g1;cases g1;obtain⟨v,hv,bv⟩:=g5.atI h2;exact⟨a,Uk,n,v,rfl,aN.mp b1,nG.of g2,hv,q v H1 F1 R1 s1 bv⟩
  ·cases h2
 ·rename_i p' hp;refine Yg (A5 (H₀:=H₀) (ae:=ae) i hx) hk hs ag s σ H Q I ⟨F,ρ,pr,R,?_,q⟩;have hr:rd i ρ=some p':=by unfold rd;rw[hp]
  show(rd i ρ).bind (fun a=>(fk ρ).bind fun b=>aF a b)=_
  rw[hr,aY,h1];exact h2
 ·cases h2
def spI(K:ak)(n:Nat)(mk:az->Option (List (Str×Fd))):Sp:=fun vs H Q _=>∃F C dx x us ps fs,vs=.ref x::us/\H x=some (.SX C dx [])/\Wb K C/\F x=none/\Same F H/\bC K F ps us/\ps.length=n/\mk ps=some fs/\(∀f∈fs,pX K C f.1)/\fs.length<=900 /\
 ∀F' H',(∃ws,F' x=some (.SX C dx ws)/\Ef K F' fs ws)->Same F' H'->Same F F'->(∀b o,H b=some o->b≠x->H' b=some o)->(∀b o,F' b=some o->b≠x->F b=some o\/H b=none)->Q .df H'
end
def nL:cC->PV
 | .inl i=>.int i
 | .inr x=>.str x
def IF:PV->Option cC
 | .int i=>some (.inl i)
 | .str x=>some (.inr x)
 | _=>none
def IG:az->Option (List cC)
 | []=>some []
 | p::r=>(IF p).bind fun k=>(IG r).map fun ks=>k::ks
def GO:PV->Option (List cC)
 | .aA ps=>if ps.length<1000 then IG ps else none
 | _=>none
def eU(ks:List cC):PV:=.aA (ks.map nL)
def factsOf:az->Option (List (List cC))
 | []=>some []
 | p::r=>(GO p).bind fun k=>(factsOf r).map fun ks=>k::ks
theorem yF{p:PV}{k:cC}(h:IF p=some k):p=nL k:=by
 cases p<;>first | (cases h;rfl) | cases h
theorem GP:∀{ps:az} {ks:List cC},IG ps=some ks->ps=ks.map nL
 | [],_,h=>by cases h;rfl
 | p::r,ks,h=>by
  obtain⟨k,h1,h⟩:=aD h;obtain⟨l,h2,rfl⟩:=ku.mp h;rw[yF h1,GP h2];rfl
theorem Mh{p:PV}{ks:List cC}(h:GO p=some ks):p=eU ks/\ks.length<1000:=by
 cases p with
 | aA ps =>
  obtain⟨hl,h⟩:=aQ (show(if ps.length<1000 then IG ps else none)=some ks from h)
  have e:=GP h;subst e;rw[aE]at hl;exact⟨rfl,hl⟩
 | _=>cases h
theorem nM:∀{ps:az} {ks:List (List cC)},factsOf ps=some ks->ps=ks.map eU/\∀k∈ks,k.length<1000
 | [],_,h=>by cases h;exact⟨rfl,fun _ z=>nomatch z⟩
 | p::r,ks,h=>by
  obtain⟨k,h1,h⟩:=aD h;obtain⟨l,h2,rfl⟩:=ku.mp h;obtain⟨e1,l1⟩:=Mh h1;obtain⟨e2,l2⟩:=nM h2;rw[e1,e2];exact⟨rfl,fun z hz=>(bB.mp hz).elim (fun q=>q▸l1) (l2 z)⟩
section
variable {K:ak} {F F' H H':Hp}
theorem uA{k:cC}{v:V}:dB K F (nL k) v↔v=kV k:=by
 cases k with
 | inl i=>exact aN
 | inr x=>exact cS
theorem wU:∀{ks:List cC} {vs:List V},bC K F (ks.map nL) vs->vs=ks.map kV
 | [],_,h=>h.cP
 | k::ks,_,h=>by
  obtain⟨v,r,rfl,h1,h2⟩:=h.cG;rw[uA.mp h1,wU h2];rfl
theorem GQ{ks:List cC}{v:V}(h:dB K F (eU ks) v):∃a,v=.ref a/\jY K F a (ks.map kV):=by
 obtain⟨a,vs,rfl,h1,h2⟩:=bY.mp h;rw[wU h2]at h1;exact⟨a,rfl,h1⟩
end
abbrev gV:=List (List cC×Int)
def Mi(ks:List (List cC))(k:List cC):Bool:=ks.any fun j=>decide (j=k)
def fQ(told:gV)(c:Int)(f:List cC):gV:=if Mi (told.map (·.1)) f=true then told else told++[(f,c)]
def dA(told:gV)(c:Int):List (List cC)->gV
 | []=>told
 | f::r=>dA (fQ told c f) c r
theorem wV(c:Int)(f:List cC):∀(l:List (List cC)) (told:gV),dA told c (l++[f])=fQ (dA told c l) c f
 | [],_=>rfl
 | g::l,told=>wV c f l (fQ told c g)
theorem IH(told:gV)(c:Int)(f:List cC):(fQ told c f).length<=told.length+1:=by
 unfold fQ;split
 ·lia
 ·rw[bU];exact aV _
theorem mv(c:Int):∀(l:List (List cC)) (told:gV),(dA told c l).length<=told.length+l.length
 | [],_=>aV _
 | g::l,told=>by
  have h1:=mv c l (fQ told c g);have h2:=IH told c g;show(dA (fQ told c g) c l).length<=_;rw[bA]
  lia
def toldP(t:List cC×Int):PV:=.aA (t.1.map nL++[.int t.2])
def gp(out:List cC->Option (List (List cC))):Nat->Nat->gV->Option gV
 | 0,_,_=>none
 | n+1,k,told=>match told[k]? with
  | none=>some told
  | some t=>(out t.1).bind fun fs=>if told.length+fs.length<iB then gp out n (k+1) (dA told k fs)else none
theorem GR{K:ak}{F H:Hp}{ρ:aI}{σ:St}(hs:Same F H)(hn:∀e∈ρ,(∀ps,e≠.own ps)/\∀m,e≠.gE m)(hv:∀(i:Nat) (p:PV),ρ[i]?=some (.val p)->∃v,σ[i]?=some (some v)/\dB K F p v)
  (ho:∀(i:Nat) (o:Ob),ρ[i]?=some (.ob o)->∃a,σ[i]?=some (some (.ref a))/\A4 K F o a) (hl:ρ.length=σ.length):dI K H F F ρ σ H where
 sub:=hs
 keep:=Same.refl H
 base:=Same.refl F
 fresh:=fun _ _ e=>.inl e
 val:=hv
 own:=fun i ps e=>absurd rfl ((hn _ (cQ e)).1 ps)
 apart:=fun i j ps qs a e=>absurd rfl ((hn _ (cQ e)).1 ps)
 obs:=ho
 gE:=fun i m e=>absurd rfl ((hn _ (cQ e)).2 m)
 len:=hl
def tEx(K:ak)(f:FE):TE:=fun σ H Q=>∃H₀ ae,tE K H₀ ae f σ H Q
theorem YG{X:Cx}{e:ao}{f:FE}(h:∀H₀ ae,PE X e (tE X.K H₀ ae f)):PE X e (tEx X.K f):=fun ag s σ H Q I ⟨H₀,ae,q⟩=>h H₀ ae ag s σ H Q I q
section
variable {X:Cx}
def rKn(K:ak):R2:=fun x y H Q=>∃b d xs k,x=.ref b/\y=.ref d/\Rd H d (.dT xs)/\p9 K H xs/\jY K H b (k.map kV)/\Q (.bl (!(atKey xs k).isSome)) H
theorem YH(hu:X.A.units+1<cLine):OpR X (compareOp .NotIn) (rKn X.K):=by
 rintro ag s σ H x y v u Q I rx ry ⟨b,d,xs,k,ex,ey,h1,h2,h3,q⟩;subst ex ey;cases rx;cases ry;exact XE hu I h1 h2 h3 fun s' I'=>⟨.bl (!(atKey xs k).isSome),H,I',rfl,q⟩
def YI(K:ak)(td ty tv:TE):TS:=fun D σ H=>tv σ H fun v H1=>td σ H1 fun x H2=>ty σ H2 fun y H3=>∃a b xs k,x=.ref a/\y=.ref b/\H3 a=some (.dT xs)/\p9 K H3 xs/\jY K H3 b (k.map kV)/\xs.length<sizeLine /\
 ∀r,RelV v r->D.nx σ (eI H3 a (.dT (storedH xs k b r)))
theorem Qd{o i value:ao}{td ty tv:TE}{pos iz:Pos}(hu:X.A.units+1<cLine)(ho:PE X o td)(hi:PE X i ty)(hv:PE X value tv)(hs:swapsWith value (some (.Subscript o i iz)) pos.line X.env=pure false) :
  PS X (.Assign [.Subscript o i iz] value pos) (YI X.K td ty tv):=by
 intro ag s σ H D I h;refine wpAny_Assign_Subscript (thn (hv ag s σ H _ I h) fun r s1 ⟨v,H1,I1,rv,q1⟩=>thn (ho ag s1 σ H1 _ I1 q1) fun u s2 ⟨x,H2,I2,rx,q2⟩=>thn (hi ag s2 σ H2 _ I2 q2) fun iv s3 ⟨y,H3,I3,ry,a,b,xs,k,ex,ey,e1,e2,e3,e4,q3⟩=>?_) hs
 subst ex ey;cases rx;cases ry;exact Ue hu I3 e1 e2 e3 e4 fun s4 I4=>⟨σ,_,I4,q3 r rv⟩
end
noncomputable def uB(p:Nat->Pos):aG :=
 .FunctionDef (name:="tell_new")
  (args:={posonlyargs:=[],args:=[{arg:="told",annotation:=none,pos:=p 0},{arg:="known",annotation:=none,pos:=p 1},{arg:="facts",annotation:=none,pos:=p 2},{arg:="came",annotation:=none,pos:=p 3}],vararg:=none,kwonlyargs:=[],kw_defaults:=[],kwarg:=none,defaults:=[]})
  (body:=[.For (.Name "fact" (p 4)) (.Name "facts" (p 5)) [.If (.Compare (.Name "fact" (p 6)) [.NotIn] [.Name "known" (p 7)] (p 8))
   [.Assign [.Subscript (.Name "known" (p 9)) (.Name "fact" (p 10)) (p 11)] (.Constant (.bool true) 0 (p 12)) (p 13),
   .Expr (.Call (.Attribute (.Name "told" (p 14)) "append" (p 15)) [.BinOp (.Name "fact" (p 16)) .Add (.Tuple [.Name "came" (p 17)] 0 (p 18)) (p 19)] [] (p 20)) (p 21)] [] (p 22)] [] (p 23)])
  (decorator_list:=[]) (returns:=none) (type_params:=[])
  (scope:={kind:=.function,names:=[(Str.ofString "told",.local),(Str.ofString "known",.local),(Str.ofString "facts",.local),(Str.ofString "came",.local),(Str.ofString "fact",.local)],isGenerator:=false,isCoroutine:=false,more:=[]})
  (tscope:=none) (bind:="tell_new") (pos:=p 24)
noncomputable def jn(p:Nat->Pos):aG :=
 .FunctionDef (name:="spread")
  (args:={posonlyargs:=[],args:=[{arg:="firsts",annotation:=none,pos:=p 0},{arg:="outcomes",annotation:=none,pos:=p 1}],vararg:=none,kwonlyargs:=[],kw_defaults:=[],kwarg:=none,defaults:=[]})
  (body:=[.Assign [.Name "told" (p 2)] (.List [] (p 3)) (p 4),.Assign [.Name "known" (p 5)] (.Dict [] [] (p 6)) (p 7),
   .Expr (.Call (.Name "tell_new" (p 8)) [.Name "told" (p 9),.Name "known" (p 10),.Name "firsts" (p 11),.UnaryOp .USub (.Constant (.int 1) 0 (p 12)) (p 13)] [] (p 14)) (p 15),
   .Assign [.Name "k" (p 16)] (.Constant (.int 0) 0 (p 17)) (p 18),
   .While (.Compare (.Name "k" (p 19)) [.Lt] [.Call (.Name "len" (p 20)) [.Name "told" (p 21)] [] (p 22)] (p 23))
    [.Expr (.Call (.Name "tell_new" (p 24)) [.Name "told" (p 25),.Name "known" (p 26),.Call (.Name "outcomes" (p 27)) [.Subscript (.Subscript (.Name "told" (p 28)) (.Name "k" (p 29)) (p 30)) (.Slice none (some (.UnaryOp .USub (.Constant (.int 1) 0 (p 31)) (p 32))) none (p 33)) (p 34)] [] (p 35),.Name "k" (p 36)] [] (p 37)) (p 38),
    .AugAssign (.Name "k" (p 39)) .Add (.Constant (.int 1) 0 (p 40)) (p 41)] [] (p 42),
   .Return (some (.Name "told" (p 43))) (p 44)])
  (decorator_list:=[]) (returns:=none) (type_params:=[])
  (scope:={kind:=.function,names:=[(Str.ofString "firsts",.local),(Str.ofString "outcomes",.local),(Str.ofString "told",.local),(Str.ofString "known",.local),(Str.ofString "k",.local),(Str.ofString "tell_new",.globalImplicit),(Str.ofString "len",.globalImplicit)],isGenerator:=false,isCoroutine:=false,more:=[]})
  (tscope:=none) (bind:="spread") (pos:=p 45)
abbrev Sn:List Str:=["told","known","facts","came","fact"]
abbrev rQ:List Str:=["firsts","outcomes","told","known","k"]
structure Bu (K:ak) (F H:Hp) (l d:af) (told:gV) (ws:List V) (xs:List (List cC×af×ai)):Prop where
 hl:H l=some (.aq ws)
 b:bC K F (told.map toldP) ws
 hd:H d=some (.dT xs)
 ks:xs.map (·.1)=told.map (·.1)
 at_:p9 K F xs
 fl:F l=none
 fd:F d=none
theorem Bu.to{K:ak}{F H F' H':Hp}{l d:af}{told:gV}{ws:List V}{xs:List (List cC×af×ai)}(B:Bu K F H l d told ws xs)(f:Same F F')(h:Same H H')(n:∀b o,F' b=some o->F b=some o\/H b=none):Bu K F' H' l d told ws xs where
 hl:=h _ _ B.hl
 b:=B.b.mono f
 hd:=h _ _ B.hd
 ks:=B.ks
 at_:=fun x hx=>bH f (B.at_ x hx)
 fl:=by
  cases q:F' l with
  | none=>rfl
  | some o =>
   rcases n l o q with z | z
   ·rw[B.fl]at z;cases z
   ·rw[B.hl]at z;cases z
 fd:=by
  cases q:F' d with
  | none=>rfl
  | some o =>
   rcases n d o q with z | z
   ·rw[B.fd]at z;cases z
   ·rw[B.hd]at z;cases z
structure lZ (ae H₀ F H:Hp) (l d:af):Prop where
 f:Same ae F
 s:Same F H
 k:∀b o,b≠l->b≠d->H₀ b=some o->H b=some o
 n:∀b o,F b=some o->ae b=some o\/H₀ b=none
def GS(K:ak):Sp:=fun vs H Q _=>∃F l d va c told fk ws xs,vs=[.ref l,.ref d,va,.int c]/\Same F H/\Bu K F H l d told ws xs/\dB K F (.aq (fk.map eU)) va/\(∀k∈fk,k.length<1000)/\told.length+fk.length<iB /\
 ∀F' H' ws' xs',lZ F H F' H' l d->Bu K F' H' l d (dA told c fk) ws' xs'->Q .df H'
theorem lZ.refl{F H:Hp}{l d:af}(h:Same F H):lZ F H F H l d:=⟨Same.refl F,h,fun _ _ _ _ e=>e,fun _ _ e=>.inl e⟩
section
variable {prog:bG} {w:aW} {K:ak} {mg:ee} {base:Heap} {p:Nat->Pos} {f:af} {fd:er}
set_option maxHeartbeats 1000000 in
theorem Qe(Fn:DH K "tell_new" "tell_new" (uB p) f fd)(S:ez Sn ["told","known","facts","came"] (aO (uB p)))(hp:((p 15).endLine==(p 20).line)=true)(k:Nat):FnOk prog w K mg base (mW prog w) (k+1) f fd ["told","known","facts","came"] (GS K):=by
 refine PH Fn S (fun vs H Q E ⟨F,l,d,va,c,told,fk,ws,xs,e,_⟩=>by rw[e];rfl) fun dR A outer s H vs Q E hr ox=>?_
 obtain⟨F0,l,d,va,c,told,fk,ws,xs,rfl,hs,B0,hfa,hsz,Ll,hq⟩:=ox;have hu:=Xo hr;refine⟨_,mj (KZ Dt rfl (Ga (pv 2)) (F9 (i:=4) S.nd rfl (Or.inl rfl)) (mj (RI (yd (YH hu) (pv 4) (pv 1) rfl)
  (iy (Qd hu (pv 1) (pv 4) RH rfl) (mj (iR (AK si PySem.F.slot_list_append PySem.F.type_list_append wC (pv 0)
   (dW (YG fun H₀ ae=>XR yz oF (A5 4 (pv 4)) (RZ (ug (A5 3 (pv 3)) Gr rfl))) jZ rfl) rfl rfl hp rfl rfl)))) F8))),?_⟩
 obtain⟨a,vs,rfl,ha,hZ⟩:=bD.mp hfa;refine⟨_,rfl,a,rfl,⟨vs,(b7 hs ha).sq⟩,K2 (K:=K) (xs:=vs) (fun i σ H1=>∃F x ws xs,σ=[some (.ref l),some (.ref d),some (.ref a),some (.int c),x]/\lZ F0 H F H1 l d/\Bu K F H1 l d (dA told c (fk.take i)) ws xs) ?_ ?_ ?_ ?_⟩
 ·exact⟨F0,none,ws,xs,rfl,lZ.refl hs,B0⟩
 ·rintro i σ H1 hi ⟨F,x,N8,EF,_,Pa,B⟩;exact(b7 Pa.s (b7 Pa.f ha)).sq
 ·rintro i x σ H1 hx ⟨F,y,N8,EF,e,Pa,B⟩;subst e;obtain⟨pf,hpf,RW⟩:=hZ.XN hx;rw[cu]at hpf;obtain⟨fc,hf,rfl⟩:=ku.mp hpf;obtain⟨b,rfl,hb⟩:=GQ RW;have tk:dA told c (fk.take (i+1))=fQ (dA told c (fk.take i)) c fc:=by
   rw[xG,hf];exact wV c fc _ _
  have hbF:jY K F b (fc.map kV):=bH Pa.f hb;refine⟨.ref b,rfl,.ref d,rfl,b,d,EF,fc,rfl,rfl,.inl B.hd,fun z hz=>bH Pa.s (B.at_ z hz),bH Pa.s hbF,_,rfl,?_⟩
  have yG:=HZ EF fc;rw[B.ks]at yG;by_cases hm:Mi ((dA told c (fk.take i)).map (·.1)) fc=true
  ·have UZ:(atKey EF fc).isSome=true:=yG.trans hm;rw[UZ];refine Xp ⟨F,some (.ref b),N8,EF,rfl,Pa,?_⟩;rw[tk,fQ,if_pos hm];exact B
  ·have UZ:(atKey EF fc).isSome=false:=by
    rw[yG];exact Bool.eq_false_iff.mpr hm
   rw[UZ];have hno:atKey EF fc=none:=by
    cases z:atKey EF fc with
    | none=>rfl
    | some q=>rw[z]at UZ;cases UZ
   have dQ:(dA told c (fk.take i)).length<=told.length+fk.length:=cz (mv c _ told) (by rw[kD];lia)
   have hxl:EF.length<sizeLine:=by
    have e1:EF.length=(dA told c (fk.take i)).length:=by rw[<-aE (f:=(·.1)),B.ks,aE]
    rw[e1];exact dy (kA dQ Ll) (ik (aV _))
   refine Xq ⟨.ref d,rfl,.ref b,rfl,d,b,EF,fc,rfl,rfl,B.hd,fun z hz=>bH Pa.s (B.at_ z hz),bH Pa.s hbF,hxl,fun r hr'=>?_⟩
   rw[storedH_new hno];have Iv:l≠d:=KN B.hl B.hd (fun z=>nomatch z)
   have sF:Same F (eI H1 d (.dT (EF++[(fc,b,r)]))):=fun z o e=>by
    rw[aX (bP e B.fd)];exact Pa.s _ _ e
   refine⟨.ref l,rfl,.inl ⟨rfl,N8,nG.of ((aX Iv).trans B.hl)⟩,_,F,F,[.un,.un,.un,.val (.int c),.val (eU fc)],.aA (fc.map nL++[.int c]),GR sF (fun e he=>?_) (fun j q e=>?_) (fun j o e=>?_) rfl,?_,fun v H2 F2 R2 s2 b2=>?_⟩
   ·simp only[bB,eY,fg]at he;rcases he with rfl | rfl | rfl | rfl | rfl<;>exact⟨(fun _ z=>by cases z),(fun _ z=>by cases z)⟩
   ·match j,e with
    | 3,e=>cases e;exact⟨_,rfl,aN.mpr rfl⟩
    | 4,e=>cases e;exact⟨_,rfl,RW.mono Pa.f⟩
   ·exact absurd (cQ e) (by simp)
   ·have hfl:=hsz fc (cQ hf);have h1:bZ (eU fc) (.aA [.int c])=some (.aA (fc.map nL++[.int c])):=by
     show sizeOk ((fc.map nL).length+1) _=_;unfold sizeOk;rw[if_pos (by rw[aE];exact cz hfl (by decide))]
    show(if(1:Nat)<=iB then some (PV.aA [.int c])else none).bind (fun y=>bZ (eU fc) y)=_
    rw[if_pos (by decide)]
    exact h1
   ·have nl:F2 l=none:=by
     cases q:F2 l with
     | none=>rfl
     | some o =>
      rcases R2.fresh l o q with z | z
      ·rw[B.fl]at z;cases z
      ·rw[aX Iv,B.hl]at z;cases z
    have nd:F2 d=none:=by
     cases q:F2 d with
     | none=>rfl
     | some o =>
      rcases R2.fresh d o q with z | z
      ·rw[B.fd]at z;cases z
      ·rw[bo]at z;cases z
    have Ph:H2 l=some (.aq N8):=R2.keep _ _ ((aX Iv).trans B.hl);have RN:N8.length<sizeLine:=by
     have e1:N8.length=(dA told c (fk.take i)).length:=by rw[<-B.b.length,aE]
     rw[e1];exact dy (kA dQ Ll) (ik (aV _))
    refine⟨l,N8,v,rfl,rfl,Ph,RN,F2,some (.ref b),N8++[v],EF++[(fc,b,r)],rfl,⟨Pa.f.trans R2.base,fun z o e=>?_,fun z o h1 h2 e=>?_,fun z o e=>?_⟩,?_⟩
    ·rw[aX (bP e nl)];exact R2.sub _ _ e
    ·rw[aX h1];exact R2.keep _ _ (by rw[aX h2];exact Pa.k z o h1 h2 e)
    ·rcases R2.fresh z o e with q | q
     ·exact Pa.n z o q
     ·refine .inr ?_;cases hz:H z with
      | none=>rfl
      | some o' =>
       have h1:z≠l:=fun y=>by rw[y,nl]at e;cases e
       have h2:z≠d:=fun y=>by rw[y,nd]at e;cases e
       rw[aX h2,Pa.k z o' h1 h2 hz]at q;cases q
    ·rw[tk,fQ,if_neg hm];refine⟨bo,?_,?_,?_,fun z hz=>?_,nl,nd⟩
     ·rw[c8];exact(B.b.mono R2.base).append (.cons b2 .nil)
     ·rw[aX (eP Iv)];exact R2.keep _ _ bo
     ·rw[c8,c8,B.ks];rfl
     ·rcases c9.mp hz with hz | hz
      ·exact bH R2.base (B.at_ z hz)
      ·obtain rfl:z=(fc,b,r):=by simpa using hz
       exact bH R2.base hbF
 ·rintro σ H1 ⟨F,x,N8,EF,_,Pa,B⟩;refine hq F H1 N8 EF Pa ?_;have e1:vs.length=fk.length:=by rw[<-hZ.length,aE]
  rw[e1,List.take_length]at B;exact B
end
def Mj(X:Cx)(f9:Hp)(fa:af)(out:List cC->Option (List (List cC))):Prop:=∀(ag:List (af×Obj)) (s:av) (σ:St) (H F:Hp) (b:af) (f:List cC) (fk:List (List cC)) (Q:VK),Inv X ag σ H s->Same f9 F->Same F H->dB X.K F (eU f) (.ref b)->out f=some fk ->
 (∀v H' F',Same H H'->Same F F'->Same F' H'->(∀a o,F' a=some o->F a=some o\/H a=none)->dB X.K F' (.aq (fk.map eU)) v->Q v H')->wpAny (model X.prog X.w) X.A (call (.ref fa) [.ref b]) (EP X ag σ Q) X.xe s
def YJ(K:ak)(f9:Hp)(out:List cC->Option (List (List cC)))(Q:VK):List V->Hp->Prop
 | [v],H1=>∃F b f fk,v=.ref b/\Same f9 F/\Same F H1/\dB K F (eU f) (.ref b)/\out f=some fk /\
  ∀v' H' F',Same H1 H'->Same F F'->Same F' H'->(∀a o,F' a=some o->F a=some o\/H1 a=none)->dB K F' (.aq (fk.map eU)) v'->Q v' H'
 | _,_=>False
def adK(K:ak)(f9:Hp)(fa:af)(out:List cC->Option (List (List cC)))(i:Nat)(te:TE):TE:=fun σ H Q=>σ[i]?=some (some (.ref fa))/\te σ H fun v H1=>YJ K f9 out Q [v] H1
theorem U4{X:Cx}{f9:Hp}{fa:af}{out:List cC->Option (List (List cC))}{i:Nat}{y:Str}{p pos:Pos}{e:ao}{te:TE}{o:Obj}{u:HO}{U5:er}(hy:PE X (.Name y p) (tN i))(ha:PE X e te)(Wm:X.H₀ fa=some (.nF o u))(hfd:o.data=.func U5)(L:Mj X f9 fa out)
  (he:starEach [e] X.env=(false,eval e X.env)::starEach [] X.env:=by rfl):PE X (.Call (.Name y p) [e] [] pos) (adK X.K f9 fa out i te):=by
 rintro ag s σ H Q I ⟨e1,h⟩;refine nq (thn (hy ag s σ H (fun v H1=>v=.ref fa/\H1=H) I ⟨_,e1,rfl,rfl⟩) fun v s1 ⟨z,H1,I1,rx,ex,eh⟩=>?_)
 subst ex eh;cases rx;have hP:∀{dt:St} {H':Hp} {s':av},Inv X ag dt H' s'->s'.heap.get? fa=some o:=fun {dt H' s'} J=>(J.hok fa _ (J.base.frzs fa o u Wm)).1
 have hk:∀h:Heap,h.get? fa=some o->∃k,(k=Keeper.frame\/k=Keeper.machine\/k=Keeper.boundFrame)/\W.Looks (model X.prog X.w) h (keeperOf (.ref fa)) k:=fun h ho=>by
  obtain⟨c1,c2,c3,c4⟩:=o;cases hfd;exact⟨.frame,.inl rfl,(W.Looks.ld (part:=none) ho).andThen .now⟩
 have So:wpAny (model X.prog X.w) X.A (spliced (backTo pos (starEach [e] X.env))) (fun us s2=>s2.heap.get? fa=some o/\wpAny (model X.prog X.w) X.A (call (.ref fa) ([]++us)) (EP X ag σ Q) X.xe s2) X.xe s1 :=
  thn ((dW ha jZ he) pos ag s1 σ H1 (YJ X.K f9 out Q) I1 h) fun us s2 ⟨vs,H2,I2,r,q⟩=>⟨hP I2,by
   match vs,r,q with
   | [v],r,⟨F,b,f,fk,ev,q1,q2,q3,q4,q5⟩ =>
    subst ev;obtain⟨u2,rfl,ru⟩:=lg r;cases ru;exact L ag s2 σ H2 F b f fk Q I2 q1 q2 q3 q4 q5⟩
 rw[he]at So ⊢;exact W.callWith_of (P:=fun h=>h.get? fa=some o) rfl hk (PySem.Calls.evalArgs_plain So)
theorem lZ.trans{F0 H0 F H F' H':Hp}{l d:af}(P1:lZ F0 H0 F H l d)(P2:lZ F H F' H' l d)(nl:F' l=none)(nd:F' d=none):lZ F0 H0 F' H' l d:=by
 refine⟨P1.f.trans P2.f,P2.s,fun b o h1 h2 e=>P2.k b o h1 h2 (P1.k b o h1 h2 e),fun b o e=>?_⟩
 rcases P2.n b o e with q | q
 ·exact P1.n b o q
 ·refine .inr ?_;cases hz:H0 b with
  | none=>rfl
  | some o' =>
   have h1:b≠l:=fun y=>by rw[y,nl]at e;cases e
   have h2:b≠d:=fun y=>by rw[y,nd]at e;cases e
   rw[P1.k b o' h1 h2 hz]at q;cases q
theorem lZ.of{F H F' H':Hp}{l d:af}(h1:Same H H')(h2:Same F F')(h3:Same F' H')(h4:∀b o,F' b=some o->F b=some o\/H b=none):lZ F H F' H' l d:=⟨h2,h3,fun b o _ _ e=>h1 b o e,h4⟩
def Qf(H:Hp)(l:af):Hp:=fun b=>if b=l then none else H b
theorem yH{H:Hp}{l:af}:Qf H l l=none:=if_pos rfl
theorem jH{H:Hp}{l b:af}(h:b≠l):Qf H l b=H b:=if_neg h
theorem Ml(ps:az)(c:PV):j6 (ps++[c]) none (some (-1))=ps:=by
 have h0:HT.fI (ps++[c]).length 0 none=0:=by simp[HT.fI]
 have h1:HT.fI (ps++[c]).length (ps++[c]).length (some (-1))=ps.length:=by
  show(if(-1:Int)<0 then((-1:Int)+(((ps++[c]).length:Nat):Int)).toNat else min (-1:Int).toNat (ps++[c]).length)=_
  rw[if_pos (by decide),bU]
  show(-1+((ps.length+1:Nat):Int)).toNat=_
  lia
 unfold j6;rw[h0,h1,List.drop_zero,Nat.sub_zero,List.take_left]
section
variable {prog:bG} {w:aW} {K:ak} {mg:ee} {base:Heap} {p:Nat->Pos} {f fT fa:af} {GU:er} {dR:ai} {A:bR} {outer:List Env} {s:av} {H:Hp} {E:XK} {k:Nat} {o:Obj} {u:HO} {U5:er} {f9:Hp} {out:List cC->Option (List (List cC))}
abbrev cxS(prog:bG)(w:aW)(K:ak)(mg:ee)(base:Heap)(p:Nat->Pos)(f:af)(dR:ai)(A:bR)(outer:List Env)(s:av)(H:Hp)(E:XK):Cx:=mD (mW prog w) prog w K mg base rQ "spread" (aO (jn p)) f dR A outer s H E
set_option maxHeartbeats 1000000 in
theorem Bw(S:ez rQ ["firsts","outcomes"] (aO (jn p)))(FT:FnOk prog w K mg base (mW prog w) k fT GU ["told","known","facts","came"] (GS K)) (hr:fm k (A.deeper (envOfC "spread" (aO (jn p)) s.heap.objs.size f dR))) (mT:mg "tell_new"=some (.ref fT)) (kT:W.keepIn K (.ref fT)=true)
  (bT:gC K GU ["told","known","facts","came"] []) (mL:mg "len"=none) (Wm:H fa=some (.nF o u)) (hfd:o.data=.func U5) (L:Mj (cxS prog w K mg base p f dR A outer s H E) f9 fa out) (hsz:∀f fk,out f=some fk->∀x∈fk,x.length<1000)
  {va:V} {U6:List (List cC)} {n:Nat} {res:gV} {Q:VK} (h1:Same f9 H) (h2:dB K f9 (.aq (U6.map eU)) va) (h3:∀x∈U6,x.length<1000) (h4:U6.length<iB) (h5:gp out n 0 (dA [] (-1) U6)=some res)
  (hq:∀l ws F' H',Same H H'->Same f9 F'->Same F' H'->(∀b o,F' b=some o->f9 b=some o\/H b=none)->H l=none->F' l=none->H' l=some (.aq ws)->bC K F' (res.map toldP) ws->Q (.ref l) H') :
  ∃t,rh (cxS prog w K mg base p f dR A outer s H E) (dH (jn p)) t/\t {nx:=fun _ H'=>Q .df H',rt:=Q} (start rQ [va,.ref fa]) H:=by
 refine⟨_,iy (yb (i:=2) S.nd rfl (Or.inl rfl) (La jZ)) (iy (yb (i:=3) S.nd rfl (Or.inl rfl) OR)
  (iy (iR (rH FT hr rfl mT kT bT .nil uh (dW (pv 2) (dW (pv 3) (dW (pv 0) (dW (RK K3 ya) jZ))))))
  (iy (yb (i:=4) S.nd rfl (Or.inl rfl) ya)
  (iy (KS Dt (yd RL (pv 4) (lN kL rfl mL PySem.boot_len (dW (pv 2) jZ)) rfl)
   (iy (iR (rH FT hr rfl mT kT bT .nil uh (dW (pv 2) (dW (pv 3) (dW (U4 (i:=1) (pv 1) (YG fun H₀ ae=>Sb (Mg (i:=2) (pv 2) (A5 4 (pv 4)) (fun _ _=>rfl)) LU (LV (Sd RY))) Wm hfd L) (dW (pv 4) jZ))))))
    (mj (KR (i:=4) (ti:=DU fun i j=>.int (i+j)) S.nd rfl (Or.inl rfl) ya (fun ag s σ H x y v u Q I r1 r2 t=>iop_add ag s σ H x y v u Q I r1 r2 t)))))
  (mj (DP (pv 2))))))),?_⟩
 refine⟨gO _,fun l hl=>?_⟩
 intro d hd;have hld:l≠d:=fun z=>by rw[z,bo]at hd;cases hd
 have hHd:H d=none:=by rw[aX (eP hld)]at hd;exact hd
 have sH2:Same H (eI (eI H l (.aq [])) d (.dT [])):=fun b ob e=>by rw[aX (bP e hHd),aX (bP e hl)];exact e
 have fl:f9 l=none:=h1.free hl;have fdn:f9 d=none:=h1.free hHd;refine⟨_,rfl,_,rfl,_,rfl,1,rfl,f9,l,d,va,-1,[],U6,[],[],rfl,h1.trans sH2,⟨?_,.nil,bo,rfl,(fun _ z=>by cases z),fl,fdn⟩,h2,h3,by rw[kE,fV];exact h4,fun F2 H2 ws2 xs2 Pa2 B2=>?_⟩
 ·rw[aX hld,bo]
 have P0:lZ f9 H F2 H2 l d:=⟨Pa2.f,Pa2.s,fun b ob e1 e2 e=>Pa2.k b ob e1 e2 (sH2 _ _ e),fun b ob e=>by
  rcases Pa2.n b ob e with q | q
  ·exact .inl q
  ·exact .inr (sH2.free q)⟩
 have J0:(dA [] (-1) U6).length<iB:=kA (mv (-1) U6 []) (by rw[kE,fV];exact h4)
 refine⟨fun m σ H1=>∃(j:Nat) (told:gV) (F:Hp) (ws:List V) (xs:List (List cC×af×ai)),σ=[some va,some (.ref fa),some (.ref l),some (.ref d),some (.int j)]/\gp out m j told=some res/\lZ f9 H F H1 l d/\Bu K F H1 l d told ws xs/\told.length<iB,
  ⟨n,0,_,F2,ws2,xs2,rfl,h5,P0,B2,J0⟩,?_⟩
 rintro m σ H1 ⟨j,told,F,ws,xs,rfl,ox,Pa,B,Ll⟩
 have RN:ws.length=told.length:=by rw[<-B.b.length,aE]
 refine⟨_,rfl,_,rfl,l,ws,rfl,.inl (nG.of B.hl),j,ws.length,rfl,rfl,_,rfl,?_⟩;cases m with
 | zero=>cases ox
 | succ m =>
  cases ht:told[j]? with
  | none =>
   have ox:(match told[j]? with | none=>some told | some t=>(out t.1).bind fun fs=>if told.length+fs.length<iB then gp out m (j+1) (dA told j fs)else none)=some res:=ox
   rw[ht]at ox;cases ox;have hjl:res.length<=j:=sh.mp ht;rw[eZ (by rw[RN];lia)]
   refine Xp ⟨_,rfl,hq l ws F H1 (fun b ob e=>Pa.k b ob (fun z=>by rw[z,hl]at e;cases e) (fun z=>by rw[z,hHd]at e;cases e) e) Pa.f Pa.s Pa.n hl B.fl B.hl B.b⟩
  | some t =>
   have ox:(match told[j]? with | none=>some told | some t=>(out t.1).bind fun fs=>if told.length+fs.length<iB then gp out m (j+1) (dA told j fs)else none)=some res:=ox
   rw[ht]at ox;obtain⟨fk,Qg,ox⟩:=aD ox;obtain⟨Sq,ox⟩:=aQ ox;have hjl:j<told.length:=(fU.mp ht).1;rw[dm (by rw[RN];lia)]
   refine Xq ⟨_,fun dt H' z=>⟨m,DB m,z⟩,?_⟩
   have U7:∀(i:Nat) (q:az),([.un,.un,.own (told.map toldP),.un,.val (.int j)]:aI)[i]?=some (.own q)->i=2/\q=told.map toldP:=fun i q e=>by
    match i,e with
    | 2,e=>cases e;exact⟨rfl,rfl⟩
    | i+3,e=>exact absurd (cQ (show([.un,.val (.int j)]:aI)[i]?=some (.own q)from e)) (by simp)
   refine⟨_,rfl,_,rfl,rfl,Qf H1 l,F,F,[.un,.un,.own (told.map toldP),.un,.val (.int j)],eU t.1,?_,?_,fun v H3 F3 R3 s3 b3=>?_⟩
   ·exact {
     sub:=Pa.s
     keep:=fun b ob e=>by
      by_cases z:b=l
      ·subst z;rw[yH]at e;cases e
      ·rw[jH z]at e;exact e
     base:=Same.refl F
     fresh:=fun _ _ e=>.inl e
     val:=fun i q e=>by
      match i,e with
      | 4,e=>cases e;exact⟨_,rfl,aN.mpr rfl⟩
     own:=fun i q e=>by
      obtain⟨rfl,rfl⟩:=U7 i q e;exact⟨l,ws,rfl,B.hl,yH,B.fl,B.b⟩
     apart:=fun i1 i2 q1 q2 a e1 e2 _ _=>by
      rw[(U7 i1 q1 e1).1,(U7 i2 q2 e2).1]
     obs:=fun i q e=>absurd (cQ e) (by simp)
     gE:=fun i q e=>absurd (cQ e) (by simp)
     len:=rfl}
   ·show((Qc 2 [.un,.un,.own (told.map toldP),.un,.val (.int j)] (.int j)).bind fun q=>Pt none (some (-1)) q)=_
    have e1:Qc 2 [.un,.un,.own (told.map toldP),.un,.val (.int j)] (.int j)=some (toldP t):=by
     show atI (told.map toldP) (j:Int)=_;exact da (by rw[cu,ht];rfl)
    rw[e1];show some (PV.aA (j6 (t.1.map nL++[.int t.2]) none (some (-1))))=_;rw[Ml];rfl
   ·obtain⟨b,rfl,hb⟩:=GQ b3;obtain⟨l',ws3,g1,g2,_,g4,g5⟩:=R3.own 2 _ rfl;cases g1;have gd:H3 d=some (.dT xs):=R3.keep _ _ (by rw[jH (eP hld)];exact B.hd)
    have nd3:F3 d=none:=by
     cases q:F3 d with
     | none=>rfl
     | some ob =>
      rcases R3.fresh d ob q with z | z
      ·rw[B.fd]at z;cases z
      ·rw[jH (eP hld),B.hd]at z;cases z
    have B3:Bu K F3 H3 l d told ws3 xs:=⟨g2,g5,gd,B.ks,fun x hx=>bH R3.base (B.at_ x hx),g4,nd3⟩
    have P3:lZ F H1 F3 H3 l d:=⟨R3.base,R3.sub,fun b ob e1 _ e=>R3.keep _ _ (by rw[jH e1];exact e),fun b ob e=>by
     rcases R3.fresh b ob e with q | q
     ·exact .inl q
     ·refine .inr ?_;have e1:b≠l:=fun y=>by rw[y,g4]at e;cases e
      rw[jH e1]at q;exact q⟩
    refine⟨F3,b,t.1,fk,rfl,Pa.f.trans R3.base,R3.sub,b3,Qg,fun v' H4 F4 z1 z2 z3 z4 z5=>?_⟩
    have B4:=B3.to z2 z1 z4;have P4:lZ F3 H3 F4 H4 l d:=lZ.of z1 z2 z3 z4;have Pa4:lZ f9 H F4 H4 l d:=(Pa.trans P3 g4 nd3).trans P4 B4.fl B4.fd;refine⟨_,rfl,F4,l,d,v',j,told,fk,ws3,xs,rfl,z3,B4,z5,hsz _ _ Qg,Sq,fun F5 H5 ws5 xs5 Pa5 B5=>?_⟩
    refine⟨_,rfl,j,1,rfl,rfl,j+1,dA told j fk,F5,ws5,xs5,rfl,ox,Pa4.trans Pa5 B5.fl B5.fd,B5,kA (mv j fk told) Sq⟩
end
def yI(fb:FE)(yJ:aI)(f:List cC):Option (List (List cC)):=(fb (.val (eU f)::yJ)).bind fun q=>match q with
 | .aq fs=>factsOf fs
 | _=>none
theorem wW{fb:FE}{yJ:aI}{f:List cC}{fk:List (List cC)}(h:yI fb yJ f=some fk):fb (.val (eU f)::yJ)=some (.aq (fk.map eU))/\∀x∈fk,x.length<1000:=by
 obtain⟨q,h1,h2⟩:=aD h;cases q with
 | aq fs =>
  obtain⟨e,l⟩:=nM h2;rw[e]at h1;exact⟨h1,l⟩
 | _=>cases h2
structure Qh (K:ak) (F:Hp) (yJ:aI) (τ:St):Prop where
 no:∀e∈yJ,(∀ps,e≠.own ps)/\∀m,e≠.gE m
 val:∀(i:Nat) (p:PV),yJ[i]?=some (.val p)->∃v,τ[i]?=some (some v)/\dB K F p v
 obs:∀(i:Nat) (o:Ob),yJ[i]?=some (.ob o)->∃a,τ[i]?=some (some (.ref a))/\A4 K F o a
 len:yJ.length=τ.length
theorem Qh.rep{K:ak}{f9 F H:Hp}{yJ:aI}{τ:St}(C:Qh K f9 yJ τ)(f:Same f9 F)(h:Same F H){p:PV}{v:V}(b:dB K F p v):dI K H F F (.val p::yJ) (some v::τ) H:=by
 refine GR h (fun e he=>?_) (fun i q e=>?_) (fun i q e=>?_) ?_
 ·rcases bB.mp he with rfl | he
  ·exact⟨(fun _ z=>by cases z),(fun _ z=>by cases z)⟩
  ·exact C.no e he
 ·cases i with
  | zero=>cases e;exact⟨v,rfl,b⟩
  | succ i =>
   obtain⟨x,h1,h2⟩:=C.val i q (by simpa using e)
   exact⟨x,by simpa using h1,h2.mono f⟩
 ·cases i with
  | zero=>cases e
  | succ i =>
   obtain⟨x,h1,h2⟩:=C.obs i q (by simpa using e)
   exact⟨x,by simpa using h1,h2.mono f⟩
 ·rw[bA,bA,C.len]
theorem U8{X:Cx}{f9:Hp}{fa:af}{qual x:Str}{params:Arguments}{body:ao}{scope:Scope}{cl:List (Str×af)}{N:List Str}{τ:St}{yJ:aI}{fb:FE}{k:Nat}(hex:X.ex=[])(hL:Lx X.H₀ fa qual params body scope cl)(hC:lP X.s₀.heap X.H₀ scope cl N τ)(hF:Qh X.K f9 yJ τ)(hr:fm (k+1) X.A)
  (hb:∀(pm dR H9 u:ai),bindArgs (W.kla_fn "<lambda>" qual params body scope cl pm dR H9) ⟨[u],[]⟩=pure [(x,u)]) (hk:scope.kind=.function) (XF:scope.isCoroutine=false) (Ug:scope.isGenerator=false) (hx:scope.names.lookup x=some .local) (nc:∀y∈scope.names,y.2≠.cell)
  (hbody:∀(dR:ai) (s:av) (H H₀ ae:Hp),fm k (X.A.deeper (W.envX qual scope s.heap.objs.size fa dR cl))->PE (Wh (mW X.prog X.w) X.prog X.w X.K X.mg X.base (x::N) qual scope fa dR cl X.A X.stack s H E0) body (tE X.K H₀ ae fb)):Mj X f9 fa (yI fb yJ):=by
 intro ag s σ H F b f fk Q I s1 s2 bf ho q;obtain⟨h1,h2⟩:=wW ho;obtain⟨o,u,pm,dR,H9,c,oc,uc,vs,t,k1,k2,rfl,k3,k4,k5⟩:=hL;have g1:s.heap.get? fa=some o:=(I.hok fa _ (I.base.frzs fa o u k1)).1;have g2:s.heap.get? c=some oc:=(I.hok c _ (I.base.frzs c oc uc k3)).1;have C:lP s.heap H scope cl N τ:=hC.un (by have:=I.base;rw[hex]at this;exact this)
 refine wpAny_call (nA (OU (CX:=mW X.prog X.w) (E:=E0) (x:=x) (N:=N) (τ:=τ) (v:=.ref b) g1 k2 ⟨c,oc,vs,t,rfl,g2,k4,k5⟩ hr I.TR (hb _ _ _ _) rfl hk XF Ug hx nc C ⟨_,hbody (.ref c) s H H F (hr.deeper _),F,.val (eU f)::yJ,_,hF.rep s1 s2 bf,h1,fun v H' F' R' s' b'=>q v H' F' R'.keep s' R'.sub R'.fresh b'⟩) fun r s' hq=>?_)
 cases r with
 | error e=>exact uh ag σ H s e s' I hq
 | ok fl =>
  cases fl with
  | ret u=>exact I.after hq
  | next=>exact False.elim hq
  | brk=>exact False.elim hq
  | cont=>exact False.elim hq
def wX:Nat:=5000
def kR(fe fb:FE)(link:List (Option Nat)):cg:=fun ρ=>(fe ρ).bind fun q=>match q with
 | .aq fs=>(factsOf fs).bind fun fk=>if fk.length<iB then(gp (yI fb (bL link ρ)) wX 0 (dA [] (-1) fk)).map fun told=>told.map toldP else none
 | _=>none
theorem yK{fe fb:FE}{link:List (Option Nat)}{ρ:aI}{ps:az}(h:kR fe fb link ρ=some ps):∃fk told,fe ρ=some (.aq (fk.map eU))/\(∀x∈fk,x.length<1000)/\fk.length<iB/\gp (yI fb (bL link ρ)) wX 0 (dA [] (-1) fk)=some told/\ps=told.map toldP:=by
 obtain⟨q,h1,h⟩:=aD h;cases q with
 | aq fs =>
  obtain⟨fk,h2,h⟩:=aD (show(factsOf fs).bind _=some ps from h)
  obtain⟨h3,h⟩:=aQ h;obtain⟨told,h4,rfl⟩:=ku.mp h;obtain⟨e,l⟩:=nM h2;rw[e]at h1;exact⟨fk,told,h1,l,h3,h4,rfl⟩
 | _=>cases h
theorem Qi{K:ak}{H₀ ae F H:Hp}{ρ:aI}{σ:St}(R:dI K H₀ ae F ρ σ H)(link:List (Option Nat)):Qh K F (bL link ρ) (inner link σ):=by
 have R':=R.inner link;refine⟨fun e he=>?_,R'.val,R'.obs,R'.len⟩
 obtain⟨i,hi⟩:=List.getElem?_of_mem he;rcases dM hi with rfl | ⟨j,q,_,_,rfl⟩ | ⟨j,q,_,_,rfl⟩<;>exact⟨(fun _ z=>by cases z),(fun _ z=>by cases z)⟩
structure uC (X:Cx) (x:Str) (N:List Str) (link:List (Option Nat)) (scope:Scope):Prop where
 kind:scope.kind=.function
 co:scope.isCoroutine=false
 gen:scope.isGenerator=false
 par:scope.names.lookup x=some .local
 cell:∀y∈scope.names,y.2≠.cell
 free:∀y∈scope.names,y.2=.free->(X.env.kindOf y.1=some .cell\/X.env.kindOf y.1=some .free)
 len:link.length=N.length
 link:∀(i j:Nat) (y:Str),link[i]?=some (some j)->N[i]?=some y->X.N[j]?=some y/\scope.names.lookup y=some .free
theorem Qj{X:Cx}{ag:List (af×Obj)}{σ:St}{H:Hp}{s:av}{x:Str}{N:List Str}{link:List (Option Nat)}{scope:Scope}(I:Inv X ag σ H s)(S:uC X x N link scope):lP s.heap H scope (lq X.env scope.names []) N (inner link σ) where
 inj:=fun y z c h1 h2=>I.ok.inj y z c (dh h1) (dh h2)
 has:=fun y hy=>by
  have hm:=eJ hy;obtain⟨c,hc⟩:=I.ok.has y (S.free _ hm rfl);obtain⟨c',h'⟩:=lQ (env:=X.env) scope.names [] hm ⟨c,hc⟩;cases z:(lq X.env scope.names []).lookup y with
  | some c2=>exact⟨c2,rfl⟩
  | none=>exact absurd h' (by intro hh;have:=List.lookup_eq_none_iff.mp z (y,c') hh;simp at this)
 cell:=fun y c h=>I.cell y c (dh h)
 free:=fun y c h=>I.freeC y c (dh h)
 val:=fun i y v h1 h2=>by
  unfold L2.PL.inner at h2;rw[cu]at h2;cases z:link[i]? with
  | none=>rw[z]at h2;cases h2
  | some o =>
   rw[z]at h2;cases o with
   | none=>cases h2
   | some j =>
    have h2:(σ[j]?).join=some v:=bW h2;have h3:σ[j]?=some (some v):=by
     cases w:σ[j]? with
     | none=>rw[w]at h2;cases h2
     | some q=>rw[w]at h2;exact di some h2
    obtain⟨g1,g2⟩:=S.link i j y z h1;have hm:=eJ g2;obtain⟨m,_,hl⟩:=I.loc;have hfk:X.env.kindOf y=some .cell\/X.env.kindOf y=some .free:=S.free _ hm rfl;obtain⟨u,ru,lk⟩:=hl j y v g1 h3 (by
     rcases hfk with q | q
     ·exact .inr (.inl q)
     ·exact .inr (.inr q))
    rcases lk with⟨q,_⟩ | ⟨_,c,hc,hi⟩
    ·rcases hfk with q' | q'<;>rw[q]at q'<;>cases q'
    ·obtain⟨c',h'⟩:=lQ (env:=X.env) scope.names [] hm ⟨c,hc⟩;cases zz:(lq X.env scope.names []).lookup y with
     | none=>exact absurd h' (by intro hh;have:=List.lookup_eq_none_iff.mp zz (y,c') hh;simp at this)
     | some c2 =>
      have:=dh zz;rw[hc]at this;cases this;exact⟨c,u,g2,rfl,hi,ru⟩
 len:=by unfold L2.PL.inner;rw[aE];exact S.len
structure Mm (K:ak) (mg:ee) (p q:Nat->Pos) (fs fT:af) (Mn GU:er):Prop where
 S:DH K "spread" "spread" (jn p) fs Mn
 mS:mg "spread"=some (.ref fs)
 bS:gC K Mn ["firsts","outcomes"] []
 scS:ez rQ ["firsts","outcomes"] (aO (jn p))
 T:DH K "tell_new" "tell_new" (uB q) fT GU
 mT:mg "tell_new"=some (.ref fT)
 bT:gC K GU ["told","known","facts","came"] []
 scT:ez Sn ["told","known","facts","came"] (aO (uB q))
 line:((q 15).endLine==(q 20).line)=true
 len:mg "len"=none
structure Sr (X:Cx):Prop where
 ex:∃x c T,x∈eE/\W.tabIn X.K x=some (c,T)/\W.codeHdIn X.K c T=true/\X.env.code=.ref c/\X.env.qual++"<lambda>"=vq x
 blt:A2 X.mg X.base
def nN(x:Str)(ap:Pos):Arguments:={posonlyargs:=[],args:=[{arg:=x,annotation:=none,pos:=ap}],vararg:=none,kwonlyargs:=[],kw_defaults:=[],kwarg:=none,defaults:=[]}
theorem II{x:Str}{ap:Pos}{qual:Str}{body:ao}{scope:Scope}{cl:List (Str×af)}(pm dR H9 u:ai):bindArgs (W.kla_fn "<lambda>" qual (nN x ap) body scope cl pm dR H9) ⟨[u],[]⟩=pure [(x,u)]:=by
 have hs:seqItems? Value.none=pure none:=rfl;unfold bindArgs;simp only[nN,sN,bK,iO,bA,kE,List.zip_cons_cons,List.zip_nil_right,hs,pure_bind,List.forIn_nil,Dx];simp[List.lookup]
section
variable {X:Cx} {H₀ ae:Hp} {e body:ao} {fe fb:FE} {scope:Scope} {x:Str} {ap lp p1 pos:Pos} {N:List Str} {link:List (Option Nat)} {p q:Nat->Pos} {fs fT:af} {Mn GU:er} {k:Nat}
def adO(X:Cx)(H₀ ae F:Hp)(ρ:aI)(σ:St)(fk:List (List cC))(qual:Str)(params:Arguments)(body:ao)(scope:Scope)(cl:List (Str×af)):List V->Hp->Prop
 | [va,vf],H1=>∃F1 fa,vf=.ref fa/\dI X.K H₀ ae F1 ρ σ H1/\Same F F1/\dB X.K F1 (.aq (fk.map eU)) va/\Lx H1 fa qual params body scope cl
 | _,_=>False
theorem Mo(D:Mm X.K X.mg p q fs fT Mn GU)(L:Sr X)(hg:Gl X "spread")(hr:fm (k+2) X.A)(he:PE X e (tE X.K H₀ ae fe))(pI:starEach [e,.Lambda (nN x ap) body scope lp] X.env=(false,eval e X.env)::starEach [.Lambda (nN x ap) body scope lp] X.env)(S:uC X x N link scope)
  (hbody:∀(qual:Str) (fa:af) (dR:ai) (cl:List (Str×af)) (A:bR) (stack:List Env) (s:av) (H Qk f9:Hp),fm k (A.deeper (W.envX qual scope s.heap.objs.size fa dR cl))->PE (Wh (mW X.prog X.w) X.prog X.w X.K X.mg X.base (x::N) qual scope fa dR cl A stack s H E0) body (tE X.K Qk f9 fb)) :
  PE X (.Call (.Name "spread" p1) [e,.Lambda (nN x ap) body scope lp] [] pos) (tF X.K H₀ ae (kR fe fb link)):=by
 rintro ag s σ H Q I ⟨F,ρ,ps,R,hf,hq⟩;obtain⟨fk,told,h1,h2,h3,h4,rfl⟩:=yK hf;obtain⟨⟨xn,c,T,l1,l2,l3,l4,l5⟩,hB⟩:=L;have hcl:closureFor scope X.env=pure (lq X.env scope.names []):=uj fun y hy hy2=>I.ok.has y.1 (S.free y hy hy2)
 refine nq (ld_glob I hg D.mS ?_ rfl);refine W.callWith_K (h₀:=X.base) I.ok.mod.kin D.S.kp (thn ((dW he (dW (Uh l1 l2 l3 l4 l5 hB rfl hcl) jZ rfl) pI) pos ag s σ H (adO X H₀ ae F ρ σ fk (vq xn) (nN x ap) body scope (lq X.env scope.names [])) I ?_) fun us s1 ⟨vs,H1,I1,r,q1⟩=>⟨I1.z0,?_⟩) pI rfl
 ·exact⟨F,ρ,_,R,h1,fun va H1 F1 R1 s1 b1 fa H2 hn sm fr hL=>⟨F1,fa,rfl,R1.after sm (Same.refl F1) (R1.sub.trans sm) (fun _ _ e=>.inl e),s1,b1,hL⟩⟩
 ·match vs,r,q1 with
  | [va,vf],r,⟨F1,fa,ev,R1,Wi,b1,hL⟩ =>
   subst ev;obtain⟨o,u,pm,ahD,H9,c',oc,uc,Uk,t,k1,k2,k3⟩:=id hL;have FT:=Qe (prog:=X.prog) (w:=X.w) (mg:=X.mg) (base:=X.base) D.T D.scT D.line k;refine wpAny_call (nA (XJ (CX:=mW X.prog X.w) (E:=E0) (Q:=Q) (k:=k+1) D.S D.scS hr I1.TR (args:=⟨us,[]⟩) (us:=us++[]) (D.bS s1 us I1.z0 (by rw[iP,<-r.length];rfl)) (by rw[iP];exact r) rfl (fun dR =>
    Bw D.scS FT (hr.deeper _) D.mT D.T.kp D.bT D.len k1 k2
     (U8 (x:=x) (N:=N) (τ:=inner link σ) (k:=k) rfl hL (Qj I1 S) (Qi R1 link) (hr.deeper _) II S.kind S.co S.gen S.par S.cell (fun dR s H Qk f9 hr'=>hbody _ _ _ _ _ _ _ _ _ _ hr'))
     (fun f fk' ho=>(wW ho).2) R1.sub b1 h2 h3 h4 (fun l ws F' H' g1 g2 g3 g4 g5 g6 g7 g8=>?_))) fun r s' N9=>?_)
   ·have e1:eI (Qf H' l) l (.aq ws)=H':=by
     funext b
     by_cases z:b=l
     ·subst z;rw[bo,g7]
     ·rw[aX z,jH z]
    rw[<-e1];refine hq l ws _ F' (R1.after (fun b ob e=>?_) g2 (fun b ob e=>?_) g4) (Wi.trans g2) g8 yH
    ·rw[jH (bP e g5)];exact g1 _ _ e
    ·rw[jH (bP e g6)];exact g3 _ _ e
   ·cases r with
    | error e=>exact uh ag σ H1 s1 e s' I1 N9
    | ok fl =>
     cases fl with
     | ret u=>exact I1.after N9
     | next=>exact False.elim N9
     | brk=>exact False.elim N9
     | cont=>exact False.elim N9
end
end L2.PL
namespace L2
open PySem PySem.Spec PyProof.Rows
section
variable {X:Cx}
theorem Mp{pos:Pos}:PE X (.Dict [] [] pos) (Lw (.dK [])):=fun ag s σ H Q I h =>
 wpAny_Dict_empty ⟨.ref s.heap.objs.size,_,I.laid (a:=s.heap.objs.size) (o:=.dK []) (t':=s.toks) (fun _ _ q=>cD _ q) (aV _)
  ⟨gO _,su.mpr (eP (cX (A1 I))),[],.nil,Heap.DictOf.new s.heap⟩,rfl,h _ (I.hok.fresh (aV _))⟩
theorem U9{v:V}{o:nE}(h:HL (some v) o):∃u,o=some u/\RelV v u:=by
 cases o with
 | none=>exact h.elim
 | some u=>exact⟨u,rfl,h⟩
def adP:R2:=fun x y H Q=>∃a kvs k v,x=.ref a/\y=kV k/\Rd H a (.dK kvs)/\mE kvs k=some v/\Q v H
theorem YK:TY X adP:=by
 intro value slice ag s σ H x y v u Q I rx ry h hs;obtain⟨a,kvs,k,z,rfl,rfl,hr,hv,q⟩:=h;cases rx;obtain⟨_,hd,vs,Wn,dd⟩:=RR I.hok hr;obtain⟨w',hw,TZ⟩:=U9 (o:=valueAt vs k) (by rw[<-hv];exact Wn.val k)
 exact tail_any dd.typeIs PySem.F.slot_dict_getitem.lookup (wpAny_getItem_of (Lv ry) dd.mapOf hw ⟨z,H,I.tok _,TZ,q⟩) hs
def YL:V->List V->Hp->VK->Prop:=fun x vs H Q=>∃a kvs k y,x=.ref a/\vs=[kV k,y]/\H a=some (.dK kvs)/\kvs.length<sizeLine/\(∀v,mE kvs k=some v->Q v H)/\(mE kvs k=none->Q y (eI H a (.dK (kvs++[(k,y)]))))
theorem Va:MtR X "dict.setdefault" YL:=by
 intro ag s σ H x xs v us Q I rx rv h;obtain⟨a,kvs,k,y,rfl,rfl,e,hl,h1,h2⟩:=h;cases rx;obtain⟨u1,u2,rfl,r1,r2⟩:=rv.two;obtain⟨z,hd,vs,Wn,dd⟩:=XD I.hok e;refine call_meetsIn Ka dd.typeIs PySem.F.entry_dict_setdefault (PySem.F.args_dict_setdefault_3 _ _ _) (kt_meets_setdefault (gj X.prog X.w) a (Lv r1) hd u2) ⟨vs,dd,by rw[<-Wn.length];exact z,fun w hw=>?_,fun hn h' dd' hs=>?_⟩
 ·have rk:=Wn.val k;rw[hw]at rk;cases hv:mE kvs k with
  | none=>rw[hv]at rk;exact rk.elim
  | some v0=>rw[hv]at rk;exact⟨v0,H,I.tok _,rk,h1 v0 hv⟩
 ·have rk:=Wn.val k;rw[hn]at rk;have hv:mE kvs k=none:=by
   cases hv:mE kvs k with
   | none=>rfl
   | some v0=>rw[hv]at rk;exact rk.elim
  have YM:=Wn.put k r2;rw[Lu y hv]at YM;have he:∃q,h'.get? a=some q:=let ⟨q,_,_,hq,_⟩:=dd';⟨q,hq⟩
  exact⟨y,_,I.write (x:=a) (e:=a) (o:=.dK (kvs++[(k,y)])) (by rw[e];exact True.intro) (.inl rfl) (fun c q' hc z=>(hs.2 c hc).trans z) he ⟨by rw[bU];exact hl,hd,_,YM,dd'⟩,r2,h2 hv⟩
def GV:V->List V->Hp->VK->Prop:=fun x vs H Q=>∃(l:af) (xs:List V) (i:Int) (y:V),x=.ref l/\vs=[.int i,y]/\H l=some (.aq xs)/\xs.length<sizeLine/\0<=i/\i<=1000000/\Q .df (eI H l (.aq (xs.take i.toNat++y::xs.drop i.toNat)))
theorem Vb{i:Int}(h0:0<=i)(hi:i<=1000000):¬(!Builtin.List.listFitsIndex i)=true:=by
 unfold Builtin.List.listFitsIndex;have h1:decide (-(2^63:Int)<=i)=true:=dm (jX (by decide) h0)
 have h2:decide (i<2^63)=true:=dm (Int.lt_of_le_of_lt hi (by decide))
 rw[h1,h2];simp
def Vc(i:Int)(u:ai):Array ai->Array ai:=fun xs=>have k:=if i<0 then(i+((xs.size:Nat):Int)).toNat else min i.toNat xs.size;(xs.extract 0 k).push u++xs.extract k
theorem Ql{i:Int}(h0:0<=i)(bg:cj)(u:ai):Vc i u bg.toArray=(bg.take i.toNat++u::bg.drop i.toNat).toArray:=by
 unfold Vc;have h1:¬i<0:=by lia
 simp only[h1,kH,bJ];apply Array.ext';simp only[jP,nr,kx,List.extract_eq_drop_take];by_cases hb:i.toNat<=bg.length
 ·rw[DF hb];have h2:List.take (bg.length-i.toNat) (List.drop i.toNat bg)=List.drop i.toNat bg:=nk (by rw[lC];exact aV _)
  simp[h2]
 ·rw[DD (by lia)]
  have h1:bg.take i.toNat=bg:=nk (by lia)
  have h2:bg.drop i.toNat=[]:=List.drop_of_length_le (by lia)
  simp[h1,h2]
theorem IJ:MtM X "list.insert" GV:=by
 intro ag s σ H x vs v us Q I rx rv h;obtain⟨l,xs,i,y,rfl,rfl,hH,hz,h0,hi,q⟩:=h;cases rx;obtain⟨u1,u2,rfl,⟨t,rfl⟩,r2⟩:=rv.two;obtain⟨z,bg,n,r,hl,e⟩:=I.OL hH;have hsz:bg.toArray.size<=sizeLine:=by rw[bJ];lia
 have vx:=r.length;have J:=I.OK (t':=s.toks) (f:=Vc i u2) (its':=bg.take i.toNat++u2::bg.drop i.toNat) hH e (Ql h0 bg u2) ((r.take i.toNat).append (.cons r2 (r.drop i.toNat))) (by rw[bU,bA,kD,lC];lia)
 exact pW F.slot_list_insert ⟨_,e,rfl⟩ F.entry_list_insert (F.args_list_insert_3 _ _ _) (@PySem.AutoListH.list_insert_list_int_val_1 l bg.toArray n i t u2 (Vb h0 hi) hsz) ⟨e,.df,_,J,rfl,q⟩
end
end L2
namespace L2.PL
open PySem PySem.Spec PyProof.Rows
def Qm:az->Option az:=fun ps=>some ps.reverse
theorem Qn{K:ak}:Sa K AL Qm:=by
 intro H₀ ae F ρ σ H a ps qs vs Q hg R ha b1 k;cases hg;exact⟨a,vs,rfl,rfl,ha,k _ b1.reverse⟩
def yL:az->az->Option az:=fun ps as=>match as with
 | [.int i,p]=>if(0<=i/\i<=1000000/\ps.length<iB)then some (ps.take i.toNat++p::ps.drop i.toNat)else none
 | _=>none
theorem Qo{K:ak}:Pe K GV yL:=by
 intro H₀ ae F ρ σ H a ps as qs vs ws Q hg R ha b1 b2 k;unfold yL at hg;split at hg
 ·rename_i i p;obtain⟨⟨h1,h2,h3⟩,rfl⟩:=aU hg;obtain⟨w1,r1,rfl,bw1,br1⟩:=b2.cG;obtain⟨w2,r2,rfl,bw2,br2⟩:=br1.cG;rw[br2.cP];rw[aN.mp bw1];exact⟨a,vs,i,w2,rfl,rfl,ha,dy (by rw[<-b1.length];exact h3) (ik (aV _)),h1,h2,k _ ((b1.take _).append (.cons bw2 (b1.drop _)))⟩
 ·cases hg
def GW:Ent->Bool
 | .gE _=>false
 | _=>true
noncomputable def eu(kvs:List (cC×PV))(k:cC):b8:=(kvs.find? fun kv=>decide (kv.1=k)).map (·.2)
section
variable {K:ak} {H₀ ae F H:Hp} {ρ:aI} {σ:St}
theorem yM{kvs:List (cC×PV)}{vs:List (cC×V)}(h:A3 K F kvs vs)(k:cC):(∀p,eu kvs k=some p->∃v,mE vs k=some v/\dB K F p v)/\(eu kvs k=none->mE vs k=none):=by
 unfold A3 at h;induction h with
 | nil=>exact⟨(fun p e=>by cases e),fun _=>rfl⟩
 | @cons p q ps qs hq t ih =>
  obtain⟨h1,h2⟩:=hq;by_cases e:p.1=k
  ·have l1:eu (p::ps) k=some p.2:=by simp[eu,pV,e]
   rw[l1,ud (h1.symm.trans e)];exact⟨(fun x z=>by cases z;exact⟨_,rfl,h2⟩),(fun z=>by cases z)⟩
  ·have l1:eu (p::ps) k=eu ps k:=by simp[eu,pV,e]
   rw[l1,ue (fun z=>e (h1.trans z))]
   exact ih
theorem dI.Vd(R:dI K H₀ ae F ρ σ H){i:Nat}(hi:i<ρ.length){a:af}{m:Dk}(hm:oz K F H a m)(h0:H₀ a=none)(hF:F a=none):dI K H₀ ae F (ρ.set i (.gE m)) (σ.set i (some (.ref a))) H where
 sub:=R.sub
 keep:=R.keep
 base:=R.base
 fresh:=R.fresh
 val:=fun j q e=>by
  by_cases h:i=j
  ·subst h;rw[cL hi]at e;cases e
  ·rw[b9 h]at e ⊢;exact R.val j q e
 own:=fun j q e=>by
  by_cases h:i=j
  ·subst h;rw[cL hi]at e;cases e
  ·rw[b9 h]at e ⊢;exact R.own j q e
 apart:=fun j k ps qs a h1 h2 h3 h4=>by
  by_cases hj:i=j
  ·subst hj;rw[cL hi]at h1;cases h1
  ·by_cases hk:i=k
   ·subst hk;rw[cL hi]at h2;cases h2
   ·rw[b9 hj]at h1 h3;rw[b9 hk]at h2 h4;exact R.apart j k ps qs a h1 h2 h3 h4
 obs:=fun j q e=>by
  by_cases h:i=j
  ·subst h;rw[cL hi]at e;cases e
  ·rw[b9 h]at e ⊢;exact R.obs j q e
 gE:=fun j q e=>by
  by_cases h:i=j
  ·subst h;rw[cL hi]at e;cases e;exact⟨a,cL (by rw[<-R.len];exact hi),hm,h0,hF⟩
  ·rw[b9 h]at e ⊢;exact R.gE j q e
 len:=by rw[kG,kG];exact R.len
theorem dI.Ve(R:dI K H₀ ae F ρ σ H){i:Nat}{a:af}{m m':Dk}{o:HO}(hi:ρ[i]?=some (.gE m))(ha:σ[i]?=some (some (.ref a)))(hm:oz K F (eI H a o) a m')(ho:(ρ.set i .un).all GW=true):dI K H₀ ae F (ρ.set i (.gE m')) σ (eI H a o):=by
 have hJ:i<ρ.length:=(fU.mp hi).1;obtain⟨a',e1,e2,h3,h4⟩:=R.gE i m hi;rw[ha]at e1;cases e1;obtain⟨ob,e3,e4⟩:=e2.obj;have sub:∀{G:Hp},G a=none->Same G H->Same G (eI H a o):=fun {G} hg s b ob e=>by
  rw[aX (bP e hg)];exact s _ _ e
 exact {
  sub:=sub h4 R.sub
  keep:=sub h3 R.keep
  base:=R.base
  fresh:=R.fresh
  val:=fun j q e=>by
   by_cases h:i=j
   ·subst h;rw[cL hJ]at e;cases e
   ·rw[b9 h]at e;exact R.val j q e
  own:=fun j ls e=>by
   by_cases h:i=j
   ·subst h;rw[cL hJ]at e;cases e
   ·rw[b9 h]at e;obtain⟨b,us,q1,q2,q3⟩:=R.own j ls e;exact⟨b,us,q1,by rw[aX (KN q2 e3 (fun z=>e4 _ z.symm))];exact q2,q3⟩
  apart:=fun j k l1 l2 b e1 e2 e3 e4=>by
   by_cases hj:i=j
   ·subst hj;rw[cL hJ]at e1;cases e1
   ·by_cases hk:i=k
    ·subst hk;rw[cL hJ]at e2;cases e2
    ·rw[b9 hj]at e1;rw[b9 hk]at e2;exact R.apart j k l1 l2 b e1 e2 e3 e4
  obs:=fun j q e=>by
   by_cases h:i=j
   ·subst h;rw[cL hJ]at e;cases e
   ·rw[b9 h]at e;exact R.obs j q e
  gE:=fun j q e=>by
   by_cases h:i=j
   ·subst h;rw[cL hJ]at e;cases e;exact⟨a,ha,hm,h3,h4⟩
   ·rw[b9 h]at e;have:=gu.mp ho (.gE q) (cQ (i:=j) (by rw[b9 h];exact e))
    cases this
  len:=by rw[kG];exact R.len}
end
section
variable {X:Cx} {H₀ ae:Hp} {ke a b:ao} {fk fa fb:FE} {x:Str} {p pos sp:Pos} {i:Nat}
def Vf(i:Nat):FS:=fun ρ=>if i<ρ.length then some (.nx (ρ.set i (.gE (.k []))))else none
theorem Mq{D:ov}{σ:St}{H:Hp}(h:tS X H₀ ae (Vf i) D σ H):ri (Lw (.dK [])) (gName i) D σ H:=by
 obtain⟨F,ρ,o,R,hf,q⟩:=h;obtain⟨hi,rfl⟩:=aU hf;intro d hd;exact q F _ _ ((R.RX (.dK []) hd).Vd hi ⟨[],bo,.nil⟩ (R.keep.free hd) (R.sub.free hd)) (Same.refl F)
def getD(i:Nat)(fk:FE):FE:=fun ρ=>(fk ρ).bind fun q=>match ρ[i]? with
 | some (.ob (.J1 (.k kvs)))=>(IF q).bind fun k=>eu kvs k
 | _=>none
theorem Vg(hx:PE X (.Name x p) (tN i))(hk:PE X ke (tE X.K H₀ ae fk))(hs:ml ke):PE X (.Subscript (.Name x p) ke sp) (tE X.K H₀ ae (getD i fk)):=by
 rintro ag s σ H Q I ⟨F,ρ,pr,R,hf,q⟩;obtain⟨qk,h1,h2⟩:=aD hf;split at h2
 ·rename_i kvs hp;obtain⟨k,h3,h4⟩:=aD h2;obtain⟨a,e1,vs,e2,e3⟩:=R.obs i _ hp;refine Gh YK hx hk hs ag s σ H Q I ⟨.ref a,e1,F,ρ,qk,R,h1,fun w H1 F1 R1 s1 b1=>?_⟩
  obtain⟨v,g1,g2⟩:=(yM e3 k).1 pr h4;rw[yF h3]at b1;exact⟨a,vs,k,v,rfl,uA.mp b1,.inl (R1.sub _ _ (s1 _ _ e2)),g1,q v H1 F1 R1 s1 (g2.mono s1)⟩
 ·cases h2
def Vh(i:Nat)(fk fv:FE):FS:=fun ρ=>(fk ρ).bind fun qk=>(fv ρ).bind fun qv=>match ρ[i]? with
 | some (.gE (.k kvs))=>(IF qk).bind fun k=>if(kvs.length<iB/\(ρ.set i .un).all GW=true)then(match eu kvs k with
  | some _=>some (.nx ρ)
  | none=>some (.nx (ρ.set i (.gE (.k (kvs++[(k,qv)]))))))else none
 | _=>none
theorem GX{K:ak}{F:Hp}:∀{kvs:List (cC×PV)} {vs:List (cC×V)},A3 K F kvs vs->∀{k:cC} {p:PV} {v:V},dB K F p v->A3 K F (kvs++[(k,p)]) (vs++[(k,v)])
 | _,_,.nil,_,_,_,b=>.cons ⟨rfl,b⟩ .nil
 | _,_,.cons r t,_,_,_,b=>.cons r (GX t b)
theorem Qp{D:ov}{σ:St}{H:Hp}(h:tS X H₀ ae (Vh i fa fb) D σ H):tDrop (tBM X.K "dict" YL (tN i) (tA X.K H₀ ae (aa fa (aa fb ah)))) D σ H:=by
 obtain⟨F,ρ,o,R,hf,q⟩:=h;obtain⟨qk,h1,hf⟩:=aD hf;obtain⟨qv,h2,hf⟩:=aD hf;split at hf
 ·rename_i kvs hp;obtain⟨k,h3,hf⟩:=aD hf;obtain⟨⟨h4,h5⟩,hf⟩:=aQ hf;obtain⟨a,e1,⟨vs,e2,e3⟩,e4,e5⟩:=R.gE i _ hp;refine⟨.ref a,e1,.inr (.inr (.inl ⟨rfl,.inl ⟨vs,e2⟩⟩)),F,ρ,[qk,qv],R,?_,fun ws H1 F1 R1 s1 b1=>?_⟩
  ·show(fa ρ).bind _=_;rw[h1];show((aa fb ah) ρ).map _=_;show(((fb ρ).bind fun x=>(ah ρ).map fun xs=>x::xs).map _)=_
   rw[h2];rfl
  ·obtain⟨w1,r1,rfl,bw1,br1⟩:=b1.cG;obtain⟨w2,r2,rfl,bw2,br2⟩:=br1.cG;rw[br2.cP];rw[yF h3]at bw1;rw[uA.mp bw1];obtain⟨a',g1,⟨vs1,g2,g3⟩,g4,g5⟩:=R1.gE i _ hp;rw[e1]at g1;cases g1;have hl:vs1.length<sizeLine:=by
    rw[<-xV g3];exact dy h4 (ik (aV _))
   refine⟨a,vs1,k,w2,rfl,rfl,g2,hl,fun v hv=>?_,fun hv=>?_⟩
   ·cases hk:eu kvs k with
    | none=>rw[(yM g3 k).2 hk]at hv;cases hv
    | some pv =>
     rw[hk]at hf;cases hf;exact q F1 σ H1 R1 s1
   ·cases hk:eu kvs k with
    | some pv =>
     obtain⟨v,z,_⟩:=(yM g3 k).1 pv hk;rw[z]at hv;cases hv
    | none =>
     rw[hk]at hf;cases hf;exact q F1 σ _ (R1.Ve hp e1 ⟨_,bo,GX g3 bw2⟩ h5) s1
 ·cases hf
end
structure Gm where
 sc:List (Str×NameKind)
 N:List Str
 fns:List (Str×Nat)
 cons:List (Str×PV)
 eQ:List Str
 chg:List Str
 own:Bool
 call:gv
 exc:List Str
 sub:List ((Str×Str)×Bool)
 tabs:List (Str×List (Str×Str))
 Ss:List Str
 IK:List (Str×Nat)
 qP:Str->Ob->az->dG
 cls:List (Str×Nat)
 make:Str->az->Option (List (Str×Fd))
 flds:List Str
 gB:List (Str×List (Str×PV))
 Ac:Bool
 RD:List Str
def slot(Γ:Gm)(x:Str):Option Nat:=Γ.N.findIdx? (· == x)
def JZ(Γ:Gm)(x:Str):Bool:=match Γ.sc.lookup x with | some .local=>true | some .cell=>true | some .free=>true | _=>false
def Mr(Γ:Gm)(x:Str):Bool:=match Γ.sc.lookup x with | some .local=>true | some .cell=>Γ.own | _=>false
def EG(Γ:Gm)(x:Str):Bool:=match Γ.sc.lookup x with | some .globalImplicit=>true | _=>false
def fq(x:Str):Bool:=!(x==("__debug__":Str))&&!(x==("__classdict__":Str))&&!(x==("__name__":Str))
structure Ms (Γ:Gm) (X:Cx):Prop where
 ex:∃p q fs fT Mn GU k,Mm X.K X.mg p q fs fT Mn GU/\fm (k+2) X.A /\
  (∀x n,Γ.fns.lookup x=some n->∃j f fd ps,j<=k/\FnOk X.prog X.w X.K X.mg X.base (mW X.prog X.w) j f fd ps (Eh X.K n (Γ.call x))/\X.mg x=some (.ref f)/\W.keepIn X.K (.ref f)=true/\gC X.K fd ps []) /\
  ∀x n,Γ.IK.lookup x=some n->∃j f fd ps,j<=k/\FnOk X.prog X.w X.K X.mg X.base (mW X.prog X.w) j f fd ps (spO X.K n (Γ.qP x))/\X.mg x=some (.ref f)/\W.keepIn X.K (.ref f)=true/\gC X.K fd ps []
 lam:Sr X
structure YN (Γ:Gm) (X:Cx):Prop where
 IK:adI X Γ.IK Γ.qP
 ns:∀x a,W.nsIn X.K mainGlobals x=some (some (.ref a))->X.mg x=some (.ref a)
 cls:∀C n,Γ.cls.lookup C=some n->∃k Ca f fd ps,Mk X.K Ca f/\Wb X.K Ca/\(∀f,Γ.flds.contains f=true->pX X.K Ca f)/\FnOk X.prog X.w X.K X.mg X.base (mW X.prog X.w) k f fd ps (spI X.K n (Γ.make C))/\fm (k+1) X.A/\X.mg C=some (.ref Ca)/\gC X.K fd ps []
 gB:∀T ck,Γ.gB.lookup T=some ck->EE X.K X.mg X.w.params T ck
 Ac:Γ.Ac=true->Ms Γ X
structure GOk (Γ:Gm) (X:Cx):Prop where
 names:X.env.scope.names=Γ.sc
 N:X.N=Γ.N
 nd:X.N.Nodup
 kind:X.env.scope.kind=.function
 calm:X.calm=true
 hd:X.A.handled=none
 un:X.A.units+1150<cLine
 own:Γ.own=true->∀x,X.fn x=true
 fns:∀x n,Γ.fns.lookup x=some n->∃k f fd ps,FnOk X.prog X.w X.K X.mg X.base (mW X.prog X.w) k f fd ps (Eh X.K n (Γ.call x))/\fm k X.A/\X.mg x=some (.ref f)/\W.keepIn X.K (.ref f)=true/\gC X.K fd ps []
 cons:∀x p,Γ.cons.lookup x=some p->∃u v,X.mg x=some u/\RelV v u/\∀F,dB X.K F p v
 eQ:∀x,Γ.eQ.contains x=true->X.mg x=none
 excs:∀C,Γ.exc.contains C=true->vR X.K C
 subs:∀C D b,Γ.sub.lookup (C,D)=some b->L4 X.K X.mg C D b
 tabs:∀T ck,Γ.tabs.lookup T=some ck->GH X.K X.mg X.w.params T ck
 yN:YN Γ X
def c6:ao->Bool
 | .Starred _ _=>false
 | .Set _ _ _=>false
 | _=>true
def oR:ao->Bool
 | .Slice _ _ _ _=>false
 | _=>true
def GY:ao->Bool
 | .Tuple _ _ _=>false
 | .ListComp _ _ _ _=>false
 | .SetComp _ _ _ _=>false
 | .DictComp _ _ _ _ _=>false
 | _=>true
def yO:ao->Bool
 | .ListComp _ _ _ _=>false
 | .SetComp _ _ _ _=>false
 | .DictComp _ _ _ _ _=>false
 | _=>true
theorem yP{e:ao}(h:GY e=true):yO e=true:=by
 cases e<;>first | rfl | cases h
def Mt:ao->Bool
 | .UnaryOp .Not _ _=>false
 | .BoolOp _ _ _=>false
 | .IfExp _ _ _ _=>false
 | .Compare _ _ _ _=>false
 | _=>true
theorem bQ{e:ao}(h:c6 e=true)(es:List ao)(env:Env):starEach (e::es) env=(false,eval e env)::starEach es env:=by
 cases e<;>first | rfl | cases h
theorem jI{e:ao}(h:c6 e=true)(op:CmpOp):behindInMarks op e=false:=by
 cases e<;>first | rfl | cases h
theorem EH{e:ao}(h:c6 e=true)(env:Env)(x:ai):foldedSetIterable e env x=pure x:=by
 cases e<;>first | rfl | cases h
theorem oS{e:ao}(h:oR e=true):ml e:=by
 intro o i;cases e<;>first | rfl | cases h
theorem Mu{e:ao}(h:Mt e=true)(env:Env)(jE:Sem ai):isTrue e env jE=(do let v <-jE;standAt e.pos;holding [v] (truthy v)):=by
 cases e with
 | UnaryOp op a p=>cases op<;>first | rfl | cases h
 | BoolOp _ _ _=>cases h
 | IfExp _ _ _ _=>cases h
 | Compare _ _ _ _=>cases h
 | _=>rfl
theorem iE{e:ao}(h:yO e=true)(t:Option ao)(l:Nat)(env:Env):swapsWith e t l env=pure false:=by
 cases e<;>first | rfl | cases h
theorem iG{es:List ao}(h:es.all c6=true)(env:Env)(pos:Pos):(backTo pos (starEach es env)).any (·.1)=false:=by
 induction es with
 | nil=>rfl
 | cons e es ih =>
  rw[jV,aZ]at h;rw[bQ h.1];exact ih h.2
noncomputable def yQ:Nat->Gm->ao->Option (gJ×List Nat)
 | 0,_,_=>none
 | n+1,Γ,e=>match e with
  | .Name x _=>if Mr Γ x=true then(slot Γ x).map fun i=>(aj i,[i])else none
  | .Tuple es _ _=>(es.foldr (fun e r=>(yQ n Γ e).bind fun g=>r.map fun gs=>(aw g.1 gs.1,g.2++gs.2)) (some (cI,[]))).map fun gs=>(cM es.length gs.1,gs.2)
  | _=>none
theorem Mv{Γ:Gm}{x:Str}{i:Nat}(h:slot Γ x=some i):Γ.N[i]?=some x:=by
 unfold slot at h;obtain⟨hi,hp,_⟩:=J7.mp h;rw[cJ hi];exact di some (b6 hp)
section
variable {Γ:Gm} {X:Cx} {x:Str} {pos:Pos}
theorem GOk.Qq(G:GOk Γ X)(h:JZ Γ x=true):We X.env.scope x:=by
 unfold JZ at h;unfold We;rw[G.names];split at h<;>simp_all
theorem GOk.Vi(G:GOk Γ X)(h:Mr Γ x=true):RE X.env.scope x/\(X.fn x=true\/X.env.scope.names.lookup x=some .local):=by
 unfold Mr at h;unfold RE;rw[G.names];split at h
 ·rename_i z;exact⟨.inl z,.inr z⟩
 ·rename_i z;exact⟨.inr z,.inl (G.own h x)⟩
 ·cases h
theorem GOk.nO(G:GOk Γ X)(h:EG Γ x=true):Gl X x:=by
 unfold EG at h;show X.env.scope.names.lookup x=_;rw[G.names];split at h
 ·assumption
 ·cases h
theorem GOk.l7(G:GOk Γ X){i:Nat}(h:slot Γ x=some i):X.N[i]?=some x:=by
 rw[G.N];exact Mv h
theorem oT(G:GOk Γ X):∀(n:Nat) (e:ao) (g:gJ×List Nat),yQ n Γ e=some g->(∀H₀ ae:Hp,PG X e (tG X.K H₀ ae g.1))/\KG g.2 g.1/\(∀env:Env,(assignEach [e] env).map (·.2)=[assign e env])/\∀(es:List ao) (env:Env),assignEach (e::es) env=(false,assign e env)::assignEach es env
 | 0,_,_,h=>by cases h
 | n+1,e,g,h=>by
  cases e with
  | Name x p =>
   have h:(if Mr Γ x=true then(slot Γ x).map fun i=>(aj i,[i])else none)=some g:=h
   obtain⟨hs,h⟩:=aQ h;cases z:slot Γ x with
   | none=>rw[z]at h;cases h
   | some i =>
    rw[z]at h;cases h;obtain⟨h1,h2⟩:=G.Vi hs;exact⟨fun H₀ ae=>Uu i (F9 G.nd (G.l7 z) h1 h2),Pb i,fun _=>rfl,fun _ _=>rfl⟩
  | Tuple es k p =>
   have all:∀(es:List ao) (gs:(az->aI->Option aI)×List Nat),es.foldr (fun e r=>(yQ n Γ e).bind fun g=>r.map fun gs=>(aw g.1 gs.1,g.2++gs.2)) (some (cI,[]))=some gs ->
     (∀H₀ ae:Hp,JY X es (X2 X.K H₀ ae gs.1))/\Yb gs.2 gs.1/\∀env:Env,(assignEach es env).length=es.length/\(assignEach es env).findIdx? (·.1)=none:=by
    intro es;induction es with
    | nil =>
     intro gs h;cases h;exact⟨fun H₀ ae=>Uv,Pc,fun env=>⟨rfl,rfl⟩⟩
    | cons e es ih =>
     intro gs h;rw[List.foldr_cons]at h;obtain⟨g1,e1,h⟩:=aD h;cases z:es.foldr (fun e r=>(yQ n Γ e).bind fun g=>r.map fun gs=>(aw g.1 gs.1,g.2++gs.2)) (some (cI,[]))with
     | none=>rw[z]at h;cases h
     | some g2 =>
      rw[z]at h;cases h;obtain⟨a1,a2,a3,a4⟩:=oT G n e g1 e1;obtain⟨b1,b2,b3⟩:=ih g2 z;refine⟨fun H₀ ae=>O7 (a1 H₀ ae) (b1 H₀ ae) (by rw[a4];rfl),LI a2 b2,fun env=>?_⟩
      rw[a4];obtain⟨c1,c2⟩:=b3 env;exact⟨by rw[bA,bA,c1],by rw[List.findIdx?_cons];simp[c2]⟩
   have h:(es.foldr (fun e r=>(yQ n Γ e).bind fun g=>r.map fun gs=>(aw g.1 gs.1,g.2++gs.2)) (some (cI,[]))).map (fun gs=>(cM es.length gs.1,gs.2))=some g:=h
   cases z:es.foldr (fun e r=>(yQ n Γ e).bind fun g=>r.map fun gs=>(aw g.1 gs.1,g.2++gs.2)) (some (cI,[]))with
   | none=>rw[z]at h;cases h
   | some gs =>
    rw[z]at h;cases h;obtain⟨b1,b2,b3⟩:=all es gs z;exact⟨fun H₀ ae=>X3 G.calm (b1 H₀ ae) (b3 _).1 (b3 _).2,Uw b2,fun _=>rfl,fun _ _=>rfl⟩
  | _=>cases h
end
def EI(x:Str):Option (az->b8) :=
 if x==("len":Str)then some cZ
 else if x==("tuple":Str)then some mJ
 else if x==("list":Str)then some LW
 else if x==("int":Str)then some yB
 else if x==("sum":Str)then some Er
 else if x==("str":Str)then some Bm
 else if x==("sorted":Str)then some GJ
 else none
def yR(x:Str):List ao->Option (Str×List ao)
 | [.Call (.Name z _) [.List l _] [] _]=>if(x==("sorted":Str)&&z==("set":Str))=true then some (z,l)else none
 | _=>none
theorem yS{x:Str}{es:List ao}{z:Str}{l:List ao}(h:yR x es=some (z,l)):x="sorted"/\z="set"/\∃p lp pos,es=[.Call (.Name z p) [.List l lp] [] pos]:=by
 unfold yR at h;split at h
 ·split at h
  ·rename_i hc;cases h;rw[aZ]at hc;exact⟨b6 hc.1,b6 hc.2,_,_,_,rfl⟩
  ·cases h
 ·cases h
def yT(x:Str):List ao->Option (Str×ao×List ao)
 | [.Call (.Name z _) (b::bs) [] _]=>if(x==("list":Str)&&z==("range":Str))=true then some (z,b,bs)else none
 | _=>none
theorem yU{x:Str}{es:List ao}{z:Str}{b:ao}{bs:List ao}(h:yT x es=some (z,b,bs)):x="list"/\z="range"/\∃p pos,es=[.Call (.Name z p) (b::bs) [] pos]:=by
 unfold yT at h;split at h
 ·split at h
  ·rename_i hc;cases h;rw[aZ]at hc;exact⟨b6 hc.1,b6 hc.2,_,_,rfl⟩
  ·cases h
 ·cases h
noncomputable def m8(scope:Scope):List Str:=(scope.names.filter fun y=>match y.2 with | .local=>true | .free=>true | _=>false).map (·.1)
def jo(Γ:Gm)(scope:Scope):List (Option Nat):=(m8 scope).map fun x=>match scope.names.lookup x with | some .free=>slot Γ x | _=>none
def EJ(Γ:Gm)(scope:Scope):List (Str×NameKind):=scope.names.map fun(n,k)=>if(k==NameKind.free&&Γ.sc.lookup n==some .cell)then(n,NameKind.cell)else(n,k)
def Bx(Γ:Gm)(scope:Scope):Gm:={Γ with sc:=EJ Γ scope,N:=m8 scope,chg:=[],own:=false,Ac:=false}
def yV:ScopeKind->Bool
 | .function=>true
 | _=>false
def uD(Γ:Gm)(scope:Scope)(L:List Nat):Bool :=
 yV scope.kind&&scope.names.all (fun y=>match y.2 with
  | .cell=>false
  | .local=>(match scope.names.lookup y.1 with | some .local=>true | _=>false)
  | .free=>(match Γ.sc.lookup y.1 with | some .cell=>true | some .free=>true | _=>false)
  | _=>true)&&decide (m8 scope).Nodup&&L.all fun i=>match(jo Γ scope)[i]? with | some none=>true | _=>false
def yW:Arguments->Option (Str×Pos)
 | ⟨[],[⟨x,none,ap⟩],none,[],[],none,[]⟩=>some (x,ap)
 | _=>none
noncomputable def isFree(k:Option NameKind):Bool:=match k with | some .free=>true | _=>false
def yX(scope:Scope):List Str:=(scope.names.filter fun y=>isFree (some y.2)).map (·.1)
def rV(Γ:Gm)(scope:Scope):List (Option Nat):=(yX scope).map (slot Γ)
def YO(Γ:Gm)(x:Str)(scope:Scope):Gm:={Γ with sc:=scope.names,N:=x::yX scope,chg:=[],own:=false,Ac:=false,cls:=[]}
def Mw(Γ:Gm)(x:Str)(scope:Scope):Bool :=
 yV scope.kind&&!scope.isCoroutine&&!scope.isGenerator&&(match scope.names.lookup x with | some .local=>true | _=>false)&&scope.names.all (fun y=>match y.2 with
  | .cell=>false
  | .free=>(match Γ.sc.lookup y.1 with | some .cell=>true | some .free=>true | _=>false)&&isFree (scope.names.lookup y.1)
  | _=>true)&&decide (x::yX scope).Nodup
def Mx(Γ:Gm)(x:Str)(f:FE):FE:=if(x==("len":Str)&&!Γ.chg.isEmpty)=true then hV f else f
theorem Qr{Γ:Gm}{X:Cx}{x:Str}{e:ao}{f:FE}{H₀ ae:Hp}(h:PE X e (tE X.K H₀ ae f)):PE X e (tE X.K H₀ ae (Mx Γ x f)):=by
 unfold Mx;split
 ·exact LN h
 ·exact h
def isQ:ao->Bool
 | .Attribute _ _ _=>true
 | .Call (.Name _ _) (_::_) [] _=>true
 | .Call (.Subscript _ _ _) (_::_) [] _=>true
 | .Subscript (.Name _ _) _ _=>true
 | _=>false
def GZ:ao->Option (Option ao×Option ao)
 | .Slice lo hi none _=>some (lo,hi)
 | _=>none
theorem yY{e:ao}{lo hi:Option ao}(h:GZ e=some (lo,hi)):∃p,e=.Slice lo hi none p:=by
 cases e<;>first | (cases h;done) | skip
 rename_i a b c p;cases c<;>first | (cases h;done) | skip
 cases h;exact⟨p,rfl⟩
mutual
noncomputable def dE:Nat->Gm->ao->Option FE
 | 0,_,_=>none
 | n+1,Γ,e=>match(match isQ e with | true=>Qs n Γ e | false=>none)with | some f=>some f | none=>match e with
  | .Constant (.int i) _ _=>some fun _=>some (.int i)
  | .Constant (.bool i) _ _=>some fun _=>some (.bl i)
  | .Constant .none _ _=>some fun _=>some .df
  | .Constant (.str i) _ _=>some fun _=>some (.str i)
  | .Name x _=>if fq x=true then(if JZ Γ x=true then(slot Γ x).map rd else if EG Γ x=true then(Γ.cons.lookup x).map fun p=>fun _=>some p else none)else none
  | .BinOp a op b _=>(UA op).bind fun g=>(dE n Γ a).bind fun fa=>(dE n Γ b).map fun fb=>ab fa fb g
  | .UnaryOp .Not a _=>(dE n Γ a).map A7
  | .UnaryOp .USub a _=>(dE n Γ a).map Iu
  | .BoolOp op vs _=>My n Γ op vs
  | .Compare a [op] [b] _=>if c6 b=true then(Eo op).bind fun g=>(dE n Γ a).bind fun fa=>(dE n Γ b).map fun fb=>ab fa fb g else none
  | .Compare a [op,ye] [b,c] _=>if c6 c=true then(Eo op).bind fun g=>(Eo ye).bind fun g'=>(dE n Γ a).bind fun fa=>(dE n Γ b).bind fun fb=>(dE n Γ c).map fun fc=>chain fa fb fc g g' else none
  | .IfExp c a b _=>(vG n Γ c).bind fun gc=>(dE n Γ a).bind fun fa=>(dE n Γ b).map fun fb=>rn gc fa fb
  | .Tuple es _ _=>(oU n Γ es).map bh
  | .List es _=>(oU n Γ es).map fun ts=>bI (cH ts)
  | .Subscript a b _=>(match GZ b with
   | some (lo,hi)=>(dE n Γ a).bind fun fa=>(IL n Γ lo).bind fun fl=>(IL n Γ hi).map fun fh=>cutE fa fl fh
   | none=>if oR b=true then(dE n Γ a).bind fun fa=>(dE n Γ b).map fun fb=>ab fa fb aF else none)
  | .ListComp elt [⟨tg,iter,ifs,0⟩] scope _=>(Mz n Γ elt tg iter ifs scope).map bI
  | .Call (.Name x _) (a::es) [] _=>if(fq x&&EG Γ x&&(a::es).all c6)=true then(match Γ.fns.lookup x with
    | some m=>(oU n Γ (a::es)).map fun ts=>ay (aM m (Γ.call x)) ts
    | none=>if Γ.eQ.contains x=true then(if x==("isinstance":Str)then MA n Γ (a::es)else match yR x (a::es)with
     | some (z,l)=>if(EG Γ z&&Γ.eQ.contains z)=true then(oU n Γ l).map Mf else none
     | none=>match yT x (a::es)with
     | some (z,b,bs)=>if(EG Γ z&&Γ.eQ.contains z&&(b::bs).all c6)=true then(oU n Γ (b::bs)).map fun ts=>bI (lrg ts)else none
     | none=>(EI x).bind fun g=>(oU n Γ (a::es)).map fun ts=>Mx Γ x (cf g ts))else none)else none
  | .Call (.Subscript (.Name T _) ke _) (a::es) [] _=>if(fq T&&EG Γ T&&oR ke&&(a::es).all c6)=true then(Γ.tabs.lookup T).bind fun ck=>(dE n Γ ke).bind fun fk=>(oU n Γ (a::es)).map fun ts=>Iy ck Γ.fns Γ.call fk ts else none
  | _=>none
noncomputable def Qs:Nat->Gm->ao->Option FE
 | 0,_,_=>none
 | n+1,Γ,e=>match e with
  | .Call (.Name x _) (a::es) [] _=>G0 n Γ x a es
  | .Subscript (.Name T _) ke _=>if(fq T&&oR ke)=true then(if(JZ Γ T&&Γ.RD.contains T)=true then(slot Γ T).bind fun i=>(dE n Γ ke).map fun fk=>getD i fk else if(JZ Γ T&&Γ.chg.contains T)=true then(slot Γ T).bind fun i=>(dE n Γ ke).map fun fk=>YF i fk else none)else none
  | _=>none
noncomputable def G0:Nat->Gm->Str->ao->List ao->Option FE
 | 0,_,_,_,_=>none
 | n+1,Γ,x,a,es=>match es with
  | [.Lambda args body scope _]=>if(x==("spread":Str)&&EG Γ x&&Γ.Ac&&c6 a)=true then(yW args).bind fun xa=>if Mw Γ xa.1 scope=true then(dE n Γ a).bind fun fe=>(dE n (YO Γ xa.1 scope) body).map fun fb=>bI (kR fe fb (rV Γ scope))else none else none
  | _=>none
noncomputable def MB:Nat->Gm->ao->Option YE
 | 0,_,_=>none
 | n+1,Γ,e=>none
noncomputable def vG:Nat->Gm->ao->Option fA
 | 0,_,_=>none
 | n+1,Γ,e=>match e with
  | .UnaryOp .Not a _=>(vG n Γ a).map kl
  | .BoolOp op vs _=>MC n Γ op vs
  | .Compare a [op] [b] _=>if c6 b=true then(Eo op).bind fun g=>(dE n Γ a).bind fun fa=>(dE n Γ b).map fun fb=>toB (ab fa fb g)else none
  | .Compare a [op,ye] [b,c] _=>if c6 c=true then(Eo op).bind fun g=>(Eo ye).bind fun g'=>(dE n Γ a).bind fun fa=>(dE n Γ b).bind fun fb=>(dE n Γ c).map fun fc=>toB (chain fa fb fc g g')else none
  | e=>if Mt e=true then(dE n Γ e).map toB else none
noncomputable def My:Nat->Gm->BoolOp->List ao->Option FE
 | 0,_,_,_=>none
 | n+1,Γ,op,[a]=>dE n Γ a
 | n+1,Γ,.And,a::b::r=>(dE n Γ a).bind fun fa=>(My n Γ .And (b::r)).map fun fb=>oA fa fb
 | n+1,Γ,.Or,a::b::r=>(dE n Γ a).bind fun fa=>(My n Γ .Or (b::r)).map fun fb=>Yo fa fb
 | _,_,_,_=>none
noncomputable def MC:Nat->Gm->BoolOp->List ao->Option fA
 | 0,_,_,_=>none
 | n+1,Γ,op,[a]=>vG n Γ a
 | n+1,Γ,.And,a::b::r=>(vG n Γ a).bind fun fa=>(MC n Γ .And (b::r)).map fun fb=>gS fa fb
 | n+1,Γ,.Or,a::b::r=>(vG n Γ a).bind fun fa=>(MC n Γ .Or (b::r)).map fun fb=>Ab fa fb
 | _,_,_,_=>none
noncomputable def oU:Nat->Gm->List ao->Option cg
 | 0,_,_=>none
 | n+1,Γ,[]=>some ah
 | n+1,Γ,e::es=>if c6 e=true then(dE n Γ e).bind fun f=>(oU n Γ es).map fun fs=>aa f fs else none
noncomputable def IL:Nat->Gm->Option ao->Option FO
 | 0,_,_=>none
 | n+1,Γ,none=>some Pu
 | n+1,Γ,some e=>(dE n Γ e).map lh
noncomputable def MA:Nat->Gm->List ao->Option FE
 | 0,_,_=>none
 | n+1,Γ,[a,.Name t _]=>if(fq t&&EG Γ t&&Γ.eQ.contains t)=true then(GF t).bind fun g=>(dE n Γ a).map fun fa=>Se g fa else none
 | _,_,_=>none
noncomputable def MD:Nat->Gm->ao->ao->Option cg
 | 0,_,_,_=>none
 | n+1,Γ,tg,e=>match e with
  | .Call (.Name x _) [a] [] _=>if(x==("range":Str)&&EG Γ x&&Γ.eQ.contains x&&c6 a)=true then(oU n Γ [a]).map ip
    else if(x==("enumerate":Str)&&EG Γ x&&Γ.eQ.contains x&&c6 a&&Si tg)=true then(dE n Γ a).map mZ
    else(dE n Γ e).map dD
  | e=>if c6 e=true then(dE n Γ e).map dD else none
noncomputable def Mz:Nat->Gm->ao->ao->ao->List ao->Scope->Option cg
 | 0,_,_,_,_,_,_=>none
 | n+1,Γ,elt,tg,iter,ifs,scope=>if c6 iter=true then(MD n Γ tg iter).bind fun fi=>(yQ n (Bx Γ scope) tg).bind fun g=>if uD Γ scope g.2=true then(match ifs with
   | []=>(dE n (Bx Γ scope) elt).map fun fe=>dX (jo Γ scope) fi g.1 fe
   | [c]=>(vG n (Bx Γ scope) c).bind fun ft=>(dE n (Bx Γ scope) elt).map fun fe=>fP (jo Γ scope) fi g.1 ft fe
   | _=>none)else none else none
end
theorem jq{x:Str}(h:fq x=true):(x==("__debug__":Str))=false/\(x==("__classdict__":Str))=false/\x≠"__name__":=by
 unfold fq at h;simp only[aZ,xK]at h;exact⟨h.1.1,h.1.2,by simpa using h.2⟩
theorem aB{α β:Type}{o:Option α}{f:α->β}{b:β}(h:o.map f=some b):∃a,o=some a/\f a=b:=by
 cases o with
 | none=>cases h
 | some a=>exact⟨a,rfl,bW h⟩
structure Snd (n:Nat):Prop where
 e:∀Γ X e f,GOk Γ X->dE n Γ e=some f->∀H₀ ae,PE X e (tE X.K H₀ ae f)
 q:∀Γ X e f,GOk Γ X->Qs n Γ e=some f->∀H₀ ae,PE X e (tE X.K H₀ ae f)
 sp:∀Γ X x a es f p pos,GOk Γ X->G0 n Γ x a es=some f->∀H₀ ae,PE X (.Call (.Name x p) (a::es) [] pos) (tE X.K H₀ ae f)
 ob:∀Γ X e f,GOk Γ X->MB n Γ e=some f->∀H₀ ae,PE X e (tO X.K H₀ ae f)
 t:∀Γ X e f,GOk Γ X->vG n Γ e=some f->∀H₀ ae,PT X e (tT X.K H₀ ae f)
 b:∀Γ X op vs f pos,GOk Γ X->My n Γ op vs=some f->∀H₀ ae,PE X (.BoolOp op vs pos) (tE X.K H₀ ae f)
 w:∀Γ X op vs f pos,GOk Γ X->MC n Γ op vs=some f->∀H₀ ae,PW X (.BoolOp op vs pos) (tT X.K H₀ ae f)
 a:∀Γ X es f,GOk Γ X->oU n Γ es=some f->(∀H₀ ae,PA X es (tA X.K H₀ ae f))/\es.all c6=true
 o:∀Γ X e f,GOk Γ X->IL n Γ e=some f->∀H₀ ae,PO X e (Bi X.K H₀ ae f)
 is:∀Γ X es f p pos,GOk Γ X->MA n Γ es=some f->EG Γ "isinstance"=true->Γ.eQ.contains "isinstance"=true->es.all c6=true->∀H₀ ae,PE X (.Call (.Name "isinstance" p) es [] pos) (tE X.K H₀ ae f)
 i:∀Γ X tg e f,GOk Γ X->MD n Γ tg e=some f->(∀H₀ ae,PI X tg e (tI X.K H₀ ae f))/\∀x,foldedSetIterable e X.env x=pure x
 c:∀Γ X elt tg iter ifs scope f,GOk Γ X->Mz n Γ elt tg iter ifs scope=some f->(∀H₀ ae pos,PE X (.ListComp elt [⟨tg,iter,ifs,0⟩] scope pos) (tF X.K H₀ ae f)) /\
  ∀H₀ ae i x pos iz vz,X.N[i]?=some x->X.env.scope.names.lookup x=some .local->swapsWith (.ListComp elt [⟨tg,iter,ifs,0⟩] scope pos) (some (.Name x iz)) vz.line X.env=pure true ->
   ∃t:TE,(∀σ H Q,tF X.K H₀ ae f σ H Q->t σ H Q)/\PS X (.Assign [.Name x iz] (.ListComp elt [⟨tg,iter,ifs,0⟩] scope pos) vz) (ri t (gName i))
set_option maxHeartbeats 4000000 in
theorem Vj{X:Cx}{x:Str}{g:az->b8}{a:ao}{es:List ao}{ts:cg}{p pos:Pos}{H₀ ae:Hp}(h:EI x=some g)(hc:X.calm=true)(hh:X.A.handled=none)(hg:Gl X x)(hm:X.mg x=none)(ha:PA X (a::es) (tA X.K H₀ ae ts))
  (he:starEach (a::es) X.env=(false,eval a X.env)::starEach es X.env) (pI:(backTo pos (starEach es X.env)).any (·.1)=false):PE X (.Call (.Name x p) (a::es) [] pos) (tE X.K H₀ ae (cf g ts)):=by
 unfold EI at h;split at h
 ·rename_i e;cases h;have e:=b6 e;subst e;exact(lN Im hg hm PySem.boot_len ha (by decide) (by decide) he pI).imp fun _ _ _ h=>kP h
 ·split at h
  ·rename_i e;cases h;have e:=b6 e;subst e;exact(ki (T:="tuple") Io hg hm (kQ .tuple) ha (by decide) (by decide) he pI).imp fun _ _ _ h=>kP h
  ·split at h
   ·rename_i e;cases h;have e:=b6 e;subst e;exact(ki (T:="list") Ip hg hm (kQ .list) ha (by decide) (by decide) he pI).imp fun _ _ _ h=>kP h
   ·split at h
    ·rename_i e;cases h;have e:=b6 e;subst e;exact(ki (T:="int") Iq hg hm (kQ .int) ha (by decide) (by decide) he pI).imp fun _ _ _ h=>kP h
    ·split at h
     ·rename_i e;cases h;have e:=b6 e;subst e;exact(lN (id:="sum") (Ir hh) hg hm boot_sum ha (by decide) (by decide) he pI).imp fun _ _ _ h=>kP h
     ·split at h
      ·rename_i e;cases h;have e:=b6 e;subst e;exact(ki (T:="str") IB hg hm (kQ .str) ha (by decide) (by decide) he pI).imp fun _ _ _ h=>kP h
      ·split at h
       ·rename_i e;cases h;have e:=b6 e;subst e;exact(lN (id:="sorted") Ex hg hm boot_sorted ha (by decide) (by decide) he pI).imp fun _ _ _ h=>kP h
       ·cases h
section
variable {Γ:Gm} {X:Cx} {scope:Scope} {L:List Nat}
theorem oV(h:uD Γ scope L=true):scope.kind=.function/\(∀y∈scope.names,(match y.2 with
  | .cell=>false
  | .local=>(match scope.names.lookup y.1 with | some .local=>true | _=>false)
  | .free=>(match Γ.sc.lookup y.1 with | some .cell=>true | some .free=>true | _=>false)
  | _=>true)=true)/\(m8 scope).Nodup/\∀i∈L,(jo Γ scope)[i]?=some none:=by
 unfold uD at h;simp only[aZ,gu,kB]at h;obtain⟨⟨⟨h1,h2⟩,h3⟩,h4⟩:=h;refine⟨?_,h2,h3,fun i hi=>?_⟩
 ·unfold yV at h1;split at h1
  ·assumption
  ·cases h1
 ·have:=h4 i hi;split at this
  ·assumption
  ·cases this
theorem EK(G:GOk Γ X)(h:uD Γ scope L=true):iq X (m8 scope) (jo Γ scope) scope:=by
 obtain⟨h1,h2,h3,h4⟩:=oV h;refine⟨h1,fun y hy z=>?_,fun y hy z=>?_,fun y hy z=>?_,by unfold jo;rw[aE],fun i j x hl hx=>?_⟩
 ·have:=h2 y hy;rw[z]at this;cases this
 ·have:=h2 y hy;rw[z]at this;simp only at this;split at this
  ·assumption
  ·cases this
 ·have:=h2 y hy;rw[z]at this;simp only at this;show X.env.scope.names.lookup y.1=_\/X.env.scope.names.lookup y.1=_;rw[G.names];split at this
  ·exact .inl (by assumption)
  ·exact .inr (by assumption)
  ·cases this
 ·unfold jo at hl;rw[cu,hx]at hl;have hl:(match scope.names.lookup x with | some .free=>slot Γ x | _=>none)=some j:=bW hl
  split at hl
  ·exact⟨G.l7 hl,by assumption⟩
  ·cases hl
theorem ME(G:GOk Γ X)(h:uD Γ scope L=true)(C:af)(s:av)(H:Hp)(fp:List af):GOk (Bx Γ scope) (dq X (m8 scope) scope C s H fp) where
 names:=by
  show(relabel scope X.env).names=EJ Γ scope;have e:∀n,X.env.kindOf n=Γ.sc.lookup n:=fun n=>by show X.env.scope.names.lookup n=_;rw[G.names]
  unfold EJ relabel;simp only[G.kind,e]
  congr 1
  funext y
  obtain⟨n,k⟩:=y;simp
 N:=rfl
 nd:=(oV h).2.2.1
 kind:=by
  show(relabel scope X.env).kind=_;exact(oV h).1
 calm:=G.calm
 hd:=G.hd
 un:=G.un
 own:=fun z=>by cases z
 fns:=G.fns
 cons:=G.cons
 eQ:=G.eQ
 excs:=G.excs
 subs:=G.subs
 tabs:=G.tabs
 yN:=⟨G.yN.IK,G.yN.ns,G.yN.cls,G.yN.gB,fun z=>by cases z⟩
end
theorem MF:Snd 0 where
 e:=fun _ _ _ _ _ h=>by cases h
 q:=fun _ _ _ _ _ h=>by cases h
 sp:=fun _ _ _ _ _ _ _ _ _ h=>by cases h
 ob:=fun _ _ _ _ _ h=>by cases h
 t:=fun _ _ _ _ _ h=>by cases h
 b:=fun _ _ _ _ _ _ _ h=>by cases h
 w:=fun _ _ _ _ _ _ _ h=>by cases h
 a:=fun _ _ _ _ _ h=>by cases h
 o:=fun _ _ _ _ _ h=>by cases h
 is:=fun _ _ _ _ _ _ _ h=>by cases h
 i:=fun _ _ _ _ _ _ h=>by cases h
 c:=fun _ _ _ _ _ _ _ _ _ h=>by cases h
section
variable {n:Nat} (S:Snd n)
include S
theorem YQ(Γ:Gm)(X:Cx)(op:BoolOp)(vs:List ao)(f:FE)(pos:Pos)(G:GOk Γ X)(h:My (n+1) Γ op vs=some f)(H₀ ae:Hp):PE X (.BoolOp op vs pos) (tE X.K H₀ ae f):=by
 match op,vs,h with
 | op,[a],h=>exact To (S.e Γ X a f G h H₀ ae)
 | .And,a::b::r,h =>
  obtain⟨fa,h1,h⟩:=aD h;obtain⟨fb,h2,rfl⟩:=aB h;exact XZ (S.e Γ X a fa G h1 H₀ ae) (S.b Γ X .And (b::r) fb pos G h2 H₀ ae)
 | .Or,a::b::r,h =>
  obtain⟨fa,h1,h⟩:=aD h;obtain⟨fb,h2,rfl⟩:=aB h;exact Yp (S.e Γ X a fa G h1 H₀ ae) (S.b Γ X .Or (b::r) fb pos G h2 H₀ ae)
theorem YR(Γ:Gm)(X:Cx)(op:BoolOp)(vs:List ao)(f:fA)(pos:Pos)(G:GOk Γ X)(h:MC (n+1) Γ op vs=some f)(H₀ ae:Hp):PW X (.BoolOp op vs pos) (tT X.K H₀ ae f):=by
 match op,vs,h with
 | .And,[a],h=>exact Ul (S.t Γ X a f G h H₀ ae)
 | .Or,[a],h=>exact XW (S.t Γ X a f G h H₀ ae)
 | .And,a::b::r,h =>
  obtain⟨fa,h1,h⟩:=aD h;obtain⟨fb,h2,rfl⟩:=aB h;exact XX (S.t Γ X a fa G h1 H₀ ae) (S.w Γ X .And (b::r) fb pos G h2 H₀ ae)
 | .Or,a::b::r,h =>
  obtain⟨fa,h1,h⟩:=aD h;obtain⟨fb,h2,rfl⟩:=aB h;exact acT (S.t Γ X a fa G h1 H₀ ae) (S.w Γ X .Or (b::r) fb pos G h2 H₀ ae)
theorem YS(Γ:Gm)(X:Cx)(es:List ao)(f:cg)(G:GOk Γ X)(h:oU (n+1) Γ es=some f):(∀H₀ ae,PA X es (tA X.K H₀ ae f))/\es.all c6=true:=by
 match es,h with
 | [],h =>
  cases h;exact⟨fun _ _=>Gr,rfl⟩
 | e::es,h =>
  obtain⟨hp,h⟩:=aQ h;obtain⟨fa,h1,h⟩:=aD h;obtain⟨fb,h2,rfl⟩:=aB h;obtain⟨k1,k2⟩:=S.a Γ X es fb G h2;exact⟨fun H₀ ae=>ug (S.e Γ X e fa G h1 H₀ ae) (k1 H₀ ae) (bQ hp _ _),by rw[jV,hp,k2];rfl⟩
theorem YT(Γ:Gm)(X:Cx)(e:Option ao)(f:FO)(G:GOk Γ X)(h:IL (n+1) Γ e=some f)(H₀ ae:Hp):PO X e (Bi X.K H₀ ae f):=by
 match e,h with
 | none,h=>cases h;exact LU
 | some e,h =>
  obtain⟨fa,h1,rfl⟩:=aB h;exact LV (S.e Γ X e fa G h1 H₀ ae)
theorem Vk(Γ:Gm)(X:Cx)(es:List ao)(f:FE)(p pos:Pos)(G:GOk Γ X)(h:MA (n+1) Γ es=some f)(hg:EG Γ "isinstance"=true)(hb:Γ.eQ.contains "isinstance"=true)(hp:es.all c6=true)(H₀ ae:Hp):PE X (.Call (.Name "isinstance" p) es [] pos) (tE X.K H₀ ae f):=by
 rcases es with _ | ⟨a,_ | ⟨b,_ | ⟨c,r⟩⟩⟩
 ·cases h
 ·cases h
 ·cases b<;>first | (cases h;done) | skip
  rename_i t p2;obtain⟨hc,h⟩:=aQ h;obtain⟨g,h1,h⟩:=aD h;obtain⟨fa,h2,rfl⟩:=aB h;simp only[aZ]at hc;rw[jV,aZ]at hp;exact ade h1 (G.nO hg) (G.eQ _ hb) (G.nO hc.1.2) (G.eQ _ hc.2) (S.e Γ X a fa G h2 H₀ ae) fun es=>bQ hp.1 es _
 ·cases b<;>cases h
theorem YU(Γ:Gm)(X:Cx)(elt tg iter:ao)(ifs:List ao)(scope:Scope)(f:cg)(G:GOk Γ X)(h:Mz (n+1) Γ elt tg iter ifs scope=some f):(∀H₀ ae pos,PE X (.ListComp elt [⟨tg,iter,ifs,0⟩] scope pos) (tF X.K H₀ ae f)) /\
  ∀H₀ ae i x pos iz vz,X.N[i]?=some x->X.env.scope.names.lookup x=some .local->swapsWith (.ListComp elt [⟨tg,iter,ifs,0⟩] scope pos) (some (.Name x iz)) vz.line X.env=pure true ->
   ∃t:TE,(∀σ H Q,tF X.K H₀ ae f σ H Q->t σ H Q)/\PS X (.Assign [.Name x iz] (.ListComp elt [⟨tg,iter,ifs,0⟩] scope pos) vz) (ri t (gName i)):=by
 obtain⟨hp,h⟩:=aQ h;obtain⟨fi,h1,h⟩:=aD h;obtain⟨g,h2,h⟩:=aD h;obtain⟨hc,h⟩:=aQ h;have SC:=EK G hc;have hL:=(oV hc).2.2.2;have GK:=ME G hc;obtain⟨i1,i2⟩:=S.i Γ X tg iter fi G h1;have hg:∀(C:af) (s:av) (H:Hp) (fp:List af) (H₀ ae:Hp),PG (dq X (m8 scope) scope C s H fp) tg (tG X.K H₀ ae g.1):=fun C s H fp H₀ ae=>(oT (GK C s H fp) n tg g h2).1 H₀ ae
 have kg:KG g.2 g.1:=(oT (GK 0 X.s₀ X.H₀ []) n tg g h2).2.1
 match ifs,h with
 | [],h =>
  obtain⟨fe,h3,rfl⟩:=aB h;have he:∀(C:af) (s:av) (H:Hp) (fp:List af) (H₀ ae:Hp),PE (dq X (m8 scope) scope C s H fp) elt (tE X.K H₀ ae fe):=fun C s H fp H₀ ae=>S.e _ _ elt fe (GK C s H fp) h3 H₀ ae
  refine⟨fun H₀ ae pos=>Ux G.calm SC (i1 H₀ ae) kg hL hg he i2,fun H₀ ae i x pos iz vz hx hl hw=>⟨_,fun σ H Q h=>lU kg hL h,Gy G.calm G.nd hx hl SC (i1 H₀ ae) (fun C s H fp=>yv fun b:Hp×Hp=>Ba (hg C s H fp b.1 b.2) (he C s H fp b.1 b.2)) hw i2⟩⟩
 | [c],h =>
  obtain⟨ft,h4,h⟩:=aD h;obtain⟨fe,h3,rfl⟩:=aB h;have he:∀(C:af) (s:av) (H:Hp) (fp:List af) (H₀ ae:Hp),PE (dq X (m8 scope) scope C s H fp) elt (tE X.K H₀ ae fe):=fun C s H fp H₀ ae=>S.e _ _ elt fe (GK C s H fp) h3 H₀ ae
  have ht:∀(C:af) (s:av) (H:Hp) (fp:List af) (H₀ ae:Hp),PT (dq X (m8 scope) scope C s H fp) c (tT X.K H₀ ae ft):=fun C s H fp H₀ ae=>S.t _ _ c ft (GK C s H fp) h4 H₀ ae
  refine⟨fun H₀ ae pos=>Pd G.calm SC (i1 H₀ ae) kg hL hg ht he i2,fun H₀ ae i x pos iz vz hx hl hw=>⟨_,fun σ H Q h=>mY kg hL h,Gy G.calm G.nd hx hl SC (i1 H₀ ae) (fun C s H fp=>yv fun b:Hp×Hp=>Gw (hg C s H fp b.1 b.2) (ht C s H fp b.1 b.2) (he C s H fp b.1 b.2)) hw i2⟩⟩
theorem YV(Γ:Gm)(X:Cx)(e:ao)(f:fA)(G:GOk Γ X)(h:vG (n+1) Γ e=some f)(H₀ ae:Hp):PT X e (tT X.K H₀ ae f):=by
 unfold vG at h;split at h
 ·obtain⟨fa,h1,rfl⟩:=aB h;exact XY (S.t Γ X _ fa G h1 H₀ ae)
 ·exact(S.w Γ X _ _ f _ G h H₀ ae).pt
 ·obtain⟨hp,h⟩:=aQ h;obtain⟨g,h1,h⟩:=aD h;obtain⟨fa,h2,h⟩:=aD h;obtain⟨fb,h3,rfl⟩:=aB h;exact XT (mn G.un h1) oF (S.e Γ X _ fa G h2 H₀ ae) (S.e Γ X _ fb G h3 H₀ ae) (jI hp _)
 ·obtain⟨hp,h⟩:=aQ h;obtain⟨g,h1,h⟩:=aD h;obtain⟨g',X7,h⟩:=aD h;obtain⟨fa,h2,h⟩:=aD h;obtain⟨fb,h3,h⟩:=aD h;obtain⟨fc,h4,rfl⟩:=aB h;exact O3 (mn G.un h1) oF (mn G.un X7) oF (S.e Γ X _ fa G h2 H₀ ae) (S.e Γ X _ fb G h3 H₀ ae) (S.e Γ X _ fc G h4 H₀ ae) (jI hp _)
 ·obtain⟨hp,h⟩:=aQ h;obtain⟨fa,h1,rfl⟩:=aB h;exact XU (S.e Γ X _ fa G h1 H₀ ae) fun jE=>Mu hp _ jE
end
theorem yZ{args:Arguments}{xa:Str×Pos}(h:yW args=some xa):args=nN xa.1 xa.2:=by
 unfold yW at h;split at h
 ·cases h;rfl
 ·cases h
theorem MG{scope:Scope}{i:Nat}{y:Str}(h:(yX scope)[i]?=some y):(y,NameKind.free)∈scope.names:=by
 have hm:=cQ h;unfold yX at hm;obtain⟨z,hz,rfl⟩:=bF.mp hm;obtain⟨h1,h2⟩:=jg.mp hz;obtain⟨n,k⟩:=z;cases k<;>first | exact h1 | cases h2
theorem IM{k:Option NameKind}(h:isFree k=true):k=some .free:=by
 unfold isFree at h;split at h
 ·rfl
 ·cases h
theorem IP{Γ:Gm}{X:Cx}{x:Str}{scope:Scope}(G:GOk Γ X)(h:Mw Γ x scope=true):uC X x (yX scope) (rV Γ scope) scope/\(x::yX scope).Nodup:=by
 unfold Mw at h;simp only[aZ]at h;obtain⟨⟨⟨⟨⟨h1,h2⟩,h3⟩,h4⟩,h5⟩,h6⟩:=h;have p5:=gu.mp h5;refine⟨⟨?_,by simpa using h2,by simpa using h3,?_,fun y hy z=>?_,fun y hy z=>?_,?_,fun i j y e1 e2=>?_⟩,jR h6⟩
 ·unfold yV at h1;split at h1
  ·assumption
  ·cases h1
 ·split at h4
  ·assumption
  ·cases h4
 ·have:=p5 y hy;rw[z]at this;cases this
 ·have:=p5 y hy;rw[z]at this;simp only[aZ]at this;have hk:X.env.kindOf y.1=Γ.sc.lookup y.1:=by show X.env.scope.names.lookup y.1=_;rw[G.names]
  rw[hk];have t:=this.1;split at t
  ·rename_i q;exact .inl q
  ·rename_i q;exact .inr q
  ·cases t
 ·unfold rV;rw[aE]
 ·have hm:=MG e2;have:=p5 _ hm;simp only[aZ]at this;refine⟨?_,IM this.2⟩;unfold rV at e1;rw[cu,e2]at e1;exact G.l7 (bW e1)
theorem Qt{Γ:Gm}{X:Cx}{x:Str}{scope:Scope}{k:Nat}(G:GOk Γ X)(hk:scope.kind=.function)(hn:(x::yX scope).Nodup)
  (hf:∀y n,Γ.fns.lookup y=some n->∃j f fd ps,j<=k/\FnOk X.prog X.w X.K X.mg X.base (mW X.prog X.w) j f fd ps (Eh X.K n (Γ.call y))/\X.mg y=some (.ref f)/\W.keepIn X.K (.ref f)=true/\gC X.K fd ps [])
  (ho:∀y n,Γ.IK.lookup y=some n->∃j f fd ps,j<=k/\FnOk X.prog X.w X.K X.mg X.base (mW X.prog X.w) j f fd ps (spO X.K n (Γ.qP y))/\X.mg y=some (.ref f)/\W.keepIn X.K (.ref f)=true/\gC X.K fd ps [])
  {qual:Str} {fa:af} {dR:ai} {cl:List (Str×af)} {A:bR} {stack:List Env} {s:av} {H:Hp} {E:XK} (hr:fm k (A.deeper (W.envX qual scope s.heap.objs.size fa dR cl))) :
  GOk (YO Γ x scope) (Wh (mW X.prog X.w) X.prog X.w X.K X.mg X.base (x::yX scope) qual scope fa dR cl A stack s H E) where
 names:=rfl
 N:=rfl
 nd:=hn
 kind:=hk
 calm:=rfl
 hd:=hr.hd
 un:=by
  have:=hr.un;show(A.deeper _).units+1150<cLine
  lia
 own:=fun z=>by cases z
 fns:=fun y n e=>let ⟨j,f,fd,ps,h1,h2,h3,h4,h5⟩:=hf y n e;⟨j,f,fd,ps,h2,hr.mono h1,h3,h4,h5⟩
 cons:=G.cons
 eQ:=G.eQ
 excs:=G.excs
 subs:=G.subs
 tabs:=G.tabs
 yN:=⟨fun y n e=>let ⟨j,f,fd,ps,h1,h2,h3,h4,h5⟩:=ho y n e;⟨j,f,fd,ps,h2,hr.mono h1,h3,h4,h5⟩,G.yN.ns,(fun C n e=>by cases e),G.yN.gB,(fun z=>by cases z)⟩
theorem ko{α:Type}{f:α}{C:Prop}(h:(none:Option α)=some f):C:=by cases h
theorem orQ{b:Bool}{q r:Option FE}{f:FE}(h:(match(match b with | true=>q | false=>none)with | some f=>some f | none=>r)=some f):q=some f\/r=some f:=by
 cases b
 ·exact .inr h
 ·cases q
  ·exact .inr h
  ·exact .inl h
section
variable {n:Nat} (S:Snd n)
include S
set_option maxHeartbeats 4000000 in
theorem YW(Γ:Gm)(X:Cx)(e:ao)(f:FE)(G:GOk Γ X)(h:dE (n+1) Γ e=some f)(H₀ ae:Hp):PE X e (tE X.K H₀ ae f):=by
 replace h:=orQ h;rcases h with hq | h
 ·exact S.q Γ X _ f G hq H₀ ae
 cases e<;>try exact ko h
 case BoolOp op vs p =>
  dsimp only at h
  exact S.b Γ X _ _ f _ G h H₀ ae
 case BinOp a op b p =>
  dsimp only at h
  obtain⟨g,h1,h⟩:=aD h;obtain⟨fa,h2,h⟩:=aD h;obtain⟨fb,h3,rfl⟩:=aB h;exact XR (Pq h1) oF (S.e Γ X _ fa G h2 H₀ ae) (S.e Γ X _ fb G h3 H₀ ae)
 case UnaryOp op a p =>
  cases op<;>first | exact ko h | dsimp only at h
  ·obtain⟨fa,h1,rfl⟩:=aB h;exact X0 (S.e Γ X _ fa G h1 H₀ ae)
  ·obtain⟨fa,h1,rfl⟩:=aB h;exact Sd (S.e Γ X _ fa G h1 H₀ ae)
 case IfExp c a b p =>
  dsimp only at h
  obtain⟨gc,h1,h⟩:=aD h;obtain⟨fa,h2,h⟩:=aD h;obtain⟨fb,h3,rfl⟩:=aB h;exact acU (S.t Γ X _ gc G h1 H₀ ae) (S.e Γ X _ fa G h2 H₀ ae) (S.e Γ X _ fb G h3 H₀ ae)
 case Compare a ops bs p =>
  rcases ops with _ | ⟨op,_ | ⟨op2,_ | ⟨op3,r⟩⟩⟩<;>rcases bs with _ | ⟨b,_ | ⟨c,_ | ⟨d,r2⟩⟩⟩<;>first | exact ko h | dsimp only at h
  ·obtain⟨hp,h⟩:=aQ h;obtain⟨g,h1,h⟩:=aD h;obtain⟨fa,h2,h⟩:=aD h;obtain⟨fb,h3,rfl⟩:=aB h;exact XS (mn G.un h1) oF (S.e Γ X _ fa G h2 H₀ ae) (S.e Γ X _ fb G h3 H₀ ae) (jI hp _)
  ·obtain⟨hp,h⟩:=aQ h;obtain⟨g,h1,h⟩:=aD h;obtain⟨g',X7,h⟩:=aD h;obtain⟨fa,h2,h⟩:=aD h;obtain⟨fb,h3,h⟩:=aD h;obtain⟨fc,h4,rfl⟩:=aB h;exact O2 (mn G.un h1) oF (mn G.un X7) oF (S.e Γ X _ fa G h2 H₀ ae) (S.e Γ X _ fb G h3 H₀ ae) (S.e Γ X _ fc G h4 H₀ ae) (jI hp _)
 case Call fn args MH p =>
  cases fn<;>try exact ko h
  case Name x px =>
   rcases args with _ | ⟨a,es⟩<;>rcases MH with _ | ⟨kw,MH⟩<;>first | exact ko h | dsimp only at h
   obtain⟨hc,h⟩:=aQ h;simp only[aZ]at hc;obtain⟨⟨hn,hg⟩,hp⟩:=hc;obtain⟨n1,n2,n3⟩:=jq hn;have AZ:=hp;rw[jV,aZ]at AZ;split at h
   ·rename_i m hm;obtain⟨ts,h1,rfl⟩:=aB h;obtain⟨k,fa,fd,ps,F,hr,q1,q2,q3⟩:=G.fns _ m hm;exact Uo F hr (G.nO hg) q1 q2 q3 ((S.a Γ X _ ts G h1).1 H₀ ae) n1 (bQ AZ.1 _ _) (iG AZ.2 _ _)
   ·obtain⟨hb,h5⟩:=aQ h;clear h;split at h5
    ·rename_i ex;have ex:=b6 ex;subst ex;exact S.is Γ X _ f _ _ G h5 hg hb hp H₀ ae
    split at h5
    ·rename_i z l hz;obtain⟨hc,h6⟩:=aQ h5;clear h5;rw[aZ]at hc;obtain⟨rfl,rfl,p1,lp,adT,he⟩:=yS hz;cases he;obtain⟨ts,h1,rfl⟩:=aB h6;exact U2 G.hd (G.nO hg) (G.eQ _ hb) (G.nO hc.1) (G.eQ _ hc.2) ((S.a Γ X _ ts G h1).1 H₀ ae)
    split at h5
    ·rename_i z b bs hz;obtain⟨hc,h6⟩:=aQ h5;clear h5;simp only[aZ]at hc;obtain⟨⟨z1,z2⟩,z3⟩:=hc;obtain⟨rfl,rfl,p1,adT,he⟩:=yU hz;cases he;obtain⟨ts,h1,rfl⟩:=aB h6;rw[jV,aZ]at z3;exact Gq (YC G.hd (G.nO hg) (G.eQ _ hb) (G.nO z1) (G.eQ _ z2) ((S.a Γ X _ ts G h1).1 H₀ ae) (bQ z3.1 _ _) (iG z3.2 _ _))
    ·obtain⟨g,h1,h⟩:=aD h5;obtain⟨ts,h2,rfl⟩:=aB h;refine Qr ?_;exact Vj h1 G.calm G.hd (G.nO hg) (G.eQ _ hb) ((S.a Γ X _ ts G h2).1 H₀ ae) (bQ AZ.1 _ _) (iG AZ.2 _ _)
  case Subscript te ke px =>
   cases te<;>try exact ko h
   rename_i T pt;rcases args with _ | ⟨a,es⟩<;>rcases MH with _ | ⟨kw,MH⟩<;>first | exact ko h | dsimp only at h
   obtain⟨hc,h⟩:=aQ h;simp only[aZ]at hc;obtain⟨⟨⟨hn,hg⟩,hk⟩,hp⟩:=hc;obtain⟨n1,n2,n3⟩:=jq hn;have AZ:=hp;rw[jV,aZ]at AZ;obtain⟨ck,h1,h⟩:=aD h;obtain⟨fk,h2,h⟩:=aD h;obtain⟨ts,h3,rfl⟩:=aB h;exact Yj (G.tabs _ ck h1) G.fns (G.nO hg) (S.e Γ X _ fk G h2 H₀ ae) (oS hk) ((S.a Γ X _ ts G h3).1 H₀ ae) n1 (bQ AZ.1 _ _) (iG AZ.2 _ _)
 case Constant c k p =>
  cases c<;>first | exact ko h | dsimp only at h
  ·cases h;exact XO
  ·cases h;exact acS
  ·cases h;exact RY
  ·cases h;exact XQ
 case Subscript a b p =>
  dsimp only at h
  split at h
  ·rename_i lo hi hs;obtain⟨ps,rfl⟩:=yY hs;obtain⟨fa,h1,h⟩:=aD h;obtain⟨fl,h2,h⟩:=aD h;obtain⟨fh,h3,rfl⟩:=aB h;exact Sb (S.e Γ X _ fa G h1 H₀ ae) (S.o Γ X _ fl G h2 H₀ ae) (S.o Γ X _ fh G h3 H₀ ae)
  ·
   obtain⟨hp,h⟩:=aQ h;obtain⟨fa,h2,h⟩:=aD h;obtain⟨fb,h3,rfl⟩:=aB h;exact Yg (S.e Γ X _ fa G h2 H₀ ae) (S.e Γ X _ fb G h3 H₀ ae) (oS hp)
 case Name x p =>
  dsimp only at h
  obtain⟨hn,h⟩:=aQ h;obtain⟨n1,n2,n3⟩:=jq hn;split at h
  ·rename_i hv;obtain⟨i,h1,rfl⟩:=aB h;exact A5 i (pe_var (G.l7 h1) (G.Qq hv) n1 n2)
  ·obtain⟨hg,h⟩:=aQ h;obtain⟨p,h1,rfl⟩:=aB h;obtain⟨u,v,g1,g2,g3⟩:=G.cons _ p h1;exact A6 (F7 (G.nO hg) g1 g2 n1) g3
 case List es p =>
  dsimp only at h
  obtain⟨ts,h1,rfl⟩:=aB h;exact Gq (Ly ((S.a Γ X _ ts G h1).1 H₀ ae))
 case Tuple es k p =>
  dsimp only at h
  obtain⟨ts,h1,rfl⟩:=aB h;exact RZ ((S.a Γ X _ ts G h1).1 H₀ ae)
 case ListComp elt gens scope p =>
  rcases gens with _ | ⟨⟨tg,iter,ifs,(_ | k) | k⟩,_ | ⟨g2,r⟩⟩<;>first | exact ko h | change Option.map bI (Mz n Γ elt tg iter ifs scope)=some f at h
  obtain⟨fc,h1,rfl⟩:=aB h;exact Gq ((S.c Γ X _ _ _ _ _ fc G h1).1 H₀ ae _)
theorem Vl(Γ:Gm)(X:Cx)(e:ao)(f:YE)(G:GOk Γ X)(h:MB (n+1) Γ e=some f)(H₀ ae:Hp):PE X e (tO X.K H₀ ae f):=by
 unfold MB at h;cases h
theorem Vm(Γ:Gm)(X:Cx)(x:Str)(a:ao)(es:List ao)(f:FE)(p pos:Pos)(G:GOk Γ X)(h:G0 (n+1) Γ x a es=some f)(H₀ ae:Hp):PE X (.Call (.Name x p) (a::es) [] pos) (tE X.K H₀ ae f):=by
 unfold G0 at h;split at h
 ·rename_i args body scope lp;obtain⟨hc,g⟩:=aQ h;clear h;simp only[aZ]at hc;obtain⟨⟨⟨c1,c2⟩,c3⟩,c4⟩:=hc;obtain rfl:=b6 c1;obtain⟨xa,h1,g⟩:=aD g;obtain⟨c5,g⟩:=aQ g;obtain⟨fe,h2,g⟩:=aD g;obtain⟨fb,h3,rfl⟩:=aB g;obtain rfl:=yZ h1;obtain⟨S1,hnd⟩:=IP G c5;obtain⟨⟨p',q',fs,fT,Mn,GU,k,D,hr,hf,ho⟩,L⟩:=G.yN.Ac c3;exact Gq (Mo D L (G.nO c2) hr (S.e Γ X _ fe G h2 H₀ ae) (bQ c4 _ _) S1 fun qual fa dR cl A stack s H Qk f9 hr'=>S.e _ _ _ fb (Qt G S1.kind hnd hf ho hr') h3 Qk f9)
 ·cases h
theorem YX(Γ:Gm)(X:Cx)(e:ao)(f:FE)(G:GOk Γ X)(h:Qs (n+1) Γ e=some f)(H₀ ae:Hp):PE X e (tE X.K H₀ ae f):=by
 unfold Qs at h;split at h
 ·exact S.sp Γ X _ _ _ _ _ _ G h H₀ ae
 ·obtain⟨hc,h⟩:=aQ h;rw[aZ]at hc;obtain⟨hn,hk⟩:=hc;obtain⟨n1,n2,n3⟩:=jq hn;split at h
  ·rename_i hv;rw[aZ]at hv;obtain⟨i,h1,h⟩:=aD h;obtain⟨fk,h2,rfl⟩:=aB h;exact Vg (pe_var (G.l7 h1) (G.Qq hv.1) n1 n2) (S.e Γ X _ fk G h2 H₀ ae) (oS hk)
  ·obtain⟨hv,h⟩:=aQ h;rw[aZ]at hv;obtain⟨i,h1,h⟩:=aD h;obtain⟨fk,h2,rfl⟩:=aB h;exact Mg (pe_var (G.l7 h1) (G.Qq hv.1) n1 n2) (S.e Γ X _ fk G h2 H₀ ae) (oS hk)
 ·cases h
theorem YY(Γ:Gm)(X:Cx)(tg e:ao)(f:cg)(G:GOk Γ X)(h:MD (n+1) Γ tg e=some f):(∀H₀ ae,PI X tg e (tI X.K H₀ ae f))/\∀x,foldedSetIterable e X.env x=pure x:=by
 unfold MD at h;split at h
 ·split at h
  ·rename_i hc;obtain⟨ts,h1,rfl⟩:=aB h;simp only[aZ]at hc;obtain⟨⟨⟨hx,hg⟩,hb⟩,hp⟩:=hc;have hx:=b6 hx;subst hx;exact⟨fun H₀ ae=>O9 (G.nO hg) (G.eQ _ hb) ((S.a Γ X _ ts G h1).1 H₀ ae) (bQ hp _ _),fun _=>rfl⟩
  ·split at h
   ·rename_i hc;obtain⟨fa,h1,rfl⟩:=aB h;simp only[aZ]at hc;obtain⟨⟨⟨⟨hx,hg⟩,hb⟩,hp⟩,ht⟩:=hc;have hx:=b6 hx;subst hx;exact⟨fun H₀ ae=>adi ht (G.nO hg) (G.eQ _ hb) (S.e Γ X _ fa G h1 H₀ ae) (bQ hp _ _),fun _=>rfl⟩
   obtain⟨fe,h1,rfl⟩:=aB h;exact⟨fun H₀ ae=>R8 (S.e Γ X _ fe G h1 H₀ ae),fun _=>rfl⟩
 ·obtain⟨hp,h⟩:=aQ h;obtain⟨fe,h1,rfl⟩:=aB h;exact⟨fun H₀ ae=>R8 (S.e Γ X _ fe G h1 H₀ ae),fun x=>EH hp _ x⟩
end
theorem snd:∀n:Nat,Snd n
 | 0=>MF
 | n+1 =>
  have S:=snd n
  ⟨YW S,YX S,Vm S,Vl S,YV S,YQ S,YR S,YS S,YT S,Vk S,YY S,YU S⟩
def Qu:PV->PV->b8
 | .int i,.int j=>some (.int (i+j))
 | _,_=>none
def YZ:PV->PV->b8
 | .int i,.int j=>some (.int (i-j))
 | _,_=>none
def MI:Operator->Option (PV->PV->b8)
 | .Add=>some Qu
 | .Sub=>some YZ
 | _=>none
noncomputable def fE:Nat->List Str->ao->List Str
 | 0,_,_=>[]
 | n+1,M,e=>match e with
  | .Name x _=>if M.contains x then [x]else []
  | .BinOp a _ b _=>fE n M a++fE n M b
  | .UnaryOp _ a _=>fE n M a
  | .BoolOp _ vs _=>vs.flatMap (fE n M)
  | .Compare a _ bs _=>fE n M a++bs.flatMap (fE n M)
  | .IfExp c a b _=>fE n M c++fE n M a++fE n M b
  | .Tuple es _ _=>es.flatMap (fE n M)
  | .List es _=>es.flatMap (fE n M)
  | .Subscript a b _=>fE n M a++fE n M b
  | .Slice lo hi _ _=>(lo.toList++hi.toList).flatMap (fE n M)
  | .ListComp elt gens _ _=>fE n M elt++gens.flatMap fun g=>fE n M g.iter++g.ifs.flatMap (fE n M)
  | .Call (.Name l _) [.Name x _] [] _=>if l==("len":Str)then []else if M.contains x then [x]else []
  | .Call f args MH _=>fE n M f++args.flatMap (fE n M)++MH.flatMap fun k=>fE n M k.value
  | _=>[]
def gG:Nat->List Str->ao->List Str
 | 0,_,_=>[]
 | n+1,M,e=>match e with
  | .Name x _=>if M.contains x then [x]else []
  | .BinOp a _ b _=>gG n M a++gG n M b
  | .UnaryOp _ a _=>gG n M a
  | .BoolOp _ vs _=>vs.flatMap (gG n M)
  | .Compare a _ bs _=>gG n M a++bs.flatMap (gG n M)
  | .IfExp c a b _=>gG n M c++gG n M a++gG n M b
  | .Tuple es _ _=>es.flatMap (gG n M)
  | .List es _=>es.flatMap (gG n M)
  | .Subscript (.Name _ _) (.Slice lo hi st sp) _=>fE n M e
  | .Subscript (.Name _ _) b _=>gG n M b
  | .Subscript a b _=>gG n M a++gG n M b
  | .Slice lo hi _ _=>(lo.toList++hi.toList).flatMap (gG n M)
  | .ListComp elt gens _ _=>fE n M elt++gens.flatMap fun g=>gG n M g.iter++g.ifs.flatMap (fE n M)
  | .Call (.Name l _) [.Name x _] [] _=>if l==("len":Str)then []else if M.contains x then [x]else []
  | .Call f args MH _=>gG n M f++args.flatMap (gG n M)++MH.flatMap fun k=>gG n M k.value
  | _=>[]
def dr(n:Nat)(Γ:Gm)(e:ao):List Nat:=(gG n Γ.chg e).filterMap (slot Γ)
def jJ(L:List Nat)(f:FS):FS:=match L with | []=>f | L=>mF L f
theorem fK{X:Cx}{st:aG}{H₀ ae:Hp}{f:FS}{L:List Nat}(h:PS X st (tS X H₀ ae f)):PS X st (tS X H₀ ae (jJ L f)):=by
 cases L with
 | nil=>exact h
 | cons i L=>exact Yd (i::L) h
def EL(Γ:Gm)(g:fA):fA:=match Γ.chg with | []=>g | _=>jm g
theorem MJ{Γ:Gm}{X:Cx}{e:ao}{H₀ ae:Hp}{g:fA}(h:PT X e (tT X.K H₀ ae g)):PT X e (tT X.K H₀ ae (EL Γ g)):=by
 unfold EL;split
 ·exact h
 ·exact Yc h
def G1(Γ:Gm):ao->Option (Str×List ao×Nat)
 | .Call (.Name x _) (a::es) [] _=>if(fq x&&EG Γ x&&(a::es).all c6)=true then(Γ.fns.lookup x).map fun m=>(x,a::es,m)else none
 | _=>none
def Su:ao->Option (ao×ao)
 | .BinOp a .Add b _=>some (a,b)
 | _=>none
def Sv:ao->Option (ao×Option ao×Option ao)
 | .Subscript a (.Slice lo hi none _) _=>some (a,lo,hi)
 | _=>none
def Sw(Γ:Gm):ao->Option ao
 | .Call (.Name x _) [a] [] _=>if(x==("list":Str)&&EG Γ x&&Γ.eQ.contains x&&c6 a)=true then some a else none
 | _=>none
noncomputable def Vn(n:Nat)(Γ:Gm)(e:ao):Option (aI->dG):=match G1 Γ e with
 | some (x,es,m)=>(oU n Γ es).map fun ts=>ur (aM m (Γ.call x)) ts
 | none=>match Su e with
  | some (a,b)=>(dE n Γ a).bind fun fa=>(dE n Γ b).map fun fb=>PK fa fb
  | none=>match Sv e with
   | some (a,lo,hi)=>(dE n Γ a).bind fun fa=>(IL n Γ lo).bind fun fl=>(IL n Γ hi).map fun fh=>PX fa fl fh
   | none=>match Sw Γ e with
    | some a=>(dE n Γ a).map UR
    | none=>(dE n Γ e).map Eu
def Y0(Γ:Gm):ao->Bool
 | .Subscript (.Name y _) k _=>Γ.chg.contains y&&oR k&&Γ.chg.contains ("[thaw]":Str)
 | _=>false
noncomputable def Y1(n:Nat)(Γ:Gm):aG->Option FS
 | .Assign [.Name x _] (.Dict [] [] _) _=>if(Γ.RD.contains x&&Mr Γ x&&fq x)=true then(slot Γ x).map Vf else none
 | .Expr (.Call (.Attribute (.Name x _) m ap) [a,b] [] cp) _=>if(fq x&&JZ Γ x&&c6 a&&c6 b&&(ap.endLine==cp.line))=true then(slot Γ x).bind fun i=>(dE n Γ a).bind fun fa=>(dE n Γ b).bind fun fb =>
   if(m==("setdefault":Str)&&Γ.RD.contains x)=true then some (jJ (dr n Γ a++dr n Γ b) (Vh i fa fb))else if m==("insert":Str)then some (jJ (dr n Γ a++dr n Γ b) (gL i (aa fa (aa fb ah)) yL))else none else none
 | .Expr (.Call (.Attribute (.Name x _) m ap) [] [] cp) _=>if(fq x&&JZ Γ x&&(ap.endLine==cp.line)&&m==("reverse":Str))=true then(slot Γ x).map fun i=>Be i Qm else none
 | _=>none
mutual
noncomputable def Qv:Nat->Gm->aG->Option FS
 | 0,_,_=>none
 | n+1,Γ,st=>some ((wY n Γ st).getD fun _=>none)
noncomputable def wY:Nat->Gm->aG->Option FS
 | 0,_,_=>none
 | n+1,Γ,st=>match Y1 n Γ st with | some f=>some f | none=>match st with
  | .Return none _=>some fun _=>some (.rt (.val .df))
  | .Return (some (.Name x _)) _=>if(fq x&&JZ Γ x&&Γ.chg.contains x)=true then(slot Γ x).map nI else(dE n Γ (.Name x ⟨0,0,0,0⟩)).map bz
  | .Return (some e) _=>(dE n Γ e).map fun f=>jJ (dr n Γ e) (bz f)
  | .If c a b _=>(vG n Γ c).bind fun gc=>(lj n Γ a).bind fun f=>(lj n Γ b).map fun g=>gK (EL Γ gc) f g
  | .Expr (.Call (.Attribute (.Name x _) m ap) [a] [] cp) _=>if(fq x&&JZ Γ x&&c6 a&&(ap.endLine==cp.line))=true then(slot Γ x).bind fun i=>(oU n Γ [a]).bind fun ts =>
    (if m==("append":Str)then some (jJ (dr n Γ a) (gL i ts nJ))else if m==("extend":Str)then some (jJ (dr n Γ a) (gL i ts qa))else none)else none
  | .Expr e _=>if yO e=true then(dE n Γ e).map fun f=>jJ (dr n Γ e) (qQ f)else none
  | .For tg iter body [] _=>(MD n Γ tg iter).bind fun fi=>(yQ n Γ tg).bind fun g=>(lj n Γ body).map fun f=>jJ (dr n Γ iter) (il fi g.1 f)
  | .Assign [.Name x p] (.ListComp elt [⟨tg,iter,ifs,0⟩] scope cp) sp=>if(Mr Γ x&&fq x)=true then(slot Γ x).bind fun i=>(Mz n Γ elt tg iter ifs scope).map fun fc =>
    (if(Γ.chg.contains ("[thaw]":Str)&&!Γ.chg.contains x)=true then bj (bI (Sk fc)) (aj i)else jJ (dr n Γ (.ListComp elt [⟨tg,iter,ifs,0⟩] scope cp)) (if Γ.chg.contains x then jA i fc else bj (bI fc) (aj i)))else none
  | .Assign [.Name x p] (.List es lp) sp=>if(Mr Γ x&&fq x)=true then(slot Γ x).bind fun i=>(oU n Γ es).map fun ts=>jJ (dr n Γ (.List es lp)) (if Γ.chg.contains x then jA i (cH ts)else bj (bI (cH ts)) (aj i))else none
  | .Assign [.Name x p] e sp=>if(yO e&&Mr Γ x&&fq x)=true then(slot Γ x).bind fun i=>(if Γ.chg.contains x then(Vn n Γ e).map fun fo=>jJ (dr n Γ e) (L5 i fo)else(dE n Γ e).map fun f=>if Y0 Γ e=true then bj (hV f) (aj i)else jJ (dr n Γ e) (bj f (aj i)))else none
  | .AugAssign (.Name x p) op e sp=>if(Mr Γ x&&fq x)=true then(slot Γ x).bind fun i=>(MI op).bind fun g=>(dE n Γ e).map fun f=>jJ (dr n Γ e) (bj (ab (rd i) f g) (aj i))else none
  | .Assign [.Tuple ts k tp] e sp=>if GY e=true then(yQ n Γ (.Tuple ts k tp)).bind fun g=>(dE n Γ e).map fun f=>jJ (dr n Γ e) (bj f g.1)else none
  | _=>none
noncomputable def lj:Nat->Gm->List aG->Option FS
 | 0,_,_=>none
 | n+1,Γ,[]=>some fun ρ=>some (.nx ρ)
 | n+1,Γ,[st]=>Qv n Γ st
 | n+1,Γ,st::X1=>(Qv n Γ st).bind fun f=>(lj n Γ X1).map fun g=>aH f g
end
structure Sx (Γ:Gm) (X:Cx):Prop extends GOk Γ X where
 never:PassesOwn (model X.prog X.w) X.A X.env X.xe
 stk:X.stack=X.env::X.outer/\X.env.frame=some X.env.locals
theorem G2{X:Cx}{a:ao}{cp:Pos}(h:c6 a=true):((backTo cp (starEach [a] X.env)).all (fun x=>!x.1)&&(backToKw cp (keywordEach [] X.env)).all (fun x=>x.1.isSome)
   && decide ([a].length+([]:List Keyword).length+(if([]:List Keyword).isEmpty then 0 else 1)<30))=true:=by
 rw[bQ h];rfl
theorem G3{X:Cx}{a b:ao}{cp:Pos}(h:c6 a=true)(h2:c6 b=true):((backTo cp (starEach [a,b] X.env)).all (fun x=>!x.1)&&(backToKw cp (keywordEach [] X.env)).all (fun x=>x.1.isSome)
   && decide ([a,b].length+([]:List Keyword).length+(if([]:List Keyword).isEmpty then 0 else 1)<30))=true:=by
 rw[bQ h,bQ h2];rfl
theorem By{X:Cx}{b:ao}{cp:Pos}(h2:c6 b=true):(backTo cp (starEach [b] X.env)).any (·.1)=false:=by
 rw[bQ h2];rfl
structure Y2 (n:Nat):Prop where
 s:∀Γ X st f,Sx Γ X->Qv n Γ st=some f->∀H₀ ae,PS X st (tS X H₀ ae f)
 s0:∀Γ X st f,Sx Γ X->wY n Γ st=some f->∀H₀ ae,PS X st (tS X H₀ ae f)
 ss:∀Γ X st f,Sx Γ X->lj n Γ st=some f->∀H₀ ae,rh X st (tS X H₀ ae f)
theorem mw{Γ:Gm}{X:Cx}{x:Str}{p:Pos}{i:Nat}(G:GOk Γ X)(hn:fq x=true)(hv:JZ Γ x=true)(hs:slot Γ x=some i):PE X (.Name x p) (tN i) :=
 pe_var (G.l7 hs) (G.Qq hv) (jq hn).1 (jq hn).2.1
theorem Qw{X:Cx}{x:Str}{p sp:Pos}{e:ao}{op:Operator}{i:Nat}{H₀ ae:Hp}{fe:FE}{g:PV->PV->b8}{h:Int->Int->Int}(hg:∀a b c,g a b=some c->∃i j,a=.int i/\b=.int j/\c=.int (h i j))(ho:OpR X (inplaceOp op) (DU fun i j=>.int (h i j)))
  (he:PE X e (tE X.K H₀ ae fe)) (hN:X.N.Nodup) (hi:X.N[i]?=some x) (hx:RE X.env.scope x) (hf:X.fn x=true\/X.env.scope.names.lookup x=some .local):PS X (.AugAssign (.Name x p) op e sp) (tS X H₀ ae (bj (ab (rd i) fe g) (aj i))):=by
 refine(KR (ti:=DU fun i j=>.int (h i j)) hN hi hx he (fun ag s σ H x y v u Q I r1 r2 t=>ho ag s σ H x y v u Q I r1 r2 t) hf).imp fun D σ H hh=>?_
 obtain⟨F,ρ,o,R,hf,q⟩:=hh;obtain⟨c,h1,h2⟩:=aD hf;obtain⟨a,ha,h1⟩:=aD h1;obtain⟨b,hb,h1⟩:=aD h1;obtain⟨ia,jb,rfl,rfl,rfl⟩:=hg a b c h1;cases z:aj i (.int (h ia jb)) ρ with
 | none=>rw[z]at h2;cases h2
 | some fO =>
  rw[z]at h2;cases h2;obtain⟨hl,rfl⟩:=aU z;have hr:ρ[i]?=some (.val (.int ia)):=by
   unfold rd at ha;split at ha
   ·rename_i e;cases ha;exact e
   ·cases ha
  obtain⟨v,hv,bv⟩:=R.val i _ hr;rw[aN.mp bv]at hv;refine⟨.int ia,hv,F,ρ,.int jb,R,hb,fun y H1 F1 R1 s1 b1=>⟨ia,jb,rfl,aN.mp b1,?_⟩⟩
  exact q F1 _ H1 (R1.set hl (aN.mpr rfl)) s1
theorem Bz{Γ:Gm}{X:Cx}{x:Str}{p sp:Pos}{e:ao}{op:Operator}{i:Nat}{H₀ ae:Hp}{fe:FE}{g:PV->PV->b8}{h:Int->Int->Int}(G:GOk Γ X)(hs:slot Γ x=some i)(hx:Mr Γ x=true)(hg:∀a b c,g a b=some c->∃i j,a=.int i/\b=.int j/\c=.int (h i j))(ho:OpR X (inplaceOp op) (DU fun i j=>.int (h i j)))
  (he:PE X e (tE X.K H₀ ae fe)):PS X (.AugAssign (.Name x p) op e sp) (tS X H₀ ae (bj (ab (rd i) fe g) (aj i))):=by
 obtain⟨h1,h2⟩:=G.Vi hx;exact Qw hg ho he G.nd (G.l7 hs) h1 h2
theorem jr{Γ:Gm}{X:Cx}{x:Str}{p sp:Pos}{e:ao}{i:Nat}{te:TE}(G:GOk Γ X)(hs:slot Γ x=some i)(hx:Mr Γ x=true)(he:PE X e te)(hsw:swapsWith e (some (.Name x p)) sp.line X.env=pure false):PS X (.Assign [.Name x p] e sp) (ri te (gName i)):=by
 obtain⟨h1,h2⟩:=G.Vi hx;exact yb G.nd (G.l7 hs) h1 he hsw h2
theorem uE{Γ:Gm}{X:Cx}{x:Str}{elt:ao}{gens:List Comprehension}{scope:Scope}{cp p sp:Pos}(G:GOk Γ X) :
  (swapsWith (.ListComp elt gens scope cp) (some (.Name x p)) sp.line X.env=pure true/\X.env.scope.names.lookup x=some .local)\/swapsWith (.ListComp elt gens scope cp) (some (.Name x p)) sp.line X.env=pure false:=by
 have e:swapsWith (.ListComp elt gens scope cp) (some (.Name x p)) sp.line X.env=pure (X.env.blockKind==.function&&X.env.kindOf x==some .local&&p.line==(Expr.ListComp elt gens scope cp).pos.line&&!(scope.names.any fun(n,k)=>n==x&&(k==.local || k==.cell))):=rfl
 rw[e];cases hb:(X.env.blockKind==.function&&X.env.kindOf x==some .local&&p.line==(Expr.ListComp elt gens scope cp).pos.line&&!(scope.names.any fun(n,k)=>n==x&&(k==.local || k==.cell)))with
 | true =>
  refine .inl ⟨rfl,?_⟩;simp only[aZ]at hb;exact b6 hb.1.1.2
 | false=>exact .inr rfl
theorem Vo{n:Nat}(Γ:Gm)(X:Cx)(e:ao)(f:aI->dG)(G:GOk Γ X)(h:Vn n Γ e=some f)(H₀ ae:Hp):PE X e (tR X.K H₀ ae f)/\∀ρ en,f ρ=some en->(∃p,en=.val p)\/∃ps,en=.own ps:=by
 unfold Vn at h;split at h
 ·rename_i x es m hd;obtain⟨ts,h1,rfl⟩:=aB h;unfold G1 at hd;split at hd
  ·obtain⟨hc,hd⟩:=aQ hd;simp only[aZ]at hc;obtain⟨⟨hn,hg⟩,hp⟩:=hc;obtain⟨n1,n2,n3⟩:=jq hn;rw[jV,aZ]at hp;obtain⟨m',hm,he⟩:=aB hd;cases he;obtain⟨k,fa,fd,ps,F,hr,q1,q2,q3⟩:=G.fns _ m hm;exact⟨PU (Ew F hr (G.nO hg) q1 q2 q3 (((snd n).a Γ X _ ts G h1).1 H₀ ae) n1 (bQ hp.1 _ _) (iG hp.2 _ _)),L7 _ _⟩
  ·cases hd
 ·split at h
  ·rename_i a b hs;obtain⟨fa,h1,h⟩:=aD h;obtain⟨fb,h2,rfl⟩:=aB h;unfold Su at hs;split at hs
   ·cases hs;exact⟨Yn ((snd n).e Γ X _ fa G h1 H₀ ae) ((snd n).e Γ X _ fb G h2 H₀ ae),PQ _ _⟩
   ·cases hs
  ·split at h
   ·rename_i a lo hi hs;obtain⟨fa,h1,h⟩:=aD h;obtain⟨fl,h2,h⟩:=aD h;obtain⟨fh,h3,rfl⟩:=aB h;unfold Sv at hs;split at hs
    ·cases hs;exact⟨Yq ((snd n).e Γ X _ fa G h1 H₀ ae) ((snd n).o Γ X _ fl G h2 H₀ ae) ((snd n).o Γ X _ fh G h3 H₀ ae),PY _ _ _⟩
    ·cases hs
   ·split at h
    ·rename_i a hs;obtain⟨fa,h1,rfl⟩:=aB h;unfold Sw at hs;split at hs
     ·obtain⟨hc,hs2⟩:=aQ hs;clear hs;simp only[aZ]at hc;obtain⟨⟨⟨c1,c2⟩,c3⟩,c4⟩:=hc;have c1:=b6 c1;subst c1;cases hs2;exact⟨Yt (G.nO c2) (G.eQ _ c3) ((snd n).e Γ X _ fa G h1 H₀ ae) (bQ c4 _ _),PZ _⟩
     ·cases hs
    ·obtain⟨fe,h1,rfl⟩:=aB h;exact⟨Yl ((snd n).e Γ X _ fe G h1 H₀ ae),PN _⟩
section
variable {n:Nat} (T:Y2 n)
include T
theorem Vp(Γ:Gm)(X:Cx)(st:List aG)(f:FS)(G:Sx Γ X)(h:lj (n+1) Γ st=some f)(H₀ ae:Hp):rh X st (tS X H₀ ae f):=by
 match st,h with
 | [],h=>cases h;exact Uq
 | [st],h=>exact Ur (T.s Γ X st f G h H₀ ae)
 | st::st2::X1,h =>
  obtain⟨f1,h1,h⟩:=aD h;obtain⟨g,h2,rfl⟩:=aB h;exact O6 (T.s Γ X st f1 G h1 H₀ ae) (T.ss Γ X _ g G h2 H₀ ae)
set_option maxHeartbeats 4000000 in
theorem Vq(Γ:Gm)(X:Cx)(st:aG)(f:FS)(G:Sx Γ X)(h:wY (n+1) Γ st=some f)(H₀ ae:Hp):PS X st (tS X H₀ ae f):=by
 have S:=snd n;unfold wY at h;split at h
 ·rename_i f' hq;cases h;cases st<;>try exact ko hq
  case Assign tgs v sp =>
   rcases tgs with _ | ⟨t,r⟩<;>try exact ko hq
   cases t<;>try exact ko hq
   rcases r with _ | ⟨t2,r⟩<;>try exact ko hq
   cases v<;>try exact ko hq
   rename_i ks vs dp;rcases ks with _ | ⟨k1,ks⟩<;>try exact ko hq
   rcases vs with _ | ⟨v1,vs⟩<;>try exact ko hq
   obtain⟨hc,h⟩:=aQ hq;simp only[aZ]at hc;obtain⟨i,h1,rfl⟩:=aB h;exact(jr G.toGOk h1 hc.1.2 Mp rfl).imp fun D σ H h=>Mq h
  ·rename_i e ep;cases e<;>try exact ko hq
   rename_i fn args MH cp;cases fn<;>try exact ko hq
   rename_i v m ap;cases v<;>try exact ko hq
   rename_i x xp;rcases args with _ | ⟨a,_ | ⟨b,_ | ⟨c,r⟩⟩⟩<;>rcases MH with _ | ⟨kw,MH⟩<;>try exact ko hq
   ·obtain⟨hc,h⟩:=aQ hq;simp only[aZ]at hc;obtain⟨⟨⟨c1,c2⟩,c3⟩,c4⟩:=hc;obtain⟨i,h1,rfl⟩:=aB h;have hm:=b6 c4;subst hm;exact(iR (T3 si PySem.F.slot_list_reverse PySem.F.type_list_reverse D3 (mw G.toGOk c1 c2 h1) rfl c3)).imp fun D σ H h=>LO Qn h
   ·obtain⟨hc,h⟩:=aQ hq;simp only[aZ]at hc;obtain⟨⟨⟨⟨c1,c2⟩,c3⟩,c4⟩,c5⟩:=hc;obtain⟨i,h1,h⟩:=aD h;obtain⟨fa,h2,h⟩:=aD h;obtain⟨fb,h3,h6⟩:=aD h;clear h hq;have hx:=fun p=>mw (p:=p) G.toGOk c1 c2 h1
    have ha:=ug (S.e Γ X _ fa G.toGOk h2 H₀ ae) (ug (S.e Γ X _ fb G.toGOk h3 H₀ ae) Gr (bQ c4 _ _)) (bQ c3 _ _);split at h6
    ·rename_i hm;rw[aZ]at hm;have hm:=b6 hm.1;subst hm;have h7:=bW h6;subst h7;exact fK ((iR (AK PySem.F.plainAttrs_dict Ka PySem.F.type_dict_setdefault Va (hx _) ha rfl (G3 c3 c4) c5 (bQ c3 _ _) (By c4))).imp fun D σ H h=>Qp h)
    ·split at h6
     ·rename_i hm;have hm:=b6 hm;subst hm;have h7:=bW h6;subst h7;exact fK ((iR (AK si PySem.F.slot_list_insert PySem.F.type_list_insert IJ (hx _) ha rfl (G3 c3 c4) c5 (bQ c3 _ _) (By c4))).imp fun D σ H h=>yw Qo h)
     ·cases h6
 rename_i Sy;clear Sy;split at h
 ·cases h;exact Us
 ·split at h
  ·rename_i hc;obtain⟨i,h1,rfl⟩:=aB h;simp only[aZ]at hc;exact Ii i (mw G.toGOk hc.1.1 hc.1.2 h1)
  ·obtain⟨fe,h1,rfl⟩:=aB h;rename_i x p _ _;have:=S.e Γ X _ fe G.toGOk h1 H₀ ae;refine R6 ?_;cases n with
   | zero=>cases h1
   | succ n =>
    exact S.e Γ X (.Name x p) fe G.toGOk h1 H₀ ae
 ·obtain⟨fe,h1,rfl⟩:=aB h;exact fK (R6 (S.e Γ X _ fe G.toGOk h1 H₀ ae))
 ·obtain⟨gc,h1,h⟩:=aD h;obtain⟨fa,h2,h⟩:=aD h;obtain⟨fb,h3,rfl⟩:=aB h;exact acX (MJ (S.t Γ X _ gc G.toGOk h1 H₀ ae)) (T.ss Γ X _ fa G h2 H₀ ae) (T.ss Γ X _ fb G h3 H₀ ae)
 ·obtain⟨hc,h⟩:=aQ h;simp only[aZ]at hc;obtain⟨⟨⟨hn,hv⟩,hp⟩,hl⟩:=hc;obtain⟨i,h1,h⟩:=aD h;obtain⟨ts,h2,h6⟩:=aD h;clear h;have ha:=((S.a Γ X _ ts G.toGOk h2).1 H₀ ae);have hv':=fun p=>mw (p:=p) G.toGOk hn hv h1
  split at h6
  ·rename_i hm;have hm:=b6 hm;subst hm;have h7:=bW h6;subst h7;exact fK ((iR (AK si PySem.F.slot_list_append PySem.F.type_list_append wC (hv' _) ha rfl (G2 hp) hl (bQ hp _ _) rfl)).imp fun D σ H h=>yw Pf h)
  ·split at h6
   ·rename_i hm;have hm:=b6 hm;subst hm;have h7:=bW h6;subst h7;exact fK ((iR (AK si PySem.F.slot_list_extend PySem.F.type_list_extend Uz (hv' _) ha rfl (G2 hp) hl (bQ hp _ _) rfl)).imp fun D σ H h=>yw Pj h)
   ·cases h6
 ·obtain⟨hc,h⟩:=aQ h;obtain⟨fe,h1,rfl⟩:=aB h;exact fK (Ut (S.e Γ X _ fe G.toGOk h1 H₀ ae) (iE hc _ _ _))
 ·obtain⟨fi,h1,h⟩:=aD h;obtain⟨g,h2,h⟩:=aD h;obtain⟨fb,h3,rfl⟩:=aB h;obtain⟨i1,i2⟩:=S.i Γ X _ _ fi G.toGOk h1;exact fK (X6 G.never G.calm (i1 H₀ ae) ((oT G.toGOk n _ g h2).1 H₀ ae) (T.ss Γ X _ fb G h3 H₀ ae) i2)
 ·-- x=[.. for ..]
  obtain⟨hc,h⟩:=aQ h;simp only[aZ]at hc;obtain⟨i,h1,h⟩:=aD h;obtain⟨fc,h2,rfl⟩:=aB h;obtain⟨c1,c2⟩:=S.c Γ X _ _ _ _ _ fc G.toGOk h2;split
  ·rcases uE G.toGOk with⟨z,hl⟩ | z
   ·obtain⟨t,ht,k⟩:=c2 H₀ ae i _ _ _ _ (G.toGOk.l7 h1) hl z;exact uk (fun σ H Q h=>ht σ H Q (Bn h)) k
   ·exact uk (fun σ H Q h=>Bn h) (jr G.toGOk h1 hc.1 (c1 H₀ ae _) z)
  refine fK ?_;rcases uE G.toGOk with⟨z,hl⟩ | z
  ·obtain⟨t,ht,k⟩:=c2 H₀ ae i _ _ _ _ (G.toGOk.l7 h1) hl z;split
   ·exact k.imp fun D σ H h=>uo ht h
   ·exact uk ht k
  ·have k:=jr G.toGOk h1 hc.1 (c1 H₀ ae _) z;split
   ·exact k.imp fun D σ H h=>uo (fun _ _ _ h=>h) h
   ·exact uk (fun _ _ _ h=>h) k
 ·-- x=[..]
  obtain⟨hc,h⟩:=aQ h;simp only[aZ]at hc;obtain⟨i,h1,h⟩:=aD h;obtain⟨ts,h2,rfl⟩:=aB h;have he:=fun p=>Ly (pos:=p) ((S.a Γ X _ ts G.toGOk h2).1 H₀ ae)
  refine fK ?_;rename_i x p1 es lp sp _ _;have k:=jr (p:=p1) (sp:=sp) G.toGOk h1 hc.1 (he lp) rfl;split
  ·exact k.imp fun D σ H h=>uo (fun _ _ _ h=>h) h
  ·exact uk (fun _ _ _ h=>h) k
 ·obtain⟨hc,h⟩:=aQ h;simp only[aZ]at hc;obtain⟨i,h1,h⟩:=aD h;split at h
  ·obtain⟨fo,h2,rfl⟩:=aB h;refine fK ?_;obtain⟨o1,o2⟩:=Vo Γ X _ fo G.toGOk h2 H₀ ae;exact(jr G.toGOk h1 hc.1.2 o1 (iE hc.1.1 _ _ _)).imp fun D σ H h=>L6 o2 (fun _ _ _ h=>h) h
  ·obtain⟨fe,h2,rfl⟩:=aB h;split
   ·exact R7 i (jr G.toGOk h1 hc.1.2 (LN (S.e Γ X _ fe G.toGOk h2 H₀ ae)) (iE hc.1.1 _ _ _))
   refine fK ?_;exact R7 i (jr G.toGOk h1 hc.1.2 (S.e Γ X _ fe G.toGOk h2 H₀ ae) (iE hc.1.1 _ _ _))
 ·obtain⟨hc,h⟩:=aQ h;simp only[aZ]at hc;obtain⟨i,h1,h⟩:=aD h;obtain⟨g,h2,h⟩:=aD h;obtain⟨fe,h3,rfl⟩:=aB h;refine fK ?_;unfold MI at h2;split at h2
  ·cases h2;exact Bz G.toGOk h1 hc.1 (fun a b c e=>by
    unfold Qu at e;split at e
    ·cases e;exact⟨_,_,rfl,rfl,rfl⟩
    ·cases e) iop_add (S.e Γ X _ fe G.toGOk h3 H₀ ae)
  ·cases h2;exact Bz G.toGOk h1 hc.1 (fun a b c e=>by
    unfold YZ at e;split at e
    ·cases e;exact⟨_,_,rfl,rfl,rfl⟩
    ·cases e) Oz (S.e Γ X _ fe G.toGOk h3 H₀ ae)
  ·cases h2
 ·obtain⟨hc,h⟩:=aQ h;obtain⟨g,h1,h⟩:=aD h;obtain⟨fe,h2,rfl⟩:=aB h;obtain⟨g1,g2,g3,g4⟩:=oT G.toGOk n _ g h1;refine fK (X5 (S.e Γ X _ fe G.toGOk h2 H₀ ae) (g1 H₀ ae) ?_ ?_ (g3 _))
  ·rename_i ts k tp e sp _ _;have z:=iE (yP hc) (some (Expr.Tuple ts k tp)) sp.line X.env;exact z
  ·rename_i ts k tp e sp _ _;cases e<;>first | rfl | cases hc
 ·cases h
theorem Y3(Γ:Gm)(X:Cx)(st:aG)(f:FS)(G:Sx Γ X)(h:Qv (n+1) Γ st=some f)(H₀ ae:Hp):PS X st (tS X H₀ ae f):=by
 have h:some ((wY n Γ st).getD fun _=>none)=some f:=h
 cases z:wY n Γ st with
 | none =>
  rw[z]at h;cases h;exact KP.imp fun D σ H ⟨F,ρ,o,R,hf,q⟩=>by cases hf
 | some g =>
  rw[z]at h;cases h;exact T.s0 Γ X st _ G z H₀ ae
end
theorem sns:∀n:Nat,Y2 n
 | 0=>⟨(fun _ _ _ _ _ h=>by cases h),(fun _ _ _ _ _ h=>by cases h),(fun _ _ _ _ _ h=>by cases h)⟩
 | n+1=>⟨Y3 (sns n),Vq (sns n),Vp (sns n)⟩
noncomputable def MK:List Str:=["append","extend","clear","pop","insert","reverse","remove"]
mutual
def Y4:Nat->aG->List Str
 | 0,_=>[]
 | n+1,st=>match st with
  | .Expr (.Call (.Attribute (.Name x _) m _) _ _ _) _=>if MK.contains m then [x]else []
  | .Assign [.Subscript (.Name x _) _ _] _ _=>[x]
  | .If _ a b _=>vH n a++vH n b
  | .For _ _ a b _=>vH n a++vH n b
  | .While _ a b _=>vH n a++vH n b
  | .Try a _ b _ _=>vH n a++vH n b
  | _=>[]
def vH:Nat->List aG->List Str
 | 0,_=>[]
 | n+1,[]=>[]
 | n+1,s::r=>Y4 n s++vH n r
end
def BA:Nat:=120
def defName(s:aG):Str:=match s with
 | .FunctionDef x _ _ _ _ _ _ _ _ _=>x
 | _=>""
abbrev CT:=Str->Option Ob->az->dG
abbrev cN(c:CT)(x:Str)(ps:az):dG:=c x none ps
abbrev cO(c:CT)(x:Str)(o:Ob)(ps:az):dG:=c x (some o) ps
def gm0(P:Pg)(st:aG)(Ss:List Str)(cls:List (Str×Nat))(make:Str->az->Option (List (Str×Fd)))(Ac:Bool)(c:CT):Gm where
 sc:=(aO st).names
 N:=dC st
 fns:=(P.defs.filter fun d=>!P.bO.contains d.1).map fun d=>(d.1,(params d.2).length)
 cons:=P.cons
 eQ:=P.eQ
 chg:=(vH BA (dH st)).eraseDups++(P.own.lookup (defName st)).getD []++(P.RD.lookup (defName st)).getD []
 own:=true
 call:=cN c
 exc:=P.exc
 sub:=P.sub
 tabs:=P.tabs
 Ss:=Ss
 IK:=[]
 qP:=cO c
 cls:=cls
 make:=make
 flds:=P.flds
 gB:=P.gB
 Ac:=Ac
 RD:=(P.RD.lookup (defName st)).getD []
def Vr(st:aG):Str:=(params st).headD ""
def BB(P:Pg)(st:aG)(c:CT):Gm:=gm0 P st ((if P.bO.contains (defName st)=true then [Vr st]else [])++(P.obs.lookup (defName st)).getD []) [] (fun _ _=>none) (P.n6.contains (defName st)) c
def uF(f:FS)(N:Nat)(ps:az):dG:=match f (ps.map .val++List.replicate (N-ps.length) .un)with
 | some (.rt (.val p))=>some (.val p)
 | some (.rt (.own ps))=>some (.own ps)
 | some (.nx _)=>some (.val .df)
 | _=>none
def uG(P:Pg):Nat->CT
 | 0,_,_,_=>none
 | k+1,x,o,ps=>(P.defs.lookup x).bind fun st=>(lj BA (BB P st (uG P k)) (dH st)).bind fun f=>uF f (dC st).length ps
def run(P:Pg)(k:Nat)(x:Str)(ps:az):dG:=uG P k x none ps
theorem Vs{P:Pg}{k:Nat}{x:Str}{st:aG}{f:FS}(h:P.defs.lookup x=some st)(hf:lj BA (BB P st (uG P k)) (dH st)=some f)(ps:az):run P (k+1) x ps=uF f (dC st).length ps:=by
 show(P.defs.lookup x).bind _=_;rw[h];show(lj BA (BB P st (uG P k)) (dH st)).bind _=_;rw[hf];rfl
theorem qU{α:Type}(p:Str->Bool)(x:Str):∀l:List (Str×α),(l.filter fun d=>p d.1).lookup x=if p x=true then l.lookup x else none
 | []=>by simp
 | (n,a)::r=>by
  have ih:=qU p x r;by_cases z:x=n
  ·subst z;cases hp:p x<;>simp[List.filter_cons,hp,jT,ih]
  ·have z':(x==n)=false:=by simpa using z
   cases hp:p n<;>simp[List.filter_cons,hp,jT,z',ih]
theorem oX{α:Type}(p:Str->Bool)(x:Str)(l:List (Str×α))(v:α)(h:(l.filter fun d=>p d.1).lookup x=some v):l.lookup x=some v:=by
 rw[qU]at h;exact(aQ h).2
theorem l8{α β:Type}(g:α->β)(x:Str):∀l:List (Str×α),(l.map fun d=>(d.1,g d.2)).lookup x=(l.lookup x).map g
 | []=>rfl
 | (n,a)::r=>by
  rw[bK,jT,jT];cases x==n with
  | true=>rfl
  | false=>exact l8 g x r
section
variable {prog:bG} {w:aW} {K:ak} {mg:ee} {base:Heap}
def Qx(K:ak)(mg:ee)(x:Str):Prop:=(∃p q fs fT Mn GU,Mm K mg p q fs fT Mn GU)/\x∈eE/\∃c T,W.tabIn K x=some (c,T)/\W.codeHdIn K c T=true
theorem EM{K:ak}{x:Str}{c T:af}(h:W.tabIn K x=some (c,T)):∃f oc od fd vp,W.nsIn K mainGlobals x=some (some (.ref f))/\K.lookup f=some ⟨oc,od,.func fd,vp⟩/\fd.code=.ref c:=by
 unfold W.tabIn at h;split at h
 ·rename_i f hf;split at h
  ·rename_i oc od fd vp hl;split at h
   ·rename_i c' hc;split at h
    ·split at h
     ·cases h;exact⟨f,oc,od,fd,vp,hf,hl,hc⟩
     ·cases h
    ·cases h
   ·cases h
  ·cases h
 ·cases h
def ML(K:ak)(f:af)(dR:ai):Prop:=∃oc od fd vp,K.lookup f=some ⟨oc,od,.func fd,vp⟩/\fd.code=dR
theorem Qy{P:bG}{w:aW}{K:ak}{mg:ee}{base:Heap}{x qual:Str}{st:aG}{f:af}{fd:er}{N ps:List Str}{k:Nat}{sp:Sp}(F:DH K x qual st f fd)(S:ez N ps (aO st))(len:∀vs H Q E,sp vs H Q E->vs.length=ps.length)
  (hbody:∀(dR:ai) (A:bR) (outer:List Env) (s:av) (H:Hp) (vs:List V) (Q:VK) (E:XK),ML K f dR->fm k (A.deeper (envOfC qual (aO st) s.heap.objs.size f dR))->sp vs H Q E ->
   ∃t,rh (mD (mW P w) P w K mg base N qual (aO st) f dR A outer s H E) (dH st) t/\t {nx:=fun _ H'=>Q .df H',rt:=Q} (start N vs) H):FnOk P w K mg base (mW P w) (k+1) f fd ps sp:=by
 obtain⟨oc,od,kV,doc,pm,an,dR,ct,vp,rfl,lk,vU⟩:=F.ex;exact Ge lk vU S len fun A outer s H vs Q E hr ox=>hbody dR A outer s H vs Q E ⟨oc,od,_,vp,lk,rfl⟩ hr ox
structure Vt (P:Pg) (w:aW) (K:ak) (mg:ee):Prop where
 fns:∀x st,P.defs.lookup x=some st->∃f fd,DH K x x st f fd/\gC K fd (params st) []/\mg x=some (.ref f)/\ez (dC st) (params st) (aO st)
 cons:∀x p,P.cons.lookup x=some p->∃u v,mg x=some u/\RelV v u/\∀F,dB K F p v
 eQ:∀x,P.eQ.contains x=true->mg x=none
 excs:∀C,P.exc.contains C=true->vR K C
 subs:∀C D b,P.sub.lookup (C,D)=some b->L4 K mg C D b
 tabs:∀T ck,P.tabs.lookup T=some ck->GH K mg w.params T ck
 ns:∀x a,W.nsIn K mainGlobals x=some (some (.ref a))->mg x=some (.ref a)
 cls:∀C st,P.cls.lookup C=some st->∃Ca f fd,Mk K Ca f/\Wb K Ca/\(∀g,P.flds.contains g=true->pX K Ca g)/\mg C=some (.ref Ca)/\DH K "__init__" (C++".__init__") st f fd/\gC K fd (params st) []/\ez (dC st) (params st) (aO st)
 gB:∀T ck,P.gB.lookup T=some ck->EE K mg w.params T ck
 Ac:∀x st,P.defs.lookup x=some st->P.n6.contains (defName st)=true->Qx K mg x
theorem qj{F H:Hp}{ps:az}{vs:List V}{N:List Str}(hs:Same F H)(hb:bC K F ps vs):dI K H F F (ps.map .val++List.replicate (N.length-ps.length) .un) (start N vs) H where
 sub:=hs
 keep:=Same.refl H
 base:=Same.refl F
 fresh:=fun _ _ e=>.inl e
 val:=fun i p e=>by
  have hl:=hb.length;by_cases hi:i<ps.length
  ·rw[jd (by simpa using hi),cu]at e
   cases z:ps[i]? with
   | none=>rw[z]at e;cases e
   | some q =>
    rw[z]at e;cases e;obtain⟨v,h1,h2⟩:=hb.get z;refine⟨v,?_,h2⟩;unfold start;rw[jd (by rw[aE,<-hl];exact hi),cu,h1]
    rfl
  ·rw[ly (by simpa using hi),pN]at e
   split at e<;>cases e
 own:=fun i qs e=>by
  by_cases hi:i<ps.length
  ·rw[jd (by simpa using hi),cu]at e
   cases z:ps[i]? with
   | none=>rw[z]at e;cases e
   | some q=>rw[z]at e;cases e
  ·rw[ly (by simpa using hi),pN]at e
   split at e<;>cases e
 apart:=fun i j qs rs a e=>by
  by_cases hi:i<ps.length
  ·rw[jd (by simpa using hi),cu]at e
   cases z:ps[i]? with
   | none=>rw[z]at e;cases e
   | some q=>rw[z]at e;cases e
  ·rw[ly (by simpa using hi),pN]at e
   split at e<;>cases e
 obs:=fun i qs e=>by
  by_cases hi:i<ps.length
  ·rw[jd (by simpa using hi),cu]at e
   cases z:ps[i]? with
   | none=>rw[z]at e;cases e
   | some q=>rw[z]at e;cases e
  ·rw[ly (by simpa using hi),pN]at e
   split at e<;>cases e
 gE:=fun i qs e=>by
  by_cases hi:i<ps.length
  ·rw[jd (by simpa using hi),cu]at e
   cases z:ps[i]? with
   | none=>rw[z]at e;cases e
   | some q=>rw[z]at e;cases e
  ·rw[ly (by simpa using hi),pN]at e
   split at e<;>cases e
 len:=by
  unfold start;rw[bU,bU,aE,aE,Df,Df,hb.length]
def FR(P:Pg)(prog:bG)(w:aW)(K:ak)(mg:ee)(base:Heap)(k:Nat):Prop:=∀(x:Str) (st:aG) (f:af) (fd:er),P.defs.lookup x=some st->mg x=some (.ref f)->DH K x x st f fd->ez (dC st) (params st) (aO st) ->
 FnOk prog w K mg base (mW prog w) (3*k) f fd (params st) (Eh K (params st).length (run P k x))
section
variable {P:Pg} (O:Vt P w K mg) {k:Nat} (ih:FR P prog w K mg base k)
include O ih
theorem Y5{st:aG}{x:Str}{f:af}{dR:ai}{A:bR}{outer:List Env}{s:av}{H:Hp}{E:XK}{Ss:List Str}{cls:List (Str×Nat)}{make:Str->az->Option (List (Str×Fd))}{Ac:Bool}{j:Nat}(S:ez (dC st) (params st) (aO st))
  (hr:fm j (A.deeper (envOfC x (aO st) s.heap.objs.size f dR))) (hj:3*k<=j) (hcl:∀C n,cls.lookup C=some n->∃k' Ca f' fd ps,Mk K Ca f'/\Wb K Ca/\(∀f,P.flds.contains f=true->pX K Ca f)/\FnOk prog w K mg base (mW prog w) k' f' fd ps (spI K n (make C))/\fm (k'+1) (A.deeper (envOfC x (aO st) s.heap.objs.size f dR))/\mg C=some (.ref Ca)/\gC K fd ps [])
  (adU:Ac=true->Ms (gm0 P st Ss cls make Ac (uG P k)) (mD (mW prog w) prog w K mg base (dC st) x (aO st) f dR A outer s H E)) :
  Sx (gm0 P st Ss cls make Ac (uG P k)) (mD (mW prog w) prog w K mg base (dC st) x (aO st) f dR A outer s H E):=by
 refine⟨⟨rfl,rfl,S.nd,S.kind,rfl,hr.hd,?_,fun _ _=>rfl,fun y n hy=>?_,O.cons,O.eQ,O.excs,O.subs,O.tabs,⟨fun y n hy=>?_,O.ns,hcl,O.gB,adU⟩⟩,Dt,rfl,rfl⟩
 ·have:=hr.un;show(A.deeper _).units+1150<cLine
  lia
 ·have hy:((P.defs.filter fun d=>!P.bO.contains d.1).map fun d=>(d.1,(params d.2).length)).lookup y=some n:=hy
  rw[l8 (fun st=>(params st).length)]at hy
  obtain⟨bE,h1,h2⟩:=aB hy;subst h2;have h1:=oX (fun x=>!P.bO.contains x) y P.defs bE h1
  obtain⟨f',Wo,F1,B1,m1,S1⟩:=O.fns y bE h1;exact⟨3*k,f',Wo,params bE,ih y bE f' Wo h1 m1 F1 S1,hr.mono hj,m1,F1.kp,B1⟩
 ·cases hy
theorem Vu{st:aG}{x:Str}{f:af}{dR:ai}{A:bR}{outer:List Env}{s:av}{H:Hp}{E:XK}{Ss:List Str}{cls:List (Str×Nat)}{make:Str->az->Option (List (Str×Fd))}{Ac:Bool}(h:P.defs.lookup x=some st)(hm:mg x=some (.ref f))(hc:ML K f dR)(hB:P.n6≠[]->A2 mg base)
  (hr:fm (3*k+2) (A.deeper (envOfC x (aO st) s.heap.objs.size f dR))) (hs:P.n6.contains (defName st)=true):Ms (gm0 P st Ss cls make Ac (uG P k)) (mD (mW prog w) prog w K mg base (dC st) x (aO st) f dR A outer s H E):=by
 obtain⟨⟨p,q,fs,fT,Mn,GU,D⟩,hx,c,T,ht,hC⟩:=O.Ac x st h hs;have vU:dR=.ref c:=by
  obtain⟨f',oc,od,fd,vp,h1,h2,h3⟩:=EM ht;obtain⟨oc',od',Wo,ahI,g1,g2⟩:=hc;have:=O.ns x f' h1;rw[hm]at this;cases this;rw[h2]at g1;cases g1;exact g2.symm.trans h3
 refine⟨⟨p,q,fs,fT,Mn,GU,3*k,D,hr,fun y n hy=>?_,fun y n hy=>?_⟩,⟨⟨x,c,T,hx,ht,hC,vU,rfl⟩,hB (fun z=>by rw[z]at hs;cases hs)⟩⟩
 ·have hy:((P.defs.filter fun d=>!P.bO.contains d.1).map fun d=>(d.1,(params d.2).length)).lookup y=some n:=hy
  rw[l8 (fun st=>(params st).length)]at hy
  obtain⟨bE,h1,h2⟩:=aB hy;subst h2;have h1:=oX (fun x=>!P.bO.contains x) y P.defs bE h1
  obtain⟨f',Wo,F1,B1,m1,S1⟩:=O.fns y bE h1;exact⟨3*k,f',Wo,params bE,aV _,ih y bE f' Wo h1 m1 F1 S1,m1,F1.kp,B1⟩
 ·cases hy
end
theorem MM{P:Pg}(O:Vt P w K mg)(hB:P.n6≠[]->A2 mg base):∀(k:Nat),FR P prog w K mg base k
 | 0=>fun x st f fd h T6 F S=>by
  have no:∀vs H Q E,¬Eh K (params st).length (run P 0 x) vs H Q E:=fun vs H Q E ⟨F,ps,e,_,_,_,z,_⟩=>by cases z
  exact⟨fun vs H Q E h=>absurd h (no vs H Q E),fun A outer s H args us vs Q E _ _ _ _ h=>absurd h (no vs H Q E)⟩
 | k+1=>fun x st f fd h T6 F S=>by
  have ih:=MM (P:=P) O hB k;refine Qy (k:=3*k+2) F S (fun vs H Q E ⟨F',ps,e,_,hb,hl,_⟩=>by rw[<-hb.length];exact hl) (fun dR A outer s H vs Q E XF hr ox=>?_)
  obtain⟨F',ps,e,hs,hb,hl,uH,hq⟩:=ox;have uH:(P.defs.lookup x).bind (fun st=>(lj BA (BB P st (uG P k)) (dH st)).bind fun f=>uF f (dC st).length ps)=some e:=uH
  rw[h]at uH;obtain⟨g,hg,uH⟩:=aD (show(lj BA (BB P st (uG P k)) (dH st)).bind (fun f=>uF f (dC st).length ps)=some e from uH)
  have G:Sx (BB P st (uG P k)) (mD (mW prog w) prog w K mg base (dC st) x (aO st) f dR A outer s H E):=Y5 O ih S hr (by lia) (fun _ _ z=>by cases z) (Vu O ih h T6 XF hB hr)
  refine⟨tS (mD (mW prog w) prog w K mg base (dC st) x (aO st) f dR A outer s H E) H F' g,(sns BA).ss (BB P st (uG P k)) _ (dH st) g G hg H F',?_⟩;unfold uF at uH;split at uH
  ·rename_i p z;cases uH;exact⟨F',_,_,qj hs hb,z,hq⟩
  ·rename_i qs z;cases uH;exact⟨F',_,_,qj hs hb,z,hq⟩
  ·rename_i fO z;cases uH;exact⟨F',_,_,qj hs hb,z,fun F2 HQ H2 R2 s2=>hq .df F2 H2 R2.post s2 (dP.mpr rfl)⟩
  ·cases uH
def y0(ns:List Int):PV:=.aq (ns.map .int)
theorem BC{F:Hp}:∀ns:List Int,bC K F (ns.map .int) (ns.map V.int)
 | []=>.nil
 | n::r=>.cons (aN.mpr rfl) (BC r)
theorem Vv{P:Pg}{k:Nat}{H:Hp}{a:af}{ns:List Int}(hr:run P k "law" [y0 ns]=some (.val (.bl true)))(hS:rG K H a (ns.map V.int)):Eh K 1 (run P k "law") [.ref a] H (fun v _=>v=.bl true) fun _ _ _=>False :=
 ⟨H,[y0 ns],_,Same.refl H,.cons (bD.mpr ⟨a,_,rfl,hS,BC ns⟩) .nil,rfl,hr,fun v F' H' _ _ b=>cb.mp b⟩
end
theorem gz{α β:Type} [BEq α] [LawfulBEq α] {k:α} {v:β}:∀{l:List (α×β)},l.lookup k=some v->(k,v)∈l
 | [],h=>by cases h
 | (a,b)::l,h=>by
  rw[jT]at h;cases z:k==a with
  | true =>
   rw[z]at h;cases h;rw[b6 z];exact cq
  | false =>
   rw[z]at h;exact cn _ (gz h)
theorem DI.at{K:ak}{h:Heap}{mg:ee}{C D:Str}{b:Bool}(x:DI K C D b)(X:K.In h)(G:h.Ns mainGlobals mg):L4 K mg C D b:=by
 obtain⟨cls,dv,hc,hn,r⟩:=x;refine⟨cls,dv,hc,?_,r⟩;rcases hn with z | ⟨z,y⟩
 ·exact .inl (W.mg_of X G z)
 ·exact .inr ⟨W.mg_none_of X G z,y⟩
theorem HE.at{K:ak}{h:Heap}{mg:ee}{P:Params}{T:Str}{ck:List (Str×Str)}(x:HE K P T ck)(X:K.In h)(G:h.Ns mainGlobals mg):GH K mg P T ck:=by
 obtain⟨a,es,n,h1,h2,h3,h4⟩:=x;refine⟨a,es,n,W.mg_of X G h1,h2,h3,fun k fn e=>?_⟩
 obtain⟨f,h5,h6⟩:=h4 (k,fn) (gz e);exact⟨f,h5,W.mg_of X G h6,h6⟩
theorem Ag.at{K:ak}{h:Heap}{mg:ee}{P:Params}{T:Str}{ck:List (Str×PV)}(x:Ag K P T ck)(X:K.In h)(G:h.Ns mainGlobals mg):EE K mg P T ck:=by
 obtain⟨a,es,n,h1,h2,h3,h4⟩:=x;exact⟨a,es,n,W.mg_of X G h1,h2,h3,fun k p e=>h4 (k,p) (gz e)⟩
theorem Km.at{K:ak}{h base:Heap}{mg:ee}(b:Km K)(X:K.In h)(G:h.Ns mainGlobals mg)(Y:K.In base):A2 mg base :=
 let ⟨bm,o,h1,h2,h3,h4,h5⟩:=b;⟨bm,o,W.mg_of X G h1,h2,h3,Y _ _ h4,h5⟩
def wZ(K:ak):List (af×Str):=eE.filterMap fun x=>(W.tabIn K x).map fun cT=>(cT.2,vq x)
theorem w5{α β:Type} [BEq α] [LawfulBEq α] {b:α} {q:β}:∀{l:List (α×β)},(l.map (·.1)).Nodup->(b,q)∈l->l.lookup b=some q
 | [],_,h=>nomatch h
 | (a,v)::l,hn,h=>by
  rw[bK,jU]at hn;rw[jT];rcases bB.mp h with e | h'
  ·cases e;rw[pT]
  ·have:(b==a)=false:=by
    rw[su];intro z;subst z;exact hn.1 (bF.mpr ⟨_,h',rfl⟩)
   rw[this];exact w5 hn.2 h'
theorem IQ(K:ak):(wZ K).map (·.1)=eE.filterMap fun x=>(W.tabIn K x).map (·.2):=by
 unfold wZ;rw[List.map_filterMap]
 congr 1
 funext x
 cases W.tabIn K x<;>rfl
theorem og.tabs{K:ak}{h:Heap}(t:og K h)(X:K.In h):(∀b q,(wZ K).lookup b=some q->h.get? b=some {cls:=.none,data:=.fields #[]}/\isCodeTable h b/\K.lookup b=none)/\∀H:Hp,(∀b q,(wZ K).lookup b=some q->H b=some (.Af q))->tK K H:=by
 refine⟨fun b q e=>?_,fun H hH x hx c T e=>?_⟩
 ·have hm:=gz e;unfold wZ at hm;obtain⟨x,hx,e2⟩:=xD.mp hm;obtain⟨cT,e3,e4⟩:=ku.mp e2;cases e4;obtain⟨h1,h2,h3⟩:=t.at_ x hx cT.1 cT.2 e3;obtain⟨o,vs,_,_,_,_,_,_,_,g1,g2,g3,g4,_⟩:=W.codeHd_of_K X h1;exact⟨h2,⟨_,o,vs,g1,g2,g3,g4⟩,h3⟩
 ·refine hH T (vq x) (w5 (by rw[IQ];exact t.nd) ?_)
  unfold wZ;exact xD.mpr ⟨x,hx,by rw[e];rfl⟩
structure MN (P:Pg):Prop where
 dn:P.defs.all (fun d=>defName d.2==d.1)=true
 sp:P.n6=[]\/∃p q,P.defs.lookup ("spread":Str)=some (jn p)/\P.defs.lookup ("tell_new":Str)=some (uB q)/\((q 15).endLine==(q 20).line)=true/\P.eQ.contains ("len":Str)=true
theorem adV{P:Pg}{K:ak}{h:Heap}{mg:ee}(X:K.In h)(G:h.Ns mainGlobals mg)(hd:∀d∈P.defs,Kj K d.1 d.2)
  (hc:∀d∈P.cons,∃u v,W.nsIn K mainGlobals d.1=some (some u)/\RelV v u/\∀F,dB K F d.2 v) (hb:∀x∈P.eQ,W.nsIn K mainGlobals x=some none) (he:∀C∈P.exc,vR K C) (hs:∀d∈P.sub,DI K d.1.1 d.1.2 d.2) {w:aW} (ht:∀d∈P.tabs,HE K w.params d.1 d.2) (hcl:∀d∈P.cls,SY K d.1 d.2 P.flds) (hct:∀d∈P.gB,Ag K w.params d.1 d.2) (LS:MN P) (hlm:∀x∈P.n6,S0 K x):Vt P w K mg where
 fns:=fun x st e=>by
  obtain⟨⟨f,fd,a,F,b⟩,s⟩:=hd (x,st) (eJ e);exact⟨f,fd,F,.all b,W.mg_of X G a,s⟩
 cons:=fun x p e=>by
  obtain⟨u,v,a,r,b⟩:=hc (x,p) (eJ e);exact⟨u,v,W.mg_of X G a,r,b⟩
 eQ:=fun x e=>W.mg_none_of X G (hb x (by simpa using e))
 excs:=fun C e=>he C (by simpa using e)
 subs:=fun C D b e=>(hs ((C,D),b) (gz e)).at X G
 tabs:=fun T ck e=>(ht (T,ck) (gz e)).at X G
 ns:=fun x a e=>W.mg_of X G e
 cls:=fun C st e=>by
  obtain⟨Ca,f,fd,a,M,c,na,F,b,s⟩:=hcl (C,st) (eJ e);exact⟨Ca,f,fd,M,c,fun g hg=>na g (by simpa using hg),W.mg_of X G a,F,.all b,s⟩
 gB:=fun T ck e=>(hct (T,ck) (gz e)).at X G
 Ac:=fun x st e hs=>by
  have hx:defName st=x:=b6 (gu.mp LS.dn (x,st) (eJ e));rcases LS.sp with z | ⟨p,q,e1,e2,e3,e4⟩
  ·rw[z]at hs;cases hs
  ·obtain⟨⟨f1,fd1,a1,F1,b1⟩,s1⟩:=hd _ (eJ e1);obtain⟨⟨f2,fd2,a2,F2,b2⟩,s2⟩:=hd _ (eJ e2);rw[hx]at hs;exact⟨⟨p,q,f1,f2,fd1,fd2,F1,W.mg_of X G a1,.all b1,s1,F2,W.mg_of X G a2,.all b2,s2,e3,W.mg_none_of X G (hb "len" (by simpa using e4))⟩,hlm x (by simpa using hs)⟩
theorem IS{P:Pg}{N:Nat}{x:Str}{st:aG}{l:W.OpenLaw}{q:bG}{loose:List Str}{XP:ee->Heap->Prop}{YP:aW->Heap->Prop}{d:DefRec}(DQ:P.defs.lookup ("law":Str)=some st)(hx:params st=[x])
  (hn:l.most=some 63) (hdn:d.name="law") (hdf:d.params.defaults=[]) (hr:fm (3*N) callerA) (LS:MN P) (hY:∀(w:aW) (h:Heap),YP w h->∃K:ak,K.In h/\Kn P w K/\og K h)
  (adW:∀ns:List Int,ns.length<=63->run P N "law" [y0 ns]=some (.val (.bl true))):W.WalkO q loose XP YP l.row.toRowW d [] (fun f vs=>PySem.call f vs):=by
 refine Att.AM hn hdf fun w s₀ s₁ mg mb fa o pm cd doc a vs ns G Y ho hd vU T6 Lj Lk dQ hg=>?_
 obtain⟨K,KX,T,TH⟩:=hY w _ Y;obtain⟨t1,t2⟩:=TH.tabs KX;have O:=adV KX G.T.g T.hd T.hc T.hb T.he T.hs (w:=w) T.ht T.hcl T.hct LS T.hlm;obtain⟨⟨f,fd,e0,F,b⟩,s⟩:=T.hd ("law",st) (eJ DQ);rw[hdn]at T6;have e:=T6.symm.trans (W.mg_of KX G.T.g e0);cases e;rw[hx]at b;refine HW (CX:=mW l.prog w) (sp:=Eh K 1 (run P N "law")) KX G.T.g G.T.b G.T.builtins G.T.nolimit hg t1 t2 Lj Lk (cz dQ (by decide)) hr (fun base kb _=>?_) (fun s u=>.of_eq (b [u] rfl)) (fun H hS=>Vv (adW ns dQ) hS) fun _ _ _ ⟨_,_,_,_,_,_,_,_,_,_,_,h,_⟩=>h
 have k:=MM (prog:=l.prog) (w:=w) (base:=base) O (fun z=>(T.hbm z).at KX G.T.g kb) N "law" st _ fd DQ (W.mg_of KX G.T.g e0) F s
 rw[hx]at k;exact k
end L2.PL
namespace L2.PL
open PySem
section
variable {fa fb fc:FE} {g g':PV->PV->b8} {ρ:aI} {gc gd:fA} {ts:cg} {f h:FS} {p q:PV} {i j:Int} {n m:Nat} {ps qs:az}
theorem uI:iB=100000:=rfl
@[simp] theorem mx:iS=1000:=rfl
@[simp] theorem adX:Pl=18446744073709551616:=rfl
def Wq:dG->b8
 | some (.val p)=>some p
 | _=>none
@[simp] theorem afx:rd n ρ=Wq ρ[n]?:=by unfold rd Wq;rfl
@[simp] theorem aaF:Wq (some (.val p))=some p:=rfl
@[simp] theorem adY:Wq (some .un)=none:=rfl
@[simp] theorem aaG:Wq (some (.own ps))=none:=rfl
@[simp] theorem Y6:Wq none=none:=rfl
@[simp] theorem Qz:ab fa fb g ρ=(fa ρ).bind fun x=>(fb ρ).bind fun y=>g x y:=rfl
@[simp] theorem G4:gS gc gd ρ=(gc ρ).bind fun x=>if x=true then gd ρ else some false:=rfl
@[simp] theorem EN:Ab gc gd ρ=(gc ρ).bind fun x=>if x=true then some true else gd ρ:=rfl
@[simp] theorem QA:kl gc ρ=(gc ρ).map fun x=>!x:=rfl
def toBE:PV->Option Bool
 | .bl b=>some b
 | _=>none
@[simp] theorem toB_ap:toB fa ρ=(fa ρ).bind toBE:=by unfold toB toBE;rfl
@[simp] theorem toBE_bl{b:Bool}:toBE (.bl b)=some b:=rfl
@[simp] theorem QB:oA fa fb ρ=((fa ρ).bind toBE).bind fun x=>if x=true then fb ρ else some (.bl false):=by unfold oA;rw[toB_ap]
@[simp] theorem adZ:Yo fa fb ρ=(fa ρ).bind (IC (fb ρ)):=rfl
@[simp] theorem aaH{b:Bool}{w:b8}:IC w (.bl b)=if b=true then some (.bl true)else w:=rfl
@[simp] theorem Y7{w:b8}:IC w (.aq [])=w:=rfl
@[simp] theorem Wr{w:b8}:IC w (.aq (p::ps))=some (.aq (p::ps)):=rfl
@[simp] theorem QC{fr:aI->dG}:L5 n fr ρ=(fr ρ).bind fun e=>if n<ρ.length then some (.nx (ρ.set n e))else none:=rfl
@[simp] theorem MO{c:az->dG}:ur (aM n c) ts ρ=(ts ρ).bind fun as=>(if as.length=n then c as else none).bind mK:=rfl
@[simp] theorem Y8:mK (.val p)=some (.val p):=rfl
@[simp] theorem Y9:mK (.own ps)=some (.own ps):=rfl
@[simp] theorem aaI:PK fa fb ρ=(fa ρ).bind fun x=>(fb ρ).bind fun y=>IA x y:=rfl
@[simp] theorem Za:IA (.aq ps) (.aq qs)=if ps.length+qs.length<=iB then some (.own (ps++qs))else none:=rfl
@[simp] theorem aaJ:Eu fa ρ=(fa ρ).map .val:=rfl
@[simp] theorem QD{ck:List (Str×Str)}{fns:List (Str×Nat)}{c:gv}:Iy ck fns c fa ts ρ=(fa ρ).bind (UP ck fns c ts ρ):=rfl
@[simp] theorem MP{ck:List (Str×Str)}{fns:List (Str×Nat)}{c:gv}{x:Str}:UP ck fns c ts ρ (.str x)=(ck.lookup x).bind fun fn=>(fns.lookup fn).bind fun m=>ay (aM m (c fn)) ts ρ:=rfl
@[simp] theorem Zb:Bm [.int i]=if 0<=i/\i<1000 then some (.str (toString i))else none:=rfl
@[simp] theorem aaK:A7 fa ρ=((fa ρ).bind toBE).map fun x=>.bl (!x):=by unfold A7;rw[toB_ap]
@[simp] theorem G5:rn gc fa fb ρ=(gc ρ).bind fun x=>if x=true then fa ρ else fb ρ:=rfl
def za(y:PV)(w:b8)(g':PV->PV->b8):PV->b8
 | .bl true=>w.bind fun w=>g' y w
 | .bl false=>some (.bl false)
 | _=>none
@[simp] theorem MQ:chain fa fb fc g g' ρ=(fa ρ).bind fun x=>(fb ρ).bind fun y=>(g x y).bind (za y (fc ρ) g'):=by unfold chain za;rfl
@[simp] theorem MR{y:PV}{w:b8}:za y w g' (.bl true)=w.bind fun w=>g' y w:=rfl
@[simp] theorem MS{y:PV}{w:b8}:za y w g' (.bl false)=some (.bl false):=rfl
@[simp] theorem aaL:ah ρ=some []:=rfl
@[simp] theorem dY:aa fa ts ρ=(fa ρ).bind fun x=>(ts ρ).map fun xs=>x::xs:=rfl
@[simp] theorem oY:bh ts ρ=(ts ρ).bind fun ps=>if ps.length<=iB then some (.aA ps)else none:=rfl
@[simp] theorem zb:cH ts ρ=(ts ρ).bind fun ps=>if ps.length<=iB then some ps else none:=rfl
@[simp] theorem QE:bI ts ρ=(ts ρ).map .aq:=rfl
@[simp] theorem MT{c:az->dG}:ay (aM n c) ts ρ=(ts ρ).bind fun as=>(if as.length=n then c as else none).bind oC:=rfl
@[simp] theorem Zc{c:az->dG}:qP (aM n c) ts ρ=(ts ρ).bind fun as=>(if as.length=n then c as else none).bind O4:=rfl
@[simp] theorem Zd:oC (.val p)=some p:=rfl
@[simp] theorem Ze:oC (.own ps)=some (.aq ps):=rfl
@[simp] theorem Zf:O4 (.own ps)=some ps:=rfl
@[simp] theorem QF{c:az->b8}:cf c ts ρ=(ts ρ).bind c:=rfl
@[simp] theorem ad0{t:Ty}:Se t fa ρ=(fa ρ).map fun p=>.bl (ie t p):=rfl
@[simp] theorem ad1:Pu ρ=some none:=rfl
def MU:PV->Option (Option Int)
 | .int i=>some (some i)
 | _=>none
@[simp] theorem Zg:lh fa ρ=(fa ρ).bind MU:=by unfold lh MU;rfl
@[simp] theorem Ws:MU (.int i)=some (some i):=rfl
@[simp] theorem aaM{fl fh:FO}:cutE fa fl fh ρ=(fa ρ).bind fun p=>(fl ρ).bind fun l=>(fh ρ).bind fun h=>Pt l h p:=rfl
@[simp] theorem aaN{l u:Option Int}:Pt l u (.aq ps)=some (.aq (j6 ps l u)):=rfl
@[simp] theorem aaO{l u:Option Int}:Pt l u (.aA ps)=some (.aA (j6 ps l u)):=rfl
@[simp] theorem aaP:hV fa ρ=(fa (fB none ρ)).bind fun p=>if um p=true then some p else none:=rfl
@[simp] theorem aaQ:jm gc ρ=gc (fB none ρ):=rfl
@[simp] theorem aaR{L:List Nat}:mF L f ρ=f (fB (some L) ρ):=rfl
@[simp] theorem aaS{L:Option (List Nat)}:fB L ρ=gn L 0 ρ:=rfl
@[simp] theorem Sz{L:Option (List Nat)}:gn L n []=[]:=rfl
@[simp] theorem QG{L:Option (List Nat)}{e:Ent}{r:aI}:gn L n (e::r)=el L n e::gn L (n+1) r:=rfl
@[simp] theorem Wt{L:Option (List Nat)}:el L n .un=.un:=rfl
@[simp] theorem Vw{L:Option (List Nat)}:el L n (.val p)=.val p:=rfl
@[simp] theorem Vx:el none n (.own ps)=.val (.aq ps):=rfl
@[simp] theorem SA{l:List Nat}:el (some l) n (.own ps)=if n∈l then .val (.aq ps)else .own ps:=rfl
@[simp] theorem Wu:um (.int i)=true:=rfl
@[simp] theorem Zh{b:Bool}:um (.bl b)=true:=rfl
def EO(h:FS):pJ->Option pJ
 | .nx ρ=>h ρ
 | o=>some o
@[simp] theorem G6:aH f h ρ=(f ρ).bind (EO h):=by
 unfold aH EO
 congr 1
@[simp] theorem aaT:EO h (.nx ρ)=h ρ:=rfl
@[simp] theorem aaU{e:Ent}:EO h (.rt e)=some (.rt e):=rfl
@[simp] theorem aaV:EO h (.bk ρ)=some (.bk ρ):=rfl
@[simp] theorem aaW:EO h (.ct ρ)=some (.ct ρ):=rfl
@[simp] theorem aaX{m:Bool}{C:Str}:EO h (.ex m C ρ)=some (.ex m C ρ):=rfl
@[simp] theorem MV:gK gc f h ρ=(gc ρ).bind fun x=>if x=true then f ρ else h ρ:=rfl
@[simp] theorem QH:bz fa ρ=(fa ρ).map fun p=>.rt (.val p):=rfl
@[simp] theorem Zi:qQ fa ρ=(fa ρ).map fun _=>.nx ρ:=rfl
@[simp] theorem QI{t:gJ}:bj fa t ρ=(fa ρ).bind fun p=>(t p ρ).map .nx:=rfl
@[simp] theorem aaY:aj n p ρ=if n<ρ.length then some (ρ.set n (.val p))else none:=rfl
@[simp] theorem QJ:jA n ts ρ=(ts ρ).bind fun ps=>if n<ρ.length then some (.nx (ρ.set n (.own ps)))else none:=rfl
@[simp] theorem aaZ{t:az->aI->Option aI}:cM n t (.aA ps) ρ=if ps.length=n then t ps ρ else none:=rfl
@[simp] theorem aa0:cI [] ρ=some ρ:=rfl
@[simp] theorem Zj{t:gJ}{r:az->aI->Option aI}:aw t r (p::ps) ρ=(t p ρ).bind fun fO=>r ps fO:=rfl
def QK:dG->Option pJ
 | some (.own ps)=>some (.rt (.own ps))
 | some (.val p)=>some (.rt (.val p))
 | _=>none
@[simp] theorem QL:nI n ρ=QK ρ[n]?:=by unfold nI QK;rfl
@[simp] theorem Zk:QK (some (.own ps))=some (.rt (.own ps)):=rfl
@[simp] theorem Zl:QK (some (.val p))=some (.rt (.val p)):=rfl
def QM(n:Nat)(ts:cg)(g:az->az->Option az)(ρ:aI):dG->Option pJ
 | some (.own ps)=>(ts ρ).bind fun as=>(g ps as).map fun qs=>.nx (ρ.set n (.own qs))
 | _=>none
@[simp] theorem rW{g:az->az->Option az}:gL n ts g ρ=QM n ts g ρ ρ[n]?:=by unfold gL QM;rfl
@[simp] theorem oZ{g:az->az->Option az}:QM n ts g ρ (some (.own ps))=(ts ρ).bind fun as=>(g ps as).map fun qs=>.nx (ρ.set n (.own qs)):=rfl
@[simp] theorem QN:nJ ps [p]=if ps.length<iB then some (ps++[p])else none:=rfl
@[simp] theorem MW:qa ps [.aq qs]=if ps.length+qs.length<=iB then some (ps++qs)else none:=rfl
@[simp] theorem Zm:qa ps [.aA qs]=if ps.length+qs.length<=iB then some (ps++qs)else none:=rfl
def BD:PV->Option az
 | .aA ps=>some ps
 | .aq ps=>some ps
 | _=>none
@[simp] theorem G7:dD fa ρ=(fa ρ).bind BD:=by unfold dD BD;rfl
@[simp] theorem Wv:BD (.aA ps)=some ps:=rfl
@[simp] theorem Ww:BD (.aq ps)=some ps:=rfl
@[simp] theorem Zn:LY (.aA ps)=some ps:=rfl
@[simp] theorem Zo:LY (.aq ps)=some ps:=rfl
@[simp] theorem QO{fi:cg}{t:gJ}:il fi t f ρ=(fi ρ).bind fun ps=>fy t f ps ρ:=rfl
@[simp] theorem Zp{t:gJ}:fy t f [] ρ=some (.nx ρ):=rfl
def IT(k:aI->Option pJ):pJ->Option pJ
 | .nx ρ=>k ρ
 | .ct ρ=>k ρ
 | .bk ρ=>some (.nx ρ)
 | .rt e=>some (.rt e)
 | .ex m C ρ=>some (.ex m C ρ)
theorem i9{t:gJ}:fy t f (p::ps) ρ=(t p ρ).bind fun fX=>(f fX).bind (IT (fy t f ps)):=by
 rw[fy]
 congr 1
@[simp] theorem rX{k:aI->Option pJ}:IT k (.nx ρ)=k ρ:=rfl
@[simp] theorem aa1{k:aI->Option pJ}:IT k (.ct ρ)=k ρ:=rfl
@[simp] theorem aa2{k:aI->Option pJ}:IT k (.bk ρ)=some (.nx ρ):=rfl
@[simp] theorem aa3{k:aI->Option pJ}{e:Ent}:IT k (.rt e)=some (.rt e):=rfl
@[simp] theorem aa4{k:aI->Option pJ}{m:Bool}{C:Str}:IT k (.ex m C ρ)=some (.ex m C ρ):=rfl
@[simp] theorem BE{L:List (Option Nat)}{fi:cg}{t:gJ}:dX L fi t fa ρ=(fi ρ).bind fun ps=>if ps.length<=iB then j5 (fun p=>(t p (bL L ρ)).bind fa) ps else none:=rfl
@[simp] theorem MX{L:List (Option Nat)}{fi:cg}{t:gJ}:fP L fi t gc fa ρ=(fi ρ).bind fun ps=>if ps.length<=iB then lT (fun p=>(t p (bL L ρ)).bind fun fX=>(gc fX).bind fun b=>if b=true then(fa fX).map some else some none) ps else none:=rfl
def G8:dG->Ent
 | some (.val p)=>.val p
 | some (.ob o)=>.ob o
 | _=>.un
def MY(ρ:aI):Option Nat->Ent
 | none=>.un
 | some j=>G8 ρ[j]?
@[simp] theorem Wx{L:List (Option Nat)}:bL L ρ=L.map (MY ρ):=by
 unfold bL
 congr 1
@[simp] theorem Vy:MY ρ none=.un:=rfl
@[simp] theorem Vz:MY ρ (some n)=G8 ρ[n]?:=rfl
@[simp] theorem Wy:G8 (some (.val p))=.val p:=rfl
@[simp] theorem Zq{o:Ob}:G8 (some (.ob o))=.ob o:=rfl
def QP:az->Option az
 | [.int j]=>if -(2^62)<=j/\j<2^62 then some ((List.range j.toNat).map fun(i:Nat)=>.int (0+i))else none
 | _=>none
@[simp] theorem QQ:ip ts ρ=(ts ρ).bind QP:=by unfold ip QP;rfl
theorem MZ:QP [.int j]=if -(2^62)<=j/\j<2^62 then some ((List.range j.toNat).map fun(i:Nat)=>.int (0+i))else none:=rfl
theorem ql:∀ns:List Int,iD (ns.map .int)=some ns
 | []=>rfl
 | n::r=>by simp[iD,ql r]
@[simp] theorem aa5{fl fh:FO}:PX fa fl fh ρ=(fa ρ).bind fun p=>(fl ρ).bind fun l=>(fh ρ).bind fun h=>(UQ p).map fun xs=>.own (j6 xs l h):=rfl
@[simp] theorem Zr:UQ (.aq ps)=some ps:=rfl
@[simp] theorem js:bZ (.int i) (.int j)=some (.int (i+j)):=rfl
@[simp] theorem Zs:bZ (.aq ps) (.aq qs)=sizeOk (ps.length+qs.length) (.aq (ps++qs)):=rfl
@[simp] theorem Zt:bZ (.aA ps) (.aA qs)=sizeOk (ps.length+qs.length) (.aA (ps++qs)):=rfl
theorem qm(h:n<=iB):sizeOk n p=some p:=if_pos h
@[simp] theorem Zu:Pk (.int i) (.int j)=some (.int (i-j)):=rfl
theorem M0:km (.int i) (.int j)=if(-Pl<i/\i<Pl)\/(-Pl<j/\j<Pl)then some (.int (i*j))else none:=rfl
@[simp] theorem IU:dz (.int i) (.int j)=if 0<j/\j<1073741824 then some (.int (i/j))else none:=rfl
@[simp] theorem M1:cw (.int i) (.int j)=if 0<j then some (.int (i%j))else none:=rfl
@[simp] theorem BF:Bf (.int i) (.int j)=if 0<=j/\j<=1000/\i.natAbs<1000 then some (.int (i^j.toNat))else none:=rfl
@[simp] theorem G9:Bh (.int i) (.int j)=some (.bl (decide (i<j))):=rfl
@[simp] theorem aa6:J2 (.int i) (.int j)=some (.bl (decide (i<=j))):=rfl
@[simp] theorem aa7:gtO (.int i) (.int j)=some (.bl (decide (j<i))):=rfl
@[simp] theorem QR:Wj (.int i) (.int j)=some (.bl (decide (j<=i))):=rfl
@[simp] theorem iU:dS (.int i) (.int j)=some (.bl (decide (i=j))):=by
 show(if jG (.int i)<=iS then some (PV.bl (eqT (.int i) (.int j)))else none)=_
 rw[if_pos (by simp[jG,iS])]
 simp only[eqT,Bool.beq_eq_decide_eq]
@[simp] theorem QS:yA (.int i) (.int j)=some (.bl (!decide (i=j))):=by
 show(if jG (.int i)<=iS then some (PV.bl (!eqT (.int i) (.int j)))else none)=_
 rw[if_pos (by simp[jG,iS])]
 simp only[eqT,Bool.beq_eq_decide_eq]
@[simp] theorem cU{x y:Str}:dS (.str x) (.str y)=some (.bl (x==y)):=by
 show(if jG (.str x)<=iS then some (PV.bl (eqT (.str x) (.str y)))else none)=_
 rw[if_pos (by simp[jG,iS])]
 simp only[eqT]
@[simp] theorem rY{x y:Str}:yA (.str x) (.str y)=some (.bl (!(x==y))):=by
 show(if jG (.str x)<=iS then some (PV.bl (!eqT (.str x) (.str y)))else none)=_
 rw[if_pos (by simp[jG,iS])]
 simp only[eqT]
@[simp] theorem ad2{x y:Bool}:dS (.bl x) (.bl y)=some (.bl (x==y)):=by
 show(if jG (.bl x)<=iS then some (PV.bl (eqT (.bl x) (.bl y)))else none)=_
 rw[if_pos (by simp[jG,iS])]
 simp only[eqT]
@[simp] theorem ad3{x y:Bool}:yA (.bl x) (.bl y)=some (.bl (!(x==y))):=by
 show(if jG (.bl x)<=iS then some (PV.bl (!eqT (.bl x) (.bl y)))else none)=_
 rw[if_pos (by simp[jG,iS])]
 simp only[eqT]
theorem ER(h:jG p<=iS):dS p q=some (.bl (eqT p q)):=if_pos h
theorem VA(h:jG p<=iS):yA p q=some (.bl (!eqT p q)):=if_pos h
@[simp] theorem aa8:aF (.aA ps) (.int i)=atI ps i:=rfl
@[simp] theorem aa9:aF (.aq ps) (.int i)=atI ps i:=rfl
@[simp] theorem M3:cZ [.aA ps]=some (.int ps.length):=rfl
@[simp] theorem uJ:cZ [.aq ps]=some (.int ps.length):=rfl
@[simp] theorem Zv:mJ [.aq ps]=some (.aA ps):=rfl
@[simp] theorem Zw:mJ [.aA ps]=some (.aA ps):=rfl
@[simp] theorem Zx:LW [.aq ps]=some (.aq ps):=rfl
@[simp] theorem Zy:LW [.aA ps]=some (.aq ps):=rfl
@[simp] theorem Zz:yB [.int i]=some (.int i):=rfl
@[simp] theorem aba{b:Bool}:yB [.bl b]=some (.int (if b then 1 else 0)):=rfl
@[simp] theorem M4{α:Type}{x:α}{r:List α}:atI (x::r) 0=some x:=by
 unfold atI Le;rw[if_pos (by decide),if_pos (by simp <;> lia)]
 rfl
@[simp] theorem afy{α:Type}{x y:α}{r:List α}:atI (x::y::r) 1=some y:=by
 unfold atI Le;rw[if_pos (by decide),if_pos (by simp <;> lia)]
 rfl
@[simp] theorem afz{α:Type}{x y z:α}{r:List α}:atI (x::y::z::r) 2=some z:=by
 unfold atI Le;rw[if_pos (by decide),if_pos (by simp <;> lia)]
 rfl
@[simp] theorem afA{α:Type}{x y z w:α}{r:List α}:atI (x::y::z::w::r) 3=some w:=by
 unfold atI Le;rw[if_pos (by decide),if_pos (by simp <;> lia)]
 rfl
def gA:Option pJ->dG
 | some (.rt (.val p))=>some (.val p)
 | some (.rt (.own ps))=>some (.own ps)
 | some (.nx _)=>some (.val .df)
 | _=>none
@[simp] theorem aR:uF f n ps=gA (f (ps.map .val++List.replicate (n-ps.length) .un)):=by unfold uF gA;rfl
@[simp] theorem abb:gA (some (.rt (.val p)))=some (.val p):=rfl
@[simp] theorem abd:gA (some (.rt (.own ps)))=some (.own ps):=rfl
@[simp] theorem abe:gA (some (.nx ρ))=some (.val .df):=rfl
@[simp] theorem ad4:ie .tuple (.aA ps)=true:=rfl
@[simp] theorem ad5:ie .tuple (.aq ps)=false:=rfl
@[simp] theorem ad6:ie .tuple (.int i)=false:=rfl
@[simp] theorem ad7{x:Str}:ie .tuple (.str x)=false:=rfl
@[simp] theorem ad8{b:Bool}:ie .tuple (.bl b)=false:=rfl
@[simp] theorem ad9:ie .tuple .df=false:=rfl
@[simp] theorem aea:ie .int (.int i)=true:=rfl
@[simp] theorem aeb:ie .bool (.int i)=false:=rfl
@[simp] theorem aec{b:Bool}:ie .bool (.bl b)=true:=rfl
@[simp] theorem abf:ie .list (.aq ps)=true:=rfl
@[simp] theorem abg{x:Str}:ie .str (.str x)=true:=rfl
@[simp] theorem abh:ie .str (.aA ps)=false:=rfl
@[simp] theorem abi:ie .str (.int i)=false:=rfl
@[simp] theorem abj{b:Bool}:ie .int (.bl b)=true:=rfl
@[simp] theorem abk{x:Str}:ie .int (.str x)=false:=rfl
@[simp] theorem abl:ie .int (.aA ps)=false:=rfl
@[simp] theorem abm:ie .int (.aq ps)=false:=rfl
@[simp] theorem abn:ie .int .df=false:=rfl
@[simp] theorem abo:ie .str (.aq ps)=false:=rfl
@[simp] theorem abp:ie .str .df=false:=rfl
@[simp] theorem abq{b:Bool}:ie .str (.bl b)=false:=rfl
@[simp] theorem abr{x:Str}:ie .bool (.str x)=false:=rfl
@[simp] theorem abt:ie .bool (.aA ps)=false:=rfl
end
theorem IV{j:Int}(h:-1000<=j/\j<=100000):QP [.int j]=some ((List.range j.toNat).map fun(i:Nat)=>.int (0+i)):=by
 rw[MZ];have h1:(-(2^62):Int) <= -1000:=by decide
 have h2:(100000:Int)<2^62:=by decide
 exact if_pos ⟨jX h1 h.1,Int.lt_of_le_of_lt h.2 h2⟩
@[simp] theorem afB:0<=iB:=by decide
@[simp] theorem SD:1<=iB:=by decide
@[simp] theorem SE:2<=iB:=by decide
@[simp] theorem ZA:3<=iB:=by decide
@[simp high] theorem afC {ρ:aI}:bh ah ρ=some (.aA []):=rfl
@[simp high] theorem afD {fa:FE} {ρ:aI}:bh (aa fa ah) ρ=(fa ρ).map fun a=>.aA [a]:=by
 rw[oY,dY];cases fa ρ with
 | none=>rfl
 | some a=>exact if_pos (e:=none) SD
@[simp high] theorem afE {fa fb:FE} {ρ:aI}:bh (aa fa (aa fb ah)) ρ=(fa ρ).bind fun a=>(fb ρ).map fun b=>.aA [a,b]:=by
 rw[oY,dY,dY];cases fa ρ with
 | none=>rfl
 | some a=>cases fb ρ with
  | none=>rfl
  | some b=>exact if_pos (e:=none) SE
@[simp high] theorem afF {fa fb fc:FE} {ρ:aI}:bh (aa fa (aa fb (aa fc ah))) ρ=(fa ρ).bind fun a=>(fb ρ).bind fun b=>(fc ρ).map fun c=>.aA [a,b,c]:=by
 rw[oY,dY,dY,dY];cases fa ρ with
 | none=>rfl
 | some a=>cases fb ρ with
  | none=>rfl
  | some b=>cases fc ρ with
   | none=>rfl
   | some c=>exact if_pos (e:=none) ZA
@[simp high] theorem afG {ρ:aI}:cH ah ρ=some []:=rfl
@[simp high] theorem afH {fa:FE} {ρ:aI}:cH (aa fa ah) ρ=(fa ρ).map fun a=>[a]:=by
 rw[zb,dY];cases fa ρ with
 | none=>rfl
 | some a=>exact if_pos (e:=none) SD
@[simp high] theorem afI {fa fb:FE} {ρ:aI}:cH (aa fa (aa fb ah)) ρ=(fa ρ).bind fun a=>(fb ρ).map fun b=>[a,b]:=by
 rw[zb,dY,dY];cases fa ρ with
 | none=>rfl
 | some a=>cases fb ρ with
  | none=>rfl
  | some b=>exact if_pos (e:=none) SE
theorem m9{n:Nat}(h:n<=100000):n<=iB:=h
theorem SF{n:Nat}(h:n<100000):n<iB:=h
theorem l9{i j:Int}(h:-18446744073709551616<j/\j<18446744073709551616):km (.int i) (.int j)=some (.int (i*j)):=by
 rw[M0];exact if_pos (.inr h)
theorem iW{ts:cg}{ρ:aI}{j:Int}(h:ts ρ=some [.int j])(hb:-1000<=j/\j<=100000):ip ts ρ=some ((List.range j.toNat).map fun(i:Nat)=>.int (0+i)):=by
 rw[QQ,h,aY,IV hb]
theorem gq{f g:FS}{ρ fO:aI}(h:f ρ=some (.nx fO)):aH f g ρ=g fO:=by
 rw[G6,h];rfl
@[simp] theorem ZC:4<=iB:=by decide
@[simp high] theorem afJ {fa fb fc fd:FE} {ρ:aI}:bh (aa fa (aa fb (aa fc (aa fd ah)))) ρ=(fa ρ).bind fun a=>(fb ρ).bind fun b=>(fc ρ).bind fun c=>(fd ρ).map fun d=>.aA [a,b,c,d]:=by
 rw[oY,dY,dY,dY,dY];cases fa ρ with
 | none=>rfl
 | some a=>cases fb ρ with
  | none=>rfl
  | some b=>cases fc ρ with
   | none=>rfl
   | some c=>cases fd ρ with
    | none=>rfl
    | some d=>exact if_pos (e:=none) ZC
theorem b2{fa fb:FE}{g:PV->PV->b8}{ρ:aI}{x y:PV}{z:b8}(ha:fa ρ=some x)(hb:fb ρ=some y)(h:g x y=z):ab fa fb g ρ=z:=by
 rw[Qz,ha,hb];exact h
theorem cA{fa:FE}{ts:cg}{ρ:aI}{x:PV}{xs:az}(ha:fa ρ=some x)(hb:ts ρ=some xs):aa fa ts ρ=some (x::xs):=by
 rw[dY,ha,hb];rfl
theorem dN{c:az->dG}{ts:cg}{ρ:aI}{as:az}{n:Nat}{e:Ent}{p:PV}(ha:ts ρ=some as)(hn:as.length=n)(hc:c as=some e)(he:oC e=some p):ay (aM n c) ts ρ=some p:=by
 rw[MT,ha];show(if as.length=n then c as else none).bind oC=_
 rw[if_pos hn,hc];exact he
theorem clQ{c:az->dG}{ts:cg}{ρ:aI}{as:az}{n:Nat}{e e':Ent}(ha:ts ρ=some as)(hn:as.length=n)(hc:c as=some e)(he:mK e=some e'):ur (aM n c) ts ρ=some e':=by
 rw[MO,ha];show(if as.length=n then c as else none).bind mK=_
 rw[if_pos hn,hc];exact he
theorem bV{g:az->b8}{ts:cg}{ρ:aI}{as:az}{z:b8}(ha:ts ρ=some as)(h:g as=z):cf g ts ρ=z:=by
 rw[QF,ha];exact h
theorem fS{fi:cg}{set:gJ}{f:FS}{ρ:aI}{ps:az}{z:Option pJ}(h:fi ρ=some ps)(hf:fy set f ps ρ=z):il fi set f ρ=z:=by
 rw[QO,h];exact hf
theorem tU{ts:cg}{ρ:aI}{ps:az}(h:ts ρ=some ps)(hl:ps.length<=100000):bh ts ρ=some (.aA ps):=by
 rw[oY,h];exact if_pos (m9 hl)
theorem lS{ts:cg}{ρ:aI}{ps:az}(h:ts ρ=some ps)(hl:ps.length<=100000):cH ts ρ=some ps:=by
 rw[zb,h];exact if_pos (m9 hl)
theorem fF{ts:cg}{ρ:aI}{ps:az}(h:ts ρ=some ps):bI ts ρ=some (.aq ps):=by
 rw[QE,h];rfl
theorem aS{fa:FE}{g:gJ}{ρ fO:aI}{p:PV}(ha:fa ρ=some p)(h:g p ρ=some fO):bj fa g ρ=some (.nx fO):=by
 rw[QI,ha];show(g p ρ).map pJ.nx=_;rw[h];rfl
theorem sR{fr:aI->dG}{n:Nat}{ρ:aI}{e:Ent}(ha:fr ρ=some e)(h:n<ρ.length):L5 n fr ρ=some (.nx (ρ.set n e)):=by
 rw[QC,ha];exact if_pos h
theorem sO{ts:cg}{n:Nat}{ρ:aI}{ps:az}(ha:ts ρ=some ps)(h:n<ρ.length):jA n ts ρ=some (.nx (ρ.set n (.own ps))):=by
 rw[QJ,ha];exact if_pos h
theorem iT{gc:fA}{f h:FS}{ρ:aI}{z:Option pJ}(hc:gc ρ=some true)(hf:f ρ=z):gK gc f h ρ=z:=by
 rw[MV,hc];exact hf
theorem iF{gc:fA}{f h:FS}{ρ:aI}{z:Option pJ}(hc:gc ρ=some false)(hf:h ρ=z):gK gc f h ρ=z:=by
 rw[MV,hc];exact hf
theorem rS{fa:FE}{ρ:aI}{p:PV}(h:fa ρ=some p):bz fa ρ=some (.rt (.val p)):=by
 rw[QH,h];rfl
theorem jB{f g:FS}{ρ:aI}{e:Ent}(h:f ρ=some (.rt e)):aH f g ρ=some (.rt e):=by
 rw[G6,h];rfl
theorem aL{ps qs:az}(h:ps.length+qs.length<=100000):bZ (.aq ps) (.aq qs)=some (.aq (ps++qs)):=qm (m9 h)
theorem aT{ps qs:az}(h:ps.length+qs.length<=100000):bZ (.aA ps) (.aA qs)=some (.aA (ps++qs)):=qm (m9 h)
theorem bT{fa:FE}{ρ:aI}{b:Bool}(h:fa ρ=some (.bl b)):toB fa ρ=some b:=by
 rw[toB_ap,h];rfl
theorem dk{x:Option pJ}{p:PV}(h:x=some (.rt (.val p))):gA x=some (.val p):=by rw[h];rfl
theorem zc{x:Option pJ}{ps:az}(h:x=some (.rt (.own ps))):gA x=some (.own ps):=by rw[h];rfl
theorem ze{n:Nat}{ρ:aI}{ps:az}(h:ρ[n]?=some (.own ps)):nI n ρ=some (.rt (.own ps)):=by rw[QL,h];rfl
theorem sq{f g:FS}{ρ fO:aI}{z:Option pJ}(h:f ρ=some (.nx fO))(hg:g fO=z):aH f g ρ=z:=(gq h).trans hg
theorem iV{gc:fA}{fa fb:FE}{ρ:aI}{b:Bool}{z:b8}(hc:gc ρ=some b)(h:(if b=true then fa ρ else fb ρ)=z):rn gc fa fb ρ=z:=by
 rw[G5,hc];exact h
theorem nB{gc:fA}{ρ:aI}{b:Bool}(h:gc ρ=some b):kl gc ρ=some (!b):=by
 rw[QA,h];rfl
theorem mA{n:Nat}{fa:FE}{ρ:aI}{ps:az}{p:PV}(h0:ρ[n]?=some (.own ps))(h:fa ρ=some p)(hl:ps.length<100000):gL n (aa fa ah) nJ ρ=some (.nx (ρ.set n (.own (ps++[p])))):=by
 rw[rW,h0,oZ,cA h rfl,aY,QN,if_pos (SF hl)];rfl
theorem mX{n:Nat}{fa:FE}{ρ:aI}{ps qs:az}(h0:ρ[n]?=some (.own ps))(h:fa ρ=some (.aq qs))(hl:ps.length+qs.length<=100000):gL n (aa fa ah) qa ρ=some (.nx (ρ.set n (.own (ps++qs)))):=by
 rw[rW,h0,oZ,cA h rfl,aY,MW,if_pos (m9 hl)];rfl
theorem cV{L:List (Option Nat)}{fi:cg}{t:gJ}{fa:FE}{ρ:aI}{ps qs:az}(h:fi ρ=some ps)(hl:ps.length<=100000) (hm:j5 (fun p=>(t p (bL L ρ)).bind fa) ps=some qs):dX L fi t fa ρ=some qs:=by
 rw[BE,h,aY,if_pos (m9 hl)];exact hm
theorem cT{L:List (Option Nat)}{fi:cg}{t:gJ}{gc:fA}{fa:FE}{ρ:aI}{ps qs:az}(h:fi ρ=some ps)(hl:ps.length<=100000) (hm:lT (fun p=>(t p (bL L ρ)).bind fun fX=>(gc fX).bind fun b=>if b=true then(fa fX).map some else some none) ps=some qs):fP L fi t gc fa ρ=some qs:=by
 rw[MX,h,aY,if_pos (m9 hl)];exact hm
theorem sV{fa:FE}{ρ:aI}{p:PV}{ps:az}(h:fa ρ=some p)(hp:BD p=some ps):dD fa ρ=some ps:=by
 rw[G7,h];exact hp
theorem fC{t:gJ}{f:FS}{ρ fX vm:aI}{p:PV}{ps:az}{z:Option pJ}(h:t p ρ=some fX)(h2:f fX=some (.nx vm))(h3:fy t f ps vm=z):fy t f (p::ps) ρ=z:=by
 rw[i9,h,aY,h2,aY,rX];exact h3
theorem fR{t:gJ}{f:FS}{ρ fX:aI}{p:PV}{ps:az}{e:Ent}(h:t p ρ=some fX)(h2:f fX=some (.rt e)):fy t f (p::ps) ρ=some (.rt e):=by
 rw[i9,h,aY,h2];rfl
end L2.PL
namespace nZ
open PySem L2 L2.PL
abbrev cK(p:PV):FE:=fun _=>some p
inductive Sh where
 | num | own | du (n:Int) | bO (ps:List Sh)
mutual
def enc:Sh->PV
 | .num=>.aA [.str "num"]
 | .own=>.aA [.str "own"]
 | .du n=>.aA [.str "strip",.int n]
 | .bO ps=>.aA [.str "rec",.aA (dj ps)]
def dj:List Sh->az
 | []=>[]
 | s::r=>enc s::dj r
end
mutual
def lv:Sh->List Sh
 | .num=>[.num]
 | .own=>[.own]
 | .du n=>[.du n]
 | .bO ps=>jc ps
def jc:List Sh->List Sh
 | []=>[]
 | s::r=>lv s++jc r
end
mutual
def dp:Sh->Nat
 | .bO ps=>uK ps+1
 | _=>0
def uK:List Sh->Nat
 | []=>0
 | s::r=>max (dp s) (uK r)
end
def jt:Sh->Bool
 | .bO _=>false
 | _=>true
theorem iH:∀l:List Sh,dj l=l.map enc
 | []=>rfl
 | s::r=>by simp[dj,iH r]
theorem BG(a b:List Sh):dj (a++b)=dj a++dj b:=by simp[iH]
theorem iI(a:List Sh):(dj a).length=a.length:=by simp[iH]
theorem uL:∀a b:List Sh,jc (a++b)=jc a++jc b
 | [],b=>by simp[jc]
 | s::r,b=>by simp[jc,uL r b]
mutual
theorem zf:∀s:Sh,∀x∈lv s,jt x=true
 | .num,x,h=>by simp[lv]at h;subst h;rfl
 | .own,x,h=>by simp[lv]at h;subst h;rfl
 | .du n,x,h=>by simp[lv]at h;subst h;rfl
 | .bO ps,x,h=>BH ps x (by simpa[lv]using h)
theorem BH:∀ps:List Sh,∀x∈jc ps,jt x=true
 | [],x,h=>by simp[jc]at h
 | s::r,x,h=>by
  simp only[jc,c9]at h;rcases h with h | h
  ·exact zf s x h
  ·exact BH r x h
end
@[simp] theorem s_1:((Str.ofString "num")==(Str.ofString "rec"))=false:=by decide +kernel
@[simp] theorem s_2:((Str.ofString "own")==(Str.ofString "rec"))=false:=by decide +kernel
@[simp] theorem s_3:((Str.ofString "strip")==(Str.ofString "rec"))=false:=by decide +kernel
@[simp] theorem s_4:((Str.ofString "num")==(Str.ofString "strip"))=false:=by decide +kernel
@[simp] theorem s_5:((Str.ofString "own")==(Str.ofString "strip"))=false:=by decide +kernel
@[simp] theorem s_6:((Str.ofString "rec")==(Str.ofString "strip"))=false:=by decide +kernel
theorem uM:∀{l:az} {n:Nat},(∀x∈l,jG x<=n)->eX l<=n
 | [],_,_=>by simp[eX]
 | x::r,n,h=>by
  simp only[eX];have h1:=h x cq;have h2:=uM fun y hy=>h y (cn _ hy)
  lia
theorem M5{s:Sh}(h:jt s=true):jG (enc s)<=1:=by
 cases s with
 | bO _=>cases h
 | _=>simp[enc,jG,eX]
theorem uN{l:List Sh}(h:∀x∈l,jt x=true):eX (dj l)<=1:=by
 rw[iH];refine uM fun x hx=>?_
 obtain⟨s,hs,rfl⟩:=bF.mp hx;exact M5 (h s hs)
def zg(c:gv):FS:=gL 1 (aa (ay (aM 1 (c "leaves")) (aa (rd 2) ah)) ah) qa
theorem ES(c:gv)(ρ:aI):zg c ρ=gL 1 (aa (ay (aM 1 (c "leaves")) (aa (rd 2) ah)) ah) qa ρ:=rfl
def o8(c:gv):FS :=
 (aH (gK (jm (toB (ab (ab (rd 0) (cK (.int 0)) aF) (cK (.str "rec")) yA)))
  (bz (bh (aa (rd 0) ah)))
  (fun ρ=>some (.nx ρ)))
  (aH (jA 1 (cH ah))
  (aH (il (dD (ab (rd 0) (cK (.int 1)) aF)) (aj 2) (zg c))
  (mF [1] (bz (cf mJ (aa (rd 1) ah)))))))
theorem qV{c:gv}(X:PV):∀(ps:List Sh) (acc:List Sh) (o:Ent),(∀s∈ps,c "leaves" [enc s]=some (.val (.aA (dj (lv s)))))->acc.length+(jc ps).length<=100000 ->
  ∃o',fy (aj 2) (zg c) (dj ps) [.val X,.own (dj acc),o]=some (.nx [.val X,.own (dj (acc++jc ps)),o'])
 | [],acc,o,_,_=>⟨o,by simp[dj,jc]⟩
 | s::r,acc,o,h,hz=>by
  have h1:=h s cq;simp only[jc,bU]at hz;obtain⟨o',ih⟩:=qV X r (acc++lv s) (.val (enc s)) (fun s hs=>h s (cn _ hs)) (by rw[bU];lia)
  refine⟨o',?_⟩;simp only[dj,i9];simp[ES,h1,iI];rw[if_pos (m9 (by lia))]
  rw[<-BG];simp only[pU,aY,rX];rw[ih];simp[jc]
theorem me{c:gv}{s:Sh}(h:jt s=true):uF (o8 c) 3 [enc s]=some (.val (.aA [enc s])):=by
 cases s with
 | bO _=>cases h
 | _=>simp[o8,enc]
theorem ET{c:gv}{ps:List Sh} (h:∀s∈ps,c "leaves" [enc s]=some (.val (.aA (dj (lv s))))) (hz:(jc ps).length<=100000):uF (o8 c) 3 [enc (.bO ps)]=some (.val (.aA (dj (jc ps)))):=by
 obtain⟨o',q⟩:=qV (enc (.bO ps)) ps [] .un h (by simpa using hz)
 simp[o8];simp only[enc]at q ⊢;simp at q ⊢;simp[dj]at q;rw[q];simp
structure fG (R:Nat->gv):Prop where
 run:∀k ps,R (k+1) "leaves" ps=uF (o8 (R k)) 3 ps
mutual
theorem fG.all{R:Nat->gv}(A:fG R):∀(s:Sh) (k:Nat),dp s<=k->(lv s).length<=100000->R (k+1) "leaves" [enc s]=some (.val (.aA (dj (lv s))))
 | .num,k,_,_=>by rw[A.run,me rfl];simp[lv,dj]
 | .own,k,_,_=>by rw[A.run,me rfl];simp[lv,dj]
 | .du n,k,_,_=>by rw[A.run,me rfl];simp[lv,dj]
 | .bO ps,0,hd,_=>by simp[dp]at hd
 | .bO ps,k+1,hd,hz=>by
  simp only[dp]at hd;simp only[lv]at hz;rw[A.run,ET (A.each ps k (by lia) hz) hz]
  simp[lv]
theorem fG.each{R:Nat->gv}(A:fG R):∀(ps:List Sh) (k:Nat),uK ps<=k->(jc ps).length<=100000->∀s∈ps,R (k+1) "leaves" [enc s]=some (.val (.aA (dj (lv s))))
 | [],_,_,_,s,hs=>by cases hs
 | p::r,k,hd,hz,s,hs=>by
  simp only[uK]at hd;simp only[jc,bU]at hz;rcases bB.mp hs with e | e
  ·rw[e];exact fG.all A p k (by lia) (by lia)
  ·exact fG.each A r k (by lia) (by lia) s e
end
theorem M6(ps:az)(q:Nat):j6 ps (some (q:Int)) none=ps.drop q:=by
 unfold j6;rw[HT.rJ,HT.AI];by_cases h:q<=ps.length
 ·rw[DF h,nk (by rw[lC];lia)]
 ·rw[DD (by lia),sH,List.take_nil,List.drop_eq_nil_of_le (by lia)]
theorem VB(ps:az)(q:Nat):j6 ps none (some (q:Int))=ps.take q:=by
 unfold j6;rw[HT.rJ,HT.AI,List.drop_zero,Nat.sub_zero];by_cases h:q<=ps.length
 ·rw[DF h]
 ·rw[DD (by lia),nk (by lia),nk (by lia)]
abbrev Rw:=List Int×Int×Int×Sh
noncomputable def ng(k a:Int)(r:Rw):Rw:=(k::r.1,a+r.2.1,r.2.2)
mutual
def tab:Sh->List Rw
 | .num=>[([],0,1,.num)]
 | .own=>[([],0,1,.own)]
 | .du n=>[([],0,1,.du n)]
 | .bO ps=>([],0,((jc ps).length:Int),.bO ps)::tabs 0 0 ps
def tabs:Nat->Int->List Sh->List Rw
 | _,_,[]=>[]
 | k,a,s::r=>(tab s).map (ng k a)++tabs (k+1) (a+((lv s).length:Int)) r
end
def sz(s:Sh):Int:=((lv s).length:Int)
def j7:List Sh->Nat
 | []=>0
 | s::l=>(tab s).length+j7 l
theorem M7{s:Sh}(h:jt s=true):tab s=[([],0,1,s)]:=by
 cases s with
 | bO _=>cases h
 | _=>rfl
theorem BI(s:Sh):∃R,tab s=(([],0,sz s,s):Rw)::R:=by
 cases s with
 | bO ps=>exact⟨tabs 0 0 ps,by simp only[tab,sz,lv]⟩
 | num=>exact⟨[],by simp[tab,sz,lv]⟩
 | own=>exact⟨[],by simp[tab,sz,lv]⟩
 | du n=>exact⟨[],by simp[tab,sz,lv]⟩
theorem ju:∀(l:List Sh) (k:Nat) (a:Int),(tabs k a l).length=j7 l
 | [],_,_=>rfl
 | s::l,k,a=>by simp[tabs,j7,ju l]
theorem zh(s:Sh):1<=(tab s).length:=by
 obtain⟨R,e⟩:=BI s;rw[e];simp
theorem BJ:∀l:List Sh,l.length<=j7 l
 | []=>aV _
 | s::l=>by
  have:=zh s;have:=BJ l;simp only[j7,bA]
  lia
mutual
theorem uO:∀s:Sh,(lv s).length<=(tab s).length
 | .num=>by simp[lv,tab]
 | .own=>by simp[lv,tab]
 | .du n=>by simp[lv,tab]
 | .bO ps=>by
  have:=EU ps;simp only[lv,tab,bA,ju]
  lia
theorem EU:∀l:List Sh,(jc l).length<=j7 l
 | []=>by simp[jc]
 | s::l=>by
  have:=uO s;have:=EU l;simp only[jc,j7,bU]
  lia
end
mutual
theorem SG:∀s:Sh,dp s<=(tab s).length
 | .num=>by simp[dp]
 | .own=>by simp[dp]
 | .du n=>by simp[dp]
 | .bO ps=>by
  have:=M8 ps;simp only[dp,tab,bA,ju]
  lia
theorem M8:∀l:List Sh,uK l<=j7 l
 | []=>by simp[uK]
 | s::l=>by
  have:=SG s;have:=M8 l;simp only[uK,j7]
  lia
end
mutual
theorem Ha:∀(s:Sh),∀r∈tab s,r.1.length<=dp s
 | .num,r,h=>by simp[tab]at h;subst h;simp
 | .own,r,h=>by simp[tab]at h;subst h;simp
 | .du n,r,h=>by simp[tab]at h;subst h;simp
 | .bO ps,r,h=>by
  simp only[tab,bB]at h;rcases h with rfl | h
  ·simp
  ·simp only[dp];exact BL ps 0 0 r h
theorem BL:∀(l:List Sh) (k:Nat) (a:Int),∀r∈tabs k a l,r.1.length<=uK l+1
 | [],_,_,r,h=>by simp[tabs]at h
 | s::l,k,a,r,h=>by
  simp only[tabs,c9,bF]at h;simp only[uK];rcases h with⟨r0,h0,rfl⟩ | h
  ·have:=Ha s r0 h0;simp only[ng,bA]
   lia
  ·have:=BL l _ _ r h
   lia
end
theorem BM:∀(l:List Sh) (s:Sh),s∈l->(tab s).length<=j7 l
 | s::l,t,h=>by
  simp only[j7];rcases bB.mp h with rfl | h
  ·lia
  ·have:=BM l t h
   lia
theorem IW{ps:List Sh}{s:Sh}(h:s∈ps):(tab s).length<=(tab (.bO ps)).length:=by
 have:=BM ps s h;simp only[tab,bA,ju]
 lia
def C1:Sh->Int->Option (Sh×Int)
 | .bO ps,k=>if 0<=k then(ps[k.toNat]?).map fun s=>(s,((jc (ps.take k.toNat)).length:Int))else none
 | _,_=>none
def walk:Sh->Int->List Int->Option (Sh×Int)
 | s,a,[]=>some (s,a)
 | s,a,k::p=>(C1 s k).bind fun x=>walk x.1 (a+x.2) p
mutual
theorem BN:∀(s:Sh),∀r∈tab s,∀b,walk s b r.1=some (r.2.2.2,b+r.2.1)
 | .num,r,h,b=>by simp[tab]at h;subst h;simp[walk]
 | .own,r,h,b=>by simp[tab]at h;subst h;simp[walk]
 | .du n,r,h,b=>by simp[tab]at h;subst h;simp[walk]
 | .bO ps,r,h,b=>by
  simp only[tab,bB]at h;rcases h with rfl | h
  ·simp[walk]
  ·exact w6 ps [] r (by simpa[jc]using h) b
theorem w6:∀(C2 pre:List Sh),∀r∈tabs pre.length ((jc pre).length:Int) C2,∀b,walk (.bO (pre++C2)) b r.1=some (r.2.2.2,b+r.2.1)
 | [],pre,r,h,b=>by simp[tabs]at h
 | s::C2,pre,r,h,b=>by
  simp only[tabs,c9,bF]at h;rcases h with⟨r0,h0,rfl⟩ | h
  ·have:=BN s r0 h0 (b+((jc pre).length:Int));simp only[ng,walk,C1];simp[this]
   lia
  ·have:=w6 C2 (pre++[s]) r (by simpa[uL,jc]using h) b
   simpa using this
end
def cp(n:Int):Nat:=97+(n%26).toNat
def lt(n:Int):Str:=⟨#[cp n]⟩
def gW(l:List Nat):Str:=⟨l.toArray⟩
theorem w9{a b:List Nat}(h:gW a=gW b):a=b:=by
 have:a.toArray=b.toArray:=di Str.cps h;simpa using this
theorem EV(a b:List Nat):gW a++gW b=gW (a++b):=by
 show Str.append _ _=_;unfold Str.append gW;simp
theorem ZD(n:Int):lt n=gW [cp n]:=rfl
theorem Hb:(Str.ofString "")=gW []:=by decide +kernel
theorem Hc(l:List Nat):(gW l).length=l.length:=by
 unfold gW Str.length;simp
theorem EW:∀m:Fin 26,atI (Str.ofString "abcdefghijklmnopqrstuvwxyz").cps.toList ((m:Nat):Int)=some (97+(m:Nat)):=by decide +kernel
theorem IX(n:Int):aF (.str "abcdefghijklmnopqrstuvwxyz") (.int (n%26))=some (.str (lt n)):=by
 have h0:=lE n (show(26:Int)≠0 by decide)
 have h1:=sx n (show(0:Int)<26 by decide)
 obtain⟨m,hm⟩:=Int.eq_ofNat_of_zero_le h0;have:=EW ⟨m,by lia⟩
 show(if(Str.ofString "abcdefghijklmnopqrstuvwxyz").length<=iB then(atI (Str.ofString "abcdefghijklmnopqrstuvwxyz").cps.toList (n%26)).map fun c=>PV.str ⟨#[c]⟩else none)=_
 rw[if_pos (by decide +kernel),hm,this]
 show some (PV.str ⟨#[97+m]⟩)=some (PV.str ⟨#[cp n]⟩);unfold cp;rw[hm,gM]
theorem VC{a b:Int}(h:cp a=cp b):a%26=b%26:=by
 unfold cp at h;have h0:=lE a (show(26:Int)≠0 by decide)
 have h1:=lE b (show(26:Int)≠0 by decide)
 lia
end nZ
namespace BO
open PySem L2 L2.PL
theorem kq{α:Type} [DecidableEq α]:∀(l U:List α),l.Nodup->(∀x∈l,x∈U)->l.length<=U.length
 | [],_,_,_=>gO _
 | x::l,U,hn,hs=>by
  rw[jU]at hn;have hx:x∈U:=hs x cq;have h1:=kq l (U.erase x) hn.2 fun y hy=>(List.mem_erase_of_ne (fun z=>hn.1 (by rw[<-z];exact hy))).mpr (hs y (cn _ hy))
  have h2:=List.length_erase_of_mem hx;have h3:0<U.length:=List.length_pos_of_mem hx;rw[bA]
  lia
theorem BP{ks:List (List cC)}{k:List cC}:Mi ks k=true↔k∈ks:=by
 unfold Mi;simp only[List.any_eq_true,kB];exact⟨fun⟨x,h,e⟩=>e▸h,fun h=>⟨k,h,rfl⟩⟩
theorem iu(c:Int):∀(fs:List (List cC)) (told:gV),∃more:gV,dA told c fs=told++more/\(∀t∈more,t.2=c/\t.1∈fs)
 | [],told=>⟨[],by rw[iP];rfl,fun _ z=>nomatch z⟩
 | f::fs,told=>by
  obtain⟨more,h1,h2⟩:=iu c fs (fQ told c f);show ∃m,dA (fQ told c f) c fs=told++m/\_
  by_cases h:Mi (told.map (·.1)) f=true
  ·have e:fQ told c f=told:=by unfold fQ;rw[if_pos h]
   rw[e]at h1 ⊢;exact⟨more,h1,fun t ht=>⟨(h2 t ht).1,cn _ (h2 t ht).2⟩⟩
  ·have e:fQ told c f=told++[(f,c)]:=by unfold fQ;rw[if_neg h]
   rw[e]at h1 ⊢;refine⟨(f,c)::more,by rw[h1];simp,fun t ht=>?_⟩
   rcases bB.mp ht with rfl | ht
   ·exact⟨rfl,cq⟩
   ·exact⟨(h2 t ht).1,cn _ (h2 t ht).2⟩
theorem uP(c:Int):∀(fs:List (List cC)) (told:gV),(told.map (·.1)).Nodup->((dA told c fs).map (·.1)).Nodup
 | [],_,h=>h
 | f::fs,told,h=>by
  refine uP c fs (fQ told c f) ?_;unfold fQ;split
  ·exact h
  ·rename_i hm;rw[c8];refine List.nodup_append.mpr ⟨h,by simp,fun a ha b hb z=>?_⟩
   simp at hb;subst z;rw[hb]at ha;exact hm (BP.mpr ha)
theorem qp(c:Int):∀(fs:List (List cC)) (told:gV),∀f∈fs,f∈(dA told c fs).map (·.1)
 | [],_,_,h=>nomatch h
 | g::fs,told,f,h=>by
  rcases bB.mp h with rfl | h
  ·obtain⟨more,h1,_⟩:=iu c fs (fQ told c f);show f∈(dA (fQ told c f) c fs).map (·.1);rw[h1,c8];refine kz _ ?_;unfold fQ;split
   ·rename_i hm;exact BP.mp hm
   ·rw[c8];exact dZ _ (by simp)
  ·exact qp c fs (fQ told c g) f h
section
variable (out:List cC->Option (List (List cC))) (fH:List (List cC))
def M9(told:gV):Prop:=∀(i:Nat) (f:List cC) (c:Int),told[i]?=some (f,c)->(c = -1/\f∈fH)\/∃(j:Nat) (g:List cC) (d:Int) (fs:List (List cC)),j<i/\c=(j:Int)/\told[j]?=some (g,d)/\out g=some fs/\f∈fs
def BQ(told:gV)(k:Nat):Prop:=∀(j:Nat) (g:List cC) (d:Int),j<k->told[j]?=some (g,d)->∃fs,out g=some fs/\∀f∈fs,f∈told.map (·.1)
theorem IY:M9 out fH (dA [] (-1) fH):=by
 obtain⟨more,h1,h2⟩:=iu (-1) fH [];rw[iO]at h1;intro i f c e;rw[h1]at e;obtain⟨h3,h4⟩:=h2 _ (cQ e);exact .inl ⟨h3,h4⟩
theorem Na{told:gV}{k:Nat}{g:List cC}{d:Int}{fs:List (List cC)}(h:M9 out fH told)(hk:told[k]?=some (g,d))(ho:out g=some fs):M9 out fH (dA told (k:Int) fs):=by
 obtain⟨more,h1,h2⟩:=iu (k:Int) fs told;have hJ:k<told.length:=(fU.mp hk).1;have old:∀{j:Nat} {x:List cC×Int},told[j]?=some x->(told++more)[j]?=some x:=fun {j x} e=>by
  rw[jd (fU.mp e).1];exact e
 intro i f c e;rw[h1]at e ⊢;by_cases hi:i<told.length
 ·rw[jd hi]at e;rcases h i f c e with z | ⟨j,g',d',Wd,z1,z2,z3,z4,z5⟩
  ·exact .inl z
  ·exact .inr ⟨j,g',d',Wd,z1,z2,old z3,z4,z5⟩
 ·rw[ly (by lia)]at e
  obtain⟨h3,h4⟩:=h2 _ (cQ e);exact .inr ⟨k,g,d,fs,by lia,h3,old hk,ho,h4⟩
theorem IZ{told:gV}{k:Nat}{g:List cC}{d:Int}{fs:List (List cC)}(h:BQ out told k)(hk:told[k]?=some (g,d))(ho:out g=some fs):BQ out (dA told (k:Int) fs) (k+1):=by
 obtain⟨more,h1,h2⟩:=iu (k:Int) fs told;have hJ:k<told.length:=(fU.mp hk).1;intro j g' d' hj e;rw[h1]at e;rw[jd (by lia)]at e
 by_cases hjk:j=k
 ·subst hjk;rw[hk]at e;cases e;exact⟨fs,ho,qp (j:Int) fs told⟩
 ·obtain⟨Wd,z1,z2⟩:=h j g' d' (by lia) e
  refine⟨Wd,z1,fun f hf=>?_⟩
  rw[h1,c8];exact kz _ (z2 f hf)
theorem qW(U:List (List cC))(B:Nat)(hB:U.length+B<iB)(hU:∀g∈U,∃fs,out g=some fs/\(∀f∈fs,f∈U)/\fs.length<=B):∀(n k:Nat) (told:gV),U.length<n+k->k<=told.length->(told.map (·.1)).Nodup->(∀t∈told,t.1∈U)->M9 out fH told->BQ out told k ->
  ∃res,gp out n k told=some res/\(res.map (·.1)).Nodup/\(∀t∈res,t.1∈U)/\M9 out fH res/\BQ out res res.length/\∃more,res=told++more
 | n,k,told,hn,hk,nd,sub,ZE,done=>by
  have dQ:told.length<=U.length:=by
   have:=kq (told.map (·.1)) U nd fun x hx=>by
    obtain⟨t,ht,rfl⟩:=bF.mp hx;exact sub t ht
   rwa [aE]at this
  cases n with
  | zero=>lia
  | succ n =>
   cases ht:told[k]? with
   | none =>
    have hkl:told.length<=k:=sh.mp ht;refine⟨told,?_,nd,sub,ZE,?_,[],by simp⟩
    ·show(match told[k]? with | none=>some told | some t=>_)=_
     rw[ht]
    ·have:k=told.length:=by lia
     rw[<-this];exact done
   | some t =>
    obtain⟨g,d⟩:=t;have hg:g∈U:=sub (g,d) (cQ ht);obtain⟨fs,h1,h2,h3⟩:=hU g hg;obtain⟨more,m1,m2⟩:=iu (k:Int) fs told;have hJ:k<told.length:=(fU.mp ht).1;obtain⟨res,r1,r2,r3,r4,r5,SH,r6⟩:=qW U B hB hU n (k+1) (dA told (k:Int) fs) (by lia) (by rw[m1,bU];lia) (uP _ _ _ nd) (fun t ht'=>by
     rw[m1]at ht';rcases c9.mp ht' with z | z
     ·exact sub t z
     ·exact h2 _ (m2 t z).2) (Na out fH ZE ht h1) (IZ out done ht h1)
    refine⟨res,?_,r2,r3,r4,r5,more++SH,by rw[r6,m1,d8]⟩
    show(match told[k]? with | none=>some told | some t=>(out t.1).bind fun fs=>if told.length+fs.length<iB then gp out n (k+1) (dA told k fs)else none)=_
    rw[ht];show((out g).bind fun fs=>if told.length+fs.length<iB then gp out n (k+1) (dA told k fs)else none)=_
    rw[h1,aY,if_pos (by lia)]
    exact r1
theorem uQ(U:List (List cC))(B:Nat)(hB:U.length+B<iB)(hn:U.length<wX)(hU:∀g∈U,∃fs,out g=some fs/\(∀f∈fs,f∈U)/\fs.length<=B)(hf:∀f∈fH,f∈U) :
  ∃res,gp out wX 0 (dA [] (-1) fH)=some res/\(res.map (·.1)).Nodup/\(∀t∈res,t.1∈U)/\M9 out fH res/\BQ out res res.length/\∀f∈fH,f∈res.map (·.1):=by
 obtain⟨more,h1,h2⟩:=iu (-1) fH [];obtain⟨res,r1,r2,r3,r4,r5,SH,r6⟩:=qW out fH U B hB hU wX 0 (dA [] (-1) fH) (by lia) (gO _) (uP _ _ _ xT) (fun t ht=>by
  rw[h1,iO]at ht;exact hf _ (h2 t ht).2) (IY out fH) (fun j g d hj=>absurd hj (DE _))
 exact⟨res,r1,r2,r3,r4,r5,fun f hff=>by rw[r6,c8];exact kz _ (qp _ _ _ f hff)⟩
end
theorem Hd:∀ks:List cC,IG (ks.map nL)=some ks
 | []=>rfl
 | k::ks=>by
  rw[bK];show(IF (nL k)).bind _=_;have:IF (nL k)=some k:=by cases k<;>rfl
  rw[this,aY,Hd ks];rfl
theorem QT{ks:List cC}(h:ks.length<1000):GO (eU ks)=some ks:=by
 show(if(ks.map nL).length<1000 then IG (ks.map nL)else none)=_
 rw[aE,if_pos h,Hd]
theorem qr:∀{fs:List (List cC)},(∀f∈fs,f.length<1000)->factsOf (fs.map eU)=some fs
 | [],_=>rfl
 | f::fs,h=>by
  rw[bK];show(GO (eU f)).bind _=_;rw[QT (h f cq),aY,qr fun g hg=>h g (cn _ hg)]
  rfl
theorem He{fb:FE}{yJ:aI}{f:List cC}{fs:List (List cC)}(h:fb (.val (eU f)::yJ)=some (.aq (fs.map eU)))(hl:∀x∈fs,x.length<1000):yI fb yJ f=some fs:=by
 unfold yI;rw[h,aY];exact qr hl
theorem uR{fe fb:FE}{link:List (Option Nat)}{ρ:aI}{fk:List (List cC)}{told:gV}(h:fe ρ=some (.aq (fk.map eU)))(hl:∀x∈fk,x.length<1000)(hn:fk.length<iB)(hs:gp (yI fb (bL link ρ)) wX 0 (dA [] (-1) fk)=some told):kR fe fb link ρ=some (told.map toldP):=by
 unfold kR;rw[h,aY];show(factsOf (fk.map eU)).bind _=_;rw[qr hl,aY,if_pos hn,hs];rfl
end BO
namespace cE
open PySem L2 L2.PL nZ
def jv:List (Str×Str):=[("put","put_acts"),("set","set_acts"),("fill","put_acts"),("copy","copy_acts"),("move","move_acts"),("drop","drop_acts"),("lend","lend_acts"),("sole","lend_acts"),("call","call_acts"),("if","if_acts"),("go","go_acts"),("say","say_acts"),("give","give_acts")]
abbrev kI(n:Int):FE:=cK (.int n)
abbrev kS(s:Str):FE:=cK (.str s)
abbrev CF:=Str->az->dG
theorem rq{x:Str}{st:aG}{f:CF->FS}{n:Nat}(h:bt.defs.lookup x=some st)(hf:∀c:CT,lj BA (BB bt st c) (dH st)=some (f (cN c)))(hn:(dC st).length=n)(k:Nat)(ps:az):run bt (k+1) x ps=uF (f (run bt k)) n ps:=by
 rw[<-hn];exact Vs h (hf _) ps
noncomputable def Nb:List (Str×Nat):=("leaves",1)::("check_part",2)::("part",2)::("first",2)::("is_copied",1)::("kind_of",2)::("is_holder",1)::("shape_of",1)::("spread",2)::("tell_new",4)::("row_nexts",2)::("acts",2)::("nexts",2)::("come_to",2)::("arrivals",1)::("touched",1)::("touches",3)::("touch",4)::("touch_whole",4)::("at_acts",2)::("operand_acts",2)::("target_acts",2)::("put_acts",2)::("set_acts",2)::("copy_acts",2)::("move_acts",2)::("drop_acts",2)::("lend_acts",2)::("call_acts",2)::("arg_act",3)::("owner_act",2)::("if_acts",2)::("go_acts",2)::("say_acts",2)::("give_acts",2)::("empties",2)::("empty_at_first",1)::("emptied",2)::("stays_empty",3)::("fills",3)::("_law_cell_at",2)::("_law_mixed",2)::("_law_names",2)::("_law_shape",1)::("_law_leaves",1)::("_law_parts",1)::("_law_lets",2)::("_law_spots",1)::("_law_numbers",3)::("_law_operand",3)::("_law_carried",4)::("_law_lending",4)::("_law_call",3)::("_law_small_row",4)::("_law_row",3)::("_law_program",3)::("_law_whole",1)::("_law_ends",3)::("_law_is_let",3)::("_law_is_left",4)::("law",1)::[]
noncomputable def EX(c:CF):FS :=
 (gL 1 (aa (ay (aM 1 (c "leaves")) (aa (rd 2) ah)) ah) qa)
noncomputable def Nc(c:CF):FS :=
 (aH (gK (jm (toB (ab (ab (rd 0) (kI 0) aF) (kS "rec") yA)))
  (bz (bh (aa (rd 0) ah)))
  (fun ρ=>some (.nx ρ)))
  (aH (jA 1 (cH ah))
  (aH (il (dD (ab (rd 0) (kI 1) aF)) (aj 2) (EX c))
  (mF [1] (bz (cf mJ (aa (rd 1) ah)))))))
def EY:=rq (x:="leaves") (st:=Aq) (f:=Nc) (n:=3) (by kernel_rfl) (fun c=>by kernel_rfl) (by kernel_rfl)
noncomputable def gX(c:CF):FS :=
 (aH (gK (toB (ab (ab (rd 0) (kI 0) aF) (kS "rec") yA))
  (fun _=>none)
  (fun ρ=>some (.nx ρ)))
  (gK (kl (toB (chain (kI 0) (rd 1) (cf cZ (aa (ab (rd 0) (kI 1) aF) ah)) J2 Bh)))
  (fun _=>none)
  (fun ρ=>some (.nx ρ))))
def uS:=rq (x:="check_part") (st:=oo) (f:=gX) (n:=2) (by kernel_rfl) (fun c=>by kernel_rfl) (by kernel_rfl)
noncomputable def o9(c:CF):FS :=
 (aH (qQ (ay (aM 2 (c "check_part")) (aa (rd 2) (aa (rd 3) ah))))
  (bj (ab (ab (rd 2) (kI 1) aF) (rd 3) aF) (aj 2)))
noncomputable def EZ(c:CF):FS :=
 (aH (bj (rd 0) (aj 2))
  (aH (il (dD (rd 1)) (aj 3) (o9 c))
  (bz (rd 2))))
def Nd:=rq (x:="part") (st:=KC) (f:=EZ) (n:=4) (by kernel_rfl) (fun c=>by kernel_rfl) (by kernel_rfl)
noncomputable def my(c:CF):FS :=
 (aH (qQ (ay (aM 2 (c "check_part")) (aa (rd 2) (aa (rd 4) ah))))
  (aH (bj (ab (rd 3) (cf Er (aa (bI (dX [none,none] (dD (cutE (ab (rd 2) (kI 1) aF) Pu (lh (rd 4)))) (aj 1) (cf cZ (aa (ay (aM 1 (c "leaves")) (aa (rd 1) ah)) ah)))) ah)) Qu) (aj 3))
  (bj (ab (ab (rd 2) (kI 1) aF) (rd 4) aF) (aj 2))))
noncomputable def zi(c:CF):FS :=
 (aH (bj (rd 0) (aj 2))
  (aH (bj (kI 0) (aj 3))
  (aH (il (dD (rd 1)) (aj 4) (my c))
  (bz (rd 3)))))
def I0:=rq (x:="first") (st:=FP) (f:=zi) (n:=5) (by kernel_rfl) (fun c=>by kernel_rfl) (by kernel_rfl)
noncomputable def BR(c:CF):FS :=
 (bz (ab (bh (aa (kS "own") ah)) (ay (aM 1 (c "leaves")) (aa (rd 0) ah)) (qd true)))
def vI:=rq (x:="is_copied") (st:=qC) (f:=BR) (n:=1) (by kernel_rfl) (fun c=>by kernel_rfl) (by kernel_rfl)
noncomputable def jK(c:CF):FS :=
 (gK (toB (ab (rd 2) (rd 1) dS))
  (bz (rd 3))
  (fun ρ=>some (.nx ρ)))
theorem uT(c:CF)(ρ:aI):jK c ρ=(gK (toB (ab (rd 2) (rd 1) dS))
  (bz (rd 3))
  (fun ρ=>some (.nx ρ))) ρ:=rfl
noncomputable def qt(c:CF):FS :=
 (aH (il (dD (ab (ab (rd 0) (kI 1) aF) (ab (rd 0) (kI 3) aF) bZ)) (cM 2 (aw (aj 2) (aw (aj 3) cI))) (jK c))
  (fun _=>none))
def BS:=rq (x:="kind_of") (st:=vW) (f:=qt) (n:=4) (by kernel_rfl) (fun c=>by kernel_rfl) (by kernel_rfl)
noncomputable def BU(c:CF):FS :=
 (bz (ab (ab (rd 0) (kI 0) aF) (cK (.aA [(.str "lent"),(.str "sole")])) (qd false)))
def vJ:=rq (x:="is_holder") (st:=qD) (f:=BU) (n:=1) (by kernel_rfl) (fun c=>by kernel_rfl) (by kernel_rfl)
noncomputable def E1(c:CF):FS :=
 (bz (rn (toB (ay (aM 1 (c "is_holder")) (aa (rd 0) ah))) (ab (rd 0) (kI 1) aF) (rd 0)))
def zj:=rq (x:="shape_of") (st:=sY) (f:=E1) (n:=1) (by kernel_rfl) (fun c=>by kernel_rfl) (by kernel_rfl)
noncomputable def BV(c:CF):FS :=
 (aH (bj (ab (rd 0) (rd 1) aF) (aj 2))
  (aH (gK (toB (ab (ab (rd 2) (kI 0) aF) (kS "give") dS))
  (bz (bh ah))
  (fun ρ=>some (.nx ρ)))
  (aH (gK (toB (ab (ab (rd 2) (kI 0) aF) (kS "go") dS))
  (bz (bh (aa (ab (rd 2) (kI 1) aF) ah)))
  (fun ρ=>some (.nx ρ)))
  (aH (gK (toB (ab (ab (rd 2) (kI 0) aF) (kS "if") dS))
  (bz (cf mJ (aa (Mf (aa (ab (rd 1) (kI 1) bZ) (aa (ab (rd 2) (kI 3) aF) ah))) ah)))
  (fun ρ=>some (.nx ρ)))
  (bz (bh (aa (ab (rd 1) (kI 1) bZ) ah)))))))
def j8:=rq (x:="row_nexts") (st:=qE) (f:=BV) (n:=3) (by kernel_rfl) (fun c=>by kernel_rfl) (by kernel_rfl)
noncomputable def pe(c:CF):FS :=
 (aH (bj (Iy jv Nb c (ab (rd 5) (kI 0) aF) (aa (rd 2) (aa (rd 5) ah))) (aj 6))
  (gL 3 (aa (bI (dX [none,none,some 4] (dD (Yo (rd 6) (bI (cH (aa (cK (.aA [(.str "rest"),(.str ""),(.bl false),(.int 0),(.int 0),(.str "")])) ah))))) (aj 1) (ab (bh (aa (rd 2) ah)) (rd 1) bZ))) ah) qa))
noncomputable def VD(c:CF):FS :=
 (aH (bj (ab (rd 0) (rd 1) aF) (aj 2))
  (aH (jA 3 (cH ah))
  (aH (il (mZ (ab (rd 2) (kI 4) aF)) (cM 2 (aw (aj 4) (aw (aj 5) cI))) (pe c))
  (nI 3))))
def Nf:=rq (x:="acts") (st:=KH) (f:=VD) (n:=7) (by kernel_rfl) (fun c=>by kernel_rfl) (by kernel_rfl)
noncomputable def kr(c:CF):FS :=
 (gK (jm (gS (toB (ab (ab (rd 4) (kI 1) bZ) (hV (cf cZ (aa (rd 2) ah))) Bh)) (toB (ab (ab (ab (rd 2) (ab (rd 4) (kI 1) bZ) aF) (kI 0) aF) (ab (rd 5) (kI 0) aF) dS))))
  (gL 6 (aa (bh (aa (ab (rd 4) (kI 1) bZ) ah)) ah) nJ)
  (mF [3] (gL 6 (aa (cf mJ (aa (bI (dX [none,none,some 3] (dD (ay (aM 2 (c "row_nexts")) (aa (ab (ab (rd 0) (rd 1) aF) (kI 4) aF) (aa (ab (rd 5) (kI 0) aF) ah)))) (aj 1) (getD 2 (rd 1)))) ah)) ah) nJ)))
noncomputable def mz(c:CF):FS :=
 (Vh 3 (ab (rd 5) (kI 0) aF) (rd 4))
noncomputable def QU(c:CF):FS :=
 (aH (bj (ay (aM 2 (c "acts")) (aa (rd 0) (aa (rd 1) ah))) (aj 2))
  (aH (Vf 3)
  (aH (il (mZ (rd 2)) (cM 2 (aw (aj 4) (aw (aj 5) cI))) (mz c))
  (aH (jA 6 (cH ah))
  (aH (il (mZ (rd 2)) (cM 2 (aw (aj 4) (aw (aj 5) cI))) (kr c))
  (nI 6))))))
def Ja:=rq (x:="nexts") (st:=FQ) (f:=QU) (n:=7) (by kernel_rfl) (fun c=>by kernel_rfl) (by kernel_rfl)
noncomputable def Jb(c:CF):FS :=
 (bz (cf GJ (aa (bI (dX [none,none] (dD (ay (aM 1 (c "arrivals")) (aa (ay (aM 2 (c "nexts")) (aa (rd 0) (aa (rd 1) ah))) ah))) (aj 1) (ab (rd 1) (kI 0) aF))) ah)))
def BW:=rq (x:="come_to") (st:=vX) (f:=Jb) (n:=2) (by kernel_rfl) (fun c=>by kernel_rfl) (by kernel_rfl)
noncomputable def E2(c:CF):FS :=
 (bz (bI (kR (bI (cH (aa (bh (aa (kI 0) ah)) ah))) (bI (dX [none,none] (dD (ab (rd 1) (ab (rd 0) (kI 0) aF) aF)) (aj 1) (bh (aa (rd 1) ah)))) [some 0])))
def kW:=rq (x:="arrivals") (st:=sZ) (f:=E2) (n:=1) (by kernel_rfl) (fun c=>by kernel_rfl) (by kernel_rfl)
noncomputable def Jc(c:CF):FS :=
 (bz (bI (lrg (aa (ab (rd 0) (kI 4) aF) (aa (ab (ab (rd 0) (kI 4) aF) (ab (rd 0) (kI 5) aF) bZ) ah)))))
def BX:=rq (x:="touched") (st:=vY) (f:=Jc) (n:=1) (by kernel_rfl) (fun c=>by kernel_rfl) (by kernel_rfl)
noncomputable def Jd(c:CF):FS :=
 (bz (oA (ab (ab (rd 0) (kI 2) aF) (rd 1) dS) (chain (ab (rd 0) (kI 4) aF) (rd 2) (ab (ab (rd 0) (kI 4) aF) (ab (rd 0) (kI 5) aF) bZ) J2 Bh)))
def BY:=rq (x:="touches") (st:=vZ) (f:=Jd) (n:=3) (by kernel_rfl) (fun c=>by kernel_rfl) (by kernel_rfl)
noncomputable def zm(c:CF):FS :=
 (aH (bj (ay (aM 1 (c "shape_of")) (aa (ay (aM 2 (c "kind_of")) (aa (rd 0) (aa (ab (rd 2) (kI 0) aF) ah))) ah)) (aj 4))
  (aH (bj (cf cZ (aa (ay (aM 1 (c "leaves")) (aa (ay (aM 2 (c "part")) (aa (rd 4) (aa (ab (rd 2) (kI 2) aF) ah))) ah)) ah)) (aj 5))
  (bz (bh (aa (rd 1) (aa (ab (rd 2) (kI 0) aF) (aa (ab (rd 2) (kI 1) aF) (aa (ay (aM 2 (c "first")) (aa (rd 4) (aa (ab (rd 2) (kI 2) aF) ah))) (aa (rd 5) (aa (rd 3) ah))))))))))
def Je:=rq (x:="touch") (st:=FU) (f:=zm) (n:=6) (by kernel_rfl) (fun c=>by kernel_rfl) (by kernel_rfl)
noncomputable def j9(c:CF):FS :=
 (bz (ay (aM 4 (c "touch")) (aa (rd 0) (aa (rd 1) (aa (bh (aa (rd 2) (aa (ay (aM 1 (c "is_holder")) (aa (ay (aM 2 (c "kind_of")) (aa (rd 0) (aa (rd 2) ah))) ah)) (aa (bh ah) (aa (cK .df) ah))))) (aa (rd 3) ah))))))
def rB:=rq (x:="touch_whole") (st:=mN) (f:=j9) (n:=4) (by kernel_rfl) (fun c=>by kernel_rfl) (by kernel_rfl)
noncomputable def qu(c:CF):FS :=
 (aH (gK (kl (toB (Se .str (ab (rd 1) (kI 3) aF))))
  (bz (bI (cH ah)))
  (fun ρ=>some (.nx ρ)))
  (bz (bI (cH (aa (ay (aM 4 (c "touch_whole")) (aa (rd 0) (aa (kS "read") (aa (ab (rd 1) (kI 3) aF) (aa (kS "") ah))))) ah)))))
def BZ:=rq (x:="at_acts") (st:=v5) (f:=qu) (n:=2) (by kernel_rfl) (fun c=>by kernel_rfl) (by kernel_rfl)
noncomputable def jw(c:CF):FS :=
 (aH (gK (kl (toB (Se .tuple (rd 1))))
  (bz (bI (cH ah)))
  (fun ρ=>some (.nx ρ)))
  (bz (ab (ay (aM 2 (c "at_acts")) (aa (rd 0) (aa (rd 1) ah))) (bI (cH (aa (ay (aM 4 (c "touch")) (aa (rd 0) (aa (kS "read") (aa (rd 1) (aa (kS "") ah))))) ah))) bZ)))
def qw:=rq (x:="operand_acts") (st:=lK) (f:=jw) (n:=2) (by kernel_rfl) (fun c=>by kernel_rfl) (by kernel_rfl)
noncomputable def ka(c:CF):FS :=
 (aH (gK (toB (ab (ab (rd 1) (kI 3) aF) (cK .df) Wk))
  (bz (bI (cH (aa (ay (aM 4 (c "touch")) (aa (rd 0) (aa (kS "fill") (aa (rd 1) (aa (kS "") ah))))) ah))))
  (fun ρ=>some (.nx ρ)))
  (bz (ab (ay (aM 2 (c "at_acts")) (aa (rd 0) (aa (rd 1) ah))) (bI (cH (aa (ay (aM 4 (c "touch")) (aa (rd 0) (aa (kS "turn") (aa (rd 1) (aa (kS "") ah))))) ah))) bZ)))
def rD:=rq (x:="target_acts") (st:=mO) (f:=ka) (n:=2) (by kernel_rfl) (fun c=>by kernel_rfl) (by kernel_rfl)
noncomputable def E3(c:CF):FS :=
 (bz (ab (ay (aM 2 (c "operand_acts")) (aa (rd 0) (aa (ab (rd 1) (kI 2) aF) ah))) (ay (aM 2 (c "target_acts")) (aa (rd 0) (aa (ab (rd 1) (kI 1) aF) ah))) bZ))
def zq:=rq (x:="put_acts") (st:=s9) (f:=E3) (n:=2) (by kernel_rfl) (fun c=>by kernel_rfl) (by kernel_rfl)
noncomputable def E4(c:CF):FS :=
 (bz (ab (ab (ay (aM 2 (c "operand_acts")) (aa (rd 0) (aa (ab (rd 1) (kI 3) aF) ah))) (ay (aM 2 (c "operand_acts")) (aa (rd 0) (aa (ab (rd 1) (kI 4) aF) ah))) bZ) (ay (aM 2 (c "target_acts")) (aa (rd 0) (aa (ab (rd 1) (kI 1) aF) ah))) bZ))
def zr:=rq (x:="set_acts") (st:=tf) (f:=E4) (n:=2) (by kernel_rfl) (fun c=>by kernel_rfl) (by kernel_rfl)
noncomputable def B6(c:CF):FS :=
 (bz (bI (cH (aa (ay (aM 4 (c "touch")) (aa (rd 0) (aa (kS "read") (aa (ab (rd 1) (kI 2) aF) (aa (kS "") ah))))) (aa (ay (aM 4 (c "touch")) (aa (rd 0) (aa (kS "fill") (aa (ab (rd 1) (kI 1) aF) (aa (kS "") ah))))) ah)))))
def vK:=rq (x:="copy_acts") (st:=qF) (f:=B6) (n:=2) (by kernel_rfl) (fun c=>by kernel_rfl) (by kernel_rfl)
noncomputable def B7(c:CF):FS :=
 (bz (bI (cH (aa (ay (aM 4 (c "touch")) (aa (rd 0) (aa (kS "empty") (aa (ab (rd 1) (kI 2) aF) (aa (kS "") ah))))) (aa (ay (aM 4 (c "touch")) (aa (rd 0) (aa (kS "fill") (aa (ab (rd 1) (kI 1) aF) (aa (kS "") ah))))) ah)))))
def vL:=rq (x:="move_acts") (st:=qG) (f:=B7) (n:=2) (by kernel_rfl) (fun c=>by kernel_rfl) (by kernel_rfl)
noncomputable def B8(c:CF):FS :=
 (bz (bI (cH (aa (ay (aM 4 (c "touch")) (aa (rd 0) (aa (kS "empty") (aa (ab (rd 1) (kI 1) aF) (aa (kS "") ah))))) ah))))
def vM:=rq (x:="drop_acts") (st:=qH) (f:=B8) (n:=2) (by kernel_rfl) (fun c=>by kernel_rfl) (by kernel_rfl)
noncomputable def B9(c:CF):FS :=
 (bz (bI (cH (aa (ay (aM 4 (c "touch")) (aa (rd 0) (aa (ab (rd 1) (kI 0) aF) (aa (ab (rd 1) (kI 2) aF) (aa (ab (rd 1) (kI 1) aF) ah))))) ah))))
def vN:=rq (x:="lend_acts") (st:=qI) (f:=B9) (n:=2) (by kernel_rfl) (fun c=>by kernel_rfl) (by kernel_rfl)
noncomputable def Cb(c:CF):FS :=
 (aH (jA 2 (dX [none,none,none,some 0] (mZ (ab (rd 1) (kI 3) aF)) (cM 2 (aw (aj 1) (aw (aj 2) cI))) (ay (aM 3 (c "arg_act")) (aa (rd 3) (aa (rd 2) (aa (cf Bm (aa (rd 1) ah)) ah))))))
  (aH (gL 2 (aa (cK (.aA [(.str "hand"),(.str ""),(.bl false),(.int 0),(.int 0),(.str "")])) ah) nJ)
  (aH (gK (jm (toB (ab (ab (rd 1) (kI 1) aF) (kS "") dS)))
  (nI 2)
  (fun ρ=>some (.nx ρ)))
  (aH (gK (jm (toB (ay (aM 1 (c "is_holder")) (aa (ay (aM 2 (c "kind_of")) (aa (rd 0) (aa (ab (rd 1) (kI 1) aF) ah))) ah))))
  (mF [2] (bz (ab (rd 2) (bI (cH (aa (bh (aa (kS "take") (aa (kS "") (aa (cK (.bl false)) (aa (kI 0) (aa (kI 0) (aa (ab (rd 1) (kI 1) aF) ah))))))) ah))) bZ)))
  (fun ρ=>some (.nx ρ)))
  (mF [2] (bz (ab (rd 2) (bI (cH (aa (ay (aM 4 (c "touch_whole")) (aa (rd 0) (aa (kS "fill") (aa (ab (rd 1) (kI 1) aF) (aa (kS "") ah))))) ah))) bZ)))))))
def vO:=rq (x:="call_acts") (st:=qJ) (f:=Cb) (n:=3) (by kernel_rfl) (fun c=>by kernel_rfl) (by kernel_rfl)
noncomputable def Jf(c:CF):FS :=
 (aH (bj (ay (aM 2 (c "kind_of")) (aa (rd 0) (aa (rd 1) ah))) (aj 3))
  (aH (gK (kl (toB (ay (aM 1 (c "is_holder")) (aa (rd 3) ah))))
  (bz (ay (aM 2 (c "owner_act")) (aa (rd 0) (aa (rd 1) ah))))
  (fun ρ=>some (.nx ρ)))
  (bz (ay (aM 4 (c "touch_whole")) (aa (rd 0) (aa (rn (toB (ab (ab (rd 3) (kI 0) aF) (kS "lent") dS)) (kS "lend") (kS "sole")) (aa (rd 1) (aa (rd 2) ah))))))))
def Cc:=rq (x:="arg_act") (st:=v9) (f:=Jf) (n:=4) (by kernel_rfl) (fun c=>by kernel_rfl) (by kernel_rfl)
noncomputable def Cd(c:CF):FS :=
 (bz (ay (aM 4 (c "touch_whole")) (aa (rd 0) (aa (rn (toB (ay (aM 1 (c "is_copied")) (aa (ay (aM 2 (c "kind_of")) (aa (rd 0) (aa (rd 1) ah))) ah))) (kS "read") (kS "empty")) (aa (rd 1) (aa (kS "") ah))))))
def vP:=rq (x:="owner_act") (st:=qK) (f:=Cd) (n:=2) (by kernel_rfl) (fun c=>by kernel_rfl) (by kernel_rfl)
noncomputable def Jg(c:CF):FS :=
 (bz (ab (ay (aM 2 (c "operand_acts")) (aa (rd 0) (aa (ab (rd 1) (kI 1) aF) ah))) (ay (aM 2 (c "operand_acts")) (aa (rd 0) (aa (ab (rd 1) (kI 2) aF) ah))) bZ))
def Ce:=rq (x:="if_acts") (st:=wa) (f:=Jg) (n:=2) (by kernel_rfl) (fun c=>by kernel_rfl) (by kernel_rfl)
noncomputable def Jh(c:CF):FS :=
 (bz (bI (cH ah)))
def Cf:=rq (x:="go_acts") (st:=wb) (f:=Jh) (n:=2) (by kernel_rfl) (fun c=>by kernel_rfl) (by kernel_rfl)
noncomputable def E5(c:CF):FS :=
 (bz (ay (aM 2 (c "operand_acts")) (aa (rd 0) (aa (ab (rd 1) (kI 1) aF) ah))))
def zu:=rq (x:="say_acts") (st:=tj) (f:=E5) (n:=2) (by kernel_rfl) (fun c=>by kernel_rfl) (by kernel_rfl)
noncomputable def Cg(c:CF):FS :=
 (aH (gK (toB (ab (ab (rd 1) (kI 1) aF) (kS "") dS))
  (bz (bI (cH ah)))
  (fun ρ=>some (.nx ρ)))
  (aH (gK (toB (ay (aM 1 (c "is_holder")) (aa (ay (aM 2 (c "kind_of")) (aa (rd 0) (aa (ab (rd 1) (kI 1) aF) ah))) ah)))
  (bz (bI (cH (aa (ay (aM 4 (c "touch_whole")) (aa (rd 0) (aa (kS "give") (aa (ab (rd 1) (kI 1) aF) (aa (kS "") ah))))) ah))))
  (fun ρ=>some (.nx ρ)))
  (bz (bI (cH (aa (ay (aM 2 (c "owner_act")) (aa (rd 0) (aa (ab (rd 1) (kI 1) aF) ah))) ah))))))
def nh:=rq (x:="give_acts") (st:=qL) (f:=Cg) (n:=2) (by kernel_rfl) (fun c=>by kernel_rfl) (by kernel_rfl)
noncomputable def jL(c:CF):FS :=
 (gL 2 (aa (ay (aM 2 (c "emptied")) (aa (ab (rd 5) (rd 3) aF) (aa (ab (rd 4) (rd 3) aF) ah))) ah) qa)
noncomputable def Ji(c:CF):FS :=
 (aH (bj (ay (aM 2 (c "acts")) (aa (rd 0) (aa (rd 1) ah))) (aj 5))
  (aH (bj (ay (aM 2 (c "nexts")) (aa (rd 0) (aa (rd 1) ah))) (aj 4))
  (aH (L5 2 (ur (aM 1 (c "empty_at_first")) (aa (ab (rd 0) (rd 1) aF) ah)))
  (aH (il (dD (ay (aM 2 (c "come_to")) (aa (rd 0) (aa (rd 1) ah)))) (aj 3) (jL c))
  (mF [2] (bz (bI (kR (rd 2) (ay (aM 3 (c "stays_empty")) (aa (ab (rd 2) (ab (rd 0) (kI 0) aF) aF) (aa (ab (rd 1) (ab (rd 0) (kI 0) aF) aF) (aa (rd 0) ah)))) [some 4,some 5]))))))))
def Ci:=rq (x:="empties") (st:=wc) (f:=Ji) (n:=6) (by kernel_rfl) (fun c=>by kernel_rfl) (by kernel_rfl)
noncomputable def eV(c:CF):FS :=
 (aH (bj (rn (toB (ay (aM 1 (c "is_holder")) (aa (rd 3) ah))) (kI 1) (hV (cf cZ (aa (ay (aM 1 (c "leaves")) (aa (rd 3) ah)) ah)))) (aj 4))
  (gL 1 (aa (bI (dX [none,none,some 2] (ip (aa (rd 4) ah)) (aj 1) (bh (aa (kI 0) (aa (rd 2) (aa (rd 1) ah)))))) ah) qa))
noncomputable def qx(c:CF):FS :=
 (aH (jA 1 (cH ah))
  (aH (il (dD (ab (rd 0) (kI 3) aF)) (cM 2 (aw (aj 2) (aw (aj 3) cI))) (eV c))
  (nI 1)))
def nQ:=rq (x:="empty_at_first") (st:=kh) (f:=qx) (n:=5) (by kernel_rfl) (fun c=>by kernel_rfl) (by kernel_rfl)
noncomputable def jM(c:CF):FS :=
 (gL 2 (aa (bI (dX [none,none,some 0,some 3] (dD (ay (aM 1 (c "touched")) (aa (rd 0) ah))) (aj 1) (bh (aa (rd 3) (aa (ab (rd 2) (kI 2) aF) (aa (rd 1) ah)))))) ah) qa)
noncomputable def Jj(c:CF):FS :=
 (aH (gK (jm (toB (ab (ab (rd 0) (kI 1) aF) (kS "empty") yA)))
  (bz (bI (cH ah)))
  (fun ρ=>some (.nx ρ)))
  (aH (jA 2 (cH ah))
  (aH (il (dD (rd 1)) (aj 3) (jM c))
  (nI 2))))
def Cj:=rq (x:="emptied") (st:=we) (f:=Jj) (n:=4) (by kernel_rfl) (fun c=>by kernel_rfl) (by kernel_rfl)
noncomputable def vQ(c:CF):FS :=
 (aH (gK (Ab (toB (ab (ab (rd 0) (kI 6) aF) (ab (rd 2) (kI 1) aF) dS)) (toB (ay (aM 3 (c "fills")) (aa (rd 0) (aa (ab (rd 2) (kI 1) aF) (aa (ab (rd 2) (kI 2) aF) ah))))))
  (bz (bI (cH ah)))
  (fun ρ=>some (.nx ρ)))
  (bz (bI (dX [none,none,some 2] (dD (rd 1)) (aj 1) (bh (aa (rd 1) (aa (ab (rd 2) (kI 1) aF) (aa (ab (rd 2) (kI 2) aF) ah))))))))
def rE:=rq (x:="stays_empty") (st:=mP) (f:=vQ) (n:=3) (by kernel_rfl) (fun c=>by kernel_rfl) (by kernel_rfl)
noncomputable def QV(c:CF):FS :=
 (bz (oA (ab (ab (rd 0) (kI 1) aF) (kS "fill") dS) (oA (A7 (ab (rd 0) (kI 3) aF)) (ay (aM 3 (c "touches")) (aa (rd 0) (aa (rd 1) (aa (rd 2) ah)))))))
def Jk:=rq (x:="fills") (st:=FV) (f:=QV) (n:=3) (by kernel_rfl) (fun c=>by kernel_rfl) (by kernel_rfl)
noncomputable def nR(c:CF):FS :=
 (aH (gK (toB (ab (rd 1) (cf cZ (aa (rd 0) ah)) Bh))
  (bz (ab (rd 0) (rd 1) aF))
  (fun ρ=>some (.nx ρ)))
  (bz (kI 0)))
def zw:=rq (x:="_law_cell_at") (st:=tq) (f:=nR) (n:=2) (by kernel_rfl) (fun c=>by kernel_rfl) (by kernel_rfl)
noncomputable def Ng(c:CF):FS :=
 (aH (bj (ab (bI (cH (aa (bh (aa (kI 48271) (aa (kI 2147483647) ah))) (aa (bh (aa (kI 69621) (aa (kI 998244353) ah))) (aa (bh (aa (kI 40692) (aa (kI 1000000007) ah))) (aa (bh (aa (kI 16807) (aa (kI 2147483629) ah))) ah)))))) (rd 1) aF) (cM 2 (aw (aj 2) (aw (aj 3) cI))))
  (bz (ab (ab (ab (ab (rd 0) (kI 1000000000039) cw) (rd 1) bZ) (rd 2) km) (rd 3) cw)))
def E6:=rq (x:="_law_mixed") (st:=Ar) (f:=Ng) (n:=4) (by kernel_rfl) (fun c=>by kernel_rfl) (by kernel_rfl)
noncomputable def kX(c:CF):FS :=
 (bj (ab (rd 9) (ab (rd 2) (ab (ab (ab (rd 6) (rd 5) aF) (ab (rd 8) (cf yB (aa (ab (rd 5) (rd 4) dS) ah)) km) bZ) (kI 26) cw) aF) bZ) (aj 9))
noncomputable def kY(c:CF):FS :=
 (aH (bj (kS "") (aj 9))
  (aH (il (ip (aa (rd 3) ah)) (aj 5) (kX c))
  (gL 7 (aa (rd 9) ah) nJ)))
noncomputable def Nh(c:CF):FS :=
 (aH (bj (kS "abcdefghijklmnopqrstuvwxyz") (aj 2))
  (aH (bj (ab (kI 1) (ab (rd 0) (kI 8) cw) bZ) (aj 3))
  (aH (bj (ab (ab (rd 0) (kI 8) dz) (rd 3) cw) (aj 4))
  (aH (bj (bI (dX [none,none,some 0] (ip (aa (rd 3) ah)) (aj 1) (ab (ab (ab (rd 2) (ab (kI 64) (ab (ab (kI 9) (rd 1) km) (rd 1) km) bZ) dz) (ab (kI 5) (rd 1) km) bZ) (kI 26) cw))) (aj 6))
  (aH (jA 7 (cH ah))
  (aH (il (ip (aa (rd 1) ah)) (aj 8) (kY c))
  (nI 7)))))))
def E7:=rq (x:="_law_names") (st:=As) (f:=Nh) (n:=10) (by kernel_rfl) (fun c=>by kernel_rfl) (by kernel_rfl)
noncomputable def Ni(c:CF):FS :=
 (aH (bj (bh (aa (kS "strip") (aa (ab (kI 1) (ab (ab (rd 0) (kI 7) dz) (kI 8) cw) bZ) ah))) (aj 1))
  (aH (bj (bh (aa (kS "rec") (aa (bh (aa (bh (aa (kS "num") ah)) (aa (bh (aa (kS "num") ah)) ah))) ah))) (aj 2))
  (aH (bj (bI (cH (aa (rd 2) (aa (bh (aa (kS "own") ah)) (aa (rd 1) (aa (bh (aa (kS "num") ah)) (aa (bh (aa (kS "rec") (aa (bh (aa (bh (aa (kS "num") ah)) (aa (bh (aa (kS "own") ah)) ah))) ah))) (aa (bh (aa (kS "rec") (aa (bh (aa (rd 1) (aa (bh (aa (kS "own") ah)) ah))) ah))) ah)))))))) (aj 3))
  (bz (ab (ab (rd 3) (bI (cH (aa (bh (aa (kS "rec") (aa (bh (aa (rd 2) (aa (rd 1) ah))) ah))) ah))) bZ) (ab (rd 0) (kI 7) cw) aF)))))
def E8:=rq (x:="_law_shape") (st:=Au) (f:=Ni) (n:=4) (by kernel_rfl) (fun c=>by kernel_rfl) (by kernel_rfl)
noncomputable def jN(c:CF):FS :=
 (bj (ab (rd 1) (ay (aM 1 (c "_law_leaves")) (aa (rd 2) ah)) bZ) (aj 1))
noncomputable def Jl(c:CF):FS :=
 (aH (gK (toB (ab (ab (rd 0) (kI 0) aF) (kS "rec") yA))
  (bz (bI (cH (aa (rd 0) ah))))
  (fun ρ=>some (.nx ρ)))
  (aH (bj (bI (cH ah)) (aj 1))
  (aH (il (dD (ab (rd 0) (kI 1) aF)) (aj 2) (jN c))
  (bz (rd 1)))))
def qX:=rq (x:="_law_leaves") (st:=wj) (f:=Jl) (n:=3) (by kernel_rfl) (fun c=>by kernel_rfl) (by kernel_rfl)
noncomputable def kZ(c:CF):FS :=
 (bj (ab (rd 1) (bI (dX [none,none,none,some 2] (dD (ay (aM 1 (c "_law_parts")) (aa (rd 3) ah))) (cM 2 (aw (aj 1) (aw (aj 2) cI))) (bh (aa (ab (bh (aa (rd 3) ah)) (rd 1) bZ) (aa (rd 2) ah))))) bZ) (aj 1))
noncomputable def Nj(c:CF):FS :=
 (aH (bj (bI (cH (aa (bh (aa (bh ah) (aa (rd 0) ah))) ah))) (aj 1))
  (aH (gK (toB (ab (ab (rd 0) (kI 0) aF) (kS "rec") dS))
  (il (mZ (ab (rd 0) (kI 1) aF)) (cM 2 (aw (aj 2) (aw (aj 3) cI))) (kZ c))
  (fun ρ=>some (.nx ρ)))
  (bz (rd 1))))
def uU:=rq (x:="_law_parts") (st:=Av) (f:=Nj) (n:=4) (by kernel_rfl) (fun c=>by kernel_rfl) (by kernel_rfl)
noncomputable def qy(c:CF):FS :=
 (aH (bj (ay (aM 1 (c "_law_parts")) (aa (ab (rd 4) (ab (kI 1) (ab (ab (rd 3) (ab (kI 3) (rd 2) bZ) aF) (kI 3) cw) bZ) aF) ah)) (aj 6))
  (aH (bj (ab (bI (cH (aa (kS "lent") (aa (kS "sole") (aa (kS "sole") ah))))) (ab (ab (ab (rd 3) (ab (kI 3) (rd 2) bZ) aF) (kI 3) dz) (kI 3) cw) aF) (aj 7))
  (gL 5 (aa (bh (aa (ab (rd 1) (ab (kI 4) (rd 2) bZ) aF) (aa (bh (aa (rd 7) (aa (ab (ab (rd 6) (ab (ab (ab (rd 3) (ab (kI 3) (rd 2) bZ) aF) (kI 9) dz) (hV (cf cZ (aa (rd 6) ah))) cw) aF) (kI 1) aF) ah))) ah))) ah) nJ)))
noncomputable def QW(c:CF):FS :=
 (aH (bj (bI (dX [none,none,some 0] (ip (aa (kI 7) ah)) (aj 1) (ay (aM 2 (c "_law_mixed")) (aa (ay (aM 2 (c "_law_cell_at")) (aa (rd 2) (aa (ab (kI 1) (rd 1) bZ) ah))) (aa (ab (rd 1) (kI 4) cw) ah))))) (aj 3))
  (aH (bj (ab (bI (cH (aa (bh (aa (kS "num") ah)) ah))) (bI (dX [none,none,some 3] (ip (aa (kI 3) ah)) (aj 1) (ay (aM 1 (c "_law_shape")) (aa (ab (rd 2) (rd 1) aF) ah)))) bZ) (aj 4))
  (aH (jA 5 (dX [none,none,some 1,some 4] (ip (aa (kI 4) ah)) (aj 1) (bh (aa (ab (rd 2) (rd 1) aF) (aa (ab (rd 3) (rd 1) aF) ah)))))
  (aH (il (ip (aa (kI 4) ah)) (aj 2) (qy c))
  (nI 5)))))
def Jm:=rq (x:="_law_lets") (st:=FW) (f:=QW) (n:=8) (by kernel_rfl) (fun c=>by kernel_rfl) (by kernel_rfl)
noncomputable def nS(c:CF):FS :=
 (gL 1 (aa (bh (aa (bh (aa (rd 2) (aa (rd 4) (aa (rd 6) (aa (cK .df) ah))))) (aa (rd 7) (aa (ab (ab (rd 3) (kI 0) aF) (kS "lent") yA) ah)))) ah) nJ)
noncomputable def nU(c:CF):FS :=
 (aH (bj (ab (ab (rd 3) (kI 0) aF) (bh (aa (kS "lent") (aa (kS "sole") ah))) (qd false)) (aj 4))
  (aH (bj (rd 3) (aj 5))
  (aH (gK (jm (toB (rd 4)))
  (bj (ab (rd 3) (kI 1) aF) (aj 5))
  (fun ρ=>some (.nx ρ)))
  (il (dD (ay (aM 1 (c "_law_parts")) (aa (rd 5) ah))) (cM 2 (aw (aj 6) (aw (aj 7) cI))) (nS c)))))
noncomputable def Nk(c:CF):FS :=
 (aH (jA 1 (cH ah))
  (aH (il (dD (rd 0)) (cM 2 (aw (aj 2) (aw (aj 3) cI))) (nU c))
  (nI 1)))
def E9:=rq (x:="_law_spots") (st:=Aw) (f:=Nk) (n:=8) (by kernel_rfl) (fun c=>by kernel_rfl) (by kernel_rfl)
noncomputable def iX(c:CF):FS :=
 (aH (gK (jm (toB (ab (ab (rd 5) (kI 0) aF) (bh (aa (kS "num") (aa (kS "own") ah))) (qd false))))
  (gL 3 (aa (bh (aa (rd 4) (aa (rd 6) ah))) ah) nJ)
  (fun ρ=>some (.nx ρ)))
  (gK (jm (toB (ab (ab (rd 5) (kI 0) aF) (kS "strip") dS)))
  (gL 3 (aa (bh (aa (ab (cutE (rd 4) Pu (lh (kI 3))) (bh (aa (ab (bI (cH (aa (ab (rd 2) (ab (rd 5) (kI 1) aF) cw) (aa (rd 1) ah)))) (ab (ab (rd 2) (kI 8) dz) (kI 2) cw) aF) ah)) bZ) (aa (rd 6) ah))) ah) nJ)
  (fun ρ=>some (.nx ρ))))
noncomputable def Fb(c:CF):FS :=
 (aH (jA 3 (cH ah))
  (aH (il (dD (rd 0)) (cM 3 (aw (aj 4) (aw (aj 5) (aw (aj 6) cI)))) (iX c))
  (nI 3)))
def zA:=rq (x:="_law_numbers") (st:=tu) (f:=Fb) (n:=7) (by kernel_rfl) (fun c=>by kernel_rfl) (by kernel_rfl)
noncomputable def Fc(c:CF):FS :=
 (aH (gK (toB (ab (ab (ab (rd 1) (kI 5) dz) (kI 4) cw) (kI 0) dS))
  (bz (ab (rd 0) (ab (kI 10) (kI 30) Bf) cw))
  (fun ρ=>some (.nx ρ)))
  (bz (ab (ab (rd 2) (ab (ab (rd 1) (kI 20) dz) (cf cZ (aa (rd 2) ah)) cw) aF) (kI 0) aF)))
def zB:=rq (x:="_law_operand") (st:=tw) (f:=Fc) (n:=3) (by kernel_rfl) (fun c=>by kernel_rfl) (by kernel_rfl)
noncomputable def Fe(c:CF):FS :=
 (aH (bj (ab (rd 3) (ab (rd 1) (cf cZ (aa (rd 3) ah)) cw) aF) (cM 3 (aw (aj 4) (aw (aj 5) (aw (aj 6) cI)))))
  (aH (bj (bI (fP [none,none,none,none,some 5] (dD (rd 3)) (cM 3 (aw (aj 1) (aw (aj 2) (aw (aj 3) cI)))) (gS (toB (ab (rd 2) (rd 4) dS)) (toB (rd 3))) (rd 1))) (aj 7))
  (aH (bj (ab (bh (aa (kS "own") ah)) (ay (aM 1 (c "_law_leaves")) (aa (rd 5) ah)) (qd false)) (aj 8))
  (aH (gK (Ab (toB (ab (rd 7) (bI (cH ah)) dS)) (gS (toB (ab (rd 4) (kI 1) aF)) (toB (rd 8))))
  (bz (bh (aa (kS "say") (aa (rd 1) ah))))
  (fun ρ=>some (.nx ρ)))
  (aH (gK (Ab (toB (rd 8)) (gS (toB (ab (rd 0) (kS "move") dS)) (kl (toB (ab (rd 4) (kI 1) aF)))))
  (bz (bh (aa (kS "move") (aa (ab (rd 7) (ab (rd 2) (cf cZ (aa (rd 7) ah)) cw) aF) (aa (rd 4) ah)))))
  (fun ρ=>some (.nx ρ)))
  (bz (bh (aa (kS "copy") (aa (ab (rd 7) (ab (rd 2) (cf cZ (aa (rd 7) ah)) cw) aF) (aa (rd 4) ah))))))))))
def zC:=rq (x:="_law_carried") (st:=tx) (f:=Fe) (n:=9) (by kernel_rfl) (fun c=>by kernel_rfl) (by kernel_rfl)
noncomputable def Ff(c:CF):FS :=
 (aH (bj (bI (fP [none,none] (dD (rd 2)) (aj 1) (toB (ab (ab (ab (rd 1) (kI 1) aF) (kI 0) aF) (bh (aa (kS "lent") (aa (kS "sole") ah))) (qd false))) (rd 1))) (aj 4))
  (aH (bj (ab (rd 4) (ab (rd 0) (cf cZ (aa (rd 4) ah)) cw) aF) (cM 2 (aw (aj 5) (aw (aj 6) cI))))
  (aH (bj (ab (bI (cH (aa (kS "lend") (aa (kS "sole") ah)))) (cf yB (aa (ab (ab (rd 6) (kI 0) aF) (kS "sole") dS) ah)) aF) (aj 7))
  (aH (bj (bI (fP [none,none,none,none,some 6,some 7] (dD (rd 3)) (cM 3 (aw (aj 1) (aw (aj 2) (aw (aj 3) cI)))) (gS (toB (ab (rd 2) (ab (rd 4) (kI 1) aF) dS)) (Ab (toB (rd 3)) (toB (ab (rd 5) (kS "lend") dS)))) (rd 1))) (aj 8))
  (bz (bh (aa (rd 7) (aa (rd 5) (aa (ab (rd 8) (ab (rd 1) (cf cZ (aa (rd 8) ah)) cw) aF) ah)))))))))
def zD:=rq (x:="_law_lending") (st:=tD) (f:=Ff) (n:=9) (by kernel_rfl) (fun c=>by kernel_rfl) (by kernel_rfl)
noncomputable def QX(c:CF):FS :=
 (aH (bj (rd 2) (cM 6 (aw (aj 3) (aw (aj 4) (aw (aj 5) (aw (aj 6) (aw (aj 7) (aw (aj 8) cI))))))))
  (aH (gK (jm (toB (ab (ab (rd 0) (kI 4) cw) (kI 0) dS)))
  (bz (bh (aa (kS "call") (aa (kS "") (aa (ab (rd 3) (kI 0) aF) (aa (bh ah) ah))))))
  (fun ρ=>some (.nx ρ)))
  (aH (jA 9 (cH (aa (ab (rd 4) (ab (rd 1) (hV (cf cZ (aa (rd 4) ah))) cw) aF) (aa (ab (rd 6) (ab (ab (rd 1) (kI 8) dz) (hV (cf cZ (aa (rd 6) ah))) cw) aF) ah))))
  (aH (gK (jm (toB (ab (ab (rd 0) (kI 4) cw) (kI 1) dS)))
  (aH (gK (jm (toB (ab (ab (rd 8) (kI 2) cw) (kI 1) dS)))
  (Be 9 Qm)
  (fun ρ=>some (.nx ρ)))
  (mF [9] (bz (bh (aa (kS "call") (aa (ab (rd 7) (ab (ab (rd 0) (kI 4) dz) (hV (cf cZ (aa (rd 7) ah))) cw) aF) (aa (ab (rd 3) (kI 1) aF) (aa (cf mJ (aa (rd 9) ah)) ah))))))))
  (fun ρ=>some (.nx ρ)))
  (aH (jA 9 (cH (aa (ab (rd 4) (ab (rd 1) (hV (cf cZ (aa (rd 4) ah))) cw) aF) (aa (ab (rd 5) (ab (ab (rd 1) (kI 8) dz) (hV (cf cZ (aa (rd 5) ah))) cw) aF) ah))))
  (aH (gL 9 (aa (ab (rd 8) (kI 2) dz) (aa (ab (rd 6) (ab (ab (rd 1) (kI 64) dz) (hV (cf cZ (aa (rd 6) ah))) cw) aF) ah)) yL)
  (mF [9] (bz (bh (aa (kS "call") (aa (ab (rd 4) (ab (ab (rd 0) (kI 4) dz) (hV (cf cZ (aa (rd 4) ah))) cw) aF) (aa (ab (rd 3) (kI 2) aF) (aa (cf mJ (aa (rd 9) ah)) ah)))))))))))))
def Jn:=rq (x:="_law_call") (st:=FX) (f:=QX) (n:=10) (by kernel_rfl) (fun c=>by kernel_rfl) (by kernel_rfl)
noncomputable def zE(c:CF):FS :=
 (aH (gK (toB (ab (rd 0) (kS "drop") dS))
  (aH (bj (bI (fP [none,none,none,none] (dD (rd 3)) (cM 3 (aw (aj 1) (aw (aj 2) (aw (aj 3) cI)))) (kl (toB (ab (rd 1) (kI 1) aF))) (rd 1))) (aj 4))
  (bz (bh (aa (kS "drop") (aa (ab (rd 4) (ab (rd 1) (cf cZ (aa (rd 4) ah)) cw) aF) ah)))))
  (fun ρ=>some (.nx ρ)))
  (aH (bj (bI (fP [none,none,none,none] (dD (rd 3)) (cM 3 (aw (aj 1) (aw (aj 2) (aw (aj 3) cI)))) (gS (toB (ab (ab (rd 2) (kI 0) aF) (kS "strip") dS)) (toB (rd 3))) (rd 1))) (aj 5))
  (aH (gK (gS (toB (ab (rd 0) (kS "fill") dS)) (toB (ab (rd 5) (bI (cH ah)) yA)))
  (bz (bh (aa (kS "fill") (aa (ab (rd 5) (ab (rd 1) (cf cZ (aa (rd 5) ah)) cw) aF) (aa (rd 2) ah)))))
  (fun ρ=>some (.nx ρ)))
  (bz (bh (aa (kS "say") (aa (rd 2) ah)))))))
def uV:=rq (x:="_law_small_row") (st:=oq) (f:=zE) (n:=6) (by kernel_rfl) (fun c=>by kernel_rfl) (by kernel_rfl)
noncomputable def VE(c:CF):FS :=
 (aH (bj (rd 2) (cM 6 (aw (aj 3) (aw (aj 4) (aw (aj 5) (aw (aj 6) (aw (aj 7) (aw (aj 8) cI))))))))
  (aH (bj (ay (aM 2 (c "_law_mixed")) (aa (rd 0) (aa (kI 1) ah))) (aj 9))
  (aH (bj (ay (aM 2 (c "_law_mixed")) (aa (rd 0) (aa (kI 2) ah))) (aj 10))
  (aH (bj (ab (rd 3) (ab (ay (aM 2 (c "_law_mixed")) (aa (rd 0) (aa (kI 0) ah))) (cf cZ (aa (rd 3) ah)) cw) aF) (aj 11))
  (aH (bj (bI (fP [none,none,none] (dD (rd 6)) (cM 2 (aw (aj 1) (aw (aj 2) cI))) (toB (rd 2)) (rd 1))) (aj 12))
  (aH (bj (ay (aM 3 (c "_law_operand")) (aa (rd 0) (aa (rd 10) (aa (rd 6) ah)))) (aj 13))
  (aH (gK (toB (ab (rd 11) (kS "put") dS))
  (bz (bh (aa (kS "put") (aa (ab (rd 12) (ab (rd 9) (cf cZ (aa (rd 12) ah)) cw) aF) (aa (rd 13) ah)))))
  (fun ρ=>some (.nx ρ)))
  (aH (gK (toB (ab (rd 11) (kS "set") dS))
  (bz (bh (aa (kS "set") (aa (ab (rd 12) (ab (rd 9) (cf cZ (aa (rd 12) ah)) cw) aF) (aa (ab (kS "+-*") (ab (rd 10) (kI 3) cw) aF) (aa (rd 13) (aa (ay (aM 3 (c "_law_operand")) (aa (ab (rd 0) (kI 7) dz) (aa (rd 9) (aa (rd 6) ah)))) ah)))))))
  (fun ρ=>some (.nx ρ)))
  (aH (gK (toB (ab (rd 11) (bh (aa (kS "copy") (aa (kS "move") ah))) (qd false)))
  (bz (ay (aM 4 (c "_law_carried")) (aa (rd 11) (aa (rd 9) (aa (rd 10) (aa (rd 5) ah))))))
  (fun ρ=>some (.nx ρ)))
  (aH (gK (toB (ab (rd 11) (kS "lend") dS))
  (bz (ay (aM 4 (c "_law_lending")) (aa (rd 9) (aa (rd 10) (aa (rd 4) (aa (rd 5) ah))))))
  (fun ρ=>some (.nx ρ)))
  (aH (gK (toB (ab (rd 11) (kS "call") dS))
  (bz (ay (aM 3 (c "_law_call")) (aa (rd 9) (aa (rd 10) (aa (rd 7) ah)))))
  (fun ρ=>some (.nx ρ)))
  (aH (gK (toB (ab (rd 11) (kS "give") dS))
  (bz (rd 8))
  (fun ρ=>some (.nx ρ)))
  (aH (gK (toB (ab (rd 11) (kS "go") dS))
  (bz (bh (aa (kS "go") (aa (ab (rd 9) (rd 1) cw) ah))))
  (fun ρ=>some (.nx ρ)))
  (aH (gK (toB (ab (rd 11) (kS "if") dS))
  (bz (bh (aa (kS "if") (aa (rd 13) (aa (ab (rd 10) (kI 97) cw) (aa (ab (rd 9) (rd 1) cw) ah))))))
  (fun ρ=>some (.nx ρ)))
  (bz (ay (aM 4 (c "_law_small_row")) (aa (rd 11) (aa (rd 9) (aa (rd 13) (aa (rd 5) ah))))))))))))))))))))
def Nl:=rq (x:="_law_row") (st:=KI) (f:=VE) (n:=14) (by kernel_rfl) (fun c=>by kernel_rfl) (by kernel_rfl)
noncomputable def Fg(c:CF):FS :=
 (aH (bj (ay (aM 2 (c "_law_names")) (aa (ab (ay (aM 2 (c "_law_cell_at")) (aa (rd 0) (aa (kI 0) ah))) (ab (kI 10) (kI 12) Bf) cw) (aa (kI 13) ah))) (aj 3))
  (aH (bj (ay (aM 2 (c "_law_lets")) (aa (rd 0) (aa (rd 3) ah))) (aj 4))
  (aH (bj (ay (aM 2 (c "_law_mixed")) (aa (ay (aM 2 (c "_law_cell_at")) (aa (rd 0) (aa (kI 0) ah))) (aa (kI 3) ah))) (aj 5))
  (aH (bj (ab (ab (rd 5) (kI 1024) dz) (kI 6) cw) (aj 6))
  (aH (jA 7 (cH (aa (bh (aa (ab (rd 3) (kI 8) aF) (aa (ab (ab (rd 4) (kI 4) aF) (kI 1) aF) ah))) (aa (bh (aa (ab (rd 3) (kI 9) aF) (aa (ab (ab (rd 4) (kI 1) aF) (kI 1) aF) ah))) ah))))
  (aH (gK (jm (toB (ab (ab (rd 6) (kI 2) cw) (kI 1) dS)))
  (Be 7 Qm)
  (fun ρ=>some (.nx ρ)))
  (aH (mF [7] (bj (ab (rd 7) (rd 4) bZ) (aj 8)))
  (aH (bj (ab (bI (cH (aa (cK .df) (aa (ab (ab (ab (rd 4) (kI 5) aF) (kI 1) aF) (bh (aa (bh ah) ah)) bZ) (aa (ab (ab (ab (rd 4) (kI 5) aF) (kI 1) aF) (bh (aa (bh (aa (ab (rd 3) (kI 8) aF) ah)) ah)) bZ) (aa (ab (ab (rd 4) (kI 2) aF) (kI 1) aF) ah)))))) (ab (rd 5) (kI 4) cw) aF) (aj 9))
  (aH (bj (bh (aa (kS "give") (aa (ab (bI (cH (aa (kS "") (aa (ab (rd 3) (kI 5) aF) (aa (ab (rd 3) (kI 5) aF) (aa (ab (rd 3) (kI 2) aF) ah)))))) (ab (rd 5) (kI 4) cw) aF) ah))) (aj 10))
  (aH (bj (bI (fP [none,none,none,some 4] (dD (rd 8)) (cM 2 (aw (aj 1) (aw (aj 2) cI))) (toB (ab (rd 2) (ab (ab (rd 3) (kI 4) aF) (kI 1) aF) dS)) (rd 1))) (aj 11))
  (aH (bj (bI (fP [none,none,none,some 4] (dD (rd 8)) (cM 2 (aw (aj 1) (aw (aj 2) cI))) (toB (ab (rd 2) (ab (ab (rd 3) (kI 5) aF) (kI 1) aF) dS)) (rd 1))) (aj 12))
  (aH (bj (bI (fP [none,none,none,some 4] (dD (rd 8)) (cM 2 (aw (aj 1) (aw (aj 2) cI))) (toB (ab (rd 2) (ab (ab (rd 3) (kI 1) aF) (kI 1) aF) dS)) (rd 1))) (aj 13))
  (aH (bj (ab (bI (cH (aa (bI (cH (aa (kS "") ah))) (aa (rd 12) (aa (rd 12) (aa (bI (fP [none,none,none,some 4] (dD (rd 8)) (cM 2 (aw (aj 1) (aw (aj 2) cI))) (toB (ab (rd 2) (ab (ab (rd 3) (kI 2) aF) (kI 1) aF) dS)) (rd 1))) ah)))))) (ab (rd 5) (kI 4) cw) aF) (aj 14))
  (aH (bj (ay (aM 1 (c "_law_spots")) (aa (rd 8) ah)) (aj 15))
  (aH (bj (ay (aM 3 (c "_law_numbers")) (aa (rd 15) (aa (ab (rd 3) (kI 0) aF) (aa (ab (ab (rd 5) (kI 16) dz) (kI 64) cw) ah)))) (aj 16))
  (aH (bj (bh (aa (rd 2) (aa (rd 8) (aa (rd 15) (aa (rd 16) (aa (bh (aa (cutE (rd 3) (lh (kI 10)) Pu) (aa (rd 11) (aa (rd 12) (aa (rd 13) (aa (rd 14) (aa (rd 6) ah))))))) (aa (rd 10) ah))))))) (aj 17))
  (aH (bj (cutE (rd 0) (lh (kI 8)) (lh (ab (kI 8) (rd 1) bZ))) (aj 18))
  (aH (bj (ab (bI (dX [none,none,some 18,some 17] (dD (rd 18)) (aj 1) (ay (aM 3 (c "_law_row")) (aa (rd 1) (aa (ab (cf cZ (aa (rd 2) ah)) (kI 1) bZ) (aa (rd 3) ah)))))) (bI (cH (aa (rd 10) ah))) bZ) (aj 19))
  (aH (bj (ab (bI (cH (aa (bh ah) (aa (bh (aa (ab (rd 3) (kI 0) aF) ah)) (aa (bh (aa (ab (rd 3) (kI 1) aF) ah)) (aa (bh (aa (ab (rd 3) (kI 0) aF) (aa (ab (rd 3) (kI 1) aF) ah))) ah)))))) (ab (ab (rd 5) (kI 4) dz) (kI 4) cw) aF) (aj 20))
  (aH (jA 21 (cH (aa (bh (aa (ab (rd 3) (kI 0) aF) (aa (ab (ab (rd 4) (kI 4) aF) (kI 1) aF) ah))) (aa (bh (aa (ab (rd 3) (kI 1) aF) (aa (ab (ab (rd 4) (kI 5) aF) (kI 1) aF) ah))) ah))))
  (aH (gL 21 (aa (ab (rd 6) (kI 2) dz) (aa (bh (aa (ab (rd 3) (kI 2) aF) (aa (ab (ab (rd 4) (kI 1) aF) (kI 1) aF) ah))) ah)) yL)
  (aH (mF [21] (bj (bh (aa (ab (rd 3) (kI 12) aF) (aa (cf mJ (aa (rd 21) ah)) (aa (ab (ab (ab (rd 4) (kI 4) aF) (kI 1) aF) (bh (aa (rd 20) ah)) bZ) (aa (bh ah) (aa (bh (aa (bh (aa (kS "give") (aa (ab (rd 3) (kI 0) aF) ah))) ah)) ah)))))) (aj 22)))
  (aH (mF [7] (bj (bh (aa (ab (rd 3) (kI 11) aF) (aa (cf mJ (aa (rd 7) ah)) (aa (rd 9) (aa (cf mJ (aa (rd 4) ah)) (aa (cf mJ (aa (rd 19) ah)) ah)))))) (aj 23)))
  (bz (bh (aa (bh (aa (ab (rd 3) (kI 10) aF) (aa (bh ah) (aa (cK .df) (aa (bh ah) (aa (bh (aa (bh (aa (kS "give") (aa (kS "") ah))) ah)) ah)))))) (aa (rd 23) (aa (rd 22) ah))))))))))))))))))))))))))))
def zF:=rq (x:="_law_program") (st:=tH) (f:=Fg) (n:=24) (by kernel_rfl) (fun c=>by kernel_rfl) (by kernel_rfl)
noncomputable def Nm(c:CF):FS :=
 (bz (oA (Se .int (rd 0)) (A7 (Se .bool (rd 0)))))
def Fh:=rq (x:="_law_whole") (st:=Ax) (f:=Nm) (n:=1) (by kernel_rfl) (fun c=>by kernel_rfl) (by kernel_rfl)
noncomputable def QY(c:CF):FS :=
 (aH (gK (toB (ab (ab (rd 0) (kI 6) aF) (rd 1) dS))
  (bz (cK (.bl true)))
  (fun ρ=>some (.nx ρ)))
  (bz (oA (ab (ab (rd 0) (kI 1) aF) (kS "fill") dS) (oA (A7 (ab (rd 0) (kI 3) aF)) (oA (ab (ab (rd 0) (kI 2) aF) (rd 1) dS) (chain (ab (rd 0) (kI 4) aF) (rd 2) (ab (ab (rd 0) (kI 4) aF) (ab (rd 0) (kI 5) aF) bZ) J2 Bh))))))
def Jo:=rq (x:="_law_ends") (st:=FY) (f:=QY) (n:=3) (by kernel_rfl) (fun c=>by kernel_rfl) (by kernel_rfl)
noncomputable def jO(c:CF):FS :=
 (gK (toB (ab (rd 3) (rd 1) dS))
  (aH (gK (toB (ab (ab (rd 4) (kI 0) aF) (bh (aa (kS "lent") (aa (kS "sole") ah))) (qd false)))
  (bz (ab (rd 2) (kI 0) dS))
  (fun ρ=>some (.nx ρ)))
  (bz (chain (kI 0) (rd 2) (cf cZ (aa (ay (aM 1 (c "_law_leaves")) (aa (rd 4) ah)) ah)) J2 Bh)))
  (fun ρ=>some (.nx ρ)))
noncomputable def Jp(c:CF):FS :=
 (aH (il (dD (rd 0)) (cM 2 (aw (aj 3) (aw (aj 4) cI))) (jO c))
  (bz (cK (.bl false))))
def Ck:=rq (x:="_law_is_let") (st:=wm) (f:=Jp) (n:=5) (by kernel_rfl) (fun c=>by kernel_rfl) (by kernel_rfl)
noncomputable def iY(c:CF):FS :=
 (aH (bj (ab (rd 1) (rd 4) aF) (aj 5))
  (gK (gS (toB (ab (ab (rd 5) (kI 1) aF) (kS "empty") dS)) (gS (toB (ab (ab (rd 5) (kI 2) aF) (ab (rd 0) (kI 1) aF) dS)) (gS (toB (chain (ab (rd 5) (kI 4) aF) (ab (rd 0) (kI 2) aF) (ab (ab (rd 5) (kI 4) aF) (ab (rd 5) (kI 5) aF) bZ) J2 Bh)) (toB (ab (ab (rd 0) (kI 0) aF) (ab (rd 2) (rd 4) aF) (qd false))))))
  (bz (cK (.bl true)))
  (fun ρ=>some (.nx ρ))))
noncomputable def Fi(c:CF):FS :=
 (aH (il (dD (rd 3)) (aj 4) (iY c))
  (bz (cK (.bl false))))
def zG:=rq (x:="_law_is_left") (st:=tJ) (f:=Fi) (n:=6) (by kernel_rfl) (fun c=>by kernel_rfl) (by kernel_rfl)
noncomputable def ph(c:CF):FS :=
 (aH (bj (ab (rd 6) (rd 7) aF) (cM 4 (aw (aj 8) (aw (aj 9) (aw (aj 10) (aw (aj 11) cI))))))
  (aH (gK (Ab (kl (toB (ay (aM 1 (c "_law_whole")) (aa (rd 11) ah)))) (Ab (toB (ab (rd 11) (rd 7) Wj)) (toB (ab (rd 11) (Iu (kI 1)) Bh))))
  (bz (cK (.bl false)))
  (fun ρ=>some (.nx ρ)))
  (gK (toB (ab (rd 11) (Iu (kI 1)) dS))
  (aH (bj (oA (ab (rd 8) (kI 0) dS) (ay (aM 3 (c "_law_is_let")) (aa (ab (ab (rd 2) (kI 1) aF) (kI 3) aF) (aa (rd 9) (aa (rd 10) ah))))) (aj 12))
  (gK (gS (kl (toB (rd 12))) (kl (toB (ay (aM 4 (c "_law_is_left")) (aa (ab (rd 6) (rd 7) aF) (aa (rd 3) (aa (rd 4) (aa (rd 5) ah))))))))
  (bz (cK (.bl false)))
  (fun ρ=>some (.nx ρ))))
  (aH (bj (ab (rd 6) (rd 11) aF) (aj 13))
  (aH (gK (Ab (toB (ab (ab (rd 13) (kI 1) aF) (rd 9) yA)) (Ab (toB (ab (ab (rd 13) (kI 2) aF) (rd 10) yA)) (toB (ab (rd 8) (ab (rd 4) (ab (rd 13) (kI 0) aF) aF) (qd true)))))
  (bz (cK (.bl false)))
  (fun ρ=>some (.nx ρ)))
  (gK (toB (ay (aM 3 (c "_law_ends")) (aa (ab (rd 3) (ab (rd 13) (kI 0) aF) aF) (aa (rd 9) (aa (rd 10) ah)))))
  (bz (cK (.bl false)))
  (fun ρ=>some (.nx ρ))))))))
noncomputable def ZF(c:CF):FS :=
 (aH (bj (bI (cH (aa (kS "put") (aa (kS "set") (aa (kS "fill") (aa (kS "copy") (aa (kS "move") (aa (kS "move") (aa (kS "drop") (aa (kS "drop") (aa (kS "lend") (aa (kS "lend") (aa (kS "call") (aa (kS "call") ah)))))))))))))) (aj 1))
  (aH (bj (ay (aM 3 (c "_law_program")) (aa (rd 0) (aa (kI 16) (aa (ab (rd 1) (bI (cH (aa (kS "if") (aa (kS "if") (aa (kS "go") (aa (kS "say") (aa (kS "put") (aa (kS "give") ah)))))))) bZ) ah)))) (aj 2))
  (aH (bj (ay (aM 2 (c "acts")) (aa (rd 2) (aa (kI 1) ah))) (aj 3))
  (aH (bj (ay (aM 2 (c "nexts")) (aa (rd 2) (aa (kI 1) ah))) (aj 4))
  (aH (bj (ay (aM 2 (c "come_to")) (aa (rd 2) (aa (kI 1) ah))) (aj 5))
  (aH (bj (ay (aM 2 (c "empties")) (aa (rd 2) (aa (kI 1) ah))) (aj 6))
  (aH (il (ip (aa (cf cZ (aa (rd 6) ah)) ah)) (aj 7) (ph c))
  (bz (cK (.bl true))))))))))
def QZ:=rq (x:="law") (st:=KJ) (f:=ZF) (n:=14) (by kernel_rfl) (fun c=>by kernel_rfl) (by kernel_rfl)
theorem eG{α:Type}{F:PV->b8}{e:α->PV}{G:α->PV}:∀{l:List α},(∀x∈l,F (e x)=some (G x))->j5 F (l.map e)=some (l.map G)
 | [],_=>rfl
 | x::r,h=>by
  rw[bK,j5,h x cq,eG fun y hy=>h y (cn _ hy)]
  rfl
theorem Jq(ns:List Int):Er [.aq (ns.map .int)]=some (.int ns.sum):=by
 show(iD _).map _=_;rw[ql];rfl
@[simp] theorem Nn{x y:Str}:bZ (.str x) (.str y)=sizeOk (x.length+y.length) (.str (x++y)):=rfl
def Hf:Sh->Str
 | .num=>"num"
 | .own=>"own"
 | .du _=>"strip"
 | .bO _=>"rec"
@[simp] theorem Cm(s:Sh):aF (enc s) (.int 0)=some (.str (Hf s)):=by cases s<;>simp[enc,Hf]
inductive Kd where
 | ow (s:Sh) | ho (ahS:Bool) (s:Sh)
noncomputable def hw(b:Bool):Str:=if b then "sole" else "lent"
def c7:Kd->PV
 | .ow s=>enc s
 | .ho b s=>.aA [.str (hw b),enc s]
def cy:Kd->Sh
 | .ow s=>s
 | .ho _ s=>s
noncomputable def iw:Kd->Bool
 | .ow _=>false
 | .ho _ _=>true
def kw:Kd->Str
 | .ow s=>Hf s
 | .ho b _=>hw b
@[simp] theorem k0(k:Kd):aF (c7 k) (.int 0)=some (.str (kw k)):=by cases k<;>simp[c7,kw]
theorem in2(x a b:Str):qd false (.str x) (.aA [.str a,.str b])=some (.bl (a==x || b==x)):=by
 show(if eX [PV.str a,.str b]<=iS then some (PV.bl (En (.str x) [.str a,.str b]))else none)=_
 rw[if_pos (by simp[eX,jG])]
 simp[En,eqT]
theorem aef:((Str.ofString "lent")==(Str.ofString "num") || (Str.ofString "sole")==(Str.ofString "num"))=false:=by decide +kernel
theorem aeg:((Str.ofString "lent")==(Str.ofString "own") || (Str.ofString "sole")==(Str.ofString "own"))=false:=by decide +kernel
theorem aeh:((Str.ofString "lent")==(Str.ofString "strip") || (Str.ofString "sole")==(Str.ofString "strip"))=false:=by decide +kernel
theorem aei:((Str.ofString "lent")==(Str.ofString "rec") || (Str.ofString "sole")==(Str.ofString "rec"))=false:=by decide +kernel
theorem aej:((Str.ofString "lent")==(Str.ofString "lent") || (Str.ofString "sole")==(Str.ofString "lent"))=true:=by decide +kernel
theorem aek:((Str.ofString "lent")==(Str.ofString "sole") || (Str.ofString "sole")==(Str.ofString "sole"))=true:=by decide +kernel
theorem Np(k:Kd):((Str.ofString "lent")==kw k || (Str.ofString "sole")==kw k)=iw k:=by
 cases k with
 | ow s =>
  cases s with
  | num=>exact aef
  | own=>exact aeg
  | du n=>exact aeh
  | bO ps=>exact aei
 | ho b s =>
  cases b with
  | false=>exact aej
  | true=>exact aek
theorem rZ(k:Kd):qd false (.str (kw k)) (.aA [.str "lent",.str "sole"])=some (.bl (iw k)):=by rw[in2,Np]
theorem VF(b:Bool)(s:Sh):aF (c7 (.ho b s)) (.int 1)=some (enc s):=by simp[c7]
abbrev Rk:=Str×Kd
def bM(r:Rk):PV:=.aA [.str r.1,c7 r.2]
def iJ:List Rk->Str->Option Kd
 | [],_=>none
 | r::l,x=>if r.1=x then some r.2 else iJ l x
theorem qz:∀(l:List Rk) (r:Rk),(l.map (·.1)).Nodup->r∈l->iJ l r.1=some r.2
 | s::l,r,hn,h=>by
  rw[bK,jU]at hn;rcases bB.mp h with rfl | h
  ·rw[iJ,if_pos rfl]
  ·rw[iJ,if_neg,qz l r hn.2 h];intro e;exact hn.1 (bF.mpr ⟨r,h,e.symm⟩)
def ael:Option Kd->dG
 | some p=>some (.val (c7 p))
 | none=>none
theorem Jr(c:gv)(f:Ent)(x:Str)(R:List Rk):∀(o2 o3:Ent),∃ρ,fy (cM 2 (aw (aj 2) (aw (aj 3) cI))) (jK c) (R.map bM) [f,.val (.str x),o2,o3]=some (match iJ R x with | some p=>.rt (.val (c7 p)) | none=>.nx ρ):=by
 induction R with
 | nil=>exact fun o2 o3=>⟨_,rfl⟩
 | cons r R ih =>
  intro o2 o3;obtain⟨ρ,e⟩:=ih (.val (.str r.1)) (.val (c7 r.2));refine⟨ρ,?_⟩;rw[bK,i9];have t:cM 2 (aw (aj 2) (aw (aj 3) cI)) (bM r) [f,.val (.str x),o2,o3]=some [f,.val (.str x),.val (.str r.1),.val (c7 r.2)]:=rfl;rw[t,aY,uT,iJ];by_cases h:r.1=x
  ·simp[h]
  ·rw[if_neg h];simp[h];exact e
def xb(nm res body:PV)(R1 R2:List Rk):PV:=.aA [nm,.aA (R1.map bM),res,.aA (R2.map bM),body]
theorem Js(k:Nat)(n res body:PV)(R1 R2:List Rk)(x:Str)(h:R1.length+R2.length<=1000):run bt (k+1) "kind_of" [xb n res body R1 R2,.str x]=ael (iJ (R1++R2) x):=by
 rw[BS];obtain⟨ρ,e⟩:=Jr (run bt k) (.val (xb n res body R1 R2)) x (R1++R2) .un .un;have hs:bZ (.aA (R1.map bM)) (.aA (R2.map bM))=some (.aA ((R1++R2).map bM)):=by
  rw[c8];exact aT (by simp;lia)
 have a0:il (dD (ab (ab (rd 0) (kI 1) aF) (ab (rd 0) (kI 3) aF) bZ)) (cM 2 (aw (aj 2) (aw (aj 3) cI))) (jK (run bt k)) [.val (xb n res body R1 R2),.val (.str x),.un,.un]=some (match iJ (R1++R2) x with | some p=>.rt (.val (c7 p)) | none=>.nx ρ):=by
  refine fS ?_ e;rw[G7,b2 (b2 rfl rfl rfl) (b2 rfl rfl rfl) hs];rfl
 rw[aR];show gA (qt (run bt k) [.val (xb n res body R1 R2),.val (.str x),.un,.un])=_;unfold qt;cases hf:iJ (R1++R2) x with
 | none =>
  rw[hf]at a0;rw[gq a0];rfl
 | some p =>
  rw[hf]at a0;rw[jB a0];rfl
theorem gH(k:Nat)(d:Kd):run bt (k+1) "is_holder" [c7 d]=some (.val (.bl (iw d))):=by
 rw[vJ];have h:=rZ d;rw[aR];show gA (bz _ [.val (c7 d)])=_;rw[rS (b2 (b2 rfl rfl (k0 d)) rfl h)];rfl
theorem Fj(k:Nat)(d:Kd):run bt (k+2) "shape_of" [c7 d]=some (.val (enc (cy d))):=by
 rw[zj];have h:=gH k d;have t:rn (toB (ay (aM 1 (run bt (k+1) "is_holder")) (aa (rd 0) ah))) (ab (rd 0) (kI 1) aF) (rd 0) [.val (c7 d)]=some (enc (cy d)):=by
  have q:toB (ay (aM 1 (run bt (k+1) "is_holder")) (aa (rd 0) ah)) [.val (c7 d)]=some (iw d):=bT (dN (cA rfl rfl) rfl h rfl);rw[G5,q];cases d with
  | ow s=>rfl
  | ho b s=>rfl
 rw[aR];show gA (bz _ [.val (c7 d)])=_;rw[rS t];rfl
theorem LA:fG (run bt):=⟨fun k ps=>EY k ps⟩
theorem Hg{ps:List Sh}{i:Int}{y:Sh}(h0:0<=i)(hg:ps[i.toNat]?=some y):atI (dj ps) i=some (enc y):=by
 have:=da (xs:=dj ps) (j:=i.toNat) (v:=enc y) (by rw[iH,cu,hg];rfl)
 rw[xB h0]at this;exact this
def zH{α:Type}:Option α->dG
 | some _=>some (.val .df)
 | none=>none
theorem Hh(k:Nat)(s:Sh)(i:Int):run bt (k+1) "check_part" [enc s,.int i]=zH (C1 s i):=by
 rw[uS];cases s with
 | num=>simp[gX,enc,C1,zH,gA]
 | own=>simp[gX,enc,C1,zH,gA]
 | du n=>simp[gX,enc,C1,zH,gA]
 | bO ps =>
  simp[gX,enc,iI];by_cases h0:0<=i
  ·by_cases h1:i<(ps.length:Int)
   ·have:i.toNat<ps.length:=by lia
    simp[h0,h1,C1,cJ this,zH,gA]
   ·have:ps.length<=i.toNat:=by lia
    simp[h0,h1,C1,pO this,zH,gA]
  ·simp[h0,C1,zH,gA]
theorem Cn{s:Sh}{i:Int}{x:Sh×Int}(h:C1 s i=some x):∃ps,s=.bO ps/\0<=i/\ps[i.toNat]?=some x.1/\x.2=((jc (ps.take i.toNat)).length:Int):=by
 cases s with
 | bO ps =>
  simp only[C1]at h;by_cases h0:0<=i
  ·rw[if_pos h0]at h;cases hg:ps[i.toNat]? with
   | none=>rw[hg]at h;simp at h
   | some y=>rw[hg]at h;simp at h;subst h;exact⟨ps,rfl,h0,hg,rfl⟩
  ·rw[if_neg h0]at h;cases h
 | num=>simp[C1]at h
 | own=>simp[C1]at h
 | du n=>simp[C1]at h
theorem xc(k:Nat)(S P:Ent):∀(p:List Int) (s:Sh) (a:Int) (o:Ent) (s':Sh) (a':Int),walk s a p=some (s',a')->∃o',fy (aj 3) (o9 (run bt (k+1))) (p.map .int) [S,P,.val (enc s),o]=some (.nx [S,P,.val (enc s'),o'])
 | [],s,a,o,s',a',h=>by
  simp[walk]at h;obtain⟨rfl,rfl⟩:=h;exact⟨o,by simp⟩
 | i::p,s,a,o,s',a',h=>by
  obtain⟨x,hx,hw⟩:=xu.mp (show(C1 s i).bind (fun x=>walk x.1 (a+x.2) p)=some (s',a')from h)
  have hc:=Hh k s i;rw[hx]at hc;obtain⟨ps,rfl,h0,hg,_⟩:=Cn hx;obtain⟨o',q⟩:=xc k S P p x.1 (a+x.2) (.val (.int i)) s' a' hw;refine⟨o',?_⟩;have vn:=Hg h0 hg;have body:o9 (run bt (k+1)) [S,P,.val (enc (.bO ps)),.val (.int i)]=some (.nx [S,P,.val (enc x.1),.val (.int i)]):=by
   unfold o9;have a0:qQ (ay (aM 2 (run bt (k+1) "check_part")) (aa (rd 2) (aa (rd 3) ah))) [S,P,.val (enc (.bO ps)),.val (.int i)]=some (.nx [S,P,.val (enc (.bO ps)),.val (.int i)]):=by
    simp[hc,zH,gA]
   rw[gq a0];simp[enc,vn]
  simp only[bK,i9];have:aj 3 (.int i) [S,P,.val (enc (.bO ps)),o]=some [S,P,.val (enc (.bO ps)),.val (.int i)]:=by simp
  rw[this,aY,body,aY,rX];exact q
theorem VG(k:Nat)(s:Sh)(p:List Int)(x:Sh×Int)(h:walk s 0 p=some x):run bt (k+2) "part" [enc s,.aA (p.map .int)]=some (.val (enc x.1)):=by
 rw[Nd];obtain⟨o',q⟩:=xc k (.val (enc s)) (.val (.aA (p.map .int))) p s 0 .un x.1 x.2 h;rw[aR];show gA (EZ (run bt (k+1)) [.val (enc s),.val (.aA (p.map .int)),.un,.un])=_;unfold EZ;have a0:bj (rd 0) (aj 2) [.val (enc s),.val (.aA (p.map .int)),.un,.un]=some (.nx [.val (enc s),.val (.aA (p.map .int)),.val (enc s),.un]):=aS rfl rfl;rw[gq a0,gq (fS rfl q),rS (p:=enc x.1) rfl];rfl
theorem Q0(k:Nat)(ps:List Sh)(q:Nat)(hd:uK ps<=k)(hl:(jc ps).length<=1000)(hn:ps.length<=1000)(a b d:Ent) :
  cf Er (aa (bI (dX [none,none] (dD (cutE (ab (rd 2) (kI 1) aF) Pu (lh (rd 4)))) (aj 1) (cf cZ (aa (ay (aM 1 (run bt (k+1) "leaves")) (aa (rd 1) ah)) ah)))) ah) [a,b,.val (enc (.bO ps)),d,.val (.int (q:Int))]=some (.int ((jc (ps.take q)).length:Int)):=by
 have hm:∀s∈ps.take q,run bt (k+1) "leaves" [enc s]=some (.val (.aA (dj (lv s)))):=fun s hs=>fG.each (LA) ps k hd (by lia) s (Di hs)
 have aem:∀l:List Sh,(l.map fun s=>((lv s).length:Int)).sum=((jc l).length:Int):=by
  intro l;induction l with
  | nil=>simp[jc]
  | cons s l ih=>simp[jc,ih]
 have vA:dD (cutE (ab (rd 2) (kI 1) aF) Pu (lh (rd 4))) [a,b,.val (enc (.bO ps)),d,.val (.int (q:Int))]=some ((ps.take q).map enc):=by
  have ZG:=VB (dj ps) q;rw[iH,<-List.map_take]at ZG;simp[enc,iH,ZG]
 have e1:j5 (fun p=>(aj 1 p (bL [none,none] [a,b,.val (enc (.bO ps)),d,.val (.int (q:Int))])).bind (cf cZ (aa (ay (aM 1 (run bt (k+1) "leaves")) (aa (rd 1) ah)) ah))) ((ps.take q).map enc)=some (((ps.take q).map fun s=>((lv s).length:Int)).map .int):=by
  rw[eK];refine eG fun s hs=>?_
  simp[hm s hs,iI]
 have e2:=Jq ((ps.take q).map fun s=>((lv s).length:Int))
 rw[aem]at e2;refine bV (cA (fF ?_) rfl) e2;rw[BE,vA,aY,if_pos (m9 (by simp;lia))]
 exact e1
theorem VH{ps:List Sh}{y:Sh}(h:y∈ps):dp y<=uK ps:=by
 induction ps with
 | nil=>cases h
 | cons z zs ih =>
  simp only[uK];rcases bB.mp h with rfl | hm
  ·lia
  ·have:=ih hm
   lia
theorem uW(k:Nat)(S P:Ent):∀(p:List Int) (s:Sh) (a:Int) (o:Ent) (s':Sh) (a':Int),(tab s).length<=500->dp s<=k->walk s a p=some (s',a')->∃o',fy (aj 4) (my (run bt (k+1))) (p.map .int) [S,P,.val (enc s),.val (.int a),o]=some (.nx [S,P,.val (enc s'),.val (.int a'),o'])
 | [],s,a,o,s',a',_,_,h=>by
  simp[walk]at h;obtain⟨rfl,rfl⟩:=h;exact⟨o,by simp⟩
 | i::p,s,a,o,s',a',ht,hd,h=>by
  obtain⟨x,hx,hw⟩:=xu.mp (show(C1 s i).bind (fun x=>walk x.1 (a+x.2) p)=some (s',a')from h)
  have hc:=Hh k s i;rw[hx]at hc;obtain⟨ps,rfl,h0,hg,hx2⟩:=Cn hx;have rA:x.1∈ps:=cQ hg;have vx:=IW rA;have htl:(tab (.bO ps)).length=j7 ps+1:=by simp only[tab,bA,ju]
  have hll:=EU ps;have hnl:=BJ ps;have hdm:=VH rA;have hdd:uK ps+1<=k:=by simpa only[dp]using hd
  obtain⟨o',q⟩:=uW k S P p x.1 (a+x.2) (.val (.int i)) s' a' (by lia) (by lia) hw
  refine⟨o',?_⟩;have Nq:=Q0 k ps i.toNat (by lia) (by lia) (by lia) S P (.val (.int a))
  rw[xB h0,<-hx2]at Nq;have vn:=Hg h0 hg;have body:my (run bt (k+1)) [S,P,.val (enc (.bO ps)),.val (.int a),.val (.int i)]=some (.nx [S,P,.val (enc x.1),.val (.int (a+x.2)),.val (.int i)]):=by
   unfold my;have a0:qQ (ay (aM 2 (run bt (k+1) "check_part")) (aa (rd 2) (aa (rd 4) ah))) [S,P,.val (enc (.bO ps)),.val (.int a),.val (.int i)]=some (.nx [S,P,.val (enc (.bO ps)),.val (.int a),.val (.int i)]):=by
    simp[hc,zH,gA]
   rw[gq a0];have a1:bj (ab (rd 3) (cf Er (aa (bI (dX [none,none] (dD (cutE (ab (rd 2) (kI 1) aF) Pu (lh (rd 4)))) (aj 1) (cf cZ (aa (ay (aM 1 (run bt (k+1) "leaves")) (aa (rd 1) ah)) ah)))) ah)) Qu) (aj 3) [S,P,.val (enc (.bO ps)),.val (.int a),.val (.int i)]=some (.nx [S,P,.val (enc (.bO ps)),.val (.int (a+x.2)),.val (.int i)]):=aS (b2 rfl Nq rfl) rfl;rw[gq a1];exact aS (b2 (y:=.int i) (b2 (z:=some (.aA (dj ps))) rfl rfl (by simp[enc])) rfl vn) rfl
  simp only[bK,i9];have:aj 4 (.int i) [S,P,.val (enc (.bO ps)),.val (.int a),o]=some [S,P,.val (enc (.bO ps)),.val (.int a),.val (.int i)]:=by simp
  rw[this,aY,body,aY,rX];exact q
theorem Q1(k:Nat)(s:Sh)(p:List Int)(x:Sh×Int)(ht:(tab s).length<=500)(hd:dp s<=k)(h:walk s 0 p=some x):run bt (k+2) "first" [enc s,.aA (p.map .int)]=some (.val (.int x.2)):=by
 rw[I0];obtain⟨o',q⟩:=uW k (.val (enc s)) (.val (.aA (p.map .int))) p s 0 .un x.1 x.2 ht hd h;rw[aR];show gA (zi (run bt (k+1)) [.val (enc s),.val (.aA (p.map .int)),.un,.un,.un])=_;unfold zi;have a0:bj (rd 0) (aj 2) [.val (enc s),.val (.aA (p.map .int)),.un,.un,.un]=some (.nx [.val (enc s),.val (.aA (p.map .int)),.val (enc s),.un,.un]):=aS rfl rfl;have a1:bj (kI 0) (aj 3) [.val (enc s),.val (.aA (p.map .int)),.val (enc s),.un,.un]=some (.nx [.val (enc s),.val (.aA (p.map .int)),.val (enc s),.val (.int 0),.un]):=aS rfl rfl;rw[gq a0,gq a1,gq (fS rfl q),rS (p:=.int x.2) rfl];rfl
mutual
theorem Nr:∀(s:Sh),∀r∈tab s,r.2.2.1=sz r.2.2.2
 | .num,r,h=>by simp[tab]at h;subst h;simp[sz,lv]
 | .own,r,h=>by simp[tab]at h;subst h;simp[sz,lv]
 | .du n,r,h=>by simp[tab]at h;subst h;simp[sz,lv]
 | .bO ps,r,h=>by
  simp only[tab,bB]at h;rcases h with rfl | h
  ·simp[sz,lv]
  ·exact Hj ps 0 0 r h
theorem Hj:∀(l:List Sh) (k:Nat) (a:Int),∀r∈tabs k a l,r.2.2.1=sz r.2.2.2
 | [],_,_,r,h=>by simp[tabs]at h
 | s::l,k,a,r,h=>by
  simp only[tabs,c9,bF]at h;rcases h with⟨r0,h0,rfl⟩ | h
  ·exact Nr s r0 h0
  ·exact Hj l _ _ r h
end
mutual
theorem zI:∀(s:Sh),∀r∈tab s,dp r.2.2.2<=dp s/\(lv r.2.2.2).length<=(lv s).length
 | .num,r,h=>by simp[tab]at h;subst h;simp
 | .own,r,h=>by simp[tab]at h;subst h;simp
 | .du n,r,h=>by simp[tab]at h;subst h;simp
 | .bO ps,r,h=>by
  simp only[tab,bB]at h;rcases h with rfl | h
  ·simp
  ·have:=Hk ps 0 0 r h;simp only[dp,lv]
   lia
theorem Hk:∀(l:List Sh) (k:Nat) (a:Int),∀r∈tabs k a l,dp r.2.2.2<=uK l/\(lv r.2.2.2).length<=(jc l).length
 | [],_,_,r,h=>by simp[tabs]at h
 | s::l,k,a,r,h=>by
  simp only[tabs,c9,bF]at h;simp only[uK,jc,bU];rcases h with⟨r0,h0,rfl⟩ | h
  ·have:=zI s r0 h0;simp only[ng]
   lia
  ·have:=Hk l _ _ r h
   lia
end
structure dO where
 w:Str
 n:Str
 t:Bool
 f:Int
 m:Int
 k:Str
def gg(a:dO):PV:=.aA [.str a.w,.str a.n,.bl a.t,.int a.f,.int a.m,.str a.k]
def Nt:dO:=⟨"rest","",false,0,0,""⟩
def iK:dO:=⟨"hand","",false,0,0,""⟩
def GS(x:Str)(th:Bool)(p:List Int)(at_:PV):PV:=.aA [.str x,.bl th,.aA (p.map .int),at_]
def qY(s:Sh):Prop:=(tab s).length<=100/\dp s<=3
def zJ(R:Nat->gv)(F:PV)(ks:List Rk):Prop:=∀k,∀r∈ks,run bt (k+1) "kind_of" [F,.str r.1]=some (.val (c7 r.2))
def tA(w x:Str)(d:Kd)(r:Rw)(t:Str):dO:=⟨w,x,iw d,r.2.1,r.2.2.1,t⟩
theorem Ge(n res body:PV)(R1 R2:List Rk)(h:R1.length+R2.length<=1000)(hn:((R1++R2).map (·.1)).Nodup):zJ (run bt) (xb n res body R1 R2) (R1++R2):=fun k r hr=>by
 rw[Js k n res body R1 R2 r.1 h,qz _ r hn hr];rfl
theorem ix{F:PV}{ks:List Rk}(hF:zJ (run bt) F ks)(k:Nat)(hk:3<=k)(w t:Str){x:Str}{d:Kd}(hx:(x,d)∈ks)(hs:qY (cy d)){r:Rw}(hr:r∈tab (cy d))(a:PV):run bt (k+3) "touch" [F,.str w,GS x (iw d) r.1 a,.str t]=some (.val (gg (tA w x d r t))):=by
 rw[Je];have hw:=BN (cy d) r hr 0;have hd:=zI (cy d) r hr;have hl:=uO (cy d);have h1:=hF (k+1) (x,d) hx;have h2:=Fj k d;have h3:=VG k (cy d) r.1 _ hw;have h4:=fG.all (LA) r.2.2.2 (k+1) (by have:=hs.2;lia) (by have:=hs.1;lia)
 have h5:=Q1 k (cy d) r.1 _ (by have:=hs.1;lia) (by have:=hs.2;lia) hw
 have h6:=Nr (cy d) r hr;have e4:r.2.1=0+r.2.1:=by lia
 rw[aR];show gA (zm (run bt (k+2)) [.val F,.val (.str w),.val (GS x (iw d) r.1 a),.val (.str t),.un,.un])=_;unfold zm;have a0:bj (ay (aM 1 (run bt (k+2) "shape_of")) (aa (ay (aM 2 (run bt (k+2) "kind_of")) (aa (rd 0) (aa (ab (rd 2) (kI 0) aF) ah))) ah)) (aj 4) [.val F,.val (.str w),.val (GS x (iw d) r.1 a),.val (.str t),.un,.un]=some (.nx [.val F,.val (.str w),.val (GS x (iw d) r.1 a),.val (.str t),.val (enc (cy d)),.un]) :=
  aS (dN (cA (dN (cA rfl (cA (b2 rfl rfl rfl) rfl)) rfl h1 rfl) rfl) rfl h2 rfl) rfl
 have a1:bj (cf cZ (aa (ay (aM 1 (run bt (k+2) "leaves")) (aa (ay (aM 2 (run bt (k+2) "part")) (aa (rd 4) (aa (ab (rd 2) (kI 2) aF) ah))) ah)) ah)) (aj 5) [.val F,.val (.str w),.val (GS x (iw d) r.1 a),.val (.str t),.val (enc (cy d)),.un]=some (.nx [.val F,.val (.str w),.val (GS x (iw d) r.1 a),.val (.str t),.val (enc (cy d)),.val (.int r.2.2.1)]):=by
  refine aS (bV (cA (dN (cA (dN (cA rfl (cA (b2 rfl rfl rfl) rfl)) rfl h3 rfl) rfl) rfl h4 rfl) rfl) ?_) rfl;rw[h6];simp[sz,iI]
 rw[gq a0,gq a1];have a2:bh (aa (rd 1) (aa (ab (rd 2) (kI 0) aF) (aa (ab (rd 2) (kI 1) aF) (aa (ay (aM 2 (run bt (k+2) "first")) (aa (rd 4) (aa (ab (rd 2) (kI 2) aF) ah))) (aa (rd 5) (aa (rd 3) ah)))))) [.val F,.val (.str w),.val (GS x (iw d) r.1 a),.val (.str t),.val (enc (cy d)),.val (.int r.2.2.1)]=some (gg (tA w x d r t)):=by
  refine tU (cA rfl (cA (b2 rfl rfl rfl) (cA (b2 rfl rfl rfl) (cA (dN (cA rfl (cA (b2 rfl rfl rfl) rfl)) rfl h5 rfl) (cA rfl (cA rfl rfl)))))) ?_ |>.trans ?_
  ·simp
  ·show some (PV.aA [.str w,.str x,.bl (iw d),.int (0+r.2.1),.int r.2.2.1,.str t])=_;rw[<-e4];rfl
 rw[rS a2];rfl
theorem jx(s:Sh):(([],0,sz s,s):Rw)∈tab s:=by
 obtain⟨L,e⟩:=BI s;rw[e];exact cq
theorem gh{F:PV}{ks:List Rk}(hF:zJ (run bt) F ks)(k:Nat)(hk:3<=k)(w t:Str){x:Str}{d:Kd}(hx:(x,d)∈ks)(hs:qY (cy d)):run bt (k+4) "touch_whole" [F,.str w,.str x,.str t]=some (.val (gg (tA w x d ([],0,sz (cy d),cy d) t))):=by
 rw[rB];have h1:=hF (k+2) (x,d) hx;have h2:=gH (k+2) d;have h3:=ix hF k hk w t hx hs (jx (cy d)) .df;rw[aR];show gA (j9 (run bt (k+3)) [.val F,.val (.str w),.val (.str x),.val (.str t)])=_;unfold j9;exact dk (rS (dN (cA rfl (cA rfl (cA (tU (cA rfl (cA (dN (cA (dN (cA rfl (cA rfl rfl)) rfl h1 rfl) rfl) rfl h2 rfl) (cA rfl (cA rfl rfl)))) (by simp)) (cA rfl rfl)))) rfl h3 rfl))
inductive Jt (ks:List Rk):PV->Prop
 | df:Jt ks .df
 | int (i:Int):Jt ks (.int i)
 | str (y:Str) (h:(y,Kd.ow .num)∈ks):Jt ks (.str y)
def SJ:PV->List dO
 | .str y=>[⟨"read",y,false,0,1,""⟩]
 | _=>[]
theorem xf{F:PV}{ks:List Rk}(hF:zJ (run bt) F ks)(k:Nat)(hk:3<=k)(x:Str)(th:Bool)(p:List Int){a:PV}(ha:Jt ks a):run bt (k+5) "at_acts" [F,GS x th p a]=some (.val (.aq ((SJ a).map gg))):=by
 rw[BZ,aR];show gA (qu (run bt (k+4)) [.val F,.val (GS x th p a)])=_;unfold qu;cases ha with
 | df=>exact dk (jB (iT rfl (rS rfl)))
 | int i=>exact dk (jB (iT rfl (rS rfl)))
 | str y h =>
  have h1:=gh hF k hk "read" "" h ⟨by simp[cy,tab],by simp[cy,dp]⟩
  have e:tA "read" y (.ow .num) ([],0,sz (cy (.ow .num)),cy (.ow .num)) ""=⟨"read",y,false,0,1,""⟩:=by
   simp[tA,iw,cy,sz,lv]
  rw[e]at h1;exact dk (sq (iF rfl rfl) (rS (fF (lS (cA (dN (cA rfl (cA rfl (cA (b2 rfl rfl rfl) (cA rfl rfl)))) rfl h1 rfl) rfl) (by show 1<=100000;decide)))))
structure Sp where
 x:Str
 d:Kd
 r:Rw
 a:PV
def cx(s:Sp):PV:=GS s.x (iw s.d) s.r.1 s.a
structure fu (ks:List Rk) (s:Sp):Prop where
 mem:(s.x,s.d)∈ks
 ok:qY (cy s.d)
 row:s.r∈tab (cy s.d)
 at_:Jt ks s.a
def Co(w:Str)(s:Sp)(t:Str):dO:=tA w s.x s.d s.r t
inductive Op where
 | n (i:Int) | s (s:Sp)
def jy:Op->PV
 | .n i=>.int i
 | .s s=>cx s
def nV(ks:List Rk):Op->Prop
 | .n _=>True
 | .s s=>fu ks s
def vo:Op->List dO
 | .n _=>[]
 | .s s=>SJ s.a++[Co "read" s ""]
theorem zK(a:PV):(SJ a).length<=1:=by
 unfold SJ;split<;>simp
theorem eH{F:PV}{ks:List Rk}(hF:zJ (run bt) F ks)(k:Nat)(hk:3<=k){o:Op}(ho:nV ks o):run bt (k+6) "operand_acts" [F,jy o]=some (.val (.aq ((vo o).map gg))):=by
 rw[qw,aR];show gA (jw (run bt (k+5)) [.val F,.val (jy o)])=_;unfold jw;cases o with
 | n i=>exact dk (jB (iT rfl (rS rfl)))
 | s s =>
  obtain⟨h1,h2,h3,h4⟩:=ho;have e1:=xf hF k hk s.x (iw s.d) s.r.1 h4;have e2:=ix hF (k+2) (by lia) "read" "" h1 h2 h3 s.a
  have hl:=zK s.a;refine dk (sq (iF rfl rfl) (rS ?_));refine(b2 (dN (cA rfl (cA rfl rfl)) rfl e1 rfl) (fF (lS (cA (dN (cA rfl (cA rfl (cA rfl (cA rfl rfl)))) rfl e2 rfl) rfl) (by simp))) (aL (by simp;lia))).trans ?_
  rw[vo,c8];rfl
def Ju(s:Sp):List dO:=match s.a with
 | .df=>[Co "fill" s ""]
 | a=>SJ a++[Co "turn" s ""]
theorem ni{F:PV}{ks:List Rk}(hF:zJ (run bt) F ks)(k:Nat)(hk:3<=k){s:Sp}(hs:fu ks s):run bt (k+6) "target_acts" [F,cx s]=some (.val (.aq ((Ju s).map gg))):=by
 rw[rD,aR];show gA (ka (run bt (k+5)) [.val F,.val (cx s)])=_;unfold ka;obtain⟨h1,h2,h3,h4⟩:=hs;have e1:=xf hF k hk s.x (iw s.d) s.r.1 h4;have ef:=ix hF (k+2) (by lia) "fill" "" h1 h2 h3 s.a
 have et:=ix hF (k+2) (by lia) "turn" "" h1 h2 h3 s.a
 obtain⟨x,d,r,a⟩:=s;have hl:=zK a;have vt:∀(z:Wk a .df=some (.bl false)) (q:Ju ⟨x,d,r,a⟩=SJ a++[Co "turn" ⟨x,d,r,a⟩ ""]),gA (aH (gK (toB (ab (ab (rd 1) (kI 3) aF) (cK .df) Wk)) (bz (bI (cH (aa (ay (aM 4 (run bt (k+5) "touch")) (aa (rd 0) (aa (kS "fill") (aa (rd 1) (aa (kS "") ah))))) ah)))) (fun ρ=>some (.nx ρ))) (bz (ab (ay (aM 2 (run bt (k+5) "at_acts")) (aa (rd 0) (aa (rd 1) ah))) (bI (cH (aa (ay (aM 4 (run bt (k+5) "touch")) (aa (rd 0) (aa (kS "turn") (aa (rd 1) (aa (kS "") ah))))) ah))) bZ)) [.val F,.val (cx ⟨x,d,r,a⟩)])=some (.val (.aq ((Ju ⟨x,d,r,a⟩).map gg))):=by
  intro z q;refine dk (sq (iF (bT (b2 (b2 rfl rfl rfl) rfl z)) rfl) (rS ?_));refine(b2 (dN (cA rfl (cA rfl rfl)) rfl e1 rfl) (fF (lS (cA (dN (cA rfl (cA rfl (cA rfl (cA rfl rfl)))) rfl et rfl) rfl) (by simp))) (aL (by simp only[aE,bA,kE];lia))).trans ?_
  rw[q,c8];rfl
 cases h4 with
 | df=>exact dk (jB (iT (bT (b2 (b2 rfl rfl rfl) rfl rfl)) (rS (fF (lS (cA (dN (cA rfl (cA rfl (cA rfl (cA rfl rfl)))) rfl ef rfl) rfl) (by show 1<=100000;decide))))))
 | int i=>exact vt rfl rfl
 | str y h=>exact vt rfl rfl
section
def gY(as:List dO):PV:=.aq (as.map gg)
theorem kc(o:Op):(vo o).length<=2:=by
 cases o with
 | n i=>simp[vo]
 | s s=>have:=zK s.a;simp[vo];lia
theorem zL(s:Sp):(Ju s).length<=2:=by
 unfold Ju;split
 ·simp
 ·rename_i a _;have:=zK s.a;simp
  lia
section
variable {F:PV} {ks:List Rk} (hF:zJ (run bt) F ks) (k:Nat) (hk:3<=k)
include hF hk
theorem Fl(w:Str){s:Sp}(hs:fu ks s){o:Op}(ho:nV ks o):run bt (k+7) "put_acts" [F,.aA [.str w,cx s,jy o]]=some (.val (gY (vo o++Ju s))):=by
 rw[zq,aR];have h1:=eH hF k hk ho;have h2:=ni hF k hk hs;have l1:=kc o;have l2:=zL s;unfold gY;rw[c8];exact dk (rS (b2 (dN (cA rfl (cA (b2 rfl rfl rfl) rfl)) rfl h1 rfl) (dN (cA rfl (cA (b2 rfl rfl rfl) rfl)) rfl h2 rfl) (aL (by simp only[aE];lia))))
theorem Fm(w:Str){s:Sp}(hs:fu ks s)(q:PV){a b:Op}(ha:nV ks a)(hb:nV ks b):run bt (k+7) "set_acts" [F,.aA [.str w,cx s,q,jy a,jy b]]=some (.val (gY (vo a++vo b++Ju s))):=by
 rw[zr,aR];have h1:=eH hF k hk ha;have h3:=eH hF k hk hb;have h2:=ni hF k hk hs;have l1:=kc a;have l3:=kc b;have l2:=zL s;unfold gY;rw[c8,c8];exact dk (rS (b2 (b2 (dN (cA rfl (cA (b2 rfl rfl rfl) rfl)) rfl h1 rfl) (dN (cA rfl (cA (b2 rfl rfl rfl) rfl)) rfl h3 rfl) (aL (by simp only[aE];lia))) (dN (cA rfl (cA (b2 rfl rfl rfl) rfl)) rfl h2 rfl) (aL (by simp only[aE,bU];lia))))
theorem Jv(w:Str)(q:PV){a b:Op}(ha:nV ks a)(hb:nV ks b):run bt (k+7) "if_acts" [F,.aA [.str w,jy a,jy b,q]]=some (.val (gY (vo a++vo b))):=by
 rw[Ce,aR];have h1:=eH hF k hk ha;have h3:=eH hF k hk hb;have l1:=kc a;have l3:=kc b;unfold gY;rw[c8];exact dk (rS (b2 (dN (cA rfl (cA (b2 rfl rfl rfl) rfl)) rfl h1 rfl) (dN (cA rfl (cA (b2 rfl rfl rfl) rfl)) rfl h3 rfl) (aL (by simp only[aE];lia))))
theorem Fo(w:Str){a:Op}(ha:nV ks a):run bt (k+7) "say_acts" [F,.aA [.str w,jy a]]=some (.val (gY (vo a))):=by
 rw[zu,aR];have h1:=eH hF k hk ha;exact dk (rS (dN (cA rfl (cA (b2 rfl rfl rfl) rfl)) rfl h1 rfl))
omit hF hk in
theorem Jw(p:PV):run bt (k+7) "go_acts" [F,p]=some (.val (gY [])):=by
 rw[Cf,aR];exact dk (rS rfl)
omit hF hk in
theorem zM(w:Str):run bt (k+7) "give_acts" [F,.aA [.str w,.str ""]]=some (.val (gY [])):=by
 rw[nh,aR];have q:dS (.str "") (.str "")=some (.bl true):=by rw[cU];rfl
 exact dk (jB (iT (bT (b2 (b2 rfl rfl rfl) rfl q)) (rS rfl)))
theorem Cp(w:Str){s t:Sp}(hs:fu ks s)(ht:fu ks t):run bt (k+7) "copy_acts" [F,.aA [.str w,cx s,cx t]]=some (.val (gY [Co "read" t "",Co "fill" s ""])):=by
 rw[vK,aR];have h1:=ix hF (k+3) (by lia) "read" "" ht.mem ht.ok ht.row t.a
 have h2:=ix hF (k+3) (by lia) "fill" "" hs.mem hs.ok hs.row s.a
 exact dk (rS (fF (lS (cA (dN (cA rfl (cA rfl (cA (b2 rfl rfl rfl) (cA rfl rfl)))) rfl h1 rfl) (cA (dN (cA rfl (cA rfl (cA (b2 rfl rfl rfl) (cA rfl rfl)))) rfl h2 rfl) rfl)) (by simp))))
theorem Cq(w:Str){s t:Sp}(hs:fu ks s)(ht:fu ks t):run bt (k+7) "move_acts" [F,.aA [.str w,cx s,cx t]]=some (.val (gY [Co "empty" t "",Co "fill" s ""])):=by
 rw[vL,aR];have h1:=ix hF (k+3) (by lia) "empty" "" ht.mem ht.ok ht.row t.a
 have h2:=ix hF (k+3) (by lia) "fill" "" hs.mem hs.ok hs.row s.a
 exact dk (rS (fF (lS (cA (dN (cA rfl (cA rfl (cA (b2 rfl rfl rfl) (cA rfl rfl)))) rfl h1 rfl) (cA (dN (cA rfl (cA rfl (cA (b2 rfl rfl rfl) (cA rfl rfl)))) rfl h2 rfl) rfl)) (by simp))))
theorem Cr(w:Str){s:Sp}(hs:fu ks s):run bt (k+7) "drop_acts" [F,.aA [.str w,cx s]]=some (.val (gY [Co "empty" s ""])):=by
 rw[vM,aR];have h1:=ix hF (k+3) (by lia) "empty" "" hs.mem hs.ok hs.row s.a
 exact dk (rS (fF (lS (cA (dN (cA rfl (cA rfl (cA (b2 rfl rfl rfl) (cA rfl rfl)))) rfl h1 rfl) rfl) (by simp))))
theorem Cs(w t:Str){s:Sp}(hs:fu ks s):run bt (k+7) "lend_acts" [F,.aA [.str w,.str t,cx s]]=some (.val (gY [Co w s t])):=by
 rw[vN,aR];have h1:=ix hF (k+3) (by lia) w t hs.mem hs.ok hs.row s.a
 exact dk (rS (fF (lS (cA (dN (cA rfl (cA (b2 rfl rfl rfl) (cA (b2 rfl rfl rfl) (cA (b2 rfl rfl rfl) rfl)))) rfl h1 rfl) rfl) (by simp))))
end
def fz(i:Nat)(a:dO):PV:=.aA [.int i,.str a.w,.str a.n,.bl a.t,.int a.f,.int a.m,.str a.k]
def eW:List dO->List dO
 | []=>[Nt]
 | a::r=>a::r
structure Jx (c:gv) (F p:PV) (as:List dO):Prop where
 ex:∃w fn rest,p=.aA (.str w::rest)/\jv.lookup w=some fn/\Nb.lookup fn=some 2/\∃e,c fn [F,p]=some e/\oC e=some (gY as)
 few:as.length<=20
theorem Jy{c:gv}{F p:PV}{as:List dO}(M:Jx c F p as)(i:Nat)(told:az)(hl:told.length<=90000)(x0 x1 x6:Ent):pe c [x0,x1,.val F,.own told,.val (.int (i:Int)),.val p,x6]=some (.nx [x0,x1,.val F,.own (told++(eW as).map (fz i)),.val (.int (i:Int)),.val p,.val (gY as)]):=by
 obtain⟨w,fn,rest,rfl,h1,h2,e,h3,h4⟩:=M.ex;have hf:=M.few;unfold pe;have ht:Iy jv Nb c (ab (rd 5) (kI 0) aF) (aa (rd 2) (aa (rd 5) ah)) [x0,x1,.val F,.own told,.val (.int (i:Int)),.val (.aA (.str w::rest)),x6]=some (gY as):=by
  have hk:ab (rd 5) (kI 0) aF [x0,x1,.val F,.own told,.val (.int (i:Int)),.val (.aA (.str w::rest)),x6]=some (.str w):=b2 rfl rfl M4;rw[QD,hk,aY,MP,h1,aY,h2,aY];exact dN (cA rfl (cA rfl rfl)) rfl h3 h4
 have a0:bj (Iy jv Nb c (ab (rd 5) (kI 0) aF) (aa (rd 2) (aa (rd 5) ah))) (aj 6) [x0,x1,.val F,.own told,.val (.int (i:Int)),.val (.aA (.str w::rest)),x6]=some (.nx [x0,x1,.val F,.own told,.val (.int (i:Int)),.val (.aA (.str w::rest)),.val (gY as)]):=aS ht rfl;refine sq a0 ?_;have ho:Yo (rd 6) (bI (cH (aa (cK (.aA [(.str "rest"),(.str ""),(.bl false),(.int 0),(.int 0),(.str "")])) ah))) [x0,x1,.val F,.own told,.val (.int (i:Int)),.val (.aA (.str w::rest)),.val (gY as)]=some (gY (eW as)):=by
  cases as with
  | nil=>rfl
  | cons a r=>rfl
 have hor:(eW as).length<=20:=by
  cases as with
  | nil=>simp[eW]
  | cons a r=>exact hf
 refine mX rfl (fF (cV (sV ho rfl) (by simp only[aE];lia) (?_:_=some ((eW as).map (fz i))))) (by simp only[aE];lia)
 refine eG fun a _=>?_
 show(aj 1 (gg a) [Ent.un,.un,.val (.int (i:Int))]).bind _=_;have t:aj 1 (gg a) [Ent.un,.un,.val (.int (i:Int))]=some [.un,.val (gg a),.val (.int (i:Int))]:=rfl;rw[t,aY];exact b2 (tU (cA rfl rfl) (by simp)) rfl (aT (by simp))
def zN:Nat->List (List dO)->az
 | _,[]=>[]
 | i,as::r=>(eW as).map (fz i)++zN (i+1) r
theorem xg{c:gv}{F:PV}(x0 x1:Ent):∀(L:List (PV×List dO)) (i:Nat) (told:az) (x4 x5 x6:Ent),(∀q∈L,Jx c F q.1 q.2)->told.length+20*L.length<=90000 ->
  ∃Q2 Ct x6',fy (cM 2 (aw (aj 4) (aw (aj 5) cI))) (pe c) (fx i (L.map (·.1))) [x0,x1,.val F,.own told,x4,x5,x6]=some (.nx [x0,x1,.val F,.own (told++zN i (L.map (·.2))),Q2,Ct,x6'])
 | [],i,told,x4,x5,x6,_,_=>⟨x4,x5,x6,by simp[fx,zN]⟩
 | (p,as)::L,i,told,x4,x5,x6,h,hz=>by
  have M:=h (p,as) cq;have hf:=M.few;simp only[bA]at hz;have hor:((eW as).map (fz i)).length<=20:=by
   rw[aE];cases as with
   | nil=>simp[eW]
   | cons a r=>exact hf
  obtain⟨Q2,Ct,x6',e⟩:=xg x0 x1 L (i+1) (told++(eW as).map (fz i)) (.val (.int (i:Int))) (.val p) (.val (gY as)) (fun q hq=>h q (cn _ hq)) (by rw[bU];lia)
  refine⟨Q2,Ct,x6',?_⟩;have:=Jy M i told (by lia) x0 x1 x6
  rw[bK,bK,fx,zN,<-d8];exact fC (fX:=[x0,x1,.val F,.own told,.val (.int (i:Int)),.val p,x6]) rfl this e
theorem VI(k:Nat){F:PV}{fs:az}{i:Int}(hi:atI fs i=some F){n res:PV}{R1 R2:List Rk}{L:List (PV×List dO)} (hF:F=xb n res (.aA (L.map (·.1))) R1 R2) (hL:∀q∈L,Jx (run bt k) F q.1 q.2) (hz:L.length<=4000):run bt (k+1) "acts" [.aA fs,.int i]=some (.own (zN 0 (L.map (·.2)))):=by
 rw[Nf,aR];obtain⟨x4,x5,x6,e⟩:=xg (.val (.aA fs)) (.val (.int i)) L 0 [] .un .un .un hL (by simp;lia)
 rw[iO]at e;have hr:ab (rd 2) (kI 4) aF [.val (.aA fs),.val (.int i),.val F,.own [],.un,.un,.un]=some (.aA (L.map (·.1))):=by rw[hF];exact b2 rfl rfl rfl
 have he:mZ (ab (rd 2) (kI 4) aF) [.val (.aA fs),.val (.int i),.val F,.own [],.un,.un,.un]=some (fx 0 (L.map (·.1))):=by
  show((ab (rd 2) (kI 4) aF) _).bind _=_;rw[hr];rfl
 exact zc (sq (aS (b2 rfl rfl hi) rfl) (sq (sO rfl (by simp)) (sq (fS he e) (ze rfl))))
theorem Q3(k:Nat)(n:Int):run bt (k+1) "_law_whole" [.int n]=some (.val (.bl true)):=by
 rw[Fh,aR];rfl
def cell(ns:List Int)(i:Nat):Int:=ns.getD i 0
theorem Nu(k:Nat)(ns:List Int)(i:Nat):run bt (k+1) "_law_cell_at" [y0 ns,.int (i:Int)]=some (.val (.int (cell ns i))):=by
 rw[zw];by_cases h:i<ns.length
 ·have:atI (ns.map PV.int) (i:Int)=some (.int (cell ns i)):=da (by rw[cu,cJ h];simp[cell,h])
  simp[nR,y0,h,this]
 ·have:cell ns i=0:=by simp[cell,List.getD,pO (Dz h)]
  simp[nR,y0,h,this]
theorem dJ{i j:Int}(h:0<j):cw (.int i) (.int j)=some (.int (i%j)):=by rw[M1,if_pos h]
theorem zO{i j:Int}(h:0<j/\j<1073741824):dz (.int i) (.int j)=some (.int (i/j)):=by rw[IU,if_pos h]
theorem SK(s:Sh):(Hf s==(Str.ofString "rec")) = !jt s:=by
 cases s with
 | num=>exact s_1
 | own=>exact s_2
 | du n=>exact s_3
 | bO ps=>exact pT _
theorem Nv(s:Sh):yA (.str (Hf s)) (.str "rec")=some (.bl (jt s)):=by rw[rY,SK];simp
theorem Nw(s:Sh):dS (.str (Hf s)) (.str "rec")=some (.bl (!jt s)):=by rw[cU,SK]
mutual
theorem Hl:∀(s:Sh),∀r∈tab s,(tab r.2.2.2).length<=(tab s).length
 | .num,r,h=>by simp[tab]at h;subst h;simp[tab]
 | .own,r,h=>by simp[tab]at h;subst h;simp[tab]
 | .du n,r,h=>by simp[tab]at h;subst h;simp[tab]
 | .bO ps,r,h=>by
  have hl:(tab (.bO ps)).length=j7 ps+1:=by simp only[tab,bA,ju]
  simp only[tab,bB]at h;rcases h with rfl | h
  ·exact aV _
  ·have:=xh ps 0 0 r h
   lia
theorem xh:∀(l:List Sh) (k:Nat) (a:Int),∀r∈tabs k a l,(tab r.2.2.2).length<=j7 l
 | [],_,_,r,h=>by simp[tabs]at h
 | s::l,k,a,r,h=>by
  simp only[tabs,c9,bF]at h;simp only[j7];rcases h with⟨r0,h0,rfl⟩ | h
  ·have:=Hl s r0 h0;simp only[ng]
   lia
  ·have:=xh l _ _ r h
   lia
end
theorem Cu(k:Nat)(a:Int)(s:Sh)(l:List Sh):tabs k a (s::l)=(tab s).map (ng k a)++tabs (k+1) (a+sz s) l:=rfl
def Wz(ks:List Rk):Prop:=∀r∈ks,qY (cy r.2)
theorem Cv(p:List Int):eX (p.map PV.int)=0:=by
 induction p with
 | nil=>rfl
 | cons a p ih=>simp[eX,jG,ih]
mutual
def pos:Sh->Bool
 | .du n=>decide (0<n)
 | .bO ps=>Nx ps
 | _=>true
def Nx:List Sh->Bool
 | []=>true
 | s::r=>pos s&&Nx r
end
mutual
theorem uX:∀(s:Sh),pos s=true->∀r∈tab s,pos r.2.2.2=true
 | .num,h,r,hr=>by simp[tab]at hr;subst hr;exact h
 | .own,h,r,hr=>by simp[tab]at hr;subst hr;exact h
 | .du n,h,r,hr=>by simp[tab]at hr;subst hr;exact h
 | .bO ps,h,r,hr=>by
  simp only[tab,bB]at hr;rcases hr with rfl | hr
  ·exact h
  ·exact xi ps (by simpa only[pos]using h) 0 0 r hr
theorem xi:∀(l:List Sh),Nx l=true->∀(k:Nat) (a:Int),∀r∈tabs k a l,pos r.2.2.2=true
 | [],_,_,_,r,hr=>by simp[tabs]at hr
 | s::l,h,k,a,r,hr=>by
  simp only[Nx,aZ]at h;simp only[tabs,c9,bF]at hr;rcases hr with⟨r0,h0,rfl⟩ | hr
  ·exact uX s h.1 r0 h0
  ·exact xi l h.2 _ _ r hr
end
def Hm(s:Sh):Prop:=qY s/\pos s=true
abbrev nP:PV:=.aA [.str "num"]
abbrev oP:PV:=.aA [.str "own"]
abbrev sP(n:Int):PV:=.aA [.str "strip",.int n]
abbrev tP:PV:=.aA [.str "rec",.aA [nP,nP]]
theorem gI{α:Type}{F:PV->Option b8}{e:α->PV}{G:α->PV}{f:α->Bool}:∀{l:List α},(∀x∈l,F (e x)=some (if f x=true then some (G x)else none))->lT F (l.map e)=some ((l.filter f).map G)
 | [],_=>rfl
 | x::r,h=>by
  have ih:=gI fun y hy=>h y (cn _ hy)
  rw[bK];show(F (e x)).bind _=_;rw[h x cq,aY,ih];cases hf:f x with
  | true=>simp[hf]
  | false=>simp[hf]
mutual
theorem zP:∀s:Sh,jG (enc s)<=2*dp s+1
 | .num=>by simp[enc,jG,eX]
 | .own=>by simp[enc,jG,eX]
 | .du n=>by simp[enc,jG,eX]
 | .bO ps=>by
  have:=Cw ps;simp[enc,jG,eX,dp]
  lia
theorem Cw:∀l:List Sh,eX (dj l)<=2*uK l+1
 | []=>by simp[dj,eX]
 | s::l=>by
  have:=zP s;have:=Cw l;simp only[dj,eX,uK]
  lia
end
abbrev KL(ks:List Rk):PV:=.aq (ks.map bM)
variable {ks:List Rk}
theorem Ny{s:Sp}(h:fu ks s):jG (cx s)<=2:=by
 have ha:=h.at_;have:jG s.a=0:=by cases h2:s.a<;>rw[h2]at ha<;>cases ha<;>rfl
 simp only[cx,GS,jG,eX,this,Cv]
 lia
theorem eA{α:Type}(N:List α)(e:α->PV)(m:Int)(h:0<N.length):∃s∈N,atI (N.map e) (m%((N.map e).length:Int))=some (e s):=by
 rw[aE];have hj0:=lE m (show(N.length:Int)≠0 by lia)
 have hj1:=sx m (show(0:Int)<(N.length:Int) by lia)
 obtain⟨j,hj⟩:=Int.eq_ofNat_of_zero_le hj0;have hjl:j<N.length:=by lia
 refine⟨N[j],xN hjl,?_⟩;rw[hj];exact da (by rw[cu,cJ hjl];rfl)
theorem Q4(d:Kd):yA (.str (kw d)) (.str "lent")=some (.bl (!(kw d==(Str.ofString "lent")))):=rY
end
def pj:Sh->Bool
 | .own=>true
 | _=>false
theorem aeo:((Str.ofString "num")==(Str.ofString "own"))=false:=by decide +kernel
theorem VJ(s:Sh):eqT (enc s) oP=pj s:=by
 cases s with
 | num=>simp[enc,eqT,lr,pj,aeo]
 | own=>simp[enc,eqT,lr,pj]
 | du n=>simp[enc,eqT,lr,pj]
 | bO ps=>simp[enc,eqT,lr,pj]
theorem Fp:∀l:List Sh,En oP (dj l)=l.any pj
 | []=>rfl
 | s::l=>by
  have:=Fp l;unfold En at this ⊢;rw[dj,nu,nu,this,VJ]
def cpd(s:Sh):Bool:=!(lv s).any pj
theorem VL(s:Sh):qd true oP (.aA (dj (lv s)))=some (.bl (cpd s)):=by
 have hd:=uN (zf s);show(if eX (dj (lv s))<=iS then some (PV.bl (!En oP (dj (lv s))))else none)=_
 rw[if_pos (by rw[mx];lia),Fp]
 rfl
def oW(s:Sh):Str:=if cpd s=true then "read" else "empty"
abbrev Cy(s:Sh):Rw:=([],0,sz s,s)
def tkA(x:Str)(d:Kd)(t:Str):dO:=match d with
 | .ow s=>tA (oW s) x (.ow s) (Cy s) ""
 | .ho b s=>tA (if b=true then "sole" else "lend") x (.ho b s) (Cy s) t
def gvA(x:Str)(d:Kd):dO:=match d with
 | .ow s=>tA (oW s) x (.ow s) (Cy s) ""
 | .ho b s=>tA "give" x (.ho b s) (Cy s) ""
abbrev sI(i:Nat):Str:=Str.ofString (toString (i:Int))
def iL:Nat->List Rk->List dO
 | _,[]=>[]
 | i,r::l=>tkA r.1 r.2 (sI i)::iL (i+1) l
theorem uY:∀(l:List Rk) (i:Nat),(iL i l).length=l.length
 | [],_=>rfl
 | r::l,i=>by simp[iL,uY l]
def qA:Option Rk->List dO
 | none=>[]
 | some (x,.ow s)=>[tA "fill" x (.ow s) (Cy s) ""]
 | some (x,.ho _ _)=>[⟨"take","",false,0,0,x⟩]
def Cz:Option Rk->Str
 | none=>""
 | some r=>r.1
theorem ZH(i:Nat)(h:i<1000):Bm [.int (i:Int)]=some (.str (sI i)):=if_pos ⟨by lia,by lia⟩
theorem Hn{G:PV->b8}:∀(l:List Rk) (i:Nat),(∀r∈l,∀j:Nat,j<1000->G (Bj (.int (j:Int)) (.str r.1))=some (gg (tkA r.1 r.2 (sI j))))->i+l.length<=1000->j5 G (fx i (l.map fun r=>PV.str r.1))=some ((iL i l).map gg)
 | [],_,_,_=>rfl
 | r::l,i,h,hz=>by
  simp only[bA]at hz;rw[bK,fx,j5,h r cq i (by lia),Hn l (i+1) (fun q hq=>h q (cn _ hq)) (by lia)]
  rfl
theorem Ho{α β:Type}{F:PV->b8}{e:α->PV}{P:PV->β->Prop}:∀{l:List α},(∀x∈l,∃p a,F (e x)=some p/\P p a)->∃L:List (PV×β),j5 F (l.map e)=some (L.map (·.1))/\(∀q∈L,P q.1 q.2)/\L.length=l.length
 | [],_=>⟨[],rfl,(fun q hq=>by cases hq),rfl⟩
 | x::r,h=>by
  obtain⟨p,a,h1,h2⟩:=h x cq;obtain⟨L,h3,h4,h5⟩:=Ho fun y hy=>h y (cn _ hy)
  refine⟨(p,a)::L,?_,fun q hq=>?_,by simp[h5]⟩
  ·rw[bK,j5,h1,h3];rfl
  ·rcases bB.mp hq with rfl | hq
   ·exact h2
   ·exact h4 q hq
theorem ZI(d:Kd)(h:qY (cy d))(q:PV):dS (c7 d) q=some (.bl (eqT (c7 d) q)):=by
 have hd:jG (c7 d)<=1000:=by
  have h1:=zP (cy d);have h2:=h.2;cases d with
  | ow s=>simp only[c7,cy]at *;lia
  | ho b s=>simp only[c7,cy,jG,eX]at *;lia
 exact ER (by rw[mx];exact hd)
theorem SM{s:Sh}(h:qY s)(q:PV):dS (enc s) q=some (.bl (eqT (enc s) q)):=by
 have h1:=zP s;have h2:=h.2;exact ER (by rw[mx];lia)
theorem zQ{s:Sh}(h:qY s){r:Rw}(hr:r∈tab s):qY r.2.2.2:=by
 have h1:=Hl s r hr;have h2:=(zI s r hr).1;have h3:=h.1;have h4:=h.2;exact⟨by lia,by lia⟩
theorem CB(k:Nat)(s:Sh)(hd:dp s<=k)(hz:(lv s).length<=100000):run bt (k+2) "is_copied" [enc s]=some (.val (.bl (cpd s))):=by
 rw[vI,aR];have h:=fG.all (LA) s k hd hz;exact dk (rS (b2 rfl (dN (cA rfl rfl) rfl h rfl) (VL s)))
section
variable {F:PV} {ks:List Rk} (hF:zJ (run bt) F ks) (k:Nat) (hk:3<=k)
include hF hk
theorem qZ{x:Str}{s:Sh}(hx:(x,Kd.ow s)∈ks)(hs:qY s):run bt (k+5) "owner_act" [F,.str x]=some (.val (gg (tA (oW s) x (.ow s) (Cy s) ""))):=by
 rw[vP,aR];have h1:=hF (k+3) _ hx;have hl:=uO s;have h2:=CB (k+2) s (by have:=hs.2;lia) (by have:=hs.1;lia)
 have h3:=gh hF k hk (oW s) "" hx hs;have hw:rn (toB (ay (aM 1 (run bt (k+4) "is_copied")) (aa (ay (aM 2 (run bt (k+4) "kind_of")) (aa (rd 0) (aa (rd 1) ah))) ah))) (kS "read") (kS "empty") [.val F,.val (.str x)]=some (.str (oW s)):=by
  refine iV (bT (dN (cA (dN (cA rfl (cA rfl rfl)) rfl h1 rfl) rfl) rfl h2 rfl)) ?_;unfold oW;cases cpd s<;>rfl
 exact dk (rS (dN (cA rfl (cA hw (cA rfl (cA rfl rfl)))) rfl h3 rfl))
theorem Jz{x:Str}{d:Kd}(hx:(x,d)∈ks)(hs:qY (cy d))(t:Str):run bt (k+6) "arg_act" [F,.str x,.str t]=some (.val (gg (tkA x d t))):=by
 rw[Cc,aR];have h1:=hF (k+4) _ hx;have h2:=gH (k+4) d;have a0:bj (ay (aM 2 (run bt (k+5) "kind_of")) (aa (rd 0) (aa (rd 1) ah))) (aj 3) [.val F,.val (.str x),.val (.str t),.un]=some (.nx [.val F,.val (.str x),.val (.str t),.val (c7 d)]):=aS (dN (cA rfl (cA rfl rfl)) rfl h1 rfl) rfl;have t0:kl (toB (ay (aM 1 (run bt (k+5) "is_holder")) (aa (rd 3) ah))) [.val F,.val (.str x),.val (.str t),.val (c7 d)]=some (!iw d):=nB (bT (dN (cA rfl rfl) rfl h2 rfl));cases d with
 | ow s =>
  have h3:=qZ hF k hk hx hs;exact dk (sq a0 (jB (iT t0 (rS (dN (cA rfl (cA rfl rfl)) rfl h3 rfl)))))
 | ho b s =>
  have h3:=gh hF (k+1) (by lia) (if b=true then "sole" else "lend") t hx hs
  have hw:rn (toB (ab (ab (rd 3) (kI 0) aF) (kS "lent") dS)) (kS "lend") (kS "sole") [.val F,.val (.str x),.val (.str t),.val (c7 (.ho b s))]=some (.str (if b=true then "sole" else "lend")):=by
   cases b with
   | false=>exact iV (b:=true) (bT (b2 (b2 rfl rfl rfl) rfl (by rw[cU];exact di (fun z=>some (PV.bl z)) (by decide +kernel)))) rfl
   | true=>exact iV (b:=false) (bT (b2 (b2 rfl rfl rfl) rfl (by rw[cU];exact di (fun z=>some (PV.bl z)) (by decide +kernel)))) rfl
  exact dk (sq a0 (sq (iF t0 rfl) (rS (dN (cA rfl (cA hw (cA rfl (cA rfl rfl)))) rfl h3 rfl))))
theorem CD(w:Str){x:Str}{d:Kd}(hx:(x,d)∈ks)(hs:qY (cy d))(hne:(x==(Str.ofString ""))=false):run bt (k+7) "give_acts" [F,.aA [.str w,.str x]]=some (.val (gY [gvA x d])):=by
 rw[nh,aR];have h1:=hF (k+5) _ hx;have h2:=gH (k+5) d;have t0:toB (ab (ab (rd 1) (kI 1) aF) (kS "") dS) [.val F,.val (.aA [.str w,.str x])]=some false:=by
  refine bT (b2 (b2 rfl rfl rfl) rfl ?_);rw[cU,hne]
 have t1:toB (ay (aM 1 (run bt (k+6) "is_holder")) (aa (ay (aM 2 (run bt (k+6) "kind_of")) (aa (rd 0) (aa (ab (rd 1) (kI 1) aF) ah))) ah)) [.val F,.val (.aA [.str w,.str x])]=some (iw d):=bT (dN (cA (dN (cA rfl (cA (b2 rfl rfl rfl) rfl)) rfl h1 rfl) rfl) rfl h2 rfl);cases d with
 | ow s =>
  have h3:=qZ hF (k+1) (by lia) hx hs
  exact dk (sq (iF t0 rfl) (sq (iF t1 rfl) (rS (fF (lS (cA (dN (cA rfl (cA (b2 rfl rfl rfl) rfl)) rfl h3 rfl) rfl) (by simp))))))
 | ho b s =>
  have h3:=gh hF (k+2) (by lia) "give" "" hx hs
  exact dk (sq (iF t0 rfl) (jB (iT t1 (rS (fF (lS (cA (dN (cA rfl (cA rfl (cA (b2 rfl rfl rfl) (cA rfl rfl)))) rfl h3 rfl) rfl) (by simp)))))))
theorem CG(w:Str)(fn:PV){ar:List Rk}(ha:∀r∈ar,r∈ks)(ho:Wz ks)(hl:ar.length<=10){tk:Option Rk}(ht:∀r,tk=some r->r∈ks/\(r.1==(Str.ofString ""))=false):∃e,run bt (k+7) "call_acts" [F,.aA [.str w,.str (Cz tk),fn,.aA (ar.map fun r=>.str r.1)]]=some e/\oC e=some (gY (iL 0 ar++iK::qA tk)):=by
 rw[vO,aR];obtain⟨p,hp⟩:∃p,p=PV.aA [.str w,.str (Cz tk),fn,.aA (ar.map fun r=>.str r.1)]:=⟨_,rfl⟩
 have i3:aF p (.int 3)=some (.aA (ar.map fun r=>.str r.1)):=by rw[hp];rfl
 have i1:aF p (.int 1)=some (.str (Cz tk)):=by rw[hp];rfl
 rw[<-hp];have en:mZ (ab (rd 1) (kI 3) aF) [.val F,.val p,.un]=some (fx 0 (ar.map fun r=>PV.str r.1)):=by
  show((ab (rd 1) (kI 3) aF) _).bind _=_;rw[b2 rfl rfl i3];rfl
 have hm:j5 (fun q=>(cM 2 (aw (aj 1) (aw (aj 2) cI)) q (bL [none,none,none,some 0] [.val F,.val p,.un])).bind (ay (aM 3 (run bt (k+6) "arg_act")) (aa (rd 3) (aa (rd 2) (aa (cf Bm (aa (rd 1) ah)) ah))))) (fx 0 (ar.map fun r=>PV.str r.1))=some ((iL 0 ar).map gg):=by
  refine Hn ar 0 (fun r hr j hj=>?_) (by lia)
  have t:cM 2 (aw (aj 1) (aw (aj 2) cI)) (Bj (.int (j:Int)) (.str r.1)) (bL [none,none,none,some 0] [.val F,.val p,.un])=some [.un,.val (.int (j:Int)),.val (.str r.1),.val F]:=rfl;have h:=Jz hF k hk (x:=r.1) (d:=r.2) (ha r hr) (ho r (ha r hr)) (sI j);show(cM 2 _ _ _).bind _=_;rw[t,aY];exact dN (cA rfl (cA rfl (cA (bV (cA rfl rfl) (ZH j hj)) rfl))) rfl h rfl
 have le:(fx 0 (ar.map fun r=>PV.str r.1)).length<=100000:=by
  have:∀(l:az) (i:Nat),(fx i l).length=l.length:=fun l=>by
   induction l with
   | nil=>intro i;rfl
   | cons a l ih=>intro i;simp[fx,ih]
  rw[this,aE]
  lia
 have tl:=uY ar 0;have s1:jA 2 (dX [none,none,none,some 0] (mZ (ab (rd 1) (kI 3) aF)) (cM 2 (aw (aj 1) (aw (aj 2) cI))) (ay (aM 3 (run bt (k+6) "arg_act")) (aa (rd 3) (aa (rd 2) (aa (cf Bm (aa (rd 1) ah)) ah))))) [.val F,.val p,.un]=some (.nx [.val F,.val p,.own ((iL 0 ar).map gg)]):=sO (cV en le hm) (by simp)
 have s2:gL 2 (aa (cK (.aA [(.str "hand"),(.str ""),(.bl false),(.int 0),(.int 0),(.str "")])) ah) nJ [.val F,.val p,.own ((iL 0 ar).map gg)]=some (.nx [.val F,.val p,.own ((iL 0 ar++[iK]).map gg)]):=by
  rw[c8];exact mA rfl rfl (by rw[aE];lia)
 have t0:jm (toB (ab (ab (rd 1) (kI 1) aF) (kS "") dS)) [.val F,.val p,.own ((iL 0 ar++[iK]).map gg)]=some (Cz tk==(Str.ofString "")):=bT (b2 (b2 rfl rfl i1) rfl cU);have la:((iL 0 ar++[iK]).map gg).length<=100:=by simp[tl];lia
 have done:∀q:dO,gA (mF [2] (bz (ab (rd 2) (cK (.aq [gg q])) bZ)) [.val F,.val p,.own ((iL 0 ar++[iK]).map gg)])=some (.val (gY (iL 0 ar++iK::[q]))):=by
  intro q;show gA (bz _ (fB (some [2]) [.val F,.val p,.own ((iL 0 ar++[iK]).map gg)]))=_;refine dk (rS ?_);refine(b2 (x:=.aq ((iL 0 ar++[iK]).map gg)) (y:=.aq [gg q]) rfl rfl (aL (by simp only[bA,kE];lia))).trans ?_
  simp[gY]
 cases tk with
 | none =>
  have:(Cz none==(Str.ofString ""))=true:=by decide +kernel
  rw[this]at t0;exact⟨_,zc (sq s1 (sq s2 (jB (iT t0 (ze rfl))))),rfl⟩
 | some r =>
  obtain⟨g1,g2⟩:=ht r rfl;obtain⟨x,d⟩:=r;rw[show Cz (some (x,d))=x from rfl]at t0 i1
  simp only at g2;rw[g2]at t0;have h1:=hF (k+5) _ g1;have h2:=gH (k+5) d;have t1:jm (toB (ay (aM 1 (run bt (k+6) "is_holder")) (aa (ay (aM 2 (run bt (k+6) "kind_of")) (aa (rd 0) (aa (ab (rd 1) (kI 1) aF) ah))) ah))) [.val F,.val p,.own ((iL 0 ar++[iK]).map gg)]=some (iw d):=bT (dN (cA (dN (cA rfl (cA (b2 rfl rfl i1) rfl)) rfl h1 rfl) rfl) rfl h2 rfl);cases d with
  | ho b s =>
   refine⟨_,(di gA (sq s1 (sq s2 (sq (iF t0 rfl) (jB (iT t1 (z:=some (.rt (.val (gY (iL 0 ar++iK::qA (some (x,.ho b s))))))) ?_)))))).trans rfl,rfl⟩;show bz _ (fB (some [2]) [.val F,.val p,.own ((iL 0 ar++[iK]).map gg)])=_;refine rS ((b2 (x:=.aq ((iL 0 ar++[iK]).map gg)) rfl (fF (lS (cA (tU (cA rfl (cA rfl (cA rfl (cA rfl (cA rfl (cA (b2 rfl rfl i1) rfl)))))) (by simp)) rfl) (by simp))) (aL (by simp only[bA,kE];lia))).trans ?_)
   simp[gY,qA,gg]
  | ow s =>
   have h3:=gh hF (k+2) (by lia) "fill" "" g1 (ho _ g1)
   refine⟨_,(di gA (sq s1 (sq s2 (sq (iF t0 rfl) (sq (iF t1 rfl) (z:=some (.rt (.val (gY (iL 0 ar++iK::qA (some (x,.ow s))))))) ?_))))).trans rfl,rfl⟩;show bz _ (fB (some [2]) [.val F,.val p,.own ((iL 0 ar++[iK]).map gg)])=_;refine rS ((b2 (x:=.aq ((iL 0 ar++[iK]).map gg)) rfl (fF (lS (cA (dN (cA rfl (cA rfl (cA (b2 rfl rfl i1) (cA rfl rfl)))) rfl h3 rfl) rfl) (by simp))) (aL (by simp only[bA,kE];lia))).trans ?_)
   simp[gY,qA,cy]
end
def eN(q:Nat×dO):PV:=fz q.1 q.2
def fw:Nat->List (List dO)->List (Nat×dO)
 | _,[]=>[]
 | i,as::r=>(eW as).map (fun a=>(i,a))++fw (i+1) r
theorem pz:∀(L:List (List dO)) (i:Nat),zN i L=(fw i L).map eN
 | [],_=>rfl
 | as::L,i=>by
  rw[zN,fw,c8,eK,pz L (i+1)];rfl
theorem CH:∀(L:List (List dO)) (i:Nat),∀q∈fw i L,i<=q.1/\q.1<i+L.length
 | [],_,_,h=>nomatch h
 | as::L,i,q,h=>by
  rw[fw,c9]at h;rw[bA];rcases h with h | h
  ·obtain⟨a,_,rfl⟩:=bF.mp h;show i<=i/\i<i+(L.length+1)
   lia
  ·have:=CH L (i+1) q h
   lia
theorem CI:∀(L:List (List dO)) (i j:Nat),i<=j->j<i+L.length->∃a,(j,a)∈fw i L
 | [],_,_,h1,h2=>by simp at h2;lia
 | as::L,i,j,h1,h2=>by
  rw[bA]at h2;by_cases e:j=i
  ·subst e;obtain⟨a,ha⟩:∃a,a∈eW as:=by
    cases as with
    | nil=>exact⟨Nt,cq⟩
    | cons a r=>exact⟨a,cq⟩
   exact⟨a,by rw[fw];exact kz _ (bF.mpr ⟨a,ha,rfl⟩)⟩
  ·obtain⟨a,ha⟩:=CI L (i+1) j (by lia) (by lia)
   exact⟨a,by rw[fw];exact dZ _ ha⟩
def WA(N:Nat)(kvs:List (cC×PV)):Prop:=∀q∈kvs,∃m:Nat,q.2=.int (m:Int)/\m<N
theorem Fq(kvs:List (cC×PV))(k:cC)(p:PV):(eu (kvs++[(k,p)]) k).isSome=true:=by
 unfold eu;rw[Dr,List.find?_isSome];exact⟨(k,p),by simp,by simp⟩
theorem uZ(kvs ms:List (cC×PV))(k:cC)(h:(eu kvs k).isSome=true):(eu (kvs++ms) k).isSome=true:=by
 unfold eu at h ⊢;rw[Dr,List.find?_isSome]at h ⊢;obtain⟨x,h1,h2⟩:=h;exact⟨x,kz _ h1,h2⟩
theorem Nz{N:Nat}{kvs:List (cC×PV)}(h:WA N kvs){k:cC}(hk:(eu kvs k).isSome=true):∃m:Nat,eu kvs k=some (.int (m:Int))/\m<N:=by
 unfold eu at hk ⊢;cases e:kvs.find? fun kv=>decide (kv.1=k)with
 | none=>rw[e]at hk;cases hk
 | some q =>
  obtain⟨m,h1,h2⟩:=h q (List.mem_of_find?_eq_some e);exact⟨m,by rw[pU,h1],h2⟩
def Fs:List (Nat×dO)->Nat->List (cC×PV)->List (cC×PV)
 | [],_,kvs=>kvs
 | (j,_)::as,i,kvs=>match eu kvs (.inl (j:Int))with
  | some _=>Fs as (i+1) kvs
  | none=>Fs as (i+1) (kvs++[(.inl (j:Int),.int (i:Int))])
theorem mf(c:gv)(P I A:PV):∀(as:List (Nat×dO)) (i:Nat) (kvs:List (cC×PV)) (x4 x5:Ent),WA i kvs->kvs.length<=i->i+as.length<=90000 ->
  (∃Q2 Ct,fy (cM 2 (aw (aj 4) (aw (aj 5) cI))) (mz c) (fx i (as.map eN)) [.val P,.val I,.val A,.gE (.k kvs),x4,x5,.un]=some (.nx [.val P,.val I,.val A,.gE (.k (Fs as i kvs)),Q2,Ct,.un]))/\WA (i+as.length) (Fs as i kvs)/\(∃ms,Fs as i kvs=kvs++ms)/\∀q∈as,(eu (Fs as i kvs) (.inl (q.1:Int))).isSome=true
 | [],i,kvs,x4,x5,h,_,_=>⟨⟨x4,x5,rfl⟩,h,⟨[],by simp[Fs]⟩,fun _ z=>nomatch z⟩
 | (j,a)::as,i,kvs,x4,x5,h,hl,hz=>by
  rw[bA]at hz;have DQ:cM 2 (aw (aj 4) (aw (aj 5) cI)) (Bj (.int (i:Int)) (fz j a)) [.val P,.val I,.val A,.gE (.k kvs),x4,x5,.un]=some [.val P,.val I,.val A,.gE (.k kvs),.val (.int (i:Int)),.val (fz j a),.un]:=rfl;have hb:mz c [.val P,.val I,.val A,.gE (.k kvs),.val (.int (i:Int)),.val (fz j a),.un]=(match eu kvs (.inl (j:Int))with
    | some _=>some (.nx [.val P,.val I,.val A,.gE (.k kvs),.val (.int (i:Int)),.val (fz j a),.un])
    | none=>some (.nx [.val P,.val I,.val A,.gE (.k (kvs++[(.inl (j:Int),.int (i:Int))])),.val (.int (i:Int)),.val (fz j a),.un])):=by
   unfold mz;have hc:kvs.length<iB/\(([.val P,.val I,.val A,.gE (.k kvs),.val (.int (i:Int)),.val (fz j a),.un]:aI).set 3 .un).all GW=true:=⟨by have:=uI;lia,rfl⟩
   show(if(kvs.length<iB/\(([.val P,.val I,.val A,.gE (.k kvs),.val (.int (i:Int)),.val (fz j a),.un]:aI).set 3 .un).all GW=true)then _ else _)=_
   rw[if_pos hc];rfl
  cases e:eu kvs (.inl (j:Int))with
  | some v =>
   have ek:Fs ((j,a)::as) i kvs=Fs as (i+1) kvs:=by rw[Fs,e]
   rw[e]at hb;obtain⟨⟨y4,y5,h1⟩,h2,⟨ms,h3⟩,h4⟩:=mf c P I A as (i+1) kvs (.val (.int (i:Int))) (.val (fz j a)) (fun q hq=>by obtain⟨m,z1,z2⟩:=h q hq;exact⟨m,z1,by lia⟩) (by lia) (by lia)
   rw[ek];refine⟨⟨y4,y5,fC DQ hb h1⟩,?_,⟨ms,h3⟩,fun q hq=>?_⟩
   ·rw[bA,show i+(as.length+1)=i+1+as.length by lia];exact h2
   ·rcases bB.mp hq with rfl | hq
    ·rw[h3];exact uZ _ _ _ (by rw[e];rfl)
    ·exact h4 q hq
  | none =>
   have ek:Fs ((j,a)::as) i kvs=Fs as (i+1) (kvs++[(.inl (j:Int),.int (i:Int))]):=by rw[Fs,e]
   rw[e]at hb;obtain⟨⟨y4,y5,h1⟩,h2,⟨ms,h3⟩,h4⟩:=mf c P I A as (i+1) (kvs++[(.inl (j:Int),.int (i:Int))]) (.val (.int (i:Int))) (.val (fz j a)) (fun q hq=>by
    rcases c9.mp hq with hq | hq
    ·obtain⟨m,z1,z2⟩:=h q hq;exact⟨m,z1,by lia⟩
    ·rw[cW]at hq;subst hq;exact⟨i,rfl,by lia⟩) (by rw[bU];simp;lia) (by lia)
   rw[ek];refine⟨⟨y4,y5,fC DQ hb h1⟩,?_,⟨(.inl (j:Int),.int (i:Int))::ms,by rw[h3];simp⟩,fun q hq=>?_⟩
   ·rw[bA,show i+(as.length+1)=i+1+as.length by lia];exact h2
   ·rcases bB.mp hq with rfl | hq
    ·rw[h3];exact uZ _ _ _ (Fq _ _ _)
    ·exact h4 q hq
def nT(l:List Nat):PV:=.aA (l.map fun m:Nat=>PV.int (m:Int))
def zR(c:gv)(ck:PV)(n:Nat)(nx:Nat->List Nat):Prop:=∀j:Nat,j<n->c "row_nexts" [ck,.int (j:Int)]=some (.val (nT (nx j)))/\(nx j).length<=2/\∀m∈nx j,m<n
def u0(kvs:List (cC×PV))(m:Nat):Nat:=match eu kvs (.inl (m:Int))with
 | some (.int v)=>v.toNat
 | _=>0
theorem CJ{N:Nat}{kvs:List (cC×PV)}(h:WA N kvs){m:Nat} (hk:(eu kvs (.inl (m:Int))).isSome=true):eu kvs (.inl (m:Int))=some (.int (u0 kvs m:Int))/\u0 kvs m<N:=by
 obtain⟨v,h1,h2⟩:=Nz h hk;have e:u0 kvs m=v:=by unfold u0;rw[h1];rfl
 rw[e];exact⟨h1,h2⟩
def rF(as:List (Nat×dO))(kvs:List (cC×PV))(nx:Nat->List Nat)(i:Nat)(q:Nat×dO):List Nat:=if as[i+1]?.map (·.1)=some q.1 then [i+1]else(nx q.1).map (u0 kvs)
def Oa(as:List (Nat×dO))(kvs:List (cC×PV))(nx:Nat->List Nat):Nat->List (Nat×dO)->List (List Nat)
 | _,[]=>[]
 | i,q::bs=>rF as kvs nx i q::Oa as kvs nx (i+1) bs
inductive JA (kvs:List (cC×PV)):Ent->Prop
 | d:JA kvs (.gE (.k kvs))
 | o:JA kvs (.ob (.J1 (.k kvs)))
section
variable {c:gv} {fs:az} {I:Int} {nm res ck:PV} {R1 R2:List Rk} {n:Nat} {as:List (Nat×dO)} {kvs:List (cC×PV)} {nx:Nat->List Nat}
theorem Ft(hP:atI fs I=some (xb nm res ck R1 R2))(hR:zR c ck n nx)(hk:WA as.length kvs) (hf:∀j:Nat,j<n->(eu kvs (.inl (j:Int))).isSome=true) (hl:as.length<=90000)
  (i:Nat) (q:Nat×dO) (hq:as[i]?=some q) (hr:∀q∈as,q.1<n) {D:Ent} (hD:JA kvs D) (told:az) (ht:told.length<=90000) :
  ∃(D':Ent),kr c [.val (.aA fs),.val (.int I),.val (.aq (as.map eN)),D,.val (.int (i:Int)),.val (eN q),.own told]=some (.nx [.val (.aA fs),.val (.int I),.val (.aq (as.map eN)),D',.val (.int (i:Int)),.val (eN q),.own (told++[nT (rF as kvs nx i q)])])/\JA kvs D'/\(rF as kvs nx i q).length<=2/\∀m∈rF as kvs nx i q,m<as.length:=by
 have hi:i<as.length:=(fU.mp hq).1;have Wm:fB none [.val (.aA fs),.val (.int I),.val (.aq (as.map eN)),D,.val (.int (i:Int)),.val (eN q),.own told]=[.val (.aA fs),.val (.int I),.val (.aq (as.map eN)),.ob (.J1 (.k kvs)),.val (.int (i:Int)),.val (eN q),.val (.aq told)]:=by
  cases hD<;>rfl
 have hfs:fB (some [3]) [.val (.aA fs),.val (.int I),.val (.aq (as.map eN)),D,.val (.int (i:Int)),.val (eN q),.own told]=[.val (.aA fs),.val (.int I),.val (.aq (as.map eN)),.ob (.J1 (.k kvs)),.val (.int (i:Int)),.val (eN q),.own told]:=by
  cases hD<;>rfl
 have hJ:∀x6:Ent,toB (ab (ab (rd 4) (kI 1) bZ) (hV (cf cZ (aa (rd 2) ah))) Bh) [.val (.aA fs),.val (.int I),.val (.aq (as.map eN)),.ob (.J1 (.k kvs)),.val (.int (i:Int)),.val (eN q),x6]=some (decide (((i:Int)+1)<(as.length:Int))):=fun x6=>by
  refine bT (b2 (x:=.int ((i:Int)+1)) (y:=.int (as.length:Int)) rfl ?_ rfl);show some (PV.int (((as.map eN).length:Nat):Int))=_;rw[aE]
 have go:∀b:Bool,jm (gS (toB (ab (ab (rd 4) (kI 1) bZ) (hV (cf cZ (aa (rd 2) ah))) Bh)) (toB (ab (ab (ab (rd 2) (ab (rd 4) (kI 1) bZ) aF) (kI 0) aF) (ab (rd 5) (kI 0) aF) dS))) [.val (.aA fs),.val (.int I),.val (.aq (as.map eN)),D,.val (.int (i:Int)),.val (eN q),.own told]=some b->(b=true↔as[i+1]?.map (·.1)=some q.1) ->
  ∃(D':Ent),kr c [.val (.aA fs),.val (.int I),.val (.aq (as.map eN)),D,.val (.int (i:Int)),.val (eN q),.own told]=some (.nx [.val (.aA fs),.val (.int I),.val (.aq (as.map eN)),D',.val (.int (i:Int)),.val (eN q),.own (told++[nT (rF as kvs nx i q)])])/\JA kvs D'/\(rF as kvs nx i q).length<=2/\∀m∈rF as kvs nx i q,m<as.length:=fun b hb h1=>by
  unfold kr;cases b with
  | true =>
   have h2:=h1.mp rfl;have h3:i+1<as.length:=by
    cases z:as[i+1]? with
    | none=>rw[z]at h2;cases h2
    | some _=>exact(fU.mp z).1
   have en:rF as kvs nx i q=[i+1]:=if_pos h2;rw[en];refine⟨D,iT hb (mA rfl (tU (cA rfl rfl) (by simp)) (by lia)),hD,by simp,fun m hm=>?_⟩
   simp at hm;lia
  | false =>
   obtain⟨r1,r2,r3⟩:=hR q.1 (hr q (cQ hq));have en:rF as kvs nx i q=(nx q.1).map (u0 kvs):=if_neg fun z=>nomatch h1.mpr z
   have m1:j5 (fun p=>(aj 1 p (bL [none,none,some 3] [.val (.aA fs),.val (.int I),.val (.aq (as.map eN)),.ob (.J1 (.k kvs)),.val (.int (i:Int)),.val (eN q),.own told])).bind (getD 2 (rd 1))) ((nx q.1).map fun m:Nat=>PV.int (m:Int))=some ((nx q.1).map fun m=>PV.int (u0 kvs m:Int)):=eG fun m hm=>(CJ hk (hf m (r3 m hm))).1
   rw[en];refine⟨.ob (.J1 (.k kvs)),iF hb ?_,.o,by rw[aE];exact r2,fun m hm=>?_⟩
   ·show gL 6 _ nJ (fB (some [3]) _)=_;rw[hfs];refine mA rfl (bV (cA (fF (cV (sV (dN (cA (b2 (b2 rfl rfl hP) rfl rfl) (cA (b2 rfl rfl M4) rfl)) rfl r1 rfl) rfl) ?_ m1)) rfl) ?_) (by lia)
    ·rw[aE];lia
    ·unfold nT;rw[eK];rfl
   ·obtain⟨x,hx,rfl⟩:=bF.mp hm;exact(CJ hk (hf x (r3 x hx))).2
 by_cases h:i+1<as.length
 ·obtain⟨q',N9⟩:∃q',as[i+1]?=some q':=⟨_,cJ h⟩
  refine go (decide ((q'.1:Int)=(q.1:Int))) ?_ (by rw[N9];simp only[kB,pU,Option.some.injEq];lia)
  show gS _ _ (fB none _)=_;rw[Wm];show(toB _ _).bind _=_;rw[hJ,aY,if_pos (by rw[kB];lia)]
  have e0:ab (rd 2) (ab (rd 4) (kI 1) bZ) aF [.val (.aA fs),.val (.int I),.val (.aq (as.map eN)),.ob (.J1 (.k kvs)),.val (.int (i:Int)),.val (eN q),.val (.aq told)]=some (eN q'):=b2 (y:=.int (((i+1:Nat):Nat):Int)) rfl (by rfl) (da (by rw[cu,N9];rfl))
  exact bT (b2 (x:=.int (q'.1:Int)) (y:=.int (q.1:Int)) (b2 e0 rfl rfl) (b2 rfl rfl rfl) iU)
 ·refine go false ?_ ⟨(fun z=>nomatch z),fun z=>by rw[pO (by lia)]at z;cases z⟩
  show gS _ _ (fB none _)=_;rw[Wm];show(toB _ _).bind _=_;rw[hJ,aY,if_neg (by rw[kB];lia)]
theorem u4(hP:atI fs I=some (xb nm res ck R1 R2))(hR:zR c ck n nx)(hk:WA as.length kvs) (hf:∀j:Nat,j<n->(eu kvs (.inl (j:Int))).isSome=true) (hl:as.length<=40000) (hr:∀q∈as,q.1<n):∀(bs pre:List (Nat×dO)) (told:az) (D x4 x5:Ent),as=pre++bs->JA kvs D->told.length=pre.length ->
  ∃(D' Q2 Ct:Ent),fy (cM 2 (aw (aj 4) (aw (aj 5) cI))) (kr c) (fx pre.length (bs.map eN)) [.val (.aA fs),.val (.int I),.val (.aq (as.map eN)),D,x4,x5,.own told]=some (.nx [.val (.aA fs),.val (.int I),.val (.aq (as.map eN)),D',Q2,Ct,.own (told++(Oa as kvs nx pre.length bs).map nT)])/\(Oa as kvs nx pre.length bs).length=bs.length/\∀l∈Oa as kvs nx pre.length bs,l.length<=2/\∀m∈l,m<as.length
 | [],pre,told,D,x4,x5,_,hD,_=>⟨D,x4,x5,by simp[fx,Oa],rfl,fun _ z=>nomatch z⟩
 | q::bs,pre,told,D,x4,x5,e,hD,ht=>by
  have vx:pre.length<=as.length:=by rw[e,bU];lia
  have hq:as[pre.length]?=some q:=by rw[e];simp
  obtain⟨D1,h1,h2,h3,h4⟩:=Ft hP hR hk hf (by lia) pre.length q hq hr hD told (by lia)
  obtain⟨D2,y4,y5,h5,h6,h7⟩:=u4 hP hR hk hf hl hr bs (pre++[q]) (told++[nT (rF as kvs nx pre.length q)]) D1 (.val (.int (pre.length:Int))) (.val (eN q)) (by rw[e];simp) h2 (by simp[ht])
  rw[show(pre++[q]).length=pre.length+1 by simp]at h5 h6 h7
  refine⟨D2,y4,y5,?_,by simp[Oa,h6],fun x hx=>?_⟩
  ·rw[bK,fx,Oa,bK,show told++nT (rF as kvs nx pre.length q)::(Oa as kvs nx (pre.length+1) bs).map nT=told++[nT (rF as kvs nx pre.length q)]++(Oa as kvs nx (pre.length+1) bs).map nT by simp]
   exact fC rfl h1 h5
  ·rcases bB.mp hx with rfl | hx
   ·exact⟨h3,h4⟩
   ·exact h7 x hx
end
def iZ(L:List (List dO))(nx:Nat->List Nat):List (List Nat):=Oa (fw 0 L) (Fs (fw 0 L) 0 []) nx 0 (fw 0 L)
theorem Q5(k:Nat){fs:az}{I:Int}{nm res ck:PV}{R1 R2:List Rk}{L:List (List dO)}{nx:Nat->List Nat}(hP:atI fs I=some (xb nm res ck R1 R2))(hA:run bt k "acts" [.aA fs,.int I]=some (.own (zN 0 L)))(hR:zR (run bt k) ck L.length nx)(hz:(fw 0 L).length<=40000) :
  run bt (k+1) "nexts" [.aA fs,.int I]=some (.own ((iZ L nx).map nT))/\(iZ L nx).length=(fw 0 L).length/\∀l∈iZ L nx,l.length<=2/\∀m∈l,m<(fw 0 L).length:=by
 rw[pz]at hA;obtain⟨⟨x4,x5,h1⟩,h2,-,h4⟩:=mf (run bt k) (.aA fs) (.int I) (.aq ((fw 0 L).map eN)) (fw 0 L) 0 [] .un .un (fun _ z=>nomatch z) (by simp) (by lia)
 rw[fV]at h2;obtain⟨D',y4,y5,g1,g2,g3⟩:=u4 (as:=fw 0 L) hP hR h2 (fun j hj=>by
  obtain⟨a,ha⟩:=CI L 0 j (gO _) (by lia)
  exact h4 _ ha) hz (fun q hq=>by have:=CH L 0 q hq;lia) (fw 0 L) [] [] (.gE (.k (Fs (fw 0 L) 0 []))) x4 x5 rfl .d rfl
 refine⟨?_,g2,g3⟩;rw[Ja,aR];rw[iO]at g1;exact zc (sq (aS (dN (cA rfl (cA rfl rfl)) rfl hA rfl) rfl) (sq (fO:=[.val (.aA fs),.val (.int I),.val (.aq ((fw 0 L).map eN)),.gE (.k []),.un,.un,.un]) rfl (sq (fS rfl h1) (sq (sO rfl (by simp)) (sq (fS rfl g1) (ze rfl))))))
end cE
namespace cE
open PySem L2 L2.PL nZ BO
def kN(n:Nat):List cC:=[.inl (n:Int)]
def iN(n:Nat):PV:=.int (n:Int)
structure Fu (ls:List (List Nat)) (N:Nat):Prop where
 len:ls.length=N
 ok:∀l∈ls,l.length<=2/\∀m∈l,m<N
 pos:0<N
 few:N<128
abbrev Fv(ls:List (List Nat)):List cC->Option (List (List cC)):=yI (bI (dX [none,none] (dD (ab (rd 1) (ab (rd 0) (kI 0) aF) aF)) (aj 1) (bh (aa (rd 1) ah)))) [.val (.aq (ls.map nT))]
theorem Q6{ls:List (List Nat)}{n:Nat}{l:List Nat}(hl:ls[n]?=some l)(h2:l.length<=2):Fv ls (kN n)=some (l.map kN):=by
 refine He ?_ fun x hx=>?_
 ·rw[eK];refine fF (cV (sV (b2 (x:=.aq (ls.map nT)) (y:=.int (n:Int)) rfl rfl (da (v:=nT l) (by rw[cu,hl];rfl))) rfl) ?_ ?_)
  ·rw[aE];lia
  ·exact eG fun m _=>rfl
 ·obtain⟨m,_,rfl⟩:=bF.mp hx;show 1<1000
  lia
theorem VM{a b:Nat}(h:kN a=kN b):a=b:=by
 unfold kN at h;injection h with h _
 injection h with h
 exact Int.ofNat.inj h
theorem Fw(k:Nat){ls:List (List Nat)}{N:Nat}(H:Fu ls N):∃(told:gV) (ns:List Nat),run bt (k+1) "arrivals" [.aq (ls.map nT)]=some (.val (.aq (told.map toldP)))/\told.map (·.1)=ns.map kN/\ns.Nodup/\(∀n∈ns,n<N)/\M9 (Fv ls) [kN 0] told/\BQ (Fv ls) told told.length/\0∈ns:=by
 have hU:∀g∈(List.range N).map kN,∃fs,Fv ls g=some fs/\(∀f∈fs,f∈(List.range N).map kN)/\fs.length<=2:=fun g hg=>by
  obtain⟨n,hn,rfl⟩:=bF.mp hg;rw[d9]at hn;obtain⟨l,hl⟩:∃l,ls[n]?=some l:=⟨_,cJ (by rw[H.len];exact hn)⟩
  obtain⟨h1,h2⟩:=H.ok l (cQ hl);refine⟨_,Q6 hl h1,fun f hf=>?_,by rw[aE];exact h1⟩
  obtain⟨m,hm,rfl⟩:=bF.mp hf;exact bF.mpr ⟨m,d9.mpr (h2 m hm),rfl⟩
 have dQ:((List.range N).map kN).length=N:=by simp
 have hf:=H.few;obtain⟨told,t1,t2,t3,t4,t5,t6⟩:=uQ (Fv ls) [kN 0] ((List.range N).map kN) 2 (by rw[dQ,uI];lia) (by rw[dQ];show N<5000;lia) hU (fun f hf=>by
  rw[cW]at hf;subst hf;exact bF.mpr ⟨0,d9.mpr H.pos,rfl⟩)
 have t3':∀f∈told.map (·.1),∃n,n<N/\f=kN n:=fun f hf=>by
  obtain⟨t,ht,rfl⟩:=bF.mp hf;obtain⟨n,hn,e⟩:=bF.mp (t3 t ht);exact⟨n,d9.mp hn,e.symm⟩
 obtain⟨ns,e1,e2⟩:∃ns:List Nat,told.map (·.1)=ns.map kN/\∀n∈ns,n<N:=by
  revert t3'
  generalize told.map (·.1)=fs
  intro t3';induction fs with
  | nil=>exact⟨[],rfl,fun _ z=>nomatch z⟩
  | cons f fs ih =>
   obtain⟨n,hn,rfl⟩:=t3' f cq;obtain⟨ns,q1,q2⟩:=ih fun g hg=>t3' g (cn _ hg)
   exact⟨n::ns,by rw[bK,q1],fun m hm=>(bB.mp hm).elim (fun z=>by rw[z];exact hn) (q2 m)⟩
 refine⟨told,ns,?_,e1,?_,e2,t4,t5,?_⟩
 ·rw[kW,aR];refine dk (rS (fF (uR (fk:=[kN 0]) (ρ:=[.val (.aq (ls.map nT))]) rfl (fun x hx=>?_) (by rw[uI];simp) t1)))
  rw[cW]at hx;subst hx;show 1<1000
  lia
 ·rw[e1]at t2;unfold List.Nodup at t2 ⊢;rw[List.pairwise_map]at t2;exact t2.imp fun h z=>h (by rw[z])
 ·have:=t6 (kN 0) (by simp)
  rw[e1]at this;obtain⟨n,hn,e⟩:=bF.mp this;rw[<-VM e];exact hn
theorem JB{ls:List (List Nat)}{N:Nat}(H:Fu ls N):∃(told:gV) (ns cs:List Nat),(∀(k:Nat) (p q:PV) (e:Ent),run bt (k+1) "nexts" [p,q]=some e->oC e=some (.aq (ls.map nT))->run bt (k+2) "come_to" [p,q]=some (.val (.aq (cs.map iN))))/\cs.map (fun n:Nat=>(n:Int))=gT (ns.map fun n:Nat=>(n:Int))/\(∀n,n∈cs↔n∈ns)/\ns.Nodup/\(∀n∈ns,n<N)/\told.map (·.1)=ns.map kN/\M9 (Fv ls) [kN 0] told/\BQ (Fv ls) told told.length/\0∈ns:=by
 obtain⟨told,ns,a1,a2,a3,a4,a5,a6,a7⟩:=Fw 0 H;have hnd:(ns.map fun n:Nat=>(n:Int)).Nodup:=by
  unfold List.Nodup at a3 ⊢;rw[List.pairwise_map];exact a3.imp fun h z=>h (Int.ofNat.inj z)
 have hl:ns.length<=N:=by
  have:=kq ns (List.range N) a3 fun n hn=>d9.mpr (a4 n hn)
  rwa [pS]at this
 have hf:=H.few;have rA:∀i,i∈gT (ns.map fun n:Nat=>(n:Int))↔∃n∈ns,(n:Int)=i:=fun i=>by
  rw[(gw _).mem_iff,bF]
 have hcs:((gT (ns.map fun n:Nat=>(n:Int))).map Int.toNat).map (fun n:Nat=>(n:Int))=gT (ns.map fun n:Nat=>(n:Int)):=by
  rw[eK]
  conv=>rhs;rw[<-List.map_id (gT (ns.map fun n:Nat=>(n:Int)))]
  refine sk fun i hi=>?_
  obtain⟨n,_,rfl⟩:=(rA i).mp hi;rfl
 refine⟨told,ns,(gT (ns.map fun n:Nat=>(n:Int))).map Int.toNat,?_,hcs,fun n=>?_,a3,a4,a2,a5,a6,a7⟩
 ·intro k p q e hx he;have b1:run bt (k+1) "arrivals" [.aq (ls.map nT)]=some (.val (.aq (told.map toldP))):=by
   rw[<-a1,kW,kW];rfl
  rw[BW,aR];have hv:ay (aM 1 (run bt (k+1) "arrivals")) (aa (ay (aM 2 (run bt (k+1) "nexts")) (aa (rd 0) (aa (rd 1) ah))) ah) [.val p,.val q]=some (.aq (told.map toldP)):=dN (cA (dN (cA rfl (cA rfl rfl)) rfl hx he) rfl) rfl b1 rfl;have hm:j5 (fun p'=>(aj 1 p' (bL [none,none] [.val p,.val q])).bind (ab (rd 1) (kI 0) aF)) (told.map toldP)=some (ns.map iN):=by
   have e:told.map toldP=(told.map fun t=>(t.1,t.2)).map toldP:=by rw[eK];rfl
   clear hv b1 a1 a5 a6 hx he
   revert a2
   clear a3 a4 a7 hnd hl rA hcs e;induction told generalizing ns with
   | nil =>
    intro a2;cases ns with
    | nil=>rfl
    | cons _ _=>cases a2
   | cons t r ih =>
    intro a2;cases ns with
    | nil=>cases a2
    | cons n ns =>
     rw[bK,bK]at a2;injection a2 with a2 a3
     rw[bK,j5,ih _ a3];obtain⟨f,c⟩:=t;subst a2;rfl
  refine dk (rS (bV (cA (fF (cV (sV hv rfl) ?_ hm)) rfl) ?_))
  ·have:=di List.length a2;rw[aE,aE]at this;rw[aE,this];lia
  ·have hn:iD (ns.map iN)=some (ns.map fun n:Nat=>(n:Int)):=by
    have:=ql (ns.map fun n:Nat=>(n:Int))
    rwa [eK]at this
   show(iD (ns.map iN)).bind _=_;rw[hn,aY,if_pos (Or.inr ⟨by rw[aE];lia,hnd⟩)]
   conv=>lhs;rw[<-hcs,eK]
   rfl
 ·constructor
  ·intro hn;obtain⟨i,hi,rfl⟩:=bF.mp hn;obtain⟨m,hm,rfl⟩:=(rA i).mp hi;exact hm
  ·intro hn;exact bF.mpr ⟨(n:Int),(rA _).mpr ⟨n,hn,rfl⟩,rfl⟩
noncomputable def kF(n:Nat)(x:Str)(j:Nat):List cC:=[.inl (n:Int),.inr x,.inl (j:Int)]
def pF(n:Nat)(x:Str)(j:Nat):PV:=.aA [.int (n:Int),.str x,.int (j:Int)]
structure q8 (a:dO) (f m:Nat):Prop where
 ef:a.f=(f:Int)
 em:a.m=(m:Int)
 few:f+m<=1000
theorem JC(k i:Nat){a:dO}{f m:Nat}(h:q8 a f m):run bt (k+1) "touched" [fz i a]=some (.val (.aq ((List.range m).map fun j=>iN (f+j)))):=by
 rw[BX,aR];refine dk (rS (fF ?_));have e4:ab (rd 0) (kI 4) aF [.val (fz i a)]=some (.int (f:Int)):=by rw[<-h.ef];rfl
 have e5:ab (rd 0) (kI 5) aF [.val (fz i a)]=some (.int (m:Int)):=by rw[<-h.em];rfl
 have ha:(aa (ab (rd 0) (kI 4) aF) (aa (ab (ab (rd 0) (kI 4) aF) (ab (rd 0) (kI 5) aF) bZ) ah)) [.val (fz i a)]=some [.int (f:Int),.int ((f:Int)+(m:Int))]:=cA e4 (cA (b2 e4 e5 rfl) rfl);show((aa _ _) [.val (fz i a)]).bind _=_;rw[ha,aY];have hl:U3 [.int (f:Int),.int ((f:Int)+(m:Int))]=some (PyProof.Rows.rangeInts (f:Int) 1 ((f:Int)+(m:Int)-(f:Int)).toNat):=if_pos ⟨by lia,by lia,by have:=h.few;lia⟩
 rw[hl,show((f:Int)+(m:Int)-(f:Int)).toNat=m by lia]
 show some (((List.range m).map fun(i:Nat)=>(f:Int)+(i:Int)*1).map PV.int)=_
 rw[eK]
 congr 1
 refine sk fun j _=>?_
 show PV.int ((f:Int)+(j:Int)*1)=PV.int ((f+j:Nat):Int)
 congr 1
 lia
def u6(x:Str)(f m:Nat)(l:List Nat):List (List cC):=l.flatMap fun n=>(List.range m).map fun j=>kF n x (f+j)
theorem pA(k i:Nat){a:dO}{f m:Nat}(h:q8 a f m)(q:PV):∀(l:List Nat) (told:az) (x3:Ent),told.length+1000*l.length<=90000->∃NA,fy (aj 3) (jM (run bt (k+1))) (l.map iN) [.val (fz i a),.val q,.own told,x3]=some (.nx [.val (fz i a),.val q,.own (told++(u6 a.n f m l).map eU),NA])
 | [],told,x3,_=>⟨x3,by simp[u6]⟩
 | n::l,told,x3,hz=>by
  rw[bA]at hz;have hf:=h.few;have hb:jM (run bt (k+1)) [.val (fz i a),.val q,.own told,.val (iN n)]=some (.nx [.val (fz i a),.val q,.own (told++(List.range m).map fun j=>pF n a.n (f+j)),.val (iN n)]):=by
   unfold jM;refine mX rfl (fF (cV (sV (dN (cA rfl rfl) rfl (JC k i h) rfl) rfl) (by simp;lia) ?_)) (by simp;lia)
   exact eG (e:=fun j=>iN (f+j)) (G:=fun j=>pF n a.n (f+j)) fun j _=>rfl
  obtain⟨NA,e⟩:=pA k i h q l (told++(List.range m).map fun j=>pF n a.n (f+j)) (.val (iN n)) (by simp;lia)
  refine⟨NA,?_⟩;have ex:told++(u6 a.n f m (n::l)).map eU=(told++(List.range m).map fun j=>pF n a.n (f+j))++(u6 a.n f m l).map eU:=by
   unfold u6;rw[lB,c8,eK,d8];rfl
  rw[bK,ex];exact fC rfl hb e
def VN(a:dO)(f m:Nat)(l:List Nat):List (List cC):=if(a.w==(Str.ofString "empty"))=true then u6 a.n f m l else []
theorem JD(k i:Nat){a:dO}{f m:Nat}(h:q8 a f m){l:List Nat}(hl:l.length<=2):∃e,run bt (k+2) "emptied" [fz i a,nT l]=some e/\oC e=some (.aq ((VN a f m l).map eU)):=by
 rw[Cj,aR];have hc:jm (toB (ab (ab (rd 0) (kI 1) aF) (kS "empty") yA)) [.val (fz i a),.val (nT l),.un,.un]=some (!(a.w==(Str.ofString "empty"))):=bT (b2 (x:=.str a.w) (y:=.str "empty") rfl rfl rY);by_cases hw:(a.w==(Str.ofString "empty"))=true
 ·obtain⟨NA,e⟩:=pA k i h (nT l) l [] .un (by simp;lia)
  rw[iO]at e;refine⟨_,zc (sq (iF (hc.trans (by rw[hw];rfl)) rfl) (sq (sO rfl (by simp)) (sq (fS (sV rfl rfl) e) (ze rfl)))),?_⟩
  unfold VN;rw[if_pos hw];rfl
 ·refine⟨_,dk (jB (iT (hc.trans (by simp only[sG]at hw;rw[hw];rfl)) (rS rfl))),?_⟩
  unfold VN;rw[if_neg hw];rfl
def flB(a:dO)(f m:Nat)(x:Str)(j:Nat):Bool:=a.w==(Str.ofString "fill")&&(!a.t&&(a.n==x&&(decide (f<=j)&&decide (j<f+m))))
theorem zS{fa fb fc:FE}{ρ:aI}{f j g:Nat}(h1:fa ρ=some (.int (f:Int)))(h2:fb ρ=some (.int (j:Int)))(h3:fc ρ=some (.int (g:Int))):chain fa fb fc J2 Bh ρ=some (.bl (decide (f<=j)&&decide (j<g))):=by
 rw[MQ,h1,h2];simp only[aY];have e:J2 (.int (f:Int)) (.int (j:Int))=some (.bl (decide (f<=j))):=by
  show some (PV.bl (decide ((f:Int)<=(j:Int))))=_;simp
 rw[e,aY];by_cases hfj:f<=j
 ·rw[dm hfj,MR,h3,aY,G9];simp
 ·rw[eZ hfj,MS];simp
theorem u7{fa fb:FE}{ρ:aI}{b:Bool}{c:Bool}(h1:fa ρ=some (.bl b))(h2:b=true->fb ρ=some (.bl c)):oA fa fb ρ=some (.bl (b&&c)):=by
 rw[QB,h1];cases b with
 | true=>simp[h2 rfl,toBE_bl]
 | false=>simp[toBE_bl]
theorem JE(k i:Nat){a:dO}{f m:Nat}(h:q8 a f m)(x:Str)(j:Nat):run bt (k+1) "touches" [fz i a,.str x,iN j]=some (.val (.bl (a.n==x&&(decide (f<=j)&&decide (j<f+m))))):=by
 rw[BY,aR];refine dk (rS (u7 (b2 (x:=.str a.n) (y:=.str x) rfl rfl cU) fun _=>?_))
 have e4:ab (rd 0) (kI 4) aF [.val (fz i a),.val (.str x),.val (iN j)]=some (.int (f:Int)):=by rw[<-h.ef];rfl
 have e5:ab (rd 0) (kI 5) aF [.val (fz i a),.val (.str x),.val (iN j)]=some (.int (m:Int)):=by rw[<-h.em];rfl
 exact zS e4 rfl (b2 e4 e5 rfl)
theorem Q7(k i:Nat){a:dO}{f m:Nat}(h:q8 a f m)(x:Str)(j:Nat):run bt (k+2) "fills" [fz i a,.str x,iN j]=some (.val (.bl (flB a f m x j))):=by
 rw[Jk,aR];refine dk (rS (u7 (b2 (x:=.str a.w) (y:=.str "fill") rfl rfl cU) fun _=>u7 (b:=!a.t) ?_ fun _=>dN (cA rfl (cA rfl (cA rfl rfl))) rfl (JE k i h x j) rfl))
 rfl
def Fx(a:dO)(f m:Nat)(x:Str)(j:Nat):Bool:=a.k==x || flB a f m x j
def VO(a:dO)(f m:Nat)(l:List Nat)(x:Str)(j:Nat):List (List cC):=if Fx a f m x j=true then []else l.map fun n=>kF n x j
theorem Q8(k i:Nat){a:dO}{f m:Nat}(h:q8 a f m){l:List Nat}(hl:l.length<=2)(n:Nat)(x:Str)(j:Nat):run bt (k+3) "stays_empty" [fz i a,nT l,pF n x j]=some (.val (.aq ((VO a f m l x j).map eU))):=by
 rw[rE,aR];have hc:Ab (toB (ab (ab (rd 0) (kI 6) aF) (ab (rd 2) (kI 1) aF) dS)) (toB (ay (aM 3 (run bt (k+2) "fills")) (aa (rd 0) (aa (ab (rd 2) (kI 1) aF) (aa (ab (rd 2) (kI 2) aF) ah))))) [.val (fz i a),.val (nT l),.val (pF n x j)]=some (Fx a f m x j):=by
  rw[EN,bT (b2 (x:=.str a.k) (y:=.str x) rfl rfl cU),aY];unfold Fx;by_cases e:(a.k==x)=true
  ·rw[if_pos e,e];rfl
  ·rw[if_neg e];simp only[sG]at e;rw[e,Bool.false_or];exact bT (dN (cA rfl (cA rfl (cA rfl rfl))) rfl (Q7 k i h x j) rfl)
 unfold VO;by_cases hb:Fx a f m x j=true
 ·rw[if_pos hb];exact dk (jB (iT (hc.trans (by rw[hb])) (rS rfl)))
 ·rw[if_neg hb];refine dk (sq (iF (hc.trans (by simp only[sG]at hb;rw[hb])) rfl) (rS (fF (cV (sV rfl rfl) (by rw[aE];lia) ?_))))
  rw[eK];exact eG (e:=fun n:Nat=>PV.int (n:Int)) fun n _=>rfl
theorem Q9(k i:Nat){a:dO}{f m:Nat}(h:q8 a f m)(x:Str)(j:Nat):run bt (k+1) "_law_ends" [fz i a,.str x,iN j]=some (.val (.bl (Fx a f m x j))):=by
 rw[Jo,aR];have hc:toB (ab (ab (rd 0) (kI 6) aF) (rd 1) dS) [.val (fz i a),.val (.str x),.val (iN j)]=some (a.k==x):=bT (b2 (x:=.str a.k) (y:=.str x) rfl rfl cU);unfold Fx;by_cases e:(a.k==x)=true
 ·rw[e,Bool.true_or];exact dk (jB (iT (hc.trans (by rw[e])) (rS rfl)))
 ·simp only[sG]at e;rw[e,Bool.false_or];have e4:ab (rd 0) (kI 4) aF [.val (fz i a),.val (.str x),.val (iN j)]=some (.int (f:Int)):=by rw[<-h.ef];rfl
  have e5:ab (rd 0) (kI 5) aF [.val (fz i a),.val (.str x),.val (iN j)]=some (.int (m:Int)):=by rw[<-h.em];rfl
  refine dk (sq (iF (hc.trans (by rw[e])) rfl) (rS (u7 (b2 (x:=.str a.w) (y:=.str "fill") rfl rfl cU) fun _=>u7 (b:=!a.t) rfl fun _=>u7 (b2 (x:=.str a.n) (y:=.str x) rfl rfl cU) fun _=>zS e4 rfl (b2 e4 e5 rfl))))
def C3(d:Kd):Nat:=if iw d=true then 1 else(lv (cy d)).length
theorem NB{d:Kd}(h:qY (cy d)):C3 d<=100:=by
 unfold C3;have:=uO (cy d);have:=h.1;split<;>lia
def mM(R:List Rk):List (List cC):=R.flatMap fun r=>(List.range (C3 r.2)).map fun j=>kF 0 r.1 j
theorem Fy(k:Nat)(F:PV)(told:az)(x:Str)(d:Kd)(x4:Ent)(hd:qY (cy d))(hk:3<=k)(ht:told.length<=90000):eV (run bt (k+1)) [.val F,.own told,.val (.str x),.val (c7 d),x4]=some (.nx [.val F,.own (told++(List.range (C3 d)).map fun j=>pF 0 x j),.val (.str x),.val (c7 d),.val (.int (C3 d:Int))]):=by
 have hn:=NB hd;unfold eV;have a0:rn (toB (ay (aM 1 (run bt (k+1) "is_holder")) (aa (rd 3) ah))) (kI 1) (hV (cf cZ (aa (ay (aM 1 (run bt (k+1) "leaves")) (aa (rd 3) ah)) ah))) [.val F,.own told,.val (.str x),.val (c7 d),x4]=some (.int (C3 d:Int)):=by
  refine iV (bT (dN (cA rfl rfl) rfl (gH k d) rfl)) ?_;cases d with
  | ho b s=>rfl
  | ow s =>
   have h4:=fG.all (LA) s k (by have:=hd.2;exact cz this hk) (by have:=uO s;have:=hd.1;show(lv s).length<=_;have e:cy (.ow s)=s:=rfl;rw[e]at this;lia)
   have hv:cf cZ (aa (ay (aM 1 (run bt (k+1) "leaves")) (aa (rd 3) ah)) ah) (fB none [.val F,.own told,.val (.str x),.val (c7 (.ow s)),x4])=some (.int ((lv s).length:Int)):=by
    refine bV (cA (dN (cA rfl rfl) rfl h4 rfl) rfl) ?_;rw[M3,iI]
   show(cf cZ _ (fB none _)).bind _=_;rw[hv];rfl
 refine sq (aS a0 rfl) ?_;refine mX rfl (fF (cV (iW (j:=(C3 d:Int)) rfl (by lia)) (by simp;lia) ?_)) (by simp;lia)
 rw[gM];refine eG (e:=fun i:Nat=>PV.int (0+(i:Int))) fun j _=>?_
 show some (PV.aA [.int 0,.str x,.int (0+(j:Int))])=_;rw[lG];rfl
theorem u9(k:Nat)(hk:3<=k)(F:PV):∀(R:List Rk) (told:az) (x2 x3 x4:Ent),(∀r∈R,qY (cy r.2))->told.length+100*R.length<=90000->∃WB NA Q2,fy (cM 2 (aw (aj 2) (aw (aj 3) cI))) (eV (run bt (k+1))) (R.map bM) [.val F,.own told,x2,x3,x4]=some (.nx [.val F,.own (told++(mM R).map eU),WB,NA,Q2])
 | [],told,x2,x3,x4,_,_=>⟨x2,x3,x4,by simp[mM]⟩
 | (x,d)::R,told,x2,x3,x4,h,hz=>by
  rw[bA]at hz;have hd:qY (cy d):=h (x,d) cq;have hn:C3 d<=100:=NB hd;have hb:=Fy k F told x d x4 hd hk (by lia)
  obtain⟨y2,y3,y4,e⟩:=u9 k hk F R (told++(List.range (C3 d)).map fun j=>pF 0 x j) (.val (.str x)) (.val (c7 d)) (.val (.int (C3 d:Int))) (fun r hr=>h r (cn _ hr)) (by simp;lia)
  refine⟨y2,y3,y4,?_⟩;have ex:told++(mM ((x,d)::R)).map eU=(told++(List.range (C3 d)).map fun j=>pF 0 x j)++(mM R).map eU:=by
   unfold mM;rw[lB,c8,eK,d8];rfl
  rw[bK,ex];exact fC rfl hb e
theorem Fz(k:Nat)(hk:3<=k){nm res body:PV}{R1 R2:List Rk}(h:∀r∈R2,qY (cy r.2))(hz:R2.length<=100):run bt (k+2) "empty_at_first" [xb nm res body R1 R2]=some (.own ((mM R2).map eU)):=by
 rw[nQ,aR];obtain⟨x2,x3,x4,e⟩:=u9 k hk (xb nm res body R1 R2) R2 [] .un .un .un h (by simp;lia)
 rw[iO]at e;exact zc (sq (sO rfl (by simp)) (sq (fS (sV rfl rfl) e) (ze rfl)))
structure q9 (X:List Str) (Bd:Nat) (a:dO):Prop where
 at_:q8 a a.f.toNat a.m.toNat
 emp:(a.w==(Str.ofString "empty"))=true->a.n∈X/\a.f.toNat+a.m.toNat<=Bd
abbrev Ra(a:dO)(l:List Nat):List (List cC):=VN a a.f.toNat a.m.toNat l
abbrev ZJ(a:dO)(l:List Nat)(x:Str)(j:Nat):List (List cC):=VO a a.f.toNat a.m.toNat l x j
section
variable {X:List Str} {Bd N:Nat} {as:List (Nat×dO)} {ls:List (List Nat)}
def cF(as:List (Nat×dO))(ls:List (List Nat))(n:Nat):List (List cC):=match as[n]?,ls[n]? with
 | some q,some l=>Ra q.2 l
 | _,_=>[]
theorem Hq{a:dO}(h:q9 X Bd a){l:List Nat}(hl:l.length<=2):(Ra a l).length<=2*Bd:=by
 unfold Ra VN;split
 ·rename_i hw;have:=(h.emp hw).2;unfold u6;rw[Dm];have e:(l.map fun n=>((List.range a.m.toNat).map fun j=>kF n a.n (a.f.toNat+j)).length)=l.map fun _=>a.m.toNat:=sk fun n _=>by simp
  rw[e];have s:(l.map fun _=>a.m.toNat).sum=l.length*a.m.toNat:=by
   clear e hl;induction l with
   | nil=>simp
   | cons x l ih=>rw[bK,List.sum_cons,ih,bA,Nat.succ_mul];lia
  rw[s];exact cz (Nat.mul_le_mul_right _ hl) (Nat.mul_le_mul_left _ (by lia))
 ·simp
def kU(N:Nat)(X:List Str)(Bd:Nat):List (List cC):=(List.range N).flatMap fun n=>X.flatMap fun x=>(List.range Bd).map fun j=>kF n x j
theorem nW{f:List cC}:f∈kU N X Bd↔∃n x j,n<N/\x∈X/\j<Bd/\f=kF n x j:=by
 unfold kU;constructor
 ·intro h;obtain⟨n,hn,h⟩:=gN.mp h;obtain⟨x,hx,h⟩:=gN.mp h;obtain⟨j,hj,rfl⟩:=bF.mp h;exact⟨n,x,j,d9.mp hn,hx,d9.mp hj,rfl⟩
 ·rintro⟨n,x,j,hn,hx,hj,rfl⟩
  exact gN.mpr ⟨n,d9.mpr hn,gN.mpr ⟨x,hx,bF.mpr ⟨j,d9.mpr hj,rfl⟩⟩⟩
theorem xj{α:Type}(l:List α)(c:Nat):(l.map fun _=>c).sum=l.length*c:=by
 induction l with
 | nil=>simp
 | cons x l ih=>rw[bK,List.sum_cons,ih,bA,Nat.succ_mul];lia
theorem FA:(kU N X Bd).length=N*(X.length*Bd):=by
 unfold kU;rw[Dm];have e:((List.range N).map fun n=>(X.flatMap fun x=>(List.range Bd).map fun j=>kF n x j).length)=(List.range N).map fun _=>X.length*Bd:=sk fun n _=>by
  rw[Dm];have e:(X.map fun x=>((List.range Bd).map fun j=>kF n x j).length)=X.map fun _=>Bd:=sk fun x _=>by simp
  rw[e,xj]
 rw[e,xj,pS]
theorem xk(k:Nat)(P I:PV)(hA:∀q∈as,q9 X Bd q.2)(H:Fu ls N)(hN:as.length=N)(hB:Bd<=10):∀(cs:List Nat) (told:az) (x3:Ent),(∀c∈cs,c<N)->told.length+20*cs.length<=90000 ->
  ∃NA,fy (aj 3) (jL (run bt (k+2))) (cs.map iN) [.val P,.val I,.own told,x3,.val (.aq (ls.map nT)),.val (.aq (as.map eN))]=some (.nx [.val P,.val I,.own (told++(cs.flatMap (cF as ls)).map eU),NA,.val (.aq (ls.map nT)),.val (.aq (as.map eN))])
 | [],told,x3,_,_=>⟨x3,by simp⟩
 | c::cs,told,x3,hc,hz=>by
  rw[bA]at hz;have SN:=hc c cq;obtain⟨q,hq⟩:∃q,as[c]?=some q:=⟨_,cJ (by lia)⟩
  obtain⟨l,hl⟩:∃l,ls[c]?=some l:=⟨_,cJ (by rw[H.len];exact SN)⟩
  have ok:=hA q (cQ hq);have l2:=(H.ok l (cQ hl)).1;obtain⟨en,r1,r2⟩:=JD k q.1 ok.at_ l2;have vx:=Hq ok l2;have ec:cF as ls c=Ra q.2 l:=by unfold cF;rw[hq,hl]
  have hb:jL (run bt (k+2)) [.val P,.val I,.own told,.val (iN c),.val (.aq (ls.map nT)),.val (.aq (as.map eN))]=some (.nx [.val P,.val I,.own (told++(cF as ls c).map eU),.val (iN c),.val (.aq (ls.map nT)),.val (.aq (as.map eN))]):=by
   unfold jL;rw[ec];refine mX rfl (dN (cA (b2 (x:=.aq (as.map eN)) (y:=.int (c:Int)) rfl rfl (da (v:=eN q) (by rw[cu,hq];rfl))) (cA (b2 (x:=.aq (ls.map nT)) (y:=.int (c:Int)) rfl rfl (da (v:=nT l) (by rw[cu,hl];rfl))) rfl)) rfl r1 r2) ?_
   rw[aE]
   lia
  obtain⟨NA,e⟩:=xk k P I hA H hN hB cs (told++(cF as ls c).map eU) (.val (iN c)) (fun d hd=>hc d (cn _ hd)) (by rw[bU,aE,ec];lia)
  refine⟨NA,?_⟩;rw[bK,lB,c8,<-d8];exact fC rfl hb e
abbrev mK(k:Nat)(as:List (Nat×dO))(ls:List (List Nat)):List cC->Option (List (List cC)):=yI (ay (aM 3 (run bt (k+3) "stays_empty")) (aa (ab (rd 2) (ab (rd 0) (kI 0) aF) aF) (aa (ab (rd 1) (ab (rd 0) (kI 0) aF) aF) (aa (rd 0) ah)))) [.val (.aq (ls.map nT)),.val (.aq (as.map eN))]
theorem Hr(k:Nat){n:Nat}{q:Nat×dO}{l:List Nat}(hq:as[n]?=some q)(hl:ls[n]?=some l)(ok:q9 X Bd q.2)(l2:l.length<=2)(x:Str)(j:Nat):mK k as ls (kF n x j)=some (ZJ q.2 l x j):=by
 refine He ?_ fun f hf=>?_
 ·exact dN (cA (b2 (x:=.aq (as.map eN)) (y:=.int (n:Int)) rfl rfl (da (v:=eN q) (by rw[cu,hq];rfl))) (cA (b2 (x:=.aq (ls.map nT)) (y:=.int (n:Int)) rfl rfl (da (v:=nT l) (by rw[cu,hl];rfl))) (cA rfl rfl))) rfl (Q8 k q.1 ok.at_ l2 n x j) rfl
 ·unfold ZJ VO at hf;split at hf
  ·cases hf
  ·obtain⟨m,_,rfl⟩:=bF.mp hf;show 3<1000
   lia
theorem vb{α β:Type}(f:α->List β)(c:Nat):∀l:List α,(∀x∈l,(f x).length<=c)->(l.flatMap f).length<=l.length*c
 | [],_=>by simp
 | x::l,h=>by
  have:=h x cq;have:=vb f c l fun y hy=>h y (cn _ hy)
  rw[lB,bU,bA,Nat.succ_mul]
  lia
theorem JF(k:Nat){fs:az}{I:Int}{nm res body:PV}{R1 R2:List Rk}{cs:List Nat}(hk:3<=k)(hP:atI fs I=some (xb nm res body R1 R2))(hR:∀r∈R2,qY (cy r.2))(hz:R2.length<=100)
  (hX:∀r∈R2,r.1∈X/\C3 r.2<=Bd) (hAc:run bt (k+3) "acts" [.aA fs,.int I]=some (.own (as.map eN))) (hNx:run bt (k+3) "nexts" [.aA fs,.int I]=some (.own (ls.map nT))) (hC:run bt (k+3) "come_to" [.aA fs,.int I]=some (.val (.aq (cs.map iN))))
  (hA:∀q∈as,q9 X Bd q.2) (H:Fu ls N) (hN:as.length=N) (hB:Bd<=10) (hU:N*(X.length*Bd)<5000) (hcs:∀c∈cs,c<N) (hcl:cs.length<128) :
  ∃told:gV,run bt (k+4) "empties" [.aA fs,.int I]=some (.val (.aq (told.map toldP)))/\(∀t∈told,t.1∈kU N X Bd)/\M9 (mK k as ls) (mM R2++cs.flatMap (cF as ls)) told/\BQ (mK k as ls) told told.length/\(told.map (·.1)).Nodup/\∀f∈mM R2++cs.flatMap (cF as ls),f∈told.map (·.1):=by
 have l1:(mM R2).length<=10000:=by
  have:=vb (fun r:Rk=>(List.range (C3 r.2)).map fun j=>kF 0 r.1 j) 10 R2 fun r hr=>by
   rw[aE,pS];exact cz (hX r hr).2 hB
  unfold mM
  lia
 have lc:∀c∈cs,(cF as ls c).length<=20:=fun c hc=>by
  have SN:=hcs c hc;obtain⟨q,hq⟩:∃q,as[c]?=some q:=⟨_,cJ (by lia)⟩
  obtain⟨l,hl⟩:∃l,ls[c]?=some l:=⟨_,cJ (by rw[H.len];exact SN)⟩
  have:=Hq (hA q (cQ hq)) (H.ok l (cQ hl)).1;unfold cF;rw[hq,hl];show(Ra q.2 l).length<=20
  lia
 have l3:=vb (cF as ls) 20 cs lc;have Qg:∀g∈kU N X Bd,∃fs,mK k as ls g=some fs/\(∀f∈fs,f∈kU N X Bd)/\fs.length<=2:=fun g hg=>by
  obtain⟨n,x,j,hn,hx,hj,rfl⟩:=nW.mp hg;obtain⟨q,hq⟩:∃q,as[n]?=some q:=⟨_,cJ (by lia)⟩
  obtain⟨l,hl⟩:∃l,ls[n]?=some l:=⟨_,cJ (by rw[H.len];exact hn)⟩
  obtain⟨o1,o2⟩:=H.ok l (cQ hl);refine⟨_,Hr k hq hl (hA q (cQ hq)) o1 x j,fun f hf=>?_,?_⟩
  ·unfold ZJ VO at hf;split at hf
   ·cases hf
   ·obtain⟨m,hm,rfl⟩:=bF.mp hf;exact nW.mpr ⟨m,x,j,o2 m hm,hx,hj,rfl⟩
  ·unfold ZJ VO;split
   ·simp
   ·rw[aE];exact o1
 have NC:∀f∈mM R2++cs.flatMap (cF as ls),f∈kU N X Bd:=fun f hf=>by
  rcases c9.mp hf with hf | hf
  ·obtain⟨r,hr,hf⟩:=gN.mp hf;obtain⟨j,hj,rfl⟩:=bF.mp hf;have:=(hX r hr).2;exact nW.mpr ⟨0,r.1,j,H.pos,(hX r hr).1,by have:=d9.mp hj;lia,rfl⟩
  ·obtain⟨c,hc,hf⟩:=gN.mp hf;have SN:=hcs c hc;obtain⟨q,hq⟩:∃q,as[c]?=some q:=⟨_,cJ (by lia)⟩
   obtain⟨l,hl⟩:∃l,ls[c]?=some l:=⟨_,cJ (by rw[H.len];exact SN)⟩
   have ec:cF as ls c=Ra q.2 l:=by unfold cF;rw[hq,hl]
   rw[ec]at hf;unfold Ra VN at hf;split at hf
   ·rename_i hw;obtain⟨e1,e2⟩:=(hA q (cQ hq)).emp hw;obtain⟨n,hn,hf⟩:=gN.mp hf;obtain⟨j,hj,rfl⟩:=bF.mp hf;exact nW.mpr ⟨n,q.2.n,_,(H.ok l (cQ hl)).2 n hn,e1,by have:=d9.mp hj;lia,rfl⟩
   ·cases hf
 obtain⟨told,t1,t2,t3,t4,t5,t6⟩:=uQ (mK k as ls) (mM R2++cs.flatMap (cF as ls)) (kU N X Bd) 2 (by rw[FA,uI];lia) (by rw[FA];exact hU) Qg NC
 refine⟨told,?_,t3,t4,t5,t2,t6⟩;have aeq:=Fz (k+1) (by lia) (nm:=nm) (res:=res) (body:=body) (R1:=R1) hR hz
 obtain⟨NA,e⟩:=xk (k+1) (.aA fs) (.int I) hA H hN hB cs ((mM R2).map eU) .un hcs (by rw[aE];lia)
 rw[<-c8]at e;rw[Ci,aR];refine dk (sq (aS (dN (cA rfl (cA rfl rfl)) rfl hAc rfl) rfl) (sq (aS (dN (cA rfl (cA rfl rfl)) rfl hNx rfl) rfl) (sq (sR (clQ (cA (b2 rfl rfl hP) rfl) rfl aeq rfl) (by simp)) (sq (fS (sV (dN (cA rfl (cA rfl rfl)) rfl hC rfl) rfl) e) ?_))))
 refine rS (fF (uR (fk:=mM R2++cs.flatMap (cF as ls)) rfl (fun f hf=>?_) (by rw[bU,uI];lia) t1))
 obtain⟨n,x,j,_,_,_,rfl⟩:=nW.mp (NC f hf);show 3<1000
 lia
end
theorem pB{c:gv}(S:Ent):∀(ps:List Sh) (told:az) (x2:Ent),(∀s∈ps,c "_law_leaves" [enc s]=some (.val (.aq (dj (lv s)))))->told.length+(jc ps).length<=90000->∃WB,fy (aj 2) (jN c) (dj ps) [S,.val (.aq told),x2]=some (.nx [S,.val (.aq (told++dj (jc ps))),WB])
 | [],told,x2,_,_=>⟨x2,by simp[dj,jc]⟩
 | s::ps,told,x2,h,hz=>by
  simp only[jc,bU]at hz;have hb:jN c [S,.val (.aq told),.val (enc s)]=some (.nx [S,.val (.aq (told++dj (lv s))),.val (enc s)]):=by
   unfold jN;exact aS (b2 rfl (dN (cA rfl rfl) rfl (h s cq) rfl) (aL (by rw[iI];lia))) rfl
  obtain⟨WB,e⟩:=pB S ps (told++dj (lv s)) (.val (enc s)) (fun t ht=>h t (cn _ ht)) (by rw[bU,iI];lia)
  refine⟨WB,?_⟩;have ex:told++dj (jc (s::ps))=told++dj (lv s)++dj (jc ps):=by
   simp only[jc,iH,c8,d8]
  rw[ex];show fy _ _ (enc s::dj ps) _=_;exact fC rfl hb e
theorem k8(k:Nat){s:Sh}(h:jt s=true):run bt (k+1) "_law_leaves" [enc s]=some (.val (.aq [enc s])):=by
 rw[qX,aR];have h0:ab (rd 0) (kI 0) aF [.val (enc s),.un,.un]=some (.str (Hf s)):=b2 rfl rfl (k0 (.ow s));exact dk (jB (iT (bT (b2 h0 rfl ((Nv s).trans (by rw[h])))) (rS rfl)))
mutual
theorem qB:∀(s:Sh) (k:Nat),dp s<=k->(lv s).length<=90000->run bt (k+1) "_law_leaves" [enc s]=some (.val (.aq (dj (lv s))))
 | .num,k,_,_=>by rw[k8 k rfl];simp[lv,dj]
 | .own,k,_,_=>by rw[k8 k rfl];simp[lv,dj]
 | .du n,k,_,_=>by rw[k8 k rfl];simp[lv,dj]
 | .bO ps,0,hd,_=>by simp[dp]at hd
 | .bO ps,k+1,hd,hz=>by
  simp only[dp]at hd;simp only[lv]at hz;rw[qX,aR];have h0:ab (rd 0) (kI 0) aF [.val (enc (.bO ps)),.un,.un]=some (.str (Hf (.bO ps))):=b2 rfl rfl (k0 (.ow (.bO ps)));obtain⟨WB,e⟩:=pB (c:=run bt (k+1)) (.val (enc (.bO ps))) ps [] .un (mh ps k (by lia) hz) (by simp;lia)
  rw[iO]at e;refine dk (sq (iF (bT (b2 h0 rfl (Nv (.bO ps)))) rfl) (sq (aS (fF rfl) rfl) (sq (fS (sV (b2 rfl rfl rfl) rfl) e) (rS ?_))));simp only[lv];rfl
theorem mh:∀(ps:List Sh) (k:Nat),uK ps<=k->(jc ps).length<=90000->∀s∈ps,run bt (k+1) "_law_leaves" [enc s]=some (.val (.aq (dj (lv s))))
 | [],_,_,_,s,hs=>by cases hs
 | p::r,k,hd,hz,s,hs=>by
  simp only[uK]at hd;simp only[jc,bU]at hz;rcases bB.mp hs with e | e
  ·rw[e];exact qB p k (by lia) (by lia)
  ·exact mh r k (by lia) (by lia) s e
end
theorem CK(n:Nat):∀l:List Nat,En (iN n) (l.map iN)=decide (n∈l)
 | []=>rfl
 | m::l=>by
  have ih:=CK n l;unfold En at ih ⊢;rw[bK,nu,ih];have e:eqT (iN m) (iN n)=decide (m=n):=by
   rw[Bool.eq_iff_iff];simp only[iN,eqT,bN,kB]
   lia
  rw[e];by_cases h:m=n
  ·simp[h]
  ·have h':¬n=m:=fun z=>h z.symm
   simp[h,h']
theorem Hs(b:Bool)(n:Nat)(l:List Nat):qd b (iN n) (nT l)=some (.bl (if b=true then !decide (n∈l)else decide (n∈l))):=by
 have hd:eX (l.map iN)<=iS:=by
  have:=Cv (l.map fun m:Nat=>(m:Int))
  rw[eK]at this;show eX (l.map (PV.int ∘ fun m:Nat=>(m:Int)))<=_
  rw[this];exact gO _
 show(if eX (l.map iN)<=iS then some (PV.bl (if b=true then !En (iN n) (l.map iN)else En (iN n) (l.map iN)))else none)=_
 rw[if_pos hd,CK]
def iM(R:List Rk)(x:Str)(j:Nat):Bool:=match iJ R x with
 | some d=>if iw d=true then decide (j=0)else decide (j<(lv (cy d)).length)
 | none=>false
theorem CL(k:Nat)(hk:3<=k)(S:Ent)(x:Str)(j:Nat):∀(R:List Rk) (x3 x4:Ent),(∀r∈R,qY (cy r.2))->∃ρ,fy (cM 2 (aw (aj 3) (aw (aj 4) cI))) (jO (run bt (k+1))) (R.map bM) [S,.val (.str x),.val (iN j),x3,x4]=some (match iJ R x with | some _=>.rt (.val (.bl (iM R x j))) | none=>.nx ρ)
 | [],x3,x4,_=>⟨[S,.val (.str x),.val (iN j),x3,x4],rfl⟩
 | (y,d)::R,x3,x4,h=>by
  have hd:qY (cy d):=h (y,d) cq;obtain⟨ρ,e⟩:=CL k hk S x j R (.val (.str y)) (.val (c7 d)) fun r hr=>h r (cn _ hr)
  refine⟨ρ,?_⟩;have hc:toB (ab (rd 3) (rd 1) dS) [S,.val (.str x),.val (iN j),.val (.str y),.val (c7 d)]=some (y==x):=bT (b2 (x:=.str y) (y:=.str x) rfl rfl cU);have hh:toB (ab (ab (rd 4) (kI 0) aF) (bh (aa (kS "lent") (aa (kS "sole") ah))) (qd false)) [S,.val (.str x),.val (iN j),.val (.str y),.val (c7 d)]=some (iw d):=bT (b2 (b2 rfl rfl (k0 d)) rfl (rZ d));rw[bK];by_cases hy:y=x
  ·have ef:iJ ((y,d)::R) x=some d:=by rw[iJ,if_pos hy]
   have Aa:(y==x)=true:=by rw[hy];exact pT x
   rw[ef];refine fR rfl ?_;unfold jO;refine iT (hc.trans (by rw[Aa])) ?_
   unfold iM;rw[ef];show _=some (pJ.rt (.val (.bl (if iw d=true then decide (j=0)else decide (j<(lv (cy d)).length)))))
   cases d with
   | ho b s =>
    refine jB (iT hh (rS (b2 (x:=.int (j:Int)) (y:=.int 0) rfl rfl ?_)));rw[iU];show some (PV.bl (decide ((j:Int)=0)))=some (.bl (decide (j=0)));rw[decide_eq_decide.mpr (show(j:Int)=0↔j=0 by lia)]
   | ow s =>
    have h4:=qB s k (by have:=hd.2;exact cz this hk) (by have:=uO s;have:=hd.1;have e:cy (.ow s)=s:=rfl;rw[e]at this;lia)
    refine sq (iF hh rfl) (rS ?_);have hv:cf cZ (aa (ay (aM 1 (run bt (k+1) "_law_leaves")) (aa (rd 4) ah)) ah) [S,.val (.str x),.val (iN j),.val (.str y),.val (c7 (.ow s))]=some (.int ((lv s).length:Int)):=by
     refine bV (cA (dN (cA rfl rfl) rfl h4 rfl) rfl) ?_;rw[uJ,iI]
    refine(zS (f:=0) (j:=j) rfl rfl hv).trans ?_;show some (PV.bl (decide (0<=j)&&decide (j<(lv s).length)))=some (.bl (decide (j<(lv s).length)));rw[dm (gO j),Bool.true_and]
  ·have ef:iJ ((y,d)::R) x=iJ R x:=by rw[iJ,if_neg hy]
   have Aa:(y==x)=false:=by simpa using hy
   have ei:iM ((y,d)::R) x j=iM R x j:=by unfold iM;rw[ef]
   rw[ef,ei];refine fC rfl ?_ e;unfold jO;exact iF (hc.trans (by rw[Aa])) rfl
theorem ND(k:Nat)(hk:3<=k){R:List Rk}(x:Str)(j:Nat)(h:∀r∈R,qY (cy r.2)):run bt (k+2) "_law_is_let" [.aA (R.map bM),.str x,iN j]=some (.val (.bl (iM R x j))):=by
 rw[Ck,aR];obtain⟨ρ,e⟩:=CL k hk (.val (.aA (R.map bM))) x j R .un .un h;cases hf:iJ R x with
 | some d =>
  rw[hf]at e;exact dk (jB (fS (sV rfl rfl) e))
 | none =>
  rw[hf]at e;refine dk (sq (fS (sV rfl rfl) e) ?_);unfold iM;rw[hf];rfl
def JG(n:Nat)(x:Str)(j:Nat)(a:dO)(l:List Nat):Bool:=a.w==(Str.ofString "empty")&&(a.n==x&&((decide (a.f.toNat<=j)&&decide (j<a.f.toNat+a.m.toNat))&&decide (n∈l)))
theorem Ht{ga gb:fA}{ρ:aI}{b c:Bool}(h1:ga ρ=some b)(h2:b=true->gb ρ=some c):gS ga gb ρ=some (b&&c):=by
 rw[G4,h1,aY];cases b with
 | true=>rw[if_pos rfl,h2 rfl];rfl
 | false=>rfl
section
variable {X:List Str} {Bd N:Nat} {as:List (Nat×dO)} {ls:List (List Nat)}
def J4(n:Nat)(x:Str)(j:Nat)(c:Int):PV:=.aA [.int (n:Int),.str x,.int (j:Int),.int c]
theorem xl(k:Nat)(n:Nat)(x:Str)(j:Nat)(cm:Int)(C:PV)(hA:∀q∈as,q9 X Bd q.2)(hN:as.length=N)(hL:ls.length=N){c0:Nat}{q0:Nat×dO}{l0:List Nat}(Sy:as[c0]?=some q0)(J0:ls[c0]?=some l0)(h0:JG n x j q0.2 l0=true):∀(cs:List Nat) (x4 x5:Ent),(∀c∈cs,c<N)->c0∈cs ->
  fy (aj 4) (iY (run bt k)) (cs.map iN) [.val (J4 n x j cm),.val (.aq (as.map eN)),.val (.aq (ls.map nT)),.val C,x4,x5]=some (.rt (.val (.bl true)))
 | [],x4,x5,_,hc=>nomatch hc
 | c::cs,x4,x5,hcs,hc=>by
  have SN:=hcs c cq;obtain⟨q,hq⟩:∃q,as[c]?=some q:=⟨_,cJ (by lia)⟩
  obtain⟨l,hl⟩:∃l,ls[c]?=some l:=⟨_,cJ (by lia)⟩
  have ok:=(hA q (cQ hq)).at_;have a0:bj (ab (rd 1) (rd 4) aF) (aj 5) [.val (J4 n x j cm),.val (.aq (as.map eN)),.val (.aq (ls.map nT)),.val C,.val (iN c),x5]=some (.nx [.val (J4 n x j cm),.val (.aq (as.map eN)),.val (.aq (ls.map nT)),.val C,.val (iN c),.val (eN q)]):=aS (b2 (x:=.aq (as.map eN)) (y:=.int (c:Int)) rfl rfl (da (v:=eN q) (by rw[cu,hq];rfl))) rfl
  have e4:ab (rd 5) (kI 4) aF [.val (J4 n x j cm),.val (.aq (as.map eN)),.val (.aq (ls.map nT)),.val C,.val (iN c),.val (eN q)]=some (.int (q.2.f.toNat:Int)):=by rw[<-ok.ef];rfl
  have e5:ab (rd 5) (kI 5) aF [.val (J4 n x j cm),.val (.aq (as.map eN)),.val (.aq (ls.map nT)),.val C,.val (iN c),.val (eN q)]=some (.int (q.2.m.toNat:Int)):=by rw[<-ok.em];rfl
  have ZK:ab (rd 2) (rd 4) aF [.val (J4 n x j cm),.val (.aq (as.map eN)),.val (.aq (ls.map nT)),.val C,.val (iN c),.val (eN q)]=some (nT l):=b2 (x:=.aq (ls.map nT)) (y:=.int (c:Int)) rfl rfl (da (v:=nT l) (by rw[cu,hl];rfl))
  have ht:gS (toB (ab (ab (rd 5) (kI 1) aF) (kS "empty") dS)) (gS (toB (ab (ab (rd 5) (kI 2) aF) (ab (rd 0) (kI 1) aF) dS)) (gS (toB (chain (ab (rd 5) (kI 4) aF) (ab (rd 0) (kI 2) aF) (ab (ab (rd 5) (kI 4) aF) (ab (rd 5) (kI 5) aF) bZ) J2 Bh)) (toB (ab (ab (rd 0) (kI 0) aF) (ab (rd 2) (rd 4) aF) (qd false))))) [.val (J4 n x j cm),.val (.aq (as.map eN)),.val (.aq (ls.map nT)),.val C,.val (iN c),.val (eN q)]=some (JG n x j q.2 l) :=
   Ht (bT (b2 (x:=.str q.2.w) (y:=.str "empty") rfl rfl cU)) fun _=>Ht (bT (b2 (x:=.str q.2.n) (y:=.str x) rfl rfl cU)) fun _=>Ht (bT (zS e4 rfl (b2 e4 e5 rfl))) fun _=>bT (b2 (x:=iN n) rfl ZK (Hs false n l))
  rw[bK];by_cases hb:JG n x j q.2 l=true
  ·refine fR (fX:=[.val (J4 n x j cm),.val (.aq (as.map eN)),.val (.aq (ls.map nT)),.val C,.val (iN c),x5]) rfl ?_;unfold iY;exact sq a0 (iT (ht.trans (by rw[hb])) (rS rfl))
  ·have hne:c0∈cs:=by
    rcases bB.mp hc with e | e
    ·subst e;rw[Sy]at hq;rw[J0]at hl;cases hq;cases hl;exact absurd h0 hb
    ·exact e
   refine fC (fX:=[.val (J4 n x j cm),.val (.aq (as.map eN)),.val (.aq (ls.map nT)),.val C,.val (iN c),x5]) rfl ?_ (xl k n x j cm C hA hN hL Sy J0 h0 cs (.val (iN c)) (.val (eN q)) (fun d hd=>hcs d (cn _ hd)) hne)
   unfold iY;simp only[sG]at hb;exact sq a0 (iF (ht.trans (by rw[hb])) rfl)
theorem JH(k:Nat)(n:Nat)(x:Str)(j:Nat)(cm:Int)(hA:∀q∈as,q9 X Bd q.2)(hN:as.length=N)(hL:ls.length=N){cs:List Nat}(hcs:∀c∈cs,c<N){c0:Nat}{q0:Nat×dO}{l0:List Nat}(Uc:c0∈cs)(Sy:as[c0]?=some q0)(J0:ls[c0]?=some l0)(h0:JG n x j q0.2 l0=true) :
  run bt (k+1) "_law_is_left" [J4 n x j cm,.aq (as.map eN),.aq (ls.map nT),.aq (cs.map iN)]=some (.val (.bl true)):=by
 rw[zG,aR];exact dk (jB (fS (sV rfl rfl) (xl k n x j cm _ hA hN hL Sy J0 h0 cs .un .un hcs Uc)))
end
theorem Rb{ga gb:fA}{ρ:aI}{b:Bool}(h1:ga ρ=some false)(h2:gb ρ=some b):Ab ga gb ρ=some b:=by
 rw[EN,h1,aY,if_neg (by simp),h2]
abbrev LS(S W:PV)(fs:az)(as:List (Nat×dO))(ls:List (List Nat))(cs:List Nat)(told:gV)(x7 x8 x9 NF NG CM zT:Ent):aI :=
 [.val S,.val W,.val (.aA fs),.val (.aq (as.map eN)),.val (.aq (ls.map nT)),.val (.aq (cs.map iN)),.val (.aq (told.map toldP)),x7,x8,x9,NF,NG,CM,zT]
theorem told_at{told:gV}{i n j:Nat}{x:Str}{c:Int}(h:told[i]?=some (kF n x j,c)):atI (told.map toldP) (i:Int)=some (J4 n x j c):=da (by rw[cu,h];rfl)
section
variable {X:List Str} {Bd N:Nat} {as:List (Nat×dO)} {ls:List (List Nat)} {cs:List Nat} {told:gV} {fs:az} {nm res body:PV} {R1 R2:List Rk} {S W:PV}
theorem NH(k kk:Nat)(hk:3<=k)(hP:atI fs 1=some (xb nm res body R1 R2))(hR:∀r∈R2,qY (cy r.2))(hn:(R2.map (·.1)).Nodup)(hA:∀q∈as,q9 X Bd q.2)(H:Fu ls N)(hN:as.length=N)(hcs:∀c∈cs,c<N)
  (hU:∀t∈told,t.1∈kU N X Bd) (hW:M9 (mK kk as ls) (mM R2++cs.flatMap (cF as ls)) told) (i:Nat) (hi:i<told.length) (x8 x9 NF NG CM zT:Ent) :
  ∃y8 y9 SO SQ SR SS,ph (run bt (k+2)) (LS S W fs as ls cs told (.val (iN i)) x8 x9 NF NG CM zT)=some (.nx (LS S W fs as ls cs told (.val (iN i)) y8 y9 SO SQ SR SS)):=by
 obtain⟨⟨f,c⟩,ht⟩:∃t,told[i]?=some t:=⟨_,cJ hi⟩
 obtain⟨n,x,j,hnN,hx,hj,rfl⟩:=nW.mp (hU (f,c) (cQ ht));have vn:=told_at ht;unfold ph;have a0:bj (ab (rd 6) (rd 7) aF) (cM 4 (aw (aj 8) (aw (aj 9) (aw (aj 10) (aw (aj 11) cI))))) (LS S W fs as ls cs told (.val (iN i)) x8 x9 NF NG CM zT)=some (.nx (LS S W fs as ls cs told (.val (iN i)) (.val (iN n)) (.val (.str x)) (.val (iN j)) (.val (.int c)) CM zT)):=aS (b2 (x:=.aq (told.map toldP)) (y:=.int (i:Int)) rfl rfl vn) rfl;have ZE:=hW i (kF n x j) c ht;have hc:c<(i:Int)/\¬c < -1:=by
  rcases ZE with⟨z,_⟩ | ⟨jj,g,d,Wd,z1,z2,_⟩<;>lia
 have a1:gK (Ab (kl (toB (ay (aM 1 (run bt (k+2) "_law_whole")) (aa (rd 11) ah)))) (Ab (toB (ab (rd 11) (rd 7) Wj)) (toB (ab (rd 11) (Iu (kI 1)) Bh)))) (bz (cK (.bl false))) (fun ρ=>some (.nx ρ)) (LS S W fs as ls cs told (.val (iN i)) (.val (iN n)) (.val (.str x)) (.val (iN j)) (.val (.int c)) CM zT)=some (.nx (LS S W fs as ls cs told (.val (iN i)) (.val (iN n)) (.val (.str x)) (.val (iN j)) (.val (.int c)) CM zT)):=by
  refine iF (Rb (nB (bT (dN (cA rfl rfl) rfl (Q3 (k+1) c) rfl))) (Rb (bT (b2 (x:=.int c) (y:=.int (i:Int)) rfl rfl ?_)) (bT (b2 (x:=.int c) (y:=.int (-1)) rfl rfl ?_)))) rfl
  ·rw[QR,eZ (by lia)]
  ·rw[G9,eZ (by lia)]
 have hm:toB (ab (rd 11) (Iu (kI 1)) dS) (LS S W fs as ls cs told (.val (iN i)) (.val (iN n)) (.val (.str x)) (.val (iN j)) (.val (.int c)) CM zT)=some (decide (c = -1)):=bT (b2 (x:=.int c) (y:=.int (-1)) rfl rfl iU);rcases ZE with⟨z,hf⟩ | ⟨jj,g,d,Wd,z1,z2,z3,z4,z5⟩
 ·have aer:oA (ab (rd 8) (kI 0) dS) (ay (aM 3 (run bt (k+2) "_law_is_let")) (aa (ab (ab (rd 2) (kI 1) aF) (kI 3) aF) (aa (rd 9) (aa (rd 10) ah)))) (LS S W fs as ls cs told (.val (iN i)) (.val (iN n)) (.val (.str x)) (.val (iN j)) (.val (.int c)) CM zT)=some (.bl (decide ((n:Int)=0)&&iM R2 x j)) :=
   u7 (b2 (x:=.int (n:Int)) (y:=.int 0) rfl rfl iU) fun _=>dN (cA (b2 (b2 rfl rfl hP) rfl rfl) (cA rfl (cA rfl rfl))) rfl (ND k hk x j hR) rfl
  refine⟨.val (iN n),.val (.str x),.val (iN j),.val (.int c),.val (.bl (decide ((n:Int)=0)&&iM R2 x j)),zT,sq a0 (sq a1 (iT (hm.trans (by rw[z];rfl)) (sq (aS aer rfl) (iF ?_ rfl))))⟩
  have hb:∀b:Bool,toB (ay (aM 4 (run bt (k+2) "_law_is_left")) (aa (ab (rd 6) (rd 7) aF) (aa (rd 3) (aa (rd 4) (aa (rd 5) ah))))) (LS S W fs as ls cs told (.val (iN i)) (.val (iN n)) (.val (.str x)) (.val (iN j)) (.val (.int c)) (.val (.bl (decide ((n:Int)=0)&&iM R2 x j))) zT)=some b\/(decide ((n:Int)=0)&&iM R2 x j)=true->(b=true\/(decide ((n:Int)=0)&&iM R2 x j)=true)->gS (kl (toB (rd 12))) (kl (toB (ay (aM 4 (run bt (k+2) "_law_is_left")) (aa (ab (rd 6) (rd 7) aF) (aa (rd 3) (aa (rd 4) (aa (rd 5) ah))))))) (LS S W fs as ls cs told (.val (iN i)) (.val (iN n)) (.val (.str x)) (.val (iN j)) (.val (.int c)) (.val (.bl (decide ((n:Int)=0)&&iM R2 x j))) zT)=some false:=fun b h1 h2=>by
   rw[G4,nB (bT (b:=(decide ((n:Int)=0)&&iM R2 x j)) rfl),aY];cases hl:(decide ((n:Int)=0)&&iM R2 x j)with
   | true=>rfl
   | false =>
    rw[hl]at h1 h2;have h1:=h1.resolve_right (by simp)
    have h2:=h2.resolve_right (by simp)
    rw[if_pos (by rfl)]
    rw[h2]at h1;exact nB h1
  rcases c9.mp hf with hf | hf
  ·obtain⟨r,hr,hf⟩:=gN.mp hf;obtain⟨j',hj',e'⟩:=bF.mp hf;have hl:(decide ((n:Int)=0)&&iM R2 x j)=true:=by
    unfold kF at e';injection e' with e1 e2
    injection e2 with e2 e3
    injection e3 with e3 _
    injection e1 with e1
    injection e2 with e2
    injection e3 with e3
    have hfk:=qz R2 r hn hr;have hj2:j'=j:=by lia
    subst hj2;rw[<-e2];unfold iM;rw[hfk,dm (show(n:Int)=0 by lia),Bool.true_and]
    have:=d9.mp hj';unfold C3 at this;show(if iw r.2=true then decide (j'=0)else decide (j'<(lv (cy r.2)).length))=true
    split
    ·rename_i hh;rw[if_pos hh]at this;exact dm (by lia)
    ·rename_i hh;rw[if_neg hh]at this;exact dm this
   exact hb true (.inr hl) (.inr hl)
  ·obtain⟨c0,Uc,hf⟩:=gN.mp hf;have SN:=hcs c0 Uc;obtain⟨q,hq⟩:∃q,as[c0]?=some q:=⟨_,cJ (by lia)⟩
   obtain⟨l,hl⟩:∃l,ls[c0]?=some l:=⟨_,cJ (by rw[H.len];exact SN)⟩
   have ec:cF as ls c0=Ra q.2 l:=by unfold cF;rw[hq,hl]
   rw[ec]at hf;have hlf:JG n x j q.2 l=true:=by
    unfold Ra VN at hf;split at hf
    ·rename_i hw;obtain⟨n',Te,hf⟩:=gN.mp hf;obtain⟨j',hj',e'⟩:=bF.mp hf;unfold kF at e';injection e' with e1 e2
     injection e2 with e2 e3
     injection e3 with e3 _
     injection e1 with e1
     injection e2 with e2
     injection e3 with e3
     have h1:n'=n:=by lia
     have h2:j=q.2.f.toNat+j':=by lia
     have h3:=d9.mp hj';subst h1;unfold JG;rw[hw,e2,pT,dm (show q.2.f.toNat<=j by lia),dm (show j<q.2.f.toNat+q.2.m.toNat by lia),dm Te]
     rfl
    ·cases hf
   refine hb true (.inl ?_) (.inl rfl);exact bT (dN (cA (b2 (x:=.aq (told.map toldP)) (y:=.int (i:Int)) rfl rfl vn) (cA rfl (cA rfl (cA rfl rfl)))) rfl (JH (k+1) n x j c hA hN H.len hcs Uc hq hl hlf) rfl)
 ·obtain⟨n',x',j',Te,OX,hj',rfl⟩:=nW.mp (hU (g,d) (cQ z3));obtain⟨q,hq⟩:∃q,as[n']?=some q:=⟨_,cJ (by lia)⟩
  obtain⟨l,hl⟩:∃l,ls[n']?=some l:=⟨_,cJ (by rw[H.len];exact Te)⟩
  have ok:=hA q (cQ hq);have ho:=Hr kk hq hl ok (H.ok l (cQ hl)).1 x' j';rw[z4]at ho;cases ho;have DQ:Fx q.2 q.2.f.toNat q.2.m.toNat x' j'=false/\x'=x/\j'=j/\n∈l:=by
   unfold ZJ VO at z5;split at z5
   ·cases z5
   ·rename_i hb;obtain⟨m,YB,e'⟩:=bF.mp z5;unfold kF at e';injection e' with e1 e2
    injection e2 with e2 e3
    injection e3 with e3 _
    injection e1 with e1
    injection e2 with e2
    injection e3 with e3
    have h1:m=n:=by lia
    subst h1;exact⟨by simpa using hb,e2,by lia,YB⟩
  obtain⟨w1,rfl,rfl,w4⟩:=DQ;have aes:=told_at z3;refine⟨.val (iN n),.val (.str x'),.val (iN j'),.val (.int c),CM,.val (J4 n' x' j' d),sq a0 (sq a1 (iF (hm.trans (by rw[eZ (by lia)])) (sq (aS (b2 (x:=.aq (told.map toldP)) (y:=.int c) rfl rfl (by rw[z2];exact aes)) rfl) (sq (iF ?_ rfl) (iF ?_ rfl)))))⟩
  ·refine Rb (bT (b2 (x:=.str x') (y:=.str x') rfl rfl ?_)) (Rb (bT (b2 (x:=.int (j':Int)) (y:=.int (j':Int)) rfl rfl ?_)) (bT (b2 (x:=iN n) (y:=nT l) rfl (b2 (x:=.aq (ls.map nT)) (y:=.int (n':Int)) rfl rfl (da (v:=nT l) (by rw[cu,hl];rfl))) ((Hs true n l).trans ?_))))
   ·rw[rY,pT];rfl
   ·rw[QS,dm rfl];rfl
   ·rw[if_pos rfl,dm w4];rfl
  ·refine bT ((dN (cA (b2 (x:=.aq (as.map eN)) (y:=.int (n':Int)) rfl rfl (da (v:=eN q) (by rw[cu,hq];rfl))) (cA rfl (cA rfl rfl))) rfl (Q9 (k+1) q.1 ok.at_ x' j') rfl).trans ?_)
   rw[w1]
theorem CN(k kk:Nat)(hk:3<=k)(hP:atI fs 1=some (xb nm res body R1 R2))(hR:∀r∈R2,qY (cy r.2))(hn:(R2.map (·.1)).Nodup)(hA:∀q∈as,q9 X Bd q.2)(H:Fu ls N)(hN:as.length=N)(hcs:∀c∈cs,c<N)
  (hU:∀t∈told,t.1∈kU N X Bd) (hW:M9 (mK kk as ls) (mM R2++cs.flatMap (cF as ls)) told):∀(L:List Nat),(∀i∈L,i<told.length)->∀(x7 x8 x9 NF NG CM zT:Ent),
  ∃y7 y8 y9 SO SQ SR SS,fy (aj 7) (ph (run bt (k+2))) (L.map fun(i:Nat)=>.int (0+(i:Int))) (LS S W fs as ls cs told x7 x8 x9 NF NG CM zT)=some (.nx (LS S W fs as ls cs told y7 y8 y9 SO SQ SR SS))
 | [],_,x7,x8,x9,NF,NG,CM,zT=>⟨x7,x8,x9,NF,NG,CM,zT,rfl⟩
 | i::L,hL,x7,x8,x9,NF,NG,CM,zT=>by
  obtain⟨y8,y9,SO,SQ,SR,SS,e⟩:=NH (S:=S) (W:=W) k kk hk hP hR hn hA H hN hcs hU hW i (hL i cq) x8 x9 NF NG CM zT;obtain⟨z7,z8,z9,z10,z11,z12,z13,e2⟩:=CN k kk hk hP hR hn hA H hN hcs hU hW L (fun m hm=>hL m (cn _ hm)) (.val (iN i)) y8 y9 SO SQ SR SS
  refine⟨z7,z8,z9,z10,z11,z12,z13,?_⟩;rw[bK,show(PV.int (0+(i:Int)))=iN i by rw[lG];rfl]
  exact fC (fX:=LS S W fs as ls cs told (.val (iN i)) x8 x9 NF NG CM zT) rfl e e2
end
structure rb (n j:Nat) (p:PV):Prop where
 ok:∃s,aF p (.int 0)=some (.str s)/\((s==(Str.ofString "go"))=true->∃m:Nat,aF p (.int 1)=some (iN m)/\m<n)/\((s==(Str.ofString "if"))=true->∃m:Nat,aF p (.int 3)=some (iN m)/\m<n)/\((s==(Str.ofString "give"))=false->(s==(Str.ofString "go"))=false->j+1<n)
def two(a b:Int):List Int:=if b<a then [b,a]else if a<b then [a,b]else [a]
theorem NI(a b:Int):gT (qh (fun i=>[a,b].getD i 0) 2)=two a b:=by
 have e:qh (fun i=>[a,b].getD i 0) 2=if b=a then [a]else [a,b]:=by
  show m7 (m7 [] a) b=_;unfold m7;by_cases h:b=a
  ·simp[h]
  ·simp[h]
 rw[e];unfold two;by_cases h1:b<a
 ·rw[if_pos h1,if_neg (by lia)]
  show(if a<=b then [a,b]else [b,a])=_
  rw[if_neg (by lia)]
 ·rw[if_neg h1];by_cases h2:a<b
  ·rw[if_pos h2,if_neg (by lia)]
   show(if a<=b then [a,b]else [b,a])=_
   rw[if_pos (by lia)]
  ·rw[if_neg h2,if_pos (by lia)]
   rfl
def FC(a b:Nat):List Nat:=if b<a then [b,a]else if a<b then [a,b]else [a]
theorem ZL(a b:Nat):two (a:Int) (b:Int)=(FC a b).map fun n:Nat=>(n:Int):=by
 unfold two FC;by_cases h1:b<a
 ·rw[if_pos (by lia),if_pos h1];rfl
 ·rw[if_neg (by lia),if_neg h1]
  by_cases h2:a<b
  ·rw[if_pos (by lia),if_pos h2];rfl
  ·rw[if_neg (by lia),if_neg h2];rfl
theorem JI(k:Nat){R:az}{n:Nat}(hn:n<=60)(hR:R.length=n)(h:∀(j:Nat) (p:PV),R[j]?=some p->rb n j p)(i:Nat)(hi:i<n):∃l:List Nat,run bt (k+1) "row_nexts" [.aA R,.int (i:Int)]=some (.val (nT l))/\l.length<=2/\∀m∈l,m<n:=by
 obtain⟨p,hp⟩:∃p,R[i]?=some p:=⟨_,cJ (by lia)⟩
 have ha:atI R (i:Int)=some p:=da hp;obtain⟨s,h0,hgo,hif,hot⟩:=(h i p hp).ok;rw[j8,aR];have a1:bj (ab (rd 0) (rd 1) aF) (aj 2) [.val (.aA R),.val (.int (i:Int)),.un]=some (.nx [.val (.aA R),.val (.int (i:Int)),.val p]):=aS (b2 (x:=.aA R) (y:=.int (i:Int)) rfl rfl ha) rfl;have w:=fun v:Str=>(bT (b2 (b2 (x:=p) (y:=.int 0) rfl rfl h0) rfl cU):toB (ab (ab (rd 2) (kI 0) aF) (kS v) dS) [.val (.aA R),.val (.int (i:Int)),.val p]=some (s==v))
 have wg:=w "give";have wo:=w "go";have wi:=w "if"
 have k1:ab (rd 1) (kI 1) bZ [.val (.aA R),.val (.int (i:Int)),.val p]=some (iN (i+1)):=b2 rfl rfl js;cases qg:(s==(Str.ofString "give"))with
 | true =>
  rw[qg]at wg;exact⟨[],dk (sq a1 (jB (iT wg (rS rfl)))),by simp,fun _ z=>nomatch z⟩
 | false =>
  rw[qg]at wg;cases qo:(s==(Str.ofString "go"))with
  | true =>
   rw[qo]at wo;obtain⟨m,hm,hmn⟩:=hgo qo;have x1:ab (rd 2) (kI 1) aF [.val (.aA R),.val (.int (i:Int)),.val p]=some (iN m):=b2 (x:=p) rfl rfl hm;refine⟨[m],dk (sq a1 (sq (iF wg rfl) (jB (iT wo (rS (tU (ps:=[iN m]) (cA x1 rfl) (by simp))))))),by simp,fun q hq=>?_⟩
   rw[cW]at hq
   lia
  | false =>
   rw[qo]at wo;have hj:=hot qg qo;cases qi:(s==(Str.ofString "if"))with
   | true =>
    rw[qi]at wi;obtain⟨m,hm,hmn⟩:=hif qi;have x3:ab (rd 2) (kI 3) aF [.val (.aA R),.val (.int (i:Int)),.val p]=some (iN m):=b2 (x:=p) rfl rfl hm;have hs:Mf (aa (ab (rd 1) (kI 1) bZ) (aa (ab (rd 2) (kI 3) aF) ah)) [.val (.aA R),.val (.int (i:Int)),.val p]=some (.aq ((FC (i+1) m).map iN)):=by
     unfold Mf;rw[cA k1 (cA x3 rfl),aY,show iD [iN (i+1),iN m]=some [((i+1:Nat):Int),(m:Int)]from rfl,aY]
     rw[if_pos ⟨by simp,by
      simp only[jV,List.all_nil,Bool.and_true,aZ,kB];exact⟨by lia,by lia⟩⟩]
     rw[show [((i+1:Nat):Int),(m:Int)].length=2 from rfl,NI,ZL,eK]
     rfl
    refine⟨FC (i+1) m,dk (sq a1 (sq (iF wg rfl) (sq (iF wo rfl) (jB (iT wi (rS (bV (as:=[.aq ((FC (i+1) m).map iN)]) (cA hs rfl) rfl))))))),?_,fun q hq=>?_⟩
    ·unfold FC;split
     ·simp
     ·split<;>simp
    ·unfold FC at hq;split at hq
     ·simp at hq;lia
     ·split at hq
      ·simp at hq;lia
      ·simp at hq;lia
   | false =>
    rw[qi]at wi;refine⟨[i+1],dk (sq a1 (sq (iF wg rfl) (sq (iF wo rfl) (sq (iF wi rfl) (rS (tU (ps:=[iN (i+1)]) (cA k1 rfl) (by simp))))))),by simp,fun q hq=>?_⟩
    rw[cW]at hq
    lia
theorem Rc{R:az}{n:Nat}(hn:n<=60)(hR:R.length=n)(h:∀(j:Nat) (p:PV),R[j]?=some p->rb n j p):∃nx:Nat->List Nat,∀k,zR (run bt (k+1)) (.aA R) n nx:=by
 have e:∀i:Nat,∃l:List Nat,i<n->run bt (0+1) "row_nexts" [.aA R,.int (i:Int)]=some (.val (nT l))/\l.length<=2/\∀m∈l,m<n:=fun i=>by
  by_cases hi:i<n
  ·obtain⟨l,hl⟩:=JI 0 hn hR h i hi;exact⟨l,fun _=>hl⟩
  ·exact⟨[],fun z=>absurd z hi⟩
 obtain⟨nx,hx⟩:=Classical.axiomOfChoice e;refine⟨nx,fun k j hj=>?_⟩
 have s:run bt (k+1) "row_nexts" [.aA R,.int (j:Int)]=run bt (0+1) "row_nexts" [.aA R,.int (j:Int)]:=by
  rw[j8,j8];rfl
 rw[s];exact hx j hj
structure VP (X:List Str) (Bd:Nat) (fs:az) (nm res:PV) (R1 R2:List Rk) (L:List (PV×List dO)):Prop where
 at_:atI fs 1=some (xb nm res (.aA (L.map (·.1))) R1 R2)
 made:∀K,12<=K->∀q∈L,Jx (run bt K) (xb nm res (.aA (L.map (·.1))) R1 R2) q.1 q.2
 pos:0<L.length
 few:L.length<=20
 six:∀q∈L,q.2.length<=6
 row:∀(j:Nat) (p:PV),(L.map (·.1))[j]?=some p->rb L.length j p
 lets:∀r∈R2,qY (cy r.2)/\C3 r.2<=Bd/\r.1∈X
 nd:(R2.map (·.1)).Nodup
 len:R2.length<=100
 acts:∀q∈L,∀a∈eW q.2,q9 X Bd a
 bd:Bd<=10
 all:6*L.length*(X.length*Bd)<5000
theorem CP:∀(L:List (List dO)) (i:Nat),(∀a∈L,a.length<=6)->(fw i L).length<=6*L.length/\L.length<=(fw i L).length
 | [],i,_=>by simp[fw]
 | as::L,i,h=>by
  have h1:=h as cq;have h2:=CP L (i+1) fun a ha=>h a (cn _ ha)
  have hor:(eW as).length<=6/\1<=(eW as).length:=by
   cases as with
   | nil=>simp[eW]
   | cons a r=>exact⟨h1,by simp[eW]⟩
  simp only[fw,bU,aE,bA]
  lia
theorem CQ:∀(L:List (List dO)) (i:Nat),∀q∈fw i L,∃as∈L,q.2∈eW as
 | [],_,_,h=>nomatch h
 | as::L,i,q,h=>by
  rw[fw,c9]at h;rcases h with h | h
  ·obtain⟨a,ha,rfl⟩:=bF.mp h;exact⟨as,cq,ha⟩
  ·obtain⟨bs,hb,hq⟩:=CQ L (i+1) q h;exact⟨bs,cn _ hb,hq⟩
theorem VQ(k:Nat)(hk:20<=k)(ns:List Int){X:List Str}{Bd:Nat}{fs:az}{nm res:PV}{R1 R2:List Rk}{L:List (PV×List dO)}
  (hM:run bt k "_law_program" [y0 ns,.int 16,.aq ((["put","set","fill","copy","move","move","drop","drop","lend","lend","call","call","if","if","go","say","put","give"]:List Str).map .str)]=some (.val (.aA fs))) (P:VP X Bd fs nm res R1 R2 L):run bt (k+1) "law" [y0 ns]=some (.val (.bl true)):=by
 obtain⟨k,rfl⟩:∃m,k=m+10:=⟨k-10,by lia⟩
 have dQ:((L.map (·.2)).length)=L.length:=aE ..;obtain⟨n1,n2⟩:=CP (L.map (·.2)) 0 fun a ha=>by
  obtain⟨q,hq,rfl⟩:=bF.mp ha;exact P.six q hq
 rw[dQ]at n1 n2;have hp:=P.pos;have hf:=P.few;obtain⟨nx,ZK⟩:=Rc (R:=L.map (·.1)) (n:=L.length) (by lia) (aE ..) P.row
 have NJ:∀m,13<=m->run bt m "acts" [.aA fs,.int 1]=some (.own (zN 0 (L.map (·.2)))):=fun m hm=>by
  obtain⟨m,rfl⟩:∃q,m=q+1:=⟨m-1,by lia⟩
  exact VI m P.at_ rfl (P.made m (by lia)) (by lia)
 have zU:∀m,14<=m->run bt m "nexts" [.aA fs,.int 1]=some (.own ((iZ (L.map (·.2)) nx).map nT))/\Fu (iZ (L.map (·.2)) nx) (fw 0 (L.map (·.2))).length:=fun m hm=>by
  obtain⟨m,rfl⟩:∃q,m=q+2:=⟨m-2,by lia⟩
  obtain⟨h1,h2,h3⟩:=Q5 (m+1) P.at_ (NJ (m+1) (by lia)) (by rw[dQ];exact ZK m) (by lia)
  exact⟨h1,⟨h2,h3,by lia,by lia⟩⟩
 have H:=(zU 14 (by lia)).2
 have hA:∀q∈fw 0 (L.map (·.2)),q9 X Bd q.2:=fun q hq=>by
  obtain⟨as,ha,hq⟩:=CQ _ 0 q hq;obtain⟨p,hp,rfl⟩:=bF.mp ha;exact P.acts p hp q.2 hq
 obtain⟨_,ms,cs,hct,hso,rA,VR,hin,_⟩:=JB H;have SU:∀m,15<=m->run bt m "come_to" [.aA fs,.int 1]=some (.val (.aq (cs.map iN))):=fun m hm=>by
  obtain⟨m,rfl⟩:∃q,m=q+2:=⟨m-2,by lia⟩
  exact hct m _ _ _ (zU (m+1) (by lia)).1 rfl
 have hcs:∀c∈cs,c<(fw 0 (L.map (·.2))).length:=fun c hc=>hin c ((rA c).mp hc)
 have hcl:cs.length<128:=by
  have e:=di List.length hso;rw[aE,(gw _).length_eq,aE]at e;have:=kq ms (List.range (fw 0 (L.map (·.2))).length) VR fun n hn=>d9.mpr (hin n hn)
  rw[pS]at this
  lia
 have p5:(fw 0 (L.map (·.2))).length*(X.length*Bd)<5000:=kA (Nat.mul_le_mul_right _ n1) P.all;obtain⟨told,t1,t2,t3,_,t5,_⟩:=JF (as:=fw 0 (L.map (·.2))) (k+6) (by lia) P.at_ (fun r hr=>(P.lets r hr).1) P.len (fun r hr=>⟨(P.lets r hr).2.2,(P.lets r hr).2.1⟩) (by rw[<-pz];exact NJ (k+6+3) (by lia)) (zU (k+6+3) (by lia)).1 (SU (k+6+3) (by lia)) hA H rfl P.bd p5 hcs hcl
 have htl:told.length<5000:=by
  have:=kq (told.map (·.1)) (kU (fw 0 (L.map (·.2))).length X Bd) t5 fun f hf=>by
   obtain⟨t,ht,rfl⟩:=bF.mp hf;exact t2 t ht
  rw[aE,FA]at this
  lia
 have hac:=NJ (k+10) (by lia)
 rw[pz]at hac;obtain⟨y7,y8,y9,SO,SQ,SR,SS,e⟩:=CN (S:=y0 ns) (W:=.aq ((["put","set","fill","copy","move","move","drop","drop","lend","lend","call","call"]:List Str).map .str)) (k+8) (k+6) (by lia) P.at_ (fun r hr=>(P.lets r hr).1) P.nd hA H rfl hcs t2 t3 (List.range told.length) (fun i hi=>d9.mp hi) .un .un .un .un .un .un .un
 have e':fy (aj 7) (ph (run bt (k+10))) ((List.range (told.length:Int).toNat).map fun(i:Nat)=>PV.int (0+(i:Int))) (LS (y0 ns) (.aq ((["put","set","fill","copy","move","move","drop","drop","lend","lend","call","call"]:List Str).map .str)) fs (fw 0 (L.map (·.2))) (iZ (L.map (·.2)) nx) cs told .un .un .un .un .un .un .un)=some (.nx (LS (y0 ns) (.aq ((["put","set","fill","copy","move","move","drop","drop","lend","lend","call","call"]:List Str).map .str)) fs (fw 0 (L.map (·.2))) (iZ (L.map (·.2)) nx) cs told y7 y8 y9 SO SQ SR SS)):=by
  rw[gM];exact e
 have hr:ip (aa (cf cZ (aa (rd 6) ah)) ah) (LS (y0 ns) (.aq ((["put","set","fill","copy","move","move","drop","drop","lend","lend","call","call"]:List Str).map .str)) fs (fw 0 (L.map (·.2))) (iZ (L.map (·.2)) nx) cs told .un .un .un .un .un .un .un)=some ((List.range (told.length:Int).toNat).map fun(i:Nat)=>PV.int (0+(i:Int))):=iW (j:=(told.length:Int)) (cA (bV (as:=[.aq (told.map toldP)]) (cA rfl rfl) (by rw[uJ,aE])) rfl) (by lia)
 rw[QZ,aR];exact dk (sq (aS (p:=.aq ((["put","set","fill","copy","move","move","drop","drop","lend","lend","call","call"]:List Str).map .str)) rfl rfl) (sq (aS (dN (cA rfl (cA rfl (cA (b2 rfl rfl (aL (by simp))) rfl))) rfl hM rfl) rfl) (sq (aS (dN (cA rfl (cA rfl rfl)) rfl hac rfl) rfl) (sq (aS (dN (cA rfl (cA rfl rfl)) rfl (zU (k+10) (by lia)).1 rfl) rfl) (sq (aS (dN (cA rfl (cA rfl rfl)) rfl (SU (k+10) (by lia)) rfl) rfl) (sq (aS (dN (cA rfl (cA rfl rfl)) rfl t1 rfl) rfl) (sq (fO:=LS (y0 ns) (.aq ((["put","set","fill","copy","move","move","drop","drop","lend","lend","call","call"]:List Str).map .str)) fs (fw 0 (L.map (fun q:PV×List dO=>q.2))) (iZ (L.map (fun q:PV×List dO=>q.2)) nx) cs told y7 y8 y9 SO SQ SR SS) (fS hr e') (rS rfl))))))))
def mxA:Nat->Int×Int
 | 0=>(48271,2147483647)
 | 1=>(69621,998244353)
 | 2=>(40692,1000000007)
 | _=>(16807,2147483629)
def JJ(c:Int)(i:Nat):Int:=(c%1000000000039+(i:Int))*(mxA i).1%(mxA i).2
theorem pC(k:Nat)(c:Int){i:Nat}(hi:i<4):run bt (k+1) "_law_mixed" [.int c,.int (i:Int)]=some (.val (.int (JJ c i))):=by
 rw[E6,aR];have h0:=lE c (show(1000000000039:Int)≠0 by decide)
 have h1:=sx c (show(0:Int)<1000000000039 by decide)
 have hm:cw (.int c) (.int 1000000000039)=some (.int (c%1000000000039)):=dJ (by decide)
 match i,hi with
 | 0,_=>exact dk (sq (aS (p:=.aA [.int 48271,.int 2147483647]) rfl rfl) (rS (b2 (b2 (b2 (b2 rfl rfl hm) rfl rfl) rfl (l9 (by decide))) rfl (dJ (by decide)))))
 | 1,_=>exact dk (sq (aS (p:=.aA [.int 69621,.int 998244353]) rfl rfl) (rS (b2 (b2 (b2 (b2 rfl rfl hm) rfl rfl) rfl (l9 (by decide))) rfl (dJ (by decide)))))
 | 2,_=>exact dk (sq (aS (p:=.aA [.int 40692,.int 1000000007]) rfl rfl) (rS (b2 (b2 (b2 (b2 rfl rfl hm) rfl rfl) rfl (l9 (by decide))) rfl (dJ (by decide)))))
 | 3,_=>exact dk (sq (aS (p:=.aA [.int 16807,.int 2147483629]) rfl rfl) (rS (b2 (b2 (b2 (b2 rfl rfl hm) rfl rfl) rfl (l9 (by decide))) rfl (dJ (by decide)))))
 | n+4,h=>lia
abbrev CS:PV:=.str "abcdefghijklmnopqrstuvwxyz"
def VS(B:List Int)(pl q i:Nat):Nat:=cp (B.getD i 0+(q:Int)*(if i=pl then 1 else 0))
def Hu(B:List Int)(pl q:Nat):Str:=gW ((List.range B.length).map (VS B pl q))
section
variable (c:gv) (x0 x1:Ent) (B:List Int) (pl q:Nat)
theorem CU(F:az)(i:Nat)(hi:i<B.length)(N:List Nat)(hN:N.length<=100)(hq:q<=100):kX c [x0,x1,.val CS,.val (iN B.length),.val (iN pl),.val (iN i),.val (.aq (B.map .int)),.own F,.val (iN q),.val (.str (gW N))]=some (.nx [x0,x1,.val CS,.val (iN B.length),.val (iN pl),.val (iN i),.val (.aq (B.map .int)),.own F,.val (iN q),.val (.str (gW (N++[VS B pl q i])))]):=by
 unfold kX;have hb:atI (B.map PV.int) (i:Int)=some (.int (B.getD i 0)):=da (by rw[cu,C4,cJ hi];rfl)
 have he:yB [.bl (decide ((i:Int)=(pl:Int)))]=some (.int (if i=pl then 1 else 0)):=by
  by_cases h:i=pl
  ·rw[dm (by lia),if_pos h];rfl
  ·rw[eZ (by lia),if_neg h];rfl
 have hm:km (.int (q:Int)) (.int (if i=pl then 1 else 0))=some (.int ((q:Int)*(if i=pl then 1 else 0))):=l9 (by split<;>decide)
 have hs:bZ (.str (gW N)) (.str (lt (B.getD i 0+(q:Int)*(if i=pl then 1 else 0))))=some (.str (gW (N++[VS B pl q i]))):=by
  rw[Nn,ZD,EV,Hc,Hc,qm (m9 (by simp;lia))]
  rfl
 refine aS (b2 (x:=.str (gW N)) rfl (b2 (x:=CS) rfl (b2 (b2 (b2 (x:=.aq (B.map .int)) (y:=.int (i:Int)) rfl rfl hb) (b2 (x:=.int (q:Int)) rfl (bV (cA (b2 (x:=.int (i:Int)) (y:=.int (pl:Int)) rfl rfl iU) rfl) he) hm) js) rfl (dJ (by decide))) (IX _)) hs) rfl
theorem rf(F:az)(hq:q<=100):∀(C2 pre:List Nat) (x5:Ent),List.range B.length=pre++C2->B.length<=50->∃Ct,fy (aj 5) (kX c) (C2.map fun(i:Nat)=>PV.int (0+(i:Int))) [x0,x1,.val CS,.val (iN B.length),.val (iN pl),x5,.val (.aq (B.map .int)),.own F,.val (iN q),.val (.str (gW (pre.map (VS B pl q))))]=some (.nx [x0,x1,.val CS,.val (iN B.length),.val (iN pl),Ct,.val (.aq (B.map .int)),.own F,.val (iN q),.val (.str (Hu B pl q))])
 | [],pre,x5,e,_=>⟨x5,by unfold Hu;rw[e,iP];rfl⟩
 | i::C2,pre,x5,e,hl=>by
  have hi:i<B.length:=d9.mp (by rw[e];simp)
  have hp:pre.length<=B.length:=by
   have:=di List.length e;rw[pS,bU]at this
   lia
  have hb:=CU c x0 x1 B pl q F i hi (pre.map (VS B pl q)) (by rw[aE];lia) hq
  obtain⟨Ct,h⟩:=rf F hq C2 (pre++[i]) (.val (iN i)) (by rw[e];simp) hl
  rw[c8]at h;refine⟨Ct,?_⟩;rw[bK,lG];exact fC rfl hb h
theorem JK(F:az)(hF:F.length<=100)(hq:q<=100)(hl:B.length<=50)(x5 x9:Ent):∃Ct,kY c [x0,x1,.val CS,.val (iN B.length),.val (iN pl),x5,.val (.aq (B.map .int)),.own F,.val (iN q),x9]=some (.nx [x0,x1,.val CS,.val (iN B.length),.val (iN pl),Ct,.val (.aq (B.map .int)),.own (F++[.str (Hu B pl q)]),.val (iN q),.val (.str (Hu B pl q))]):=by
 obtain⟨Ct,h⟩:=rf c x0 x1 B pl q F hq (List.range B.length) [] x5 rfl hl;refine⟨Ct,?_⟩;unfold kY;have e0:bj (kS "") (aj 9) [x0,x1,.val CS,.val (iN B.length),.val (iN pl),x5,.val (.aq (B.map .int)),.own F,.val (iN q),x9]=some (.nx [x0,x1,.val CS,.val (iN B.length),.val (iN pl),x5,.val (.aq (B.map .int)),.own F,.val (iN q),.val (.str (gW []))]):=by
  rw[<-Hb];rfl
 have hr:ip (aa (rd 3) ah) [x0,x1,.val CS,.val (iN B.length),.val (iN pl),x5,.val (.aq (B.map .int)),.own F,.val (iN q),.val (.str (gW []))]=some ((List.range B.length).map fun(i:Nat)=>PV.int (0+(i:Int))):=by
  rw[iW (j:=(B.length:Int)) rfl (by lia),gM]
 exact sq e0 (sq (fS hr h) (mA (ps:=F) rfl rfl (by lia)))
end
theorem vc(c:gv)(x0 x1:Ent)(B:List Int)(pl:Nat)(hl:B.length<=50):∀(qs:List Nat) (F:az) (x5 x8 x9:Ent),(∀q∈qs,q<=100)->F.length+qs.length<=100->∃Ct x8' x9',fy (aj 8) (kY c) (qs.map fun(i:Nat)=>PV.int (0+(i:Int))) [x0,x1,.val CS,.val (iN B.length),.val (iN pl),x5,.val (.aq (B.map .int)),.own F,x8,x9]=some (.nx [x0,x1,.val CS,.val (iN B.length),.val (iN pl),Ct,.val (.aq (B.map .int)),.own (F++qs.map fun q=>PV.str (Hu B pl q)),x8',x9'])
 | [],F,x5,x8,x9,_,_=>⟨x5,x8,x9,by simp⟩
 | q::qs,F,x5,x8,x9,hq,hz=>by
  rw[bA]at hz;obtain⟨y5,h⟩:=JK c x0 x1 B pl q F (by lia) (hq q cq) hl x5 x9
  obtain⟨z5,z8,z9,h2⟩:=vc c x0 x1 B pl hl qs (F++[.str (Hu B pl q)]) y5 (.val (iN q)) (.val (.str (Hu B pl q))) (fun r hr=>hq r (cn _ hr)) (by simp;lia)
  refine⟨z5,z8,z9,?_⟩;rw[bK,lG,bK,show F++PV.str (Hu B pl q)::qs.map (fun q=>PV.str (Hu B pl q))=F++[PV.str (Hu B pl q)]++qs.map (fun q=>PV.str (Hu B pl q)) by simp]
  exact fC rfl h h2
theorem Rf{B:List Int}{pl q q':Nat}(hp:pl<B.length)(h1:q<26)(h2:q'<26)(h:Hu B pl q=Hu B pl q'):q=q':=by
 have h:=w9 h;have at_:∀q:Nat,((List.range B.length).map (VS B pl q))[pl]?=some (cp (B.getD pl 0+(q:Int))):=fun q=>by
  rw[cu,sv hp];simp[VS]
 have e:=di (fun l=>l[pl]?) h
 simp only[at_]at e;have:=VC (bW e)
 lia
mutual
theorem Hv:∀(s:Sh),∀r∈tab s,0<=r.2.1/\0<=r.2.2.1/\r.2.1+r.2.2.1<=((lv s).length:Int)
 | .num,r,h=>by simp only[tab,cW]at h;subst h;simp[lv]
 | .own,r,h=>by simp only[tab,cW]at h;subst h;simp[lv]
 | .du n,r,h=>by simp only[tab,cW]at h;subst h;simp[lv]
 | .bO ps,r,h=>by
  simp only[tab,bB]at h;rcases h with h | h
  ·subst h;simp[lv]
  ·have:=CV ps 0 0 r h (by lia)
   simp only[lv]
   lia
theorem CV:∀(l:List Sh) (k:Nat) (a:Int),∀r∈tabs k a l,0<=a->0<=r.2.1/\0<=r.2.2.1/\r.2.1+r.2.2.1<=a+((jc l).length:Int)
 | [],_,_,_,h,_=>nomatch h
 | s::l,k,a,r,h,ha=>by
  rw[Cu,c9]at h;simp only[jc,bU];rcases h with h | h
  ·obtain⟨q,hq,rfl⟩:=bF.mp h;have:=Hv s q hq;simp only[ng]
   lia
  ·have:=CV l (k+1) (a+sz s) r h (by simp only[sz];lia)
   simp only[sz]at this
   lia
end
structure r9 (ks:List Rk):Prop where
 nd:(ks.map (·.1)).Nodup
 good:∀q∈ks,Hm (cy q.2)/\(lv (cy q.2)).length<=3
 few:ks.length<=10
 ne:∀q∈ks,(q.1==(Str.ofString ""))=false
theorem r9.ok{ks:List Rk}(K:r9 ks):Wz ks:=fun q hq=>(K.good q hq).1.1
abbrev FD(ks:List Rk):List Str:=ks.map (·.1)
structure lu (ks:List Rk) (M:Nat) (p:PV) (as:List dO):Prop where
 made:∀F K,zJ (run bt) F ks->12<=K->Jx (run bt K) F p as
 six:as.length<=6
 nx:∀j,j+1<M->rb M j p
 ok:∀a∈as,q9 (FD ks) 3 a
section
variable {ks:List Rk}
theorem Hw{F p:PV}{as:List dO}{w fn:Str}{rest:az}{c:gv}(hp:p=.aA (.str w::rest))(h1:jv.lookup w=some fn)(h2:Nb.lookup fn=some 2)(h6:as.length<=6)(h:∃e,c fn [F,p]=some e/\oC e=some (gY as)):Jx c F p as:=⟨⟨w,fn,rest,hp,h1,h2,h⟩,by lia⟩
theorem ll{M:Nat}{w:Str}{rest:az}(h1:(w==(Str.ofString "go"))=false)(h2:(w==(Str.ofString "if"))=false):∀j,j+1<M->rb M j (.aA (.str w::rest)):=fun j hj=>⟨w,M4,(fun z=>by rw[h1]at z;cases z),(fun z=>by rw[h2]at z;cases z),fun _ _=>hj⟩
theorem xm(K:r9 ks)(w:Str){x:Str}{d:Kd}(hx:(x,d)∈ks){r:Rw}(hr:r∈tab (cy d))(t:Str):q9 (FD ks) 3 (tA w x d r t):=by
 obtain⟨g1,g2,g3⟩:=Hv _ r hr;have g4:=(K.good _ hx).2;simp only at g4;refine⟨⟨?_,?_,?_⟩,fun _=>⟨bF.mpr ⟨_,hx,rfl⟩,?_⟩⟩
 ·show r.2.1=((r.2.1.toNat:Nat):Int);lia
 ·show r.2.2.1=((r.2.2.1.toNat:Nat):Int);lia
 ·show r.2.1.toNat+r.2.2.1.toNat<=1000;lia
 ·show r.2.1.toNat+r.2.2.1.toNat<=3;lia
theorem k9(K:r9 ks)(w:Str){s:Sp}(hs:fu ks s)(t:Str):q9 (FD ks) 3 (Co w s t):=xm K w hs.mem hs.row t
theorem NK(a:PV):∀q∈SJ a,q9 (FD ks) 3 q:=fun q hq=>by
 unfold SJ at hq;split at hq
 ·rw[cW]at hq;subst hq;exact⟨⟨rfl,rfl,xw rfl⟩,fun z=>absurd (show(Str.ofString _==Str.ofString _)=true from z) (by decide +kernel)⟩
 ·cases hq
theorem vd(K:r9 ks){o:Op}(ho:nV ks o):∀q∈vo o,q9 (FD ks) 3 q:=fun q hq=>by
 cases o with
 | n i=>cases hq
 | s s =>
  rcases c9.mp hq with h | h
  ·exact NK _ q h
  ·rw[cW]at h;subst h;exact k9 K _ ho _
theorem NL(K:r9 ks){s:Sp}(hs:fu ks s):∀q∈Ju s,q9 (FD ks) 3 q:=fun q hq=>by
 unfold Ju at hq;split at hq
 ·rw[cW]at hq;subst hq;exact k9 K _ hs _
 ·rcases c9.mp hq with h | h
  ·exact NK _ q h
  ·rw[cW]at h;subst h;exact k9 K _ hs _
theorem VT(K:r9 ks){r:Rk}(hr:r∈ks)(t:Str):q9 (FD ks) 3 (tkA r.1 r.2 t):=by
 obtain⟨x,d⟩:=r;cases d with
 | ow s=>exact xm K _ hr (jx s) _
 | ho b s=>exact xm K _ hr (jx s) _
theorem VU(K:r9 ks){r:Rk}(hr:r∈ks):q9 (FD ks) 3 (gvA r.1 r.2):=by
 obtain⟨x,d⟩:=r;cases d with
 | ow s=>exact xm K _ hr (jx s) _
 | ho b s=>exact xm K _ hr (jx s) _
theorem NO:q9 (FD ks) 3 Nt:=⟨⟨rfl,rfl,xw rfl⟩,fun z=>absurd (show(Str.ofString _==Str.ofString _)=true from z) (by decide +kernel)⟩
theorem JL{as:List dO}(h:∀a∈as,q9 (FD ks) 3 a):∀a∈eW as,q9 (FD ks) 3 a:=fun a ha=>by
 cases as with
 | nil =>
  simp only[eW,cW]at ha;subst ha;exact NO
 | cons b l=>exact h a ha
theorem Hx(K:r9 ks):∀(l:List Rk) (i:Nat),(∀r∈l,r∈ks)->∀q∈iL i l,q9 (FD ks) 3 q
 | [],_,_,_,h=>nomatch h
 | r::l,i,hl,q,h=>by
  simp only[iL,bB]at h;rcases h with h | h
  ·subst h;exact VT K (hl r cq) _
  ·exact Hx K l (i+1) (fun s hs=>hl s (cn _ hs)) q h
theorem Rg(K:r9 ks){tk:Option Rk}(ht:∀r,tk=some r->r∈ks):∀q∈qA tk,q9 (FD ks) 3 q:=fun q hq=>by
 cases tk with
 | none=>cases hq
 | some r =>
  have hr:=ht r rfl;obtain⟨x,d⟩:=r;cases d with
  | ow s =>
   simp only[qA,cW]at hq;subst hq;exact xm K _ hr (jx s) _
  | ho b s =>
   simp only[qA,cW]at hq;subst hq;exact⟨⟨rfl,rfl,xw rfl⟩,fun z=>absurd (show(Str.ofString _==Str.ofString _)=true from z) (by decide +kernel)⟩
theorem ve{X:List Str}{Bd:Nat}{a b:List dO}(h1:∀q∈a,q9 X Bd q)(h2:∀q∈b,q9 X Bd q):∀q∈a++b,q9 X Bd q:=fun q hq=>(c9.mp hq).elim (h1 q) (h2 q)
theorem K7{K:Nat}(h:12<=K):∃k,K=k+7/\3<=k:=⟨K-7,by lia,by lia⟩
variable (K:r9 ks) (M:Nat)
include K
theorem Hy{s:Sp}(hs:fu ks s){o:Op}(ho:nV ks o){w:Str}(hw:w="put"\/w="fill"):lu ks M (.aA [.str w,cx s,jy o]) (vo o++Ju s):=by
 have l1:=kc o;have l2:=zL s;have l6:(vo o++Ju s).length<=6:=by rw[bU];lia
 refine⟨fun F k hF hk=>?_,l6,?_,ve (vd K ho) (NL K hs)⟩
 ·obtain⟨k,rfl,h3⟩:=K7 hk;have h:=Fl hF k h3 w hs ho;rcases hw with rfl | rfl
  ·exact Hw rfl (by kernel_rfl) (by kernel_rfl) l6 ⟨_,h,rfl⟩
  ·exact Hw rfl (by kernel_rfl) (by kernel_rfl) l6 ⟨_,h,rfl⟩
 ·rcases hw with rfl | rfl
  ·exact ll (by decide +kernel) (by decide +kernel)
  ·exact ll (by decide +kernel) (by decide +kernel)
theorem Rh{s:Sp}(hs:fu ks s)(q:PV){a b:Op}(ha:nV ks a)(hb:nV ks b):lu ks M (.aA [.str "set",cx s,q,jy a,jy b]) (vo a++vo b++Ju s):=by
 have l1:=kc a;have l2:=kc b;have l3:=zL s;have l6:(vo a++vo b++Ju s).length<=6:=by simp only[bU];lia
 refine⟨fun F k hF hk=>?_,l6,ll (by decide +kernel) (by decide +kernel),ve (ve (vd K ha) (vd K hb)) (NL K hs)⟩
 obtain⟨k,rfl,h3⟩:=K7 hk;exact Hw rfl (by kernel_rfl) (by kernel_rfl) l6 ⟨_,Fm hF k h3 "set" hs q ha hb,rfl⟩
theorem VV{a:Op}(ha:nV ks a)(i:Int){m:Nat}(hm:m<M):lu ks M (.aA [.str "if",jy a,.int i,iN m]) (vo a++[]):=by
 have l1:=kc a;have l6:(vo a++[]).length<=6:=by simp only[iP];lia
 refine⟨fun F k hF hk=>?_,l6,fun j hj=>⟨"if",rfl,fun z=>absurd z (by decide +kernel),fun _=>⟨m,rfl,hm⟩,fun _ _=>hj⟩,ve (vd K ha) (fun _ h=>nomatch h)⟩
 obtain⟨k,rfl,h3⟩:=K7 hk;exact Hw rfl (by kernel_rfl) (by kernel_rfl) l6 ⟨_,Jv hF k h3 "if" (iN m) ha (b:=.n i) trivial,rfl⟩
theorem Hz{a:Op}(ha:nV ks a):lu ks M (.aA [.str "say",jy a]) (vo a):=by
 have l1:=kc a;have l6:(vo a).length<=6:=by lia
 refine⟨fun F k hF hk=>?_,l6,ll (by decide +kernel) (by decide +kernel),vd K ha⟩
 obtain⟨k,rfl,h3⟩:=K7 hk;exact Hw rfl (by kernel_rfl) (by kernel_rfl) l6 ⟨_,Fo hF k h3 "say" ha,rfl⟩
theorem VW{m:Nat}(hm:m<M):lu ks M (.aA [.str "go",iN m]) []:=by
 refine⟨fun F k hF hk=>?_,by simp,fun j hj=>⟨"go",rfl,fun _=>⟨m,rfl,hm⟩,fun z=>absurd z (by decide +kernel),fun _ z=>absurd z (by decide +kernel)⟩,fun _ h=>nomatch h⟩
 obtain⟨k,rfl,h3⟩:=K7 hk;exact Hw rfl (by kernel_rfl) (by kernel_rfl) (by simp) ⟨_,Jw k _,rfl⟩
theorem JM:lu ks M (.aA [.str "give",.str ""]) []:=by
 refine⟨fun F k hF hk=>?_,by simp,ll (by decide +kernel) (by decide +kernel),fun _ h=>nomatch h⟩
 obtain⟨k,rfl,h3⟩:=K7 hk;exact Hw rfl (by kernel_rfl) (by kernel_rfl) (by simp) ⟨_,zM k "give",rfl⟩
theorem NP{r:Rk}(hr:r∈ks):lu ks M (.aA [.str "give",.str r.1]) [gvA r.1 r.2]:=by
 refine⟨fun F k hF hk=>?_,by simp,ll (by decide +kernel) (by decide +kernel),fun q hq=>?_⟩
 ·obtain⟨k,rfl,h3⟩:=K7 hk;exact Hw rfl (by kernel_rfl) (by kernel_rfl) (by simp) ⟨_,CD hF k h3 "give" (x:=r.1) (d:=r.2) hr (K.ok _ hr) (K.ne _ hr),rfl⟩
 ·rw[cW]at hq;subst hq;exact VU K hr
theorem NQ{s t:Sp}(hs:fu ks s)(ht:fu ks t):lu ks M (.aA [.str "copy",cx s,cx t]) [Co "read" t "",Co "fill" s ""]:=by
 refine⟨fun F k hF hk=>?_,by simp,ll (by decide +kernel) (by decide +kernel),fun q hq=>?_⟩
 ·obtain⟨k,rfl,h3⟩:=K7 hk;exact Hw rfl (by kernel_rfl) (by kernel_rfl) (by simp) ⟨_,Cp hF k h3 "copy" hs ht,rfl⟩
 ·simp only[bB,eY,fg]at hq;rcases hq with rfl | rfl
  ·exact k9 K _ ht _
  ·exact k9 K _ hs _
theorem NR{s t:Sp}(hs:fu ks s)(ht:fu ks t):lu ks M (.aA [.str "move",cx s,cx t]) [Co "empty" t "",Co "fill" s ""]:=by
 refine⟨fun F k hF hk=>?_,by simp,ll (by decide +kernel) (by decide +kernel),fun q hq=>?_⟩
 ·obtain⟨k,rfl,h3⟩:=K7 hk;exact Hw rfl (by kernel_rfl) (by kernel_rfl) (by simp) ⟨_,Cq hF k h3 "move" hs ht,rfl⟩
 ·simp only[bB,eY,fg]at hq;rcases hq with rfl | rfl
  ·exact k9 K _ ht _
  ·exact k9 K _ hs _
theorem NS{s:Sp}(hs:fu ks s):lu ks M (.aA [.str "drop",cx s]) [Co "empty" s ""]:=by
 refine⟨fun F k hF hk=>?_,by simp,ll (by decide +kernel) (by decide +kernel),fun q hq=>?_⟩
 ·obtain⟨k,rfl,h3⟩:=K7 hk;exact Hw rfl (by kernel_rfl) (by kernel_rfl) (by simp) ⟨_,Cr hF k h3 "drop" hs,rfl⟩
 ·rw[cW]at hq;subst hq;exact k9 K _ hs _
theorem NT{w:Str}(hw:w="lend"\/w="sole")(x:Str){s:Sp}(hs:fu ks s):lu ks M (.aA [.str w,.str x,cx s]) [Co w s x]:=by
 refine⟨fun F k hF hk=>?_,by simp,?_,fun q hq=>?_⟩
 ·obtain⟨k,rfl,h3⟩:=K7 hk;have h:=Cs hF k h3 w x hs;rcases hw with rfl | rfl
  ·exact Hw rfl (by kernel_rfl) (by kernel_rfl) (by simp) ⟨_,h,rfl⟩
  ·exact Hw rfl (by kernel_rfl) (by kernel_rfl) (by simp) ⟨_,h,rfl⟩
 ·rcases hw with rfl | rfl
  ·exact ll (by decide +kernel) (by decide +kernel)
  ·exact ll (by decide +kernel) (by decide +kernel)
 ·rw[cW]at hq;subst hq;exact k9 K _ hs _
theorem vg(fn:PV){ar:List Rk}(ha:∀r∈ar,r∈ks)(hal:ar.length<=4){tk:Option Rk}(ht:∀r,tk=some r->r∈ks):lu ks M (.aA [.str "call",.str (Cz tk),fn,.aA (ar.map fun r=>.str r.1)]) (iL 0 ar++iK::qA tk):=by
 have tl:=uY ar 0;have tkl:(qA tk).length<=1:=by
  cases tk with
  | none=>simp[qA]
  | some r=>obtain⟨x,d⟩:=r;cases d<;>simp[qA]
 have l6:(iL 0 ar++iK::qA tk).length<=6:=by rw[bU,bA,tl];lia
 refine⟨fun F k hF hk=>?_,l6,ll (by decide +kernel) (by decide +kernel),ve (Hx K ar 0 ha) fun q hq=>?_⟩
 ·obtain⟨k,rfl,h3⟩:=K7 hk;obtain⟨e,h1,h2⟩:=CG hF k h3 "call" fn ha K.ok (by lia) (tk:=tk) (fun r hr=>⟨ht r hr,K.ne r (ht r hr)⟩)
  exact Hw rfl (by kernel_rfl) (by kernel_rfl) l6 ⟨e,h1,h2⟩
 ·rcases bB.mp hq with rfl | h
  ·exact⟨⟨rfl,rfl,xw rfl⟩,fun z=>absurd (show(Str.ofString _==Str.ofString _)=true from z) (by decide +kernel)⟩
  ·exact Rg K ht q h
end
def zV(C:Int):Nat:=(1+C%8).toNat
def Ri(C:Int):List Int:=(List.range (zV C)).map fun(i:Nat)=>(C/(64+9*(i:Int)*i)+5*(i:Int))%26
def VX(C:Int):Nat:=(C/8%(zV C:Int)).toNat
theorem sd(C:Int):(Ri C).length=zV C:=by simp[Ri]
theorem zW(C:Int):1<=zV C/\zV C<=8/\(zV C:Int)=1+C%8:=by unfold zV;lia
theorem NU(C:Int):VX C<(Ri C).length/\(VX C:Int)=C/8%(zV C:Int):=by
 have h:=zW C;have h0:=lE (C/8) (show(zV C:Int)≠0 by lia)
 have h1:=sx (C/8) (show(0:Int)<(zV C:Int) by lia)
 rw[sd];unfold VX
 lia
def cB(C:Int)(q:Nat):Str:=Hu (Ri C) (VX C) q
theorem Rj{C:Int}{q q':Nat}(h1:q<26)(h2:q'<26)(h:cB C q=cB C q'):q=q':=Rf (NU C).1 h1 h2 h
theorem VY(C:Int)(q:Nat):(cB C q==(Str.ofString ""))=false:=by
 rw[Hb,su];intro h;have:=di List.length (w9 h);rw[aE,pS,sd]at this;have:=zW C;simp at *
 lia
theorem JN(C:Int)(x1 x2 x4 x5 x6 x7 x8 x9:Ent):bI (dX [none,none,some 0] (ip (aa (rd 3) ah)) (aj 1) (ab (ab (ab (rd 2) (ab (kI 64) (ab (ab (kI 9) (rd 1) km) (rd 1) km) bZ) dz) (ab (kI 5) (rd 1) km) bZ) (kI 26) cw)) [.val (.int C),x1,x2,.val (iN (zV C)),x4,x5,x6,x7,x8,x9]=some (.aq ((Ri C).map .int)):=by
 have hl:=zW C;have hr:ip (aa (rd 3) ah) [.val (.int C),x1,x2,.val (iN (zV C)),x4,x5,x6,x7,x8,x9]=some ((List.range (zV C)).map fun(i:Nat)=>PV.int (0+(i:Int))):=by
  rw[iW (j:=(zV C:Int)) rfl (by lia),gM]
 have hm:j5 (fun p=>(aj 1 p [Ent.un,.un,.val (.int C)]).bind (ab (ab (ab (rd 2) (ab (kI 64) (ab (ab (kI 9) (rd 1) km) (rd 1) km) bZ) dz) (ab (kI 5) (rd 1) km) bZ) (kI 26) cw)) ((List.range (zV C)).map fun(i:Nat)=>PV.int (0+(i:Int)))=some ((Ri C).map .int):=by
  unfold Ri;rw[eK];refine eG fun i hi=>?_
  have hi:=d9.mp hi;have hi7:i<=7:=by lia
  rw[lG];have h9:km (.int 9) (.int (i:Int))=some (.int (9*(i:Int))):=l9 (by lia)
  have hmm:km (.int (9*(i:Int))) (.int (i:Int))=some (.int (9*(i:Int)*i)):=l9 (by lia)
  have h5:km (.int 5) (.int (i:Int))=some (.int (5*(i:Int))):=l9 (by lia)
  have hsq:0<=9*(i:Int)*i/\9*(i:Int)*i<=441:=by
   have:i=0\/i=1\/i=2\/i=3\/i=4\/i=5\/i=6\/i=7:=by lia
   rcases this with rfl | rfl | rfl | rfl | rfl | rfl | rfl | rfl<;>simp
  show(aj 1 (.int (i:Int)) [Ent.un,.un,.val (.int C)]).bind _=_;have t:aj 1 (.int (i:Int)) [Ent.un,.un,.val (.int C)]=some [.un,.val (.int (i:Int)),.val (.int C)]:=rfl;rw[t,aY];exact b2 (b2 (b2 rfl (b2 rfl (b2 (b2 rfl rfl h9) rfl hmm) rfl) (zO (by lia))) (b2 rfl rfl h5) rfl) rfl (dJ (by lia))
 exact fF (cV hr (by simp;lia) hm)
theorem Rl(k:Nat)(C:Int):run bt (k+1) "_law_names" [.int C,.int 13]=some (.own ((List.range 13).map fun q=>.str (cB C q))):=by
 have hl:=zW C;have hp:=NU C;rw[E7,aR];obtain⟨x5,x8,x9,h⟩:=vc (run bt k) (.val (.int C)) (.val (.int 13)) (Ri C) (VX C) (by rw[sd];lia) (List.range 13) [] .un .un .un (fun q hq=>by have:=d9.mp hq;lia) (by simp)
 rw[sd,iO]at h;have a1:bj (ab (kI 1) (ab (rd 0) (kI 8) cw) bZ) (aj 3) [.val (.int C),.val (.int 13),.val CS,.un,.un,.un,.un,.un,.un,.un]=some (.nx [.val (.int C),.val (.int 13),.val CS,.val (iN (zV C)),.un,.un,.un,.un,.un,.un]):=by
  unfold iN;rw[hl.2.2];exact aS (b2 rfl (b2 rfl rfl (dJ (by decide))) rfl) rfl
 have a2:bj (ab (ab (rd 0) (kI 8) dz) (rd 3) cw) (aj 4) [.val (.int C),.val (.int 13),.val CS,.val (iN (zV C)),.un,.un,.un,.un,.un,.un]=some (.nx [.val (.int C),.val (.int 13),.val CS,.val (iN (zV C)),.val (iN (VX C)),.un,.un,.un,.un,.un]):=by
  unfold iN;rw[hp.2];exact aS (b2 (b2 rfl rfl (zO (by decide))) rfl (dJ (by lia))) rfl
 have hr:ip (aa (rd 1) ah) [.val (.int C),.val (.int 13),.val CS,.val (iN (zV C)),.val (iN (VX C)),.un,.val (.aq ((Ri C).map .int)),.own [],.un,.un]=some ((List.range 13).map fun(i:Nat)=>PV.int (0+(i:Int))):=iW (j:=13) rfl (by decide)
 exact zc (sq (aS rfl rfl) (sq a1 (sq a2 (sq (aS (JN C _ _ _ _ _ _ _ _) rfl) (sq (sO rfl (by simp)) (sq (fS hr h) (ze rfl)))))))
def i0(c:Int):Sh:=match(c%7).toNat with
 | 0=>.bO [.num,.num]
 | 1=>.own
 | 2=>.du (1+c/7%8)
 | 3=>.num
 | 4=>.bO [.num,.own]
 | 5=>.bO [.du (1+c/7%8),.own]
 | _=>.bO [.bO [.num,.num],.du (1+c/7%8)]
def gZ(s:Sh):Prop:=Hm s/\(lv s).length<=3
theorem mB(c:Int):gZ (i0 c):=by
 have h8:0<1+c/7%8/\1+c/7%8<=8:=by lia
 have:c%7=0\/c%7=1\/c%7=2\/c%7=3\/c%7=4\/c%7=5\/c%7=6:=by lia
 unfold i0;rcases this with h | h | h | h | h | h | h<;>rw[h]<;>simp[gZ,Hm,qY,tab,tabs,dp,uK,pos,Nx,lv,jc,h8]
theorem NV:gZ .num:=by simp[gZ,Hm,qY,tab,dp,pos,lv]
theorem NW{s:Sh}(h:gZ s){r:Rw}(hr:r∈tab s):gZ r.2.2.2:=by
 obtain⟨⟨h1,h2⟩,h3⟩:=h;exact⟨⟨zQ h1 hr,uX s h2 r hr⟩,cz (zI s r hr).2 h3⟩
theorem Rm(k:Nat)(c:Int):run bt (k+1) "_law_shape" [.int c]=some (.val (enc (i0 c))):=by
 rw[E8,aR];obtain⟨n,hn⟩:∃n,n=1+c/7%8:=⟨_,rfl⟩
 have a1:bj (bh (aa (kS "strip") (aa (ab (kI 1) (ab (ab (rd 0) (kI 7) dz) (kI 8) cw) bZ) ah))) (aj 1) [.val (.int c),.un,.un,.un]=some (.nx [.val (.int c),.val (sP n),.un,.un]):=by
  rw[hn];exact aS (tU (cA rfl (cA (b2 rfl (b2 (b2 rfl rfl (zO (by decide))) rfl (dJ (by decide))) rfl) rfl)) (by simp)) rfl
 have hi:aF (.aq ([tP,oP,sP n,nP,.aA [.str "rec",.aA [nP,oP]],.aA [.str "rec",.aA [sP n,oP]]]++[.aA [.str "rec",.aA [tP,sP n]]])) (.int (c%7))=some (enc (i0 c)):=by
  have:c%7=0\/c%7=1\/c%7=2\/c%7=3\/c%7=4\/c%7=5\/c%7=6:=by lia
  unfold i0;rcases this with h | h | h | h | h | h | h<;>rw[h,hn]<;>rfl
 exact dk (sq a1 (sq (aS (p:=tP) rfl rfl) (sq (aS (p:=.aq [tP,oP,sP n,nP,.aA [.str "rec",.aA [nP,oP]],.aA [.str "rec",.aA [sP n,oP]]]) rfl rfl) (rS (b2 (b2 (x:=.aq [tP,oP,sP n,nP,.aA [.str "rec",.aA [nP,oP]],.aA [.str "rec",.aA [sP n,oP]]]) (y:=.aq [.aA [.str "rec",.aA [tP,sP n]]]) rfl rfl (aL (by simp))) (b2 rfl rfl (dJ (by decide))) hi)))))
def kd(r:Rw):PV:=.aA [.aA (r.1.map .int),enc r.2.2.2]
theorem vh(c:gv)(S:Ent):∀(C2:List Sh) (i:Nat) (acc:List Rw) (a:Int) (o2 o3:Ent),(∀s∈C2,c "_law_parts" [enc s]=some (.val (.aq ((tab s).map kd))))->acc.length+j7 C2<=1000 ->
  ∃VZ V0,fy (cM 2 (aw (aj 2) (aw (aj 3) cI))) (kZ c) (fx i (dj C2)) [S,.val (.aq (acc.map kd)),o2,o3]=some (.nx [S,.val (.aq ((acc++tabs i a C2).map kd)),VZ,V0])
 | [],i,acc,a,o2,o3,_,_=>⟨o2,o3,by simp[dj,fx,tabs]⟩
 | s::C2,i,acc,a,o2,o3,h,hz=>by
  have h1:=h s cq;simp only[j7]at hz;obtain⟨VZ,V0,e⟩:=vh c S C2 (i+1) (acc++(tab s).map (ng i a)) (a+sz s) (.val (.int (i:Int))) (.val (enc s)) (fun s hs=>h s (cn _ hs)) (by rw[bU,aE];lia)
  refine⟨VZ,V0,?_⟩;rw[Cu,<-d8];have hp:∀r∈tab s,r.1.length<=1000:=fun r hr=>by have:=Ha s r hr;have:=SG s;lia
  have hm:j5 (fun p=>(cM 2 (aw (aj 1) (aw (aj 2) cI)) p (bL [none,none,none,some 2] [S,.val (.aq (acc.map kd)),.val (.int (i:Int)),.val (enc s)])).bind (bh (aa (ab (bh (aa (rd 3) ah)) (rd 1) bZ) (aa (rd 2) ah)))) ((tab s).map kd)=some (((tab s).map (ng i a)).map kd):=by
   rw[eK];refine eG fun r hr=>?_
   have hl:=hp r hr;have t:cM 2 (aw (aj 1) (aw (aj 2) cI)) (kd r) (bL [none,none,none,some 2] [S,.val (.aq (acc.map kd)),.val (.int (i:Int)),.val (enc s)])=some [.un,.val (.aA (r.1.map .int)),.val (enc r.2.2.2),.val (.int (i:Int))]:=rfl;rw[t,aY];exact tU (cA (b2 (tU (cA rfl rfl) (by simp)) rfl (aT (by simp only[bA,kE,aE];lia))) (cA rfl rfl)) (by simp)
  have body:kZ c [S,.val (.aq (acc.map kd)),.val (.int (i:Int)),.val (enc s)]=some (.nx [S,.val (.aq ((acc++(tab s).map (ng i a)).map kd)),.val (.int (i:Int)),.val (enc s)]):=by
   unfold kZ;rw[c8];exact aS (b2 rfl (fF (cV (sV (dN (cA rfl rfl) rfl h1 rfl) rfl) (by simp only[aE];lia) hm)) (aL (by simp only[aE];lia))) rfl
  exact fC (fX:=[S,.val (.aq (acc.map kd)),.val (.int (i:Int)),.val (enc s)]) rfl body e
theorem rg(s:Sh)(x1 x2 x3:Ent):bj (bI (cH (aa (bh (aa (bh ah) (aa (rd 0) ah))) ah))) (aj 1) [.val (enc s),x1,x2,x3]=some (.nx [.val (enc s),.val (.aq [kd ([],0,sz s,s)]),x2,x3]):=aS (fF (lS (cA (tU (cA rfl (cA rfl rfl)) (by simp)) rfl) (by simp))) rfl
theorem nX(k:Nat){s:Sh}(h:jt s=true):run bt (k+1) "_law_parts" [enc s]=some (.val (.aq ((tab s).map kd))):=by
 rw[uU,aR];have he:=Nw s;rw[h]at he;rw[M7 h];exact dk (sq (rg s .un .un .un) (sq (iF (bT (b2 (b2 rfl rfl (Cm s)) rfl he)) rfl) (rS rfl)))
theorem JO(k:Nat){ps:List Sh} (h:∀s∈ps,run bt k "_law_parts" [enc s]=some (.val (.aq ((tab s).map kd)))) (hl:j7 ps<=900):run bt (k+1) "_law_parts" [enc (.bO ps)]=some (.val (.aq ((tab (.bO ps)).map kd))):=by
 rw[uU,aR];have he:=Nw (.bO ps);obtain⟨o2,o3,e⟩:=vh (run bt k) (.val (enc (.bO ps))) ps 0 [([],0,sz (.bO ps),.bO ps)] 0 .un .un h (by simp;lia)
 have ht:tab (.bO ps)=[([],0,sz (.bO ps),.bO ps)]++tabs 0 0 ps:=by simp[tab,sz,lv]
 rw[ht];refine dk (sq (rg (.bO ps) .un .un .un) (sq (iT (bT (b2 (b2 rfl rfl (Cm (.bO ps))) rfl he)) (fS ?_ e)) (rS rfl)));show((ab (rd 0) (kI 1) aF) _).bind _=_;rw[b2 rfl rfl (show aF (enc (.bO ps)) (.int 1)=some (.aA (dj ps)) by simp[enc])]
 rfl
mutual
theorem zX:∀(s:Sh) (k:Nat),dp s<=k->(tab s).length<=900->run bt (k+1) "_law_parts" [enc s]=some (.val (.aq ((tab s).map kd)))
 | .num,k,_,_=>nX k rfl
 | .own,k,_,_=>nX k rfl
 | .du n,k,_,_=>nX k rfl
 | .bO ps,0,hd,_=>by simp[dp]at hd
 | .bO ps,k+1,hd,hz=>by
  have hl:(tab (.bO ps)).length=j7 ps+1:=by simp only[tab,bA,ju]
  have Ap:uK ps<=k:=by simp only[dp]at hd;lia
  exact JO (k+1) (fun s hs=>CW ps k Ap (by lia) s hs) (by lia)
theorem CW:∀(ps:List Sh) (k:Nat),uK ps<=k->j7 ps<=900->∀s∈ps,run bt (k+1) "_law_parts" [enc s]=some (.val (.aq ((tab s).map kd)))
 | [],_,_,_,s,hs=>by cases hs
 | p::r,k,hd,hz,s,hs=>by
  simp only[uK]at hd;simp only[j7]at hz;rcases bB.mp hs with e | e
  ·rw[e];exact zX p k (by lia) (by lia)
  ·exact CW r k (by lia) (by lia) s e
end
def may(d:Kd):Bool:=!(kw d==(Str.ofString "lent"))
def lx(ks:List Rk):List Sp:=ks.flatMap fun q=>(tab (cy q.2)).map fun r=>⟨q.1,q.2,r,.df⟩
def jC(s:Sp):PV:=.aA [cx s,enc s.r.2.2.2,.bl (may s.d)]
theorem FF{ks:List Rk}(h:Wz ks):∀s∈lx ks,fu ks s/\s.a=.df:=by
 intro s hs;obtain⟨q,hq,hs⟩:=gN.mp hs;obtain⟨r,hr,rfl⟩:=bF.mp hs;exact⟨⟨hq,h q hq,hr,.df⟩,rfl⟩
theorem zY{ks:List Rk}(h:Wz ks):(lx ks).length<=100*ks.length:=by
 induction ks with
 | nil=>simp[lx]
 | cons q ks ih =>
  have h1:=(h q cq).1;have h2:=ih fun r hr=>h r (cn _ hr)
  simp only[lx,lB,bU,aE,bA]at h2 ⊢
  lia
theorem pE{ks:List Rk}{q:Rk}(hq:q∈ks):(⟨q.1,q.2,Cy (cy q.2),.df⟩:Sp)∈lx ks:=gN.mpr ⟨q,hq,bF.mpr ⟨_,jx _,rfl⟩⟩
theorem NX(c:gv)(S:Ent)(x:Str)(d:Kd)(o5:Ent)(T:List Rw):∀(acc:az) (o6 o7:Ent),acc.length+T.length<=90000 ->
  ∃JP Rn,fy (cM 2 (aw (aj 6) (aw (aj 7) cI))) (nS c) (T.map kd) [S,.own acc,.val (.str x),.val (c7 d),.val (.bl (iw d)),o5,o6,o7]=some (.nx [S,.own (acc++T.map fun r=>jC ⟨x,d,r,.df⟩),.val (.str x),.val (c7 d),.val (.bl (iw d)),o5,JP,Rn]):=by
 induction T with
 | nil=>exact fun acc o6 o7 _=>⟨o6,o7,by simp⟩
 | cons r T ih =>
  intro acc o6 o7 hz;simp only[bA]at hz;obtain⟨JP,Rn,e⟩:=ih (acc++[jC ⟨x,d,r,.df⟩]) (.val (.aA (r.1.map .int))) (.val (enc r.2.2.2)) (by simp;lia)
  refine⟨JP,Rn,?_⟩;rw[d8]at e;rw[bK,bK];refine fC (fX:=[S,.own acc,.val (.str x),.val (c7 d),.val (.bl (iw d)),o5,.val (.aA (r.1.map .int)),.val (enc r.2.2.2)]) rfl ?_ e;unfold nS;exact mA rfl (tU (cA (tU (cA rfl (cA rfl (cA rfl (cA rfl rfl)))) (by simp)) (cA rfl (cA (b2 (b2 rfl rfl (k0 d)) rfl (Q4 d)) rfl))) (by simp)) (by lia)
theorem JQ(k:Nat)(hk:3<=k)(S:Ent)(ks:List Rk):∀(acc:az) (o2 o3 o4 o5 o6 o7:Ent),Wz ks->acc.length+100*ks.length<=80000 ->
  ∃VZ V0 V1 V2 JP Rn,fy (cM 2 (aw (aj 2) (aw (aj 3) cI))) (nU (run bt (k+1))) (ks.map bM) [S,.own acc,o2,o3,o4,o5,o6,o7]=some (.nx [S,.own (acc++(lx ks).map jC),VZ,V0,V1,V2,JP,Rn]):=by
 induction ks with
 | nil=>exact fun acc o2 o3 o4 o5 o6 o7 _ _=>⟨o2,o3,o4,o5,o6,o7,by simp[lx]⟩
 | cons q ks ih =>
  intro acc o2 o3 o4 o5 o6 o7 ho hz;simp only[bA]at hz;obtain⟨h1,h2⟩:=ho q cq;obtain⟨p6,p7,hin⟩:=NX (run bt (k+1)) S q.1 q.2 (.val (enc (cy q.2))) (tab (cy q.2)) acc o6 o7 (by lia)
  obtain⟨VZ,V0,V1,V2,JP,Rn,e⟩:=ih (acc++(tab (cy q.2)).map fun r=>jC ⟨q.1,q.2,r,.df⟩) (.val (.str q.1)) (.val (c7 q.2)) (.val (.bl (iw q.2))) (.val (enc (cy q.2))) p6 p7 (fun r hr=>ho r (cn _ hr)) (by rw[bU,aE];lia)
  refine⟨VZ,V0,V1,V2,JP,Rn,?_⟩;have ox:(lx (q::ks)).map jC=((tab (cy q.2)).map fun r=>jC ⟨q.1,q.2,r,.df⟩)++(lx ks).map jC:=by
   simp[lx,lB,c8,eK,Function.comp_def]
  rw[ox,<-d8];have ht:=zX (cy q.2) k (by lia) (by lia)
  refine fC (fX:=[S,.own acc,.val (.str q.1),.val (c7 q.2),o4,o5,o6,o7]) rfl ?_ e;unfold nU;have a5:gK (jm (toB (rd 4))) (bj (ab (rd 3) (kI 1) aF) (aj 5)) (fun ρ=>some (.nx ρ)) [S,.own acc,.val (.str q.1),.val (c7 q.2),.val (.bl (iw q.2)),.val (c7 q.2),o6,o7]=some (.nx [S,.own acc,.val (.str q.1),.val (c7 q.2),.val (.bl (iw q.2)),.val (enc (cy q.2)),o6,o7]):=by
   obtain⟨x,d⟩:=q;cases d with
   | ow s=>exact iF rfl rfl
   | ho b s=>exact iT rfl (aS (b2 rfl rfl rfl) rfl)
  exact sq (aS (b2 (b2 rfl rfl (k0 q.2)) rfl (rZ q.2)) rfl) (sq (aS rfl rfl) (sq a5 (fS (sV (dN (cA rfl rfl) rfl ht rfl) rfl) hin)))
theorem Ro(k:Nat)(hk:3<=k)(ks:List Rk)(h:Wz ks)(hl:ks.length<=100):run bt (k+2) "_law_spots" [.aq (ks.map bM)]=some (.own ((lx ks).map jC)):=by
 rw[E9,aR];obtain⟨o2,o3,o4,o5,o6,o7,e⟩:=JQ k hk (.val (.aq (ks.map bM))) ks [] .un .un .un .un .un .un h (by simp;lia)
 rw[iO]at e;exact zc (sq (sO rfl (by simp)) (sq (fS rfl e) (ze rfl)))
def gi(s:Sp):PV:=.aA [cx s,.bl (may s.d)]
def kf(x:Str)(dg:Int)(s:Sp):List Sp:=match s.r.2.2.2 with
 | .num=>[s]
 | .own=>[s]
 | .du n=>[{s with a:=if dg/8%2=0 then .int (dg%n)else .str x}]
 | .bO _=>[]
def aet:Sh->Bool
 | .num=>true
 | .own=>true
 | _=>false
def aeu:Sh->Bool
 | .du _=>true
 | _=>false
theorem ZM(s:Sh):qd false (.str (Hf s)) (.aA [.str "num",.str "own"])=some (.bl (aet s)):=by
 rw[in2];refine di (fun b=>some (PV.bl b)) ?_
 cases s with
 | num=>decide +kernel
 | own=>decide +kernel
 | du n=>exact(by decide +kernel:(Str.ofString "num"==Str.ofString "strip" || Str.ofString "own"==Str.ofString "strip")=false)
 | bO ps=>exact(by decide +kernel:(Str.ofString "num"==Str.ofString "rec" || Str.ofString "own"==Str.ofString "rec")=false)
theorem ZN(s:Sh):dS (.str (Hf s)) (.str "strip")=some (.bl (aeu s)):=by
 rw[cU];refine di (fun b=>some (PV.bl b)) ?_
 cases s with
 | num=>decide +kernel
 | own=>decide +kernel
 | du n=>exact(by decide +kernel:(Str.ofString "strip"==Str.ofString "strip")=true)
 | bO ps=>exact(by decide +kernel:(Str.ofString "rec"==Str.ofString "strip")=false)
theorem NY(c:gv)(S:Ent)(x:Str)(dg:Int){s:Sp}(hp:pos s.r.2.2.2=true)(hn:s.a=.df)(acc:az)(hl:acc.length<90000):iX c [S,.val (.str x),.val (.int dg),.own acc,.val (cx s),.val (enc s.r.2.2.2),.val (.bl (may s.d))]=some (.nx [S,.val (.str x),.val (.int dg),.own (acc++(kf x dg s).map gi),.val (cx s),.val (enc s.r.2.2.2),.val (.bl (may s.d))]):=by
 unfold iX;have t1:=fun acc:az=>(bT (b2 (b2 rfl rfl (Cm s.r.2.2.2)) rfl (ZM s.r.2.2.2)):toB (ab (ab (rd 5) (kI 0) aF) (bh (aa (kS "num") (aa (kS "own") ah))) (qd false)) [S,.val (.str x),.val (.int dg),.val (.aq acc),.val (cx s),.val (enc s.r.2.2.2),.val (.bl (may s.d))]=some _)
 have t2:=fun acc:az=>(bT (b2 (b2 rfl rfl (Cm s.r.2.2.2)) rfl (ZN s.r.2.2.2)):toB (ab (ab (rd 5) (kI 0) aF) (kS "strip") dS) [S,.val (.str x),.val (.int dg),.val (.aq acc),.val (cx s),.val (enc s.r.2.2.2),.val (.bl (may s.d))]=some _)
 cases he:s.r.2.2.2 with
 | num =>
  rw[he]at t1 t2;rw[show kf x dg s=[s] by unfold kf;rw[he]]
  exact sq (iT (t1 acc) (mA rfl (tU (cA rfl (cA rfl rfl)) (by simp)) (by lia))) (iF (t2 (acc++[gi s])) rfl)
 | own =>
  rw[he]at t1 t2;rw[show kf x dg s=[s] by unfold kf;rw[he]]
  exact sq (iT (t1 acc) (mA rfl (tU (cA rfl (cA rfl rfl)) (by simp)) (by lia))) (iF (t2 (acc++[gi s])) rfl)
 | bO ps =>
  rw[he]at t1 t2;rw[show kf x dg s=[] by unfold kf;rw[he],sN,iP]
  exact sq (iF (t1 acc) rfl) (iF (t2 acc) rfl)
 | du n =>
  rw[he]at t1 t2 hp;have hp:0<n:=by simpa[pos]using hp
  rw[show kf x dg s=[{s with a:=if dg/8%2=0 then .int (dg%n)else .str x}] by unfold kf;rw[he]]
  refine sq (iF (t1 acc) rfl) (iT (t2 acc) ?_);have hx:ab (bI (cH (aa (ab (rd 2) (ab (rd 5) (kI 1) aF) cw) (aa (rd 1) ah)))) (ab (ab (rd 2) (kI 8) dz) (kI 2) cw) aF [S,.val (.str x),.val (.int dg),.own acc,.val (cx s),.val (enc (.du n)),.val (.bl (may s.d))]=some (if dg/8%2=0 then .int (dg%n)else .str x):=by
   refine b2 (x:=.aq [.int (dg%n),.str x]) (fF (lS (cA (b2 rfl (b2 rfl rfl rfl) (dJ hp)) (cA rfl rfl)) (by simp))) (b2 (b2 rfl rfl (zO (by decide))) rfl (dJ (by decide))) ?_
   have:dg/8%2=0\/dg/8%2=1:=by lia
   rcases this with h | h
   ·rw[h];rfl
   ·rw[h];rfl
  obtain⟨a,ha⟩:∃a,a=(if dg/8%2=0 then PV.int (dg%n)else .str x):=⟨_,rfl⟩
  rw[<-ha]at hx ⊢;exact mA rfl (tU (cA (b2 (x:=.aA [.str s.x,.bl (iw s.d),.aA (s.r.1.map .int)]) (y:=.aA [a]) rfl (tU (cA hx rfl) (by simp)) (aT (by simp))) (cA rfl rfl)) (by simp)) (by lia)
theorem CY(c:gv)(S:Ent)(x:Str)(dg:Int):∀(T:List Sp) (acc:az) (o4 o5 o6:Ent),(∀s∈T,pos s.r.2.2.2=true/\s.a=.df)->acc.length+T.length<=80000 ->
  ∃V1 V2 JP,fy (cM 3 (aw (aj 4) (aw (aj 5) (aw (aj 6) cI)))) (iX c) (T.map jC) [S,.val (.str x),.val (.int dg),.own acc,o4,o5,o6]=some (.nx [S,.val (.str x),.val (.int dg),.own (acc++(T.flatMap (kf x dg)).map gi),V1,V2,JP])
 | [],acc,o4,o5,o6,_,_=>⟨o4,o5,o6,by simp⟩
 | s::T,acc,o4,o5,o6,h,hz=>by
  simp only[bA]at hz;obtain⟨h1,h2⟩:=h s cq;have hb:=NY c S x dg h1 h2 acc (by lia)
  have vx:(kf x dg s).length<=1:=by
   unfold kf;split<;>simp
  obtain⟨V1,V2,JP,e⟩:=CY c S x dg T (acc++(kf x dg s).map gi) (.val (cx s)) (.val (enc s.r.2.2.2)) (.val (.bl (may s.d))) (fun t ht=>h t (cn _ ht)) (by rw[bU,aE];lia)
  refine⟨V1,V2,JP,?_⟩;rw[lB,c8,<-d8];exact fC (fX:=[S,.val (.str x),.val (.int dg),.own acc,.val (cx s),.val (enc s.r.2.2.2),.val (.bl (may s.d))]) rfl hb e
abbrev Ad(ks:List Rk)(x:Str)(dg:Int):List Sp:=(lx ks).flatMap (kf x dg)
theorem Rq{ks:List Rk}{x:Str}(hx:(x,Kd.ow .num)∈ks){dg:Int}{s:Sp}(hs:fu ks s):∀t∈kf x dg s,fu ks t/\t.d=s.d:=fun t ht=>by
 unfold kf at ht;split at ht
 ·rw[cW]at ht;subst ht;exact⟨hs,rfl⟩
 ·rw[cW]at ht;subst ht;exact⟨hs,rfl⟩
 ·rw[cW]at ht;subst ht;refine⟨⟨hs.mem,hs.ok,hs.row,?_⟩,rfl⟩;show Jt ks (if dg/8%2=0 then _ else _)
  split
  ·exact .int _
  ·exact .str _ hx
 ·cases ht
theorem V3{ks:List Rk}(K:r9 ks){x:Str}(hx:(x,Kd.ow .num)∈ks)(dg:Int):(∀t∈Ad ks x dg,fu ks t)/\(Ad ks x dg).length<=1000/\∃t∈Ad ks x dg,may t.d=true:=by
 refine⟨fun t ht=>?_,?_,?_⟩
 ·obtain⟨s,hs,ht⟩:=gN.mp ht;exact(Rq hx (FF K.ok s hs).1 t ht).1
 ·have h1:=zY K.ok;have h2:=K.few;have:∀T:List Sp,(T.flatMap (kf x dg)).length<=T.length:=fun T=>by
   induction T with
   | nil=>simp
   | cons s T ih =>
    have vx:(kf x dg s).length<=1:=by
     unfold kf;split<;>simp
    rw[lB,bU,bA]
    lia
  have:=this (lx ks);show(List.flatMap (kf x dg) (lx ks)).length<=1000
  lia
 ·refine⟨⟨x,.ow .num,Cy .num,.df⟩,gN.mpr ⟨_,pE hx,?_⟩,?_⟩
  ·simp[kf,cy]
  ·show(!((Str.ofString "num")==(Str.ofString "lent")))=true;decide +kernel
theorem JR(k:Nat){ks:List Rk}(K:r9 ks)(x:Str)(dg:Int):run bt (k+1) "_law_numbers" [.aq ((lx ks).map jC),.str x,.int dg]=some (.own ((Ad ks x dg).map gi)):=by
 rw[zA,aR];have ox:=zY K.ok;have hf:=K.few;obtain⟨o4,o5,o6,e⟩:=CY (run bt k) (.val (.aq ((lx ks).map jC))) x dg (lx ks) [] .un .un .un (fun s hs=>by
  obtain⟨g1,g2⟩:=FF K.ok s hs;exact⟨uX _ (K.good _ g1.mem).1.2 _ g1.row,g2⟩) (by simp;lia)
 rw[iO]at e;exact zc (sq (sO rfl (by simp)) (sq (fS rfl e) (ze rfl)))
theorem ZO:Bf (.int 10) (.int 30)=some (.int (10^30)):=by
 rw[BF,if_pos (by decide)]
 rfl
theorem xo(k:Nat){ks:List Rk}{N:List Sp}(h:∀s∈N,fu ks s)(h0:0<N.length)(C m:Int):∃o,run bt (k+1) "_law_operand" [.int C,.int m,.aq (N.map gi)]=some (.val (jy o))/\nV ks o:=by
 rw[zB,aR];obtain⟨s,hs,vn⟩:=eA N gi (m/20) h0;have hz:0<((N.map gi).length:Int):=by rw[aE];lia
 have t1:toB (ab (ab (ab (rd 1) (kI 5) dz) (kI 4) cw) (kI 0) dS) [.val (.int C),.val (.int m),.val (.aq (N.map gi))]=some (decide (m/5%4=0)):=bT (b2 (b2 (b2 rfl rfl (zO (by decide))) rfl (dJ (by decide))) rfl iU)
 by_cases hm:m/5%4=0
 ·rw[dm hm]at t1;exact⟨.n (C%10^30),dk (jB (iT t1 (rS (b2 rfl (b2 rfl rfl ZO) (dJ (by decide)))))),trivial⟩
 ·rw[eZ hm]at t1;exact⟨.s s,dk (sq (iF t1 rfl) (rS (b2 (b2 (x:=.aq (N.map gi)) rfl (b2 (b2 rfl rfl (zO (by decide))) (bV (cA rfl rfl) rfl) (dJ hz)) vn) rfl rfl))),h s hs⟩
def Rt(P:PV->Prop)(x:Option pJ):Prop:=∃p,x=some (.rt (.val p))/\P p
theorem Rt.run{x:Option pJ}{P:PV->Prop}(h:Rt P x):∃p,gA x=some (.val p)/\P p:=by
 obtain⟨p,a,b⟩:=h;exact⟨p,dk a,b⟩
theorem xS{f g:FS}{ρ fO:aI}{P:PV->Prop}(h:f ρ=some (.nx fO))(k:Rt P (g fO)):Rt P (aH f g ρ):=by
 obtain⟨p,a,b⟩:=k;exact⟨p,sq h a,b⟩
theorem xI{gc:fA}{f h:FS}{ρ:aI}{b:Bool}{P:PV->Prop}(hc:gc ρ=some b)(ht:b=true->Rt P (f ρ))(hf:b=false->Rt P (h ρ)):Rt P (aH (gK gc f fun ρ=>some (.nx ρ)) h ρ):=by
 cases b with
 | true =>
  obtain⟨p,a,c⟩:=ht rfl;exact⟨p,jB (iT hc a),c⟩
 | false =>
  obtain⟨p,a,c⟩:=hf rfl;exact⟨p,sq (iF hc rfl) a,c⟩
theorem xR{fa:FE}{ρ:aI}{p:PV}{P:PV->Prop}(h:fa ρ=some p)(k:P p):Rt P (bz fa ρ):=⟨p,rS h,k⟩
theorem oB{f g:fA}{ρ:aI}{a b:Bool}(h1:f ρ=some a)(h2:g ρ=some b):Ab f g ρ=some (a || b):=by
 rw[EN,h1,aY];cases a with
 | true=>rfl
 | false=>rw[if_neg (by decide),h2];rfl
theorem nD{f g:fA}{ρ:aI}{a b:Bool}(h1:f ρ=some a)(h2:g ρ=some b):gS f g ρ=some (a&&b):=Ht h1 fun _=>h2
def FG(ks:List Rk)(M:Nat)(p:PV):Prop:=∃as,lu ks M p as
theorem Ru(s:Sh):qd false oP (.aq (dj (lv s)))=some (.bl ((lv s).any pj)):=by
 have hd:=uN (zf s);show(if eX (dj (lv s))<=iS then some (PV.bl (En oP (dj (lv s))))else none)=_
 rw[if_pos (by rw[mx];lia),Fp]
theorem NZ{ks:List Rk}{N:List Sp}(h:∀s∈N,fu ks s):eX (N.map cx)<=2:=uM fun x hx=>by
 obtain⟨s,hs,rfl⟩:=bF.mp hx;exact Ny (h s hs)
theorem Rv{ks:List Rk}{N:List Sp}(h:∀s∈N,fu ks s):dS (.aq (N.map cx)) (.aq [])=some (.bl N.isEmpty):=by
 have hd:=NZ h;rw[ER (by simp only[jG,mx];lia)]
 cases N<;>rfl
theorem Rx{ks:List Rk}{N:List Sp}(h:∀s∈N,fu ks s):yA (.aq (N.map cx)) (.aq [])=some (.bl (!N.isEmpty)):=by
 have hd:=NZ h;rw[VA (by simp only[jG,mx];lia)]
 cases N<;>rfl
theorem zZ{α:Type}{l:List α}(h:l.isEmpty=false):0<l.length:=by
 cases l with
 | nil=>cases h
 | cons a l=>simp
theorem lb{α:Type}{l:List α}{x:α}(h:x∈l):0<l.length:=by
 cases l with
 | nil=>cases h
 | cons a l=>simp
section
variable {ks:List Rk} (K:r9 ks) (M:Nat)
abbrev SL(ks:List Rk):PV:=.aq ((lx ks).map jC)
theorem vi(K:r9 ks):∀s∈lx ks,fu ks s:=fun s hs=>(FF K.ok s hs).1
theorem vj(K:r9 ks):(lx ks).length<=1000:=by
 have h1:=zY K.ok;have h2:=K.few
 lia
theorem CZ{l:List Sp}{f:Sp->Bool}(h:∀s∈l,fu ks s):∀s∈l.filter f,fu ks s:=fun s hs=>h s (jg.mp hs).1
def HA(s t:Sp):Bool:=eqT (enc t.r.2.2.2) (enc s.r.2.2.2)&&may t.d
theorem JS(K:r9 ks){s:Sp}(x0 x1 x2 x4 x6 x7 x8:Ent):bI (fP [none,none,none,none,some 5] (dD (rd 3)) (cM 3 (aw (aj 1) (aw (aj 2) (aw (aj 3) cI)))) (gS (toB (ab (rd 2) (rd 4) dS)) (toB (rd 3))) (rd 1)) [x0,x1,x2,.val (SL ks),x4,.val (enc s.r.2.2.2),x6,x7,x8]=some (.aq (((lx ks).filter (HA s)).map cx)):=by
 have hl:=vj K;refine fF (cT (ps:=(lx ks).map jC) rfl (by rw[aE];lia) ?_)
 refine gI fun t ht=>?_
 have ok:=vi K t ht;have t0:cM 3 (aw (aj 1) (aw (aj 2) (aw (aj 3) cI))) (jC t) (bL [none,none,none,none,some 5] [x0,x1,x2,.val (SL ks),x4,.val (enc s.r.2.2.2),x6,x7,x8])=some [.un,.val (cx t),.val (enc t.r.2.2.2),.val (.bl (may t.d)),.val (enc s.r.2.2.2)]:=rfl;have g:gS (toB (ab (rd 2) (rd 4) dS)) (toB (rd 3)) [.un,.val (cx t),.val (enc t.r.2.2.2),.val (.bl (may t.d)),.val (enc s.r.2.2.2)]=some (HA s t):=nD (bT (b2 rfl rfl (SM (zQ ok.ok ok.row) _))) (bT rfl);rw[t0,aY,g,aY];cases HA s t<;>rfl
include K in
theorem JT(k:Nat)(hk:3<=k)(w:Str)(a b:Int)(h0:0<(lx ks).length):∃p,run bt (k+2) "_law_carried" [.str w,.int a,.int b,SL ks]=some (.val p)/\FG ks M p:=by
 rw[zC,aR];refine Rt.run ?_;obtain⟨s,hs,vn⟩:=eA (lx ks) jC a h0;have ok:=vi K s hs;have hz:0<(((lx ks).map jC).length:Int):=by rw[aE];lia
 have h3:=(zQ ok.ok ok.row);have hlv:=qB s.r.2.2.2 k (by have:=h3.2;lia) (by have:=h3.1;have:=uO s.r.2.2.2;lia)
 obtain⟨G,hG⟩:∃G,G=(lx ks).filter (HA s):=⟨_,rfl⟩
 have gc:=JS K (s:=s) (.val (.str w)) (.val (.int a)) (.val (.int b)) (.val (cx s)) (.val (.bl (may s.d))) .un .un;rw[<-hG]at gc;have hGs:∀t∈G,fu ks t:=by rw[hG];exact CZ (vi K)
 obtain⟨o,ho⟩:∃o,o=(lv s.r.2.2.2).any pj:=⟨_,rfl⟩
 have io:=Ru s.r.2.2.2;rw[<-ho]at io;have a1:bj (ab (rd 3) (ab (rd 1) (cf cZ (aa (rd 3) ah)) cw) aF) (cM 3 (aw (aj 4) (aw (aj 5) (aw (aj 6) cI)))) [.val (.str w),.val (.int a),.val (.int b),.val (SL ks),.un,.un,.un,.un,.un]=some (.nx [.val (.str w),.val (.int a),.val (.int b),.val (SL ks),.val (cx s),.val (enc s.r.2.2.2),.val (.bl (may s.d)),.un,.un]):=aS (b2 (x:=SL ks) rfl (b2 rfl (bV (cA rfl rfl) rfl) (dJ hz)) vn) rfl;refine xS a1 (xS (aS gc rfl) (xS (aS (b2 (x:=oP) rfl (dN (cA rfl rfl) rfl hlv rfl) io) rfl) ?_));refine xI (oB (bT (b2 (x:=.aq (G.map cx)) (y:=.aq []) rfl rfl (Rv hGs))) (nD (bT (b:=iw s.d) rfl) (bT (b:=o) rfl))) (fun _=>?_) fun hc=>?_
 ·exact xR (tU (cA rfl (cA rfl rfl)) (by simp)) ⟨_,Hz K M (a:=.n a) trivial⟩
 ·have hGe:G.isEmpty=false:=(Bool.or_eq_false_iff.mp hc).1;obtain⟨t,ht,hgt⟩:=eA G cx b (zZ hGe);have V4:0<((G.map cx).length:Int):=by have:=zZ hGe;rw[aE];lia
  have gx:ab (rd 7) (ab (rd 2) (cf cZ (aa (rd 7) ah)) cw) aF [.val (.str w),.val (.int a),.val (.int b),.val (SL ks),.val (cx s),.val (enc s.r.2.2.2),.val (.bl (may s.d)),.val (.aq (G.map cx)),.val (.bl o)]=some (cx t):=b2 (x:=.aq (G.map cx)) rfl (b2 rfl (bV (cA rfl rfl) rfl) (dJ V4)) hgt;refine xI (oB (bT (b:=o) rfl) (nD (bT (b2 (x:=.str w) rfl rfl cU)) (nB (bT (b:=iw s.d) rfl)))) (fun _=>?_) fun _=>?_
  ·exact xR (tU (cA rfl (cA gx (cA rfl rfl))) (by simp)) ⟨_,NR K M (hGs t ht) ok⟩
  ·exact xR (tU (cA rfl (cA gx (cA rfl rfl))) (by simp)) ⟨_,NQ K M (hGs t ht) ok⟩
def Ry(s:Sh)(w:Str)(t:Sp):Bool:=eqT (enc t.r.2.2.2) (enc s)&&(may t.d || w==(Str.ofString "lend"))
theorem N0(K:r9 ks)(b:Bool)(s:Sh)(w:Str)(x0 x1 x2 x4 x5 x8:Ent):bI (fP [none,none,none,none,some 6,some 7] (dD (rd 3)) (cM 3 (aw (aj 1) (aw (aj 2) (aw (aj 3) cI)))) (gS (toB (ab (rd 2) (ab (rd 4) (kI 1) aF) dS)) (Ab (toB (rd 3)) (toB (ab (rd 5) (kS "lend") dS)))) (rd 1)) [x0,x1,x2,.val (SL ks),x4,x5,.val (c7 (.ho b s)),.val (.str w),x8]=some (.aq (((lx ks).filter (Ry s w)).map cx)):=by
 have hl:=vj K;refine fF (cT (ps:=(lx ks).map jC) rfl (by rw[aE];lia) ?_)
 refine gI fun t ht=>?_
 have ok:=vi K t ht;have t0:cM 3 (aw (aj 1) (aw (aj 2) (aw (aj 3) cI))) (jC t) (bL [none,none,none,none,some 6,some 7] [x0,x1,x2,.val (SL ks),x4,x5,.val (c7 (.ho b s)),.val (.str w),x8])=some [.un,.val (cx t),.val (enc t.r.2.2.2),.val (.bl (may t.d)),.val (c7 (.ho b s)),.val (.str w)]:=rfl;have g:gS (toB (ab (rd 2) (ab (rd 4) (kI 1) aF) dS)) (Ab (toB (rd 3)) (toB (ab (rd 5) (kS "lend") dS))) [.un,.val (cx t),.val (enc t.r.2.2.2),.val (.bl (may t.d)),.val (c7 (.ho b s)),.val (.str w)]=some (Ry s w t):=nD (bT (b2 rfl (b2 rfl rfl (VF b s)) (SM (zQ ok.ok ok.row) _))) (oB (bT rfl) (bT (b2 rfl rfl cU)));rw[t0,aY,g,aY];cases Ry s w t<;>rfl
theorem JU(K:r9 ks)(x0 x1 x3 x4 x5 x6 x7 x8:Ent):bI (fP [none,none] (dD (rd 2)) (aj 1) (toB (ab (ab (ab (rd 1) (kI 1) aF) (kI 0) aF) (bh (aa (kS "lent") (aa (kS "sole") ah))) (qd false))) (rd 1)) [x0,x1,.val (KL ks),x3,x4,x5,x6,x7,x8]=some (.aq ((ks.filter fun q=>iw q.2).map bM)):=by
 have hl:=K.few;refine fF (cT (ps:=ks.map bM) rfl (by rw[aE];lia) ?_)
 refine gI fun q hq=>?_
 have t0:aj 1 (bM q) (bL [none,none] [x0,x1,.val (KL ks),x3,x4,x5,x6,x7,x8])=some [.un,.val (bM q)]:=rfl;have g:toB (ab (ab (ab (rd 1) (kI 1) aF) (kI 0) aF) (bh (aa (kS "lent") (aa (kS "sole") ah))) (qd false)) [.un,.val (bM q)]=some (iw q.2):=bT (b2 (b2 (b2 rfl rfl rfl) rfl (k0 q.2)) rfl (rZ q.2));rw[t0,aY,g,aY];cases iw q.2<;>rfl
include K in
theorem JV(k:Nat)(a b:Int)(hh:∃q∈ks,iw q.2=true):∃p,run bt (k+1) "_law_lending" [.int a,.int b,KL ks,SL ks]=some (.val p)/\FG ks M p:=by
 rw[zD,aR];refine Rt.run ?_;obtain⟨q0,Sy,hi0⟩:=hh;have h0:0<(ks.filter fun q=>iw q.2).length:=lb (jg.mpr ⟨Sy,hi0⟩)
 obtain⟨q,hq,vn⟩:=eA (ks.filter fun q=>iw q.2) bM a h0
 obtain⟨hqk,hqi⟩:=jg.mp hq;have hz:0<(((ks.filter fun q=>iw q.2).map bM).length:Int):=by rw[aE];lia
 obtain⟨G,hG⟩:∃G,G=(ks.filter fun q=>iw q.2).map bM:=⟨_,rfl⟩
 have sc:=JU K (.val (.int a)) (.val (.int b)) (.val (SL ks)) .un .un .un .un .un;rw[<-hG]at sc vn hz;obtain⟨x,d⟩:=q;cases d with
 | ow s=>cases hqi
 | ho bb s =>
  obtain⟨w,hw,hwb,e1⟩:∃w:Str,(w="lend"\/w="sole")/\(may (.ho bb s) || w==(Str.ofString "lend"))=true/\ab (bI (cH (aa (kS "lend") (aa (kS "sole") ah)))) (cf yB (aa (ab (ab (rd 6) (kI 0) aF) (kS "sole") dS) ah)) aF [.val (.int a),.val (.int b),.val (KL ks),.val (SL ks),.val (.aq G),.val (.str x),.val (c7 (.ho bb s)),.un,.un]=some (.str w):=by
   cases bb with
   | true=>exact⟨"sole",.inr rfl,by show(!((Str.ofString "sole")==(Str.ofString "lent")) || _)=true;decide +kernel,b2 rfl (bV (cA (b2 (b2 rfl rfl (k0 _)) rfl cU) rfl) rfl) (by kernel_rfl)⟩
   | false=>exact⟨"lend",.inl rfl,by show(!((Str.ofString "lent")==(Str.ofString "lent")) || _)=true;decide +kernel,b2 rfl (bV (cA (b2 (b2 rfl rfl (k0 _)) rfl cU) rfl) rfl) (by kernel_rfl)⟩
  have fc:=N0 K bb s w (.val (.int a)) (.val (.int b)) (.val (KL ks)) (.val (.aq G)) (.val (.str x)) .un;obtain⟨T,hT⟩:∃T,T=(lx ks).filter (Ry s w):=⟨_,rfl⟩
  have ZP:0<T.length:=by
   rw[hT];refine lb (jg.mpr ⟨pE hqk,?_⟩);show(eqT (enc s) (enc s)&&(may (.ho bb s) || _))=true;rw[lW,hwb];rfl
  have Ld:∀t∈T,fu ks t:=by rw[hT];exact CZ (vi K)
  rw[<-hT]at fc;obtain⟨t,ht,ZQ⟩:=eA T cx b ZP;have V4:0<((T.map cx).length:Int):=by rw[aE];lia
  refine xS (aS sc rfl) (xS (aS (b2 (x:=.aq G) rfl (b2 rfl (bV (cA rfl rfl) rfl) (dJ hz)) vn) rfl) (xS (aS e1 rfl) (xS (aS fc rfl) (xR (tU (cA rfl (cA rfl (cA (b2 (x:=.aq (T.map cx)) rfl (b2 rfl (bV (cA rfl rfl) rfl) (dJ V4)) ZQ) rfl))) (by simp)) ⟨_,NT K M hw x (Ld t ht)⟩))))
include K in
theorem Rz(k:Nat)(w:Str)(a:Int){o:Op}(ho:nV ks o)(hw:∃q∈ks,iw q.2=false):∃p,run bt (k+1) "_law_small_row" [.str w,.int a,jy o,SL ks]=some (.val p)/\FG ks M p:=by
 rw[uV,aR];refine Rt.run ?_;have hl:=vj K;refine xI (bT (b2 (x:=.str w) rfl rfl cU)) (fun _=>?_) fun _=>?_
 ·have c1:bI (fP [none,none,none,none] (dD (rd 3)) (cM 3 (aw (aj 1) (aw (aj 2) (aw (aj 3) cI)))) (kl (toB (ab (rd 1) (kI 1) aF))) (rd 1)) [.val (.str w),.val (.int a),.val (jy o),.val (SL ks),.un,.un]=some (.aq (((lx ks).filter fun t=>!iw t.d).map cx)):=by
   refine fF (cT (ps:=(lx ks).map jC) rfl (by rw[aE];lia) ?_)
   refine gI fun t ht=>?_
   have t0:cM 3 (aw (aj 1) (aw (aj 2) (aw (aj 3) cI))) (jC t) (bL [none,none,none,none] [.val (.str w),.val (.int a),.val (jy o),.val (SL ks),.un,.un])=some [.un,.val (cx t),.val (enc t.r.2.2.2),.val (.bl (may t.d))]:=rfl;have g:kl (toB (ab (rd 1) (kI 1) aF)) [.un,.val (cx t),.val (enc t.r.2.2.2),.val (.bl (may t.d))]=some (!iw t.d):=nB (bT rfl);rw[t0,aY,g,aY];cases(!iw t.d)<;>rfl
  obtain⟨q,hq,hqi⟩:=hw;obtain⟨T,hT⟩:∃T,T=(lx ks).filter fun t=>!iw t.d:=⟨_,rfl⟩
  have ZP:0<T.length:=by
   rw[hT];exact lb (jg.mpr ⟨pE hq,by show(!iw q.2)=true;rw[hqi];rfl⟩)
  have Ld:∀t∈T,fu ks t:=by rw[hT];exact CZ (vi K)
  rw[<-hT]at c1;obtain⟨t,ht,ZQ⟩:=eA T cx a ZP;have V4:0<((T.map cx).length:Int):=by rw[aE];lia
  exact xS (aS c1 rfl) (xR (tU (cA rfl (cA (b2 (x:=.aq (T.map cx)) rfl (b2 rfl (bV (cA rfl rfl) rfl) (dJ V4)) ZQ) rfl)) (by simp)) ⟨_,NS K M (Ld t ht)⟩)
 ·have c1:bI (fP [none,none,none,none] (dD (rd 3)) (cM 3 (aw (aj 1) (aw (aj 2) (aw (aj 3) cI)))) (gS (toB (ab (ab (rd 2) (kI 0) aF) (kS "strip") dS)) (toB (rd 3))) (rd 1)) [.val (.str w),.val (.int a),.val (jy o),.val (SL ks),.un,.un]=some (.aq (((lx ks).filter fun t=>(Hf t.r.2.2.2==(Str.ofString "strip"))&&may t.d).map cx)):=by
   refine fF (cT (ps:=(lx ks).map jC) rfl (by rw[aE];lia) ?_)
   refine gI fun t ht=>?_
   have t0:cM 3 (aw (aj 1) (aw (aj 2) (aw (aj 3) cI))) (jC t) (bL [none,none,none,none] [.val (.str w),.val (.int a),.val (jy o),.val (SL ks),.un,.un])=some [.un,.val (cx t),.val (enc t.r.2.2.2),.val (.bl (may t.d))]:=rfl;have g:gS (toB (ab (ab (rd 2) (kI 0) aF) (kS "strip") dS)) (toB (rd 3)) [.un,.val (cx t),.val (enc t.r.2.2.2),.val (.bl (may t.d))]=some ((Hf t.r.2.2.2==(Str.ofString "strip"))&&may t.d):=nD (bT (b2 (b2 rfl rfl (Cm _)) rfl cU)) (bT rfl);rw[t0,aY,g,aY];cases((Hf t.r.2.2.2==(Str.ofString "strip"))&&may t.d)<;>rfl
  obtain⟨T,hT⟩:∃T,T=(lx ks).filter fun t=>(Hf t.r.2.2.2==(Str.ofString "strip"))&&may t.d:=⟨_,rfl⟩
  have Ld:∀t∈T,fu ks t:=by rw[hT];exact CZ (vi K)
  rw[<-hT]at c1;refine xS (aS c1 rfl) (xI (nD (bT (b2 (x:=.str w) rfl rfl cU)) (bT (b2 (x:=.aq (T.map cx)) (y:=.aq []) rfl rfl (Rx Ld)))) (fun hc=>?_) fun _=>?_)
  ·have hTe:T.isEmpty=false:=by
    have:=(Dj.mp hc).2;cases h:T.isEmpty
    ·rfl
    ·rw[h]at this;cases this
   obtain⟨t,ht,ZQ⟩:=eA T cx a (zZ hTe);have V4:0<((T.map cx).length:Int):=by have:=zZ hTe;rw[aE];lia
   exact xR (tU (cA rfl (cA (b2 (x:=.aq (T.map cx)) rfl (b2 rfl (bV (cA rfl rfl) rfl) (dJ V4)) ZQ) (cA rfl rfl))) (by simp)) ⟨_,Hy K M (Ld t ht) ho (.inr rfl)⟩
  ·exact xR (tU (cA rfl (cA rfl rfl)) (by simp)) ⟨_,Hz K M ho⟩
abbrev dF(r:Rk):PV:=.str r.1
abbrev g9(r:Option Rk):PV:=.str (Cz r)
structure V5 (ks:List Rk) (LK OT OW:List Rk) (BK:List (Option Rk)):Prop where
 lk:(∀r∈LK,r∈ks)/\0<LK.length
 ot:(∀r∈OT,r∈ks)/\0<OT.length
 ow:(∀r∈OW,r∈ks)/\0<OW.length
 bk:(∀o∈BK,∀r,o=some r->r∈ks)/\0<BK.length
include K in
theorem Ew(k:Nat)(a b:Int)(f0 f1 f2:PV){LK OT OW:List Rk}{BK:List (Option Rk)}(C:V5 ks LK OT OW BK)(pl:Int)(hp:0<=pl/\pl<6):∃p,run bt (k+1) "_law_call" [.int a,.int b,.aA [.aq [f0,f1,f2],.aq (LK.map dF),.aq (OT.map dF),.aq (OW.map dF),.aq (BK.map g9),.int pl]]=some (.val p)/\FG ks M p:=by
 rw[Jn,aR];refine Rt.run ?_;obtain⟨l1,hl1,al1⟩:=eA LK dF b C.lk.2;obtain⟨o1,XC,ao1⟩:=eA OW dF (b/8) C.ow.2;obtain⟨t1,ht1,at1⟩:=eA OT dF (b/8) C.ot.2;obtain⟨o2,ho2,ao2⟩:=eA OW dF (b/64) C.ow.2;obtain⟨l2,Ph,al2⟩:=eA LK dF (a/4) C.lk.2;obtain⟨k1,hk1,ak1⟩:=eA BK g9 (a/4) C.bk.2;have zl:0<((LK.map dF).length:Int):=by have:=C.lk.2;rw[aE];lia
 have zo:0<((OW.map dF).length:Int):=by have:=C.ow.2;rw[aE];lia
 have zt:0<((OT.map dF).length:Int):=by have:=C.ot.2;rw[aE];lia
 have zk:0<((BK.map g9).length:Int):=by have:=C.bk.2;rw[aE];lia
 have hL:∀r∈LK,r∈ks:=C.lk.1
 have hO:∀r∈OW,r∈ks:=C.ow.1
 have hT:∀r∈OT,r∈ks:=C.ot.1
 have hB:∀o∈BK,∀r,o=some r->r∈ks:=C.bk.1
 obtain⟨L,eL⟩:∃L,L=LK.map dF:=⟨_,rfl⟩
 obtain⟨O,eO⟩:∃O,O=OW.map dF:=⟨_,rfl⟩
 obtain⟨T,eT⟩:∃T,T=OT.map dF:=⟨_,rfl⟩
 obtain⟨B,eB⟩:∃B,B=BK.map g9:=⟨_,rfl⟩
 rw[<-eL]at al1 al2 zl;rw[<-eO]at ao1 ao2 zo;rw[<-eT]at at1 zt;rw[<-eB]at ak1 zk;rw[<-eL,<-eO,<-eT,<-eB];obtain⟨CA,ZR⟩:∃CA,CA=PV.aA [.aq [f0,f1,f2],.aq L,.aq T,.aq O,.aq B,.int pl]:=⟨_,rfl⟩
 have e1:bj (rd 2) (cM 6 (aw (aj 3) (aw (aj 4) (aw (aj 5) (aw (aj 6) (aw (aj 7) (aw (aj 8) cI))))))) [.val (.int a),.val (.int b),.val CA,.un,.un,.un,.un,.un,.un,.un]=some (.nx [.val (.int a),.val (.int b),.val CA,.val (.aq [f0,f1,f2]),.val (.aq L),.val (.aq T),.val (.aq O),.val (.aq B),.val (.int pl),.un]):=by rw[ZR];exact aS rfl rfl
 rw[<-ZR];have d4:∀(v:Int) (X:Ent),toB (ab (ab (rd 0) (kI 4) cw) (cK (.int v)) dS) (fB none [.val (.int a),.val (.int b),.val CA,.val (.aq [f0,f1,f2]),.val (.aq L),.val (.aq T),.val (.aq O),.val (.aq B),.val (.int pl),X])=some (decide (a%4=v)):=fun v X=>bT (b2 (b2 (x:=.int a) rfl rfl (dJ (by decide))) rfl iU)
 refine xS e1 (xI (d4 0 .un) (fun _=>?_) fun _=>?_)
 ·exact xR (tU (cA rfl (cA rfl (cA (b2 (x:=.aq [f0,f1,f2]) rfl rfl rfl) (cA rfl rfl)))) (by simp)) ⟨_,vg K M f0 (ar:=[]) (fun _ h=>nomatch h) (by simp) (tk:=none) (fun _ h=>nomatch h)⟩
 refine xS (sO (ps:=[dF l1,dF o1]) (lS (cA (b2 (x:=.aq L) rfl (b2 (x:=.int b) rfl (show hV (cf cZ (aa _ ah)) _=some (.int (L.length:Int))from rfl) (dJ zl)) al1) (cA (b2 (x:=.aq O) rfl (b2 (b2 (x:=.int b) rfl rfl (zO (by decide))) (show hV (cf cZ (aa _ ah)) _=some (.int (O.length:Int))from rfl) (dJ zo)) ao1) rfl)) (by simp)) (by simp)) ?_
 refine xI (d4 1 (.own [dF l1,dF o1])) (fun _=>?_) fun _=>?_
 ·have d2:jm (toB (ab (ab (rd 8) (kI 2) cw) (kI 1) dS)) [.val (.int a),.val (.int b),.val CA,.val (.aq [f0,f1,f2]),.val (.aq L),.val (.aq T),.val (.aq O),.val (.aq B),.val (.int pl),.own [dF l1,dF o1]]=some (decide (pl%2=1)):=bT (b2 (b2 (x:=.int pl) rfl rfl (dJ (by decide))) rfl iU)
  have fin:∀(r1 r2:Rk),r1∈ks->r2∈ks->Rt (FG ks M) (mF [9] (bz (bh (aa (kS "call") (aa (ab (rd 7) (ab (ab (rd 0) (kI 4) dz) (hV (cf cZ (aa (rd 7) ah))) cw) aF) (aa (ab (rd 3) (kI 1) aF) (aa (cf mJ (aa (rd 9) ah)) ah)))))) [.val (.int a),.val (.int b),.val CA,.val (.aq [f0,f1,f2]),.val (.aq L),.val (.aq T),.val (.aq O),.val (.aq B),.val (.int pl),.own [dF r1,dF r2]]):=by
   intro r1 r2 h1 h2;show Rt _ (bz _ (fB (some [9]) [.val (.int a),.val (.int b),.val CA,.val (.aq [f0,f1,f2]),.val (.aq L),.val (.aq T),.val (.aq O),.val (.aq B),.val (.int pl),.own [dF r1,dF r2]]));refine xR (tU (ps:=[.str "call",g9 k1,f1,.aA ([r1,r2].map dF)]) (cA rfl (cA (b2 (x:=.aq B) rfl (b2 (b2 (x:=.int a) rfl rfl (zO (by decide))) (show hV (cf cZ (aa _ ah)) _=some (.int (B.length:Int))from rfl) (dJ zk)) ak1) (cA (b2 (x:=.aq [f0,f1,f2]) rfl rfl rfl) (cA (bV (as:=[.aq ([r1,r2].map dF)]) (cA rfl rfl) rfl) rfl)))) (by simp)) ⟨_,vg K M f1 (ar:=[r1,r2]) (fun r hr=>?_) (by simp) (tk:=k1) (fun r hr=>hB k1 hk1 r hr)⟩
   simp only[bB,eY,fg]at hr;rcases hr with rfl | rfl
   ·exact h1
   ·exact h2
  by_cases hb:pl%2=1
  ·rw[dm hb]at d2;exact xS (iT d2 (z:=some (.nx [.val (.int a),.val (.int b),.val CA,.val (.aq [f0,f1,f2]),.val (.aq L),.val (.aq T),.val (.aq O),.val (.aq B),.val (.int pl),.own [dF o1,dF l1]])) rfl) (fin o1 l1 (hO _ XC) (hL _ hl1))
  ·rw[eZ hb]at d2;exact xS (iF d2 rfl) (fin l1 o1 (hL _ hl1) (hO _ XC))
 ·refine xS (fO:=[.val (.int a),.val (.int b),.val CA,.val (.aq [f0,f1,f2]),.val (.aq L),.val (.aq T),.val (.aq O),.val (.aq B),.val (.int pl),.own [dF l1,dF t1]]) (sO (ps:=[dF l1,dF t1]) (lS (cA (b2 (x:=.aq L) rfl (b2 (x:=.int b) rfl (show hV (cf cZ (aa _ ah)) _=some (.int (L.length:Int))from rfl) (dJ zl)) al1) (cA (b2 (x:=.aq T) rfl (b2 (b2 (x:=.int b) rfl rfl (zO (by decide))) (show hV (cf cZ (aa _ ah)) _=some (.int (T.length:Int))from rfl) (dJ zt)) at1) rfl)) (by simp)) (by simp)) ?_
  obtain⟨j,hj,hj2⟩:∃j:Nat,pl/2=(j:Int)/\j<=2:=⟨(pl/2).toNat,by lia,by lia⟩
  have aey:gL 9 (aa (ab (rd 8) (kI 2) dz) (aa (ab (rd 6) (ab (ab (rd 1) (kI 64) dz) (hV (cf cZ (aa (rd 6) ah))) cw) aF) ah)) yL [.val (.int a),.val (.int b),.val CA,.val (.aq [f0,f1,f2]),.val (.aq L),.val (.aq T),.val (.aq O),.val (.aq B),.val (.int pl),.own [dF l1,dF t1]]=some (.nx [.val (.int a),.val (.int b),.val CA,.val (.aq [f0,f1,f2]),.val (.aq L),.val (.aq T),.val (.aq O),.val (.aq B),.val (.int pl),.own (([l1,t1].take j++o2::[l1,t1].drop j).map dF)]):=by
   have ar:(aa (ab (rd 8) (kI 2) dz) (aa (ab (rd 6) (ab (ab (rd 1) (kI 64) dz) (hV (cf cZ (aa (rd 6) ah))) cw) aF) ah)) [.val (.int a),.val (.int b),.val CA,.val (.aq [f0,f1,f2]),.val (.aq L),.val (.aq T),.val (.aq O),.val (.aq B),.val (.int pl),.own [dF l1,dF t1]]=some [.int (j:Int),dF o2]:=by
    rw[<-hj];exact cA (b2 (x:=.int pl) rfl rfl (zO (by decide))) (cA (b2 (x:=.aq O) rfl (b2 (b2 (x:=.int b) rfl rfl (zO (by decide))) (show hV (cf cZ (aa _ ah)) _=some (.int (O.length:Int))from rfl) (dJ zo)) ao2) rfl)
   rw[rW];show QM 9 _ yL _ (some (.own [dF l1,dF t1]))=_;rw[oZ,ar,aY];have:j=0\/j=1\/j=2:=by lia
   rcases this with rfl | rfl | rfl<;>rfl
  refine xS aey ?_;obtain⟨ar,har⟩:∃ar,ar=[l1,t1].take j++o2::[l1,t1].drop j:=⟨_,rfl⟩
  rw[<-har];have ham:(∀r∈ar,r∈ks)/\ar.length<=4:=by
   have:j=0\/j=1\/j=2:=by lia
   rcases this with rfl | rfl | rfl
   all_goals
    rw[har];refine⟨fun r hr=>?_,by simp⟩
    simp at hr;rcases hr with rfl | rfl | rfl
    all_goals first | exact hL _ hl1 | exact hT _ ht1 | exact hO _ ho2
  show Rt _ (bz _ (fB (some [9]) [.val (.int a),.val (.int b),.val CA,.val (.aq [f0,f1,f2]),.val (.aq L),.val (.aq T),.val (.aq O),.val (.aq B),.val (.int pl),.own (ar.map dF)]));exact xR (tU (ps:=[.str "call",dF l2,f2,.aA (ar.map dF)]) (cA rfl (cA (b2 (x:=.aq L) rfl (b2 (b2 (x:=.int a) rfl rfl (zO (by decide))) (show hV (cf cZ (aa _ ah)) _=some (.int (L.length:Int))from rfl) (dJ zl)) al2) (cA (b2 (x:=.aq [f0,f1,f2]) rfl rfl rfl) (cA (bV (as:=[.aq (ar.map dF)]) (cA rfl rfl) rfl) rfl)))) (by simp)) ⟨_,vg K M f2 (ar:=ar) ham.1 ham.2 (tk:=some l2) (fun r hr=>by cases hr;exact hL _ Ph)⟩
end
theorem RA(m:Int):∃y:Str,aF (.str "+-*") (.int (m%3))=some (.str y):=by
 have:m%3=0\/m%3=1\/m%3=2:=by lia
 rcases this with h | h | h<;>rw[h]
 ·exact⟨"+",by kernel_rfl⟩
 ·exact⟨"-",by kernel_rfl⟩
 ·exact⟨"*",by kernel_rfl⟩
theorem N1{N:List Sp}(hl:N.length<=1000)(x0 x1 x2 x3 x4 x5:Ent)(r:aI):bI (fP [none,none,none] (dD (rd 6)) (cM 2 (aw (aj 1) (aw (aj 2) cI))) (toB (rd 2)) (rd 1)) (x0::x1::x2::x3::x4::x5::.val (.aq (N.map gi))::r)=some (.aq ((N.filter fun t=>may t.d).map cx)):=by
 refine fF (cT (ps:=N.map gi) rfl (by rw[aE];lia) ?_)
 refine gI fun s hs=>?_
 have t:cM 2 (aw (aj 1) (aw (aj 2) cI)) (gi s) (bL [none,none,none] (x0::x1::x2::x3::x4::x5::.val (.aq (N.map gi))::r))=some [.un,.val (cx s),.val (.bl (may s.d))]:=rfl;have g:toB (rd 2) [.un,.val (cx s),.val (.bl (may s.d))]=some (may s.d):=bT rfl;rw[t,aY,g,aY];cases may s.d<;>rfl
abbrev mdT(W:List Str)(ks:List Rk)(x:Str)(dg:Int)(CA iA:PV):PV:=.aA [.aq (W.map .str),KL ks,SL ks,.aq ((Ad ks x dg).map gi),CA,iA]
abbrev caT(f0 f1 f2:PV)(LK OT OW:List Rk)(BK:List (Option Rk))(pl:Int):PV:=.aA [.aq [f0,f1,f2],.aq (LK.map dF),.aq (OT.map dF),.aq (OW.map dF),.aq (BK.map g9),.int pl]
theorem ZS(k:Nat)(hk:3<=k){ks:List Rk}(K:r9 ks){M:Nat}(hM:0<M){W:List Str}(hW:0<W.length){x:Str}(hx:(x,Kd.ow .num)∈ks)(hh:∃q∈ks,iw q.2=true)(dg:Int)(f0 f1 f2:PV){LK OT OW:List Rk}{BK:List (Option Rk)}(Q:V5 ks LK OT OW BK){pl:Int}(hp:0<=pl/\pl<6){iA:PV}(WC:FG ks M iA)(C:Int) :
  ∃p,run bt (k+3) "_law_row" [.int C,.int (M:Int),mdT W ks x dg (caT f0 f1 f2 LK OT OW BK pl) iA]=some (.val p)/\FG ks M p:=by
 obtain⟨n1,n2,n3⟩:=V3 K hx dg;obtain⟨tm,htm,hmy⟩:=n3;obtain⟨N,hN⟩:∃N,N=Ad ks x dg:=⟨_,rfl⟩
 rw[<-hN]at n1 n2 htm;have hN0:=lb htm;have h0:0<(lx ks).length:=lb (pE hx);have hz:0<((W.map PV.str).length:Int):=by rw[aE];lia
 obtain⟨w,_,hwa⟩:=eA W PV.str (JJ C 0) hW;obtain⟨a,ha⟩:∃a,a=JJ C 1:=⟨_,rfl⟩
 obtain⟨b,hb⟩:∃b,b=JJ C 2:=⟨_,rfl⟩
 have ma:=pC (k+1) C (i:=1) (by decide)
 have mb:=pC (k+1) C (i:=2) (by decide)
 have m0:=pC (k+1) C (i:=0) (by decide)
 rw[<-ha]at ma;rw[<-hb]at mb;obtain⟨one,e1,o1⟩:=xo (ks:=ks) (k+1) n1 hN0 C b;obtain⟨two,e2,o2⟩:=xo (ks:=ks) (k+1) n1 hN0 (C/7) a;obtain⟨pc,c1,c2⟩:=JT K M k hk w a b h0;obtain⟨pl',l1,l2⟩:=JV K M (k+1) a b hh;obtain⟨pq,q1,q2⟩:=Ew K M (k+1) a b f0 f1 f2 Q pl hp;obtain⟨ps,s1,s2⟩:=Rz K M (k+1) w a o1 ⟨_,hx,rfl⟩;obtain⟨T,hT⟩:∃T,T=N.filter fun t=>may t.d:=⟨_,rfl⟩
 have ZP:0<T.length:=by rw[hT];exact lb (jg.mpr ⟨htm,hmy⟩)
 have Ld:∀t∈T,fu ks t:=by rw[hT];exact CZ n1
 obtain⟨t,ht,hta⟩:=eA T cx a ZP;have hTz:0<((T.map cx).length:Int):=by rw[aE];lia
 obtain⟨pm,hpm⟩:=RA b;obtain⟨j,hj,hjM⟩:∃j:Nat,a%(M:Int)=(j:Int)/\j<M:=⟨(a%(M:Int)).toNat,by
  have:=lE a (show(M:Int)≠0 by lia)
  lia,by
  have:=sx a (show(0:Int)<(M:Int) by lia)
  have:=lE a (show(M:Int)≠0 by lia)
  lia⟩
 have gm:cw (.int a) (.int (M:Int))=some (iN j):=by
  unfold iN;rw[<-hj];exact dJ (by lia)
 unfold mdT;rw[<-hN];obtain⟨CA,ZR⟩:∃CA,CA=caT f0 f1 f2 LK OT OW BK pl:=⟨_,rfl⟩
 rw[<-ZR];have q1:run bt (k+2) "_law_call" [.int a,.int b,CA]=some (.val pq):=by rw[ZR];exact q1
 obtain⟨md,VR⟩:∃md,md=PV.aA [.aq (W.map .str),KL ks,SL ks,.aq (N.map gi),CA,iA]:=⟨_,rfl⟩
 rw[Nl,aR];refine Rt.run ?_;have a0:bj (rd 2) (cM 6 (aw (aj 3) (aw (aj 4) (aw (aj 5) (aw (aj 6) (aw (aj 7) (aw (aj 8) cI))))))) [.val (.int C),.val (.int (M:Int)),.val md,.un,.un,.un,.un,.un,.un,.un,.un,.un,.un,.un]=some (.nx [.val (.int C),.val (.int (M:Int)),.val md,.val (.aq (W.map .str)),.val (KL ks),.val (SL ks),.val (.aq (N.map gi)),.val CA,.val iA,.un,.un,.un,.un,.un]):=by rw[VR];exact aS rfl rfl
 rw[<-VR];have oc:=N1 n2 (.val (.int C)) (.val (.int (M:Int))) (.val md) (.val (.aq (W.map .str))) (.val (KL ks)) (.val (SL ks)) [.val CA,.val iA,.val (.int a),.val (.int b),.val (.str w),.un,.un];rw[<-hT]at oc;refine xS a0 (xS (aS (dN (cA rfl (cA rfl rfl)) rfl ma rfl) rfl) (xS (aS (dN (cA rfl (cA rfl rfl)) rfl mb rfl) rfl) (xS (aS (b2 (x:=.aq (W.map .str)) rfl (b2 (dN (cA rfl (cA rfl rfl)) rfl m0 rfl) (bV (as:=[.aq (W.map .str)]) (cA rfl rfl) rfl) (dJ hz)) hwa) rfl) (xS (aS oc rfl) (xS (aS (dN (cA rfl (cA rfl (cA rfl rfl))) rfl e1 rfl) rfl) ?_)))));have wd:∀v:Str,toB (ab (rd 11) (kS v) dS) [Ent.val (.int C),.val (.int (M:Int)),.val md,.val (.aq (W.map .str)),.val (KL ks),.val (SL ks),.val (.aq (N.map gi)),.val CA,.val iA,.val (.int a),.val (.int b),.val (.str w),.val (.aq (T.map cx)),.val (jy one)]=some (w==v):=fun v=>bT (b2 rfl rfl cU)
 have ot:ab (rd 12) (ab (rd 9) (cf cZ (aa (rd 12) ah)) cw) aF [Ent.val (.int C),.val (.int (M:Int)),.val md,.val (.aq (W.map .str)),.val (KL ks),.val (SL ks),.val (.aq (N.map gi)),.val CA,.val iA,.val (.int a),.val (.int b),.val (.str w),.val (.aq (T.map cx)),.val (jy one)]=some (cx t):=b2 (x:=.aq (T.map cx)) rfl (b2 rfl (bV (as:=[.aq (T.map cx)]) (cA rfl rfl) rfl) (dJ hTz)) hta;refine xI (wd "put") (fun _=>?_) fun _=>?_
 ·exact xR (tU (cA rfl (cA ot (cA rfl rfl))) (by simp)) ⟨_,Hy K M (Ld t ht) o1 (.inl rfl)⟩
 refine xI (wd "set") (fun _=>?_) fun _=>?_
 ·exact xR (tU (ps:=[.str "set",cx t,.str pm,jy one,jy two]) (cA rfl (cA ot (cA (b2 rfl (b2 rfl rfl (dJ (by decide))) hpm) (cA rfl (cA (dN (cA (b2 rfl rfl (zO (by decide))) (cA rfl (cA rfl rfl))) rfl e2 rfl) rfl))))) (by simp)) ⟨_,Rh K M (Ld t ht) (.str pm) o1 o2⟩
 refine xI (bT (b2 (x:=.str w) (y:=.aA [.str "copy",.str "move"]) rfl rfl (in2 _ _ _))) (fun _=>?_) fun _=>?_
 ·exact xR (dN (cA rfl (cA rfl (cA rfl (cA rfl rfl)))) rfl c1 rfl) c2
 refine xI (wd "lend") (fun _=>?_) fun _=>?_
 ·exact xR (dN (cA rfl (cA rfl (cA rfl (cA rfl rfl)))) rfl l1 rfl) l2
 refine xI (wd "call") (fun _=>?_) fun _=>?_
 ·exact xR (dN (cA rfl (cA rfl (cA rfl rfl))) rfl q1 rfl) q2
 refine xI (wd "give") (fun _=>?_) fun _=>?_
 ·exact xR rfl WC
 refine xI (wd "go") (fun _=>?_) fun _=>?_
 ·exact xR (tU (cA rfl (cA (b2 rfl rfl gm) rfl)) (by simp)) ⟨_,VW K M hjM⟩
 refine xI (wd "if") (fun _=>?_) fun _=>?_
 ·exact xR (tU (cA rfl (cA rfl (cA (b2 rfl rfl (dJ (by decide))) (cA (b2 rfl rfl gm) rfl)))) (by simp)) ⟨_,VV K M o1 (b%97) hjM⟩
 ·exact xR (dN (cA rfl (cA rfl (cA rfl (cA rfl rfl)))) rfl s1 rfl) s2
def mC(ns:List Int)(i:Nat):Int:=JJ (cell ns (1+i)) (i%4)
abbrev NM(C:Int):PV:=.aq ((List.range 13).map fun q=>.str (cB C q))
abbrev CE(ns:List Int):PV:=.aq ((List.range 7).map fun i=>.int (mC ns i))
def J5(ns:List Int):List Sh:=[.num,i0 (mC ns 0),i0 (mC ns 1),i0 (mC ns 2)]
abbrev OE(ns:List Int):PV:=.aq ((J5 ns).map enc)
theorem mi(C:Int){q:Nat}(h:q<13):aF (NM C) (.int (q:Int))=some (.str (cB C q)):=da (by rw[cu,sv h];rfl)
theorem SV(ns:List Int){q:Nat}(h:q<7):aF (CE ns) (.int (q:Int))=some (.int (mC ns q)):=da (by rw[cu,sv h];rfl)
theorem V6(ns:List Int):∀s∈J5 ns,gZ s:=fun s hs=>by
 simp only[J5,bB,eY,fg]at hs;rcases hs with rfl | rfl | rfl | rfl
 ·exact NV
 ·exact mB _
 ·exact mB _
 ·exact mB _
theorem pG(k:Nat)(hk:3<=k)(C:Int)(ns:List Int)(S:Ent){i:Nat}(hi:i<4)(acc:az)(ha:acc.length<=100)(o6 o7:Ent):∃(d:Kd) (JP Rn:Ent),qy (run bt (k+1)) [S,.val (NM C),.val (.int (i:Int)),.val (CE ns),.val (OE ns),.own acc,o6,o7]=some (.nx [S,.val (NM C),.val (.int (i:Int)),.val (CE ns),.val (OE ns),.own (acc++[bM (cB C (4+i),d)]),JP,Rn])/\iw d=true/\gZ (cy d):=by
 obtain⟨m,hm⟩:∃m,m=mC ns (3+i):=⟨_,rfl⟩
 have hc:=SV ns (q:=3+i) (by lia)
 rw[<-hm]at hc;obtain⟨CC,ZT⟩:∃CC,CC=CE ns:=⟨_,rfl⟩
 rw[<-ZT]at hc;rw[<-ZT];have hn:=mi C (q:=4+i) (by lia)
 obtain⟨NN,Ae⟩:∃NN,NN=NM C:=⟨_,rfl⟩
 rw[<-Ae]at hn;rw[<-Ae];have h3:bZ (.int 3) (.int (i:Int))=some (.int ((3+i:Nat):Int)):=by
  rw[js];exact di (fun z=>some (PV.int z)) (by lia)
 have h4:bZ (.int 4) (.int (i:Int))=some (.int ((4+i:Nat):Int)):=by
  rw[js];exact di (fun z=>some (PV.int z)) (by lia)
 obtain⟨s,hs,vn⟩:∃s∈J5 ns,aF (OE ns) (.int (1+m%3))=some (enc s):=by
  have:m%3=0\/m%3=1\/m%3=2:=by lia
  rcases this with h | h | h
  ·rw[h];exact⟨i0 (mC ns 0),by simp[J5],(da (j:=1) rfl:atI ((J5 ns).map enc) ((1:Nat):Int)=_)⟩
  ·rw[h];exact⟨i0 (mC ns 1),by simp[J5],(da (j:=2) rfl:atI ((J5 ns).map enc) ((2:Nat):Int)=_)⟩
  ·rw[h];exact⟨i0 (mC ns 2),by simp[J5],(da (j:=3) rfl:atI ((J5 ns).map enc) ((3:Nat):Int)=_)⟩
 have fs:=V6 ns s hs;obtain⟨OO,ZU⟩:∃OO,OO=OE ns:=⟨_,rfl⟩
 rw[<-ZU]at vn;rw[<-ZU];have hp:=zX s k (by have:=fs.1.1.2;lia) (by have:=fs.1.1.1;lia)
 obtain⟨r,hr,hra⟩:=eA (tab s) kd (m/9) (zh s);have hz:0<(((tab s).map kd).length:Int):=by have:=zh s;rw[aE];lia
 obtain⟨T,hT⟩:∃T,T=(tab s).map kd:=⟨_,rfl⟩
 rw[<-hT]at hp hra hz;obtain⟨b,hb⟩:∃b:Bool,aF (.aq [.str "lent",.str "sole",.str "sole"]) (.int (m/3%3))=some (.str (hw b)):=by
  have:m/3%3=0\/m/3%3=1\/m/3%3=2:=by lia
  rcases this with h | h | h
  ·rw[h];exact⟨false,rfl⟩
  ·rw[h];exact⟨true,rfl⟩
  ·rw[h];exact⟨true,rfl⟩
 refine⟨.ho b r.2.2.2,.val (.aq T),.val (.str (hw b)),?_,rfl,NW fs hr⟩;unfold qy;have c0:∀(x6 x7:Ent),ab (rd 3) (ab (kI 3) (rd 2) bZ) aF [S,.val NN,.val (.int (i:Int)),.val CC,.val OO,.own acc,x6,x7]=some (.int m):=fun x6 x7=>b2 (x:=CC) rfl (b2 (x:=.int 3) (y:=.int (i:Int)) rfl rfl h3) hc
 refine sq (aS (dN (as:=[enc s]) (cA (b2 (x:=OO) rfl (b2 (x:=.int 1) rfl (b2 (c0 _ _) rfl (dJ (by decide))) js) vn) rfl) rfl hp rfl) rfl) (sq (aS (b2 (x:=.aq [.str "lent",.str "sole",.str "sole"]) rfl (b2 (b2 (c0 _ _) rfl (zO (by decide))) rfl (dJ (by decide))) hb) rfl) ?_)
 exact mA rfl (tU (cA (b2 (x:=NN) rfl (b2 (x:=.int 4) (y:=.int (i:Int)) rfl rfl h4) hn) (cA (tU (cA rfl (cA (b2 (b2 (x:=.aq T) rfl (b2 (b2 (c0 _ _) rfl (zO (by decide))) (show hV (cf cZ (aa (rd 6) ah)) _=some (.int (T.length:Int))from rfl) (dJ hz)) hra) rfl rfl) rfl)) (by simp)) rfl)) (by simp)) (by lia)
theorem V7(k:Nat)(hk:3<=k)(C:Int)(ns:List Int):∃d4 d5 d6 d7:Kd,run bt (k+2) "_law_lets" [y0 ns,NM C]=some (.own (([(cB C 0,.ow .num),(cB C 1,.ow (i0 (mC ns 0))),(cB C 2,.ow (i0 (mC ns 1))),(cB C 3,.ow (i0 (mC ns 2))),(cB C 4,d4),(cB C 5,d5),(cB C 6,d6),(cB C 7,d7)]:List Rk).map bM))/\(iw d4=true/\gZ (cy d4))/\(iw d5=true/\gZ (cy d5))/\(iw d6=true/\gZ (cy d6))/\(iw d7=true/\gZ (cy d7)):=by
 obtain⟨S,hS⟩:∃S,S=y0 ns:=⟨_,rfl⟩
 have lM:∀i:Nat,run bt (k+1) "_law_cell_at" [S,.int (i:Int)]=some (.val (.int (cell ns i))):=fun i=>by rw[hS];exact Nu k ns i
 obtain⟨acc,vF⟩:∃acc,acc=(([(cB C 0,.ow .num),(cB C 1,.ow (i0 (mC ns 0))),(cB C 2,.ow (i0 (mC ns 1))),(cB C 3,.ow (i0 (mC ns 2)))]:List Rk).map bM):=⟨_,rfl⟩
 have hal:acc.length=4:=by rw[vF];rfl
 obtain⟨d4,x6,x7,h4,i4⟩:=pG k hk C ns (.val S) (i:=0) (by decide) acc (by lia) .un .un
 obtain⟨d5,y6,y7,h5,i5⟩:=pG k hk C ns (.val S) (i:=1) (by decide) (acc++[bM (cB C 4,d4)]) (by simp;lia) x6 x7
 obtain⟨d6,z6,z7,h6,i6⟩:=pG k hk C ns (.val S) (i:=2) (by decide) (acc++[bM (cB C 4,d4)]++[bM (cB C 5,d5)]) (by simp;lia) y6 y7
 obtain⟨d7,v6,v7,h7,i7⟩:=pG k hk C ns (.val S) (i:=3) (by decide) (acc++[bM (cB C 4,d4)]++[bM (cB C 5,d5)]++[bM (cB C 6,d6)]) (by simp;lia) z6 z7
 refine⟨d4,d5,d6,d7,?_,i4,i5,i6,i7⟩;rw[Jm,aR,<-hS];have c1:bI (dX [none,none,some 0] (ip (aa (kI 7) ah)) (aj 1) (ay (aM 2 (run bt (k+1) "_law_mixed")) (aa (ay (aM 2 (run bt (k+1) "_law_cell_at")) (aa (rd 2) (aa (ab (kI 1) (rd 1) bZ) ah))) (aa (ab (rd 1) (kI 4) cw) ah)))) [.val S,.val (NM C),.un,.un,.un,.un,.un,.un]=some (CE ns):=by
  have hr:ip (aa (kI 7) ah) [.val S,.val (NM C),.un,.un,.un,.un,.un,.un]=some ((List.range 7).map fun(i:Nat)=>PV.int (0+(i:Int))):=iW (j:=7) rfl (by decide)
  refine fF (cV hr (by simp) (eG fun i hi=>?_))
  rw[lG];have t:aj 1 (.int (i:Int)) (bL [none,none,some 0] [.val S,.val (NM C),.un,.un,.un,.un,.un,.un])=some [.un,.val (.int (i:Int)),.val S]:=rfl;rw[t,aY];have h1:bZ (.int 1) (.int (i:Int))=some (.int ((1+i:Nat):Int)):=by
   rw[js];exact di (fun z=>some (PV.int z)) (by lia)
  have h2:cw (.int (i:Int)) (.int 4)=some (.int ((i%4:Nat):Int)):=by
   rw[dJ (by decide)]
   exact di (fun z=>some (PV.int z)) (by lia)
  exact dN (cA (dN (cA rfl (cA (b2 rfl rfl h1) rfl)) rfl (lM (1+i)) rfl) (cA (b2 rfl rfl h2) rfl)) rfl (pC k (cell ns (1+i)) (i:=i%4) (by lia)) rfl
 have c2:ab (bI (cH (aa (bh (aa (kS "num") ah)) ah))) (bI (dX [none,none,some 3] (ip (aa (kI 3) ah)) (aj 1) (ay (aM 1 (run bt (k+1) "_law_shape")) (aa (ab (rd 2) (rd 1) aF) ah)))) bZ [.val S,.val (NM C),.un,.val (CE ns),.un,.un,.un,.un]=some (OE ns):=by
  have hr:ip (aa (kI 3) ah) [.val S,.val (NM C),.un,.val (CE ns),.un,.un,.un,.un]=some ((List.range 3).map fun(i:Nat)=>PV.int (0+(i:Int))):=iW (j:=3) rfl (by decide)
  have hm:bI (dX [none,none,some 3] (ip (aa (kI 3) ah)) (aj 1) (ay (aM 1 (run bt (k+1) "_law_shape")) (aa (ab (rd 2) (rd 1) aF) ah))) [.val S,.val (NM C),.un,.val (CE ns),.un,.un,.un,.un]=some (.aq ((List.range 3).map fun i=>enc (i0 (mC ns i)))):=by
   refine fF (cV hr (by simp) (eG fun i hi=>?_))
   have hi:=d9.mp hi;rw[lG];have hc:=SV ns (q:=i) (by lia)
   obtain⟨CC,ZT⟩:∃CC,CC=CE ns:=⟨_,rfl⟩
   rw[<-ZT]at hc;rw[<-ZT];have t:aj 1 (.int (i:Int)) (bL [none,none,some 3] [.val S,.val (NM C),.un,.val CC,.un,.un,.un,.un])=some [.un,.val (.int (i:Int)),.val CC]:=rfl;rw[t,aY];exact dN (cA (b2 (x:=CC) rfl rfl hc) rfl) rfl (Rm k (mC ns i)) rfl
  exact b2 (x:=.aq [nP]) rfl hm (aL (by simp))
 have c3:jA 5 (dX [none,none,some 1,some 4] (ip (aa (kI 4) ah)) (aj 1) (bh (aa (ab (rd 2) (rd 1) aF) (aa (ab (rd 3) (rd 1) aF) ah)))) [.val S,.val (NM C),.un,.val (CE ns),.val (OE ns),.un,.un,.un]=some (.nx [.val S,.val (NM C),.un,.val (CE ns),.val (OE ns),.own acc,.un,.un]):=by
  have hr:ip (aa (kI 4) ah) [.val S,.val (NM C),.un,.val (CE ns),.val (OE ns),.un,.un,.un]=some ((List.range 4).map fun(i:Nat)=>PV.int (0+(i:Int))):=iW (j:=4) rfl (by decide)
  refine sO (cV hr (by simp) ?_) (by simp)
  have:acc=(List.range 4).map fun i=>PV.aA [.str (cB C i),enc ((J5 ns).getD i .num)]:=by rw[vF];rfl
  rw[this];refine eG fun i hi=>?_
  have hi:=d9.mp hi;rw[lG];have hn:=mi C (q:=i) (by lia)
  have ho:aF (OE ns) (.int (i:Int))=some (enc ((J5 ns).getD i .num)):=da (by
   have:i=0\/i=1\/i=2\/i=3:=by lia
   rcases this with rfl | rfl | rfl | rfl<;>rfl)
  obtain⟨NN,Ae⟩:∃NN,NN=NM C:=⟨_,rfl⟩
  rw[<-Ae]at hn;rw[<-Ae];obtain⟨OO,ZU⟩:∃OO,OO=OE ns:=⟨_,rfl⟩
  rw[<-ZU]at ho;rw[<-ZU];have t:aj 1 (.int (i:Int)) (bL [none,none,some 1,some 4] [.val S,.val NN,.un,.val (CE ns),.val OO,.un,.un,.un])=some [.un,.val (.int (i:Int)),.val NN,.val OO]:=rfl;rw[t,aY];exact tU (cA (b2 (x:=NN) rfl rfl hn) (cA (b2 (x:=OO) rfl rfl ho) rfl)) (by simp)
 have hr:ip (aa (kI 4) ah) [.val S,.val (NM C),.un,.val (CE ns),.val (OE ns),.own acc,.un,.un]=some [.int ((0:Nat):Int),.int ((1:Nat):Int),.int ((2:Nat):Int),.int ((3:Nat):Int)]:=iW (j:=4) rfl (by decide)
 have hl:acc++[bM (cB C 4,d4)]++[bM (cB C 5,d5)]++[bM (cB C 6,d6)]++[bM (cB C 7,d7)]=([(cB C 0,.ow .num),(cB C 1,.ow (i0 (mC ns 0))),(cB C 2,.ow (i0 (mC ns 1))),(cB C 3,.ow (i0 (mC ns 2))),(cB C 4,d4),(cB C 5,d5),(cB C 6,d6),(cB C 7,d7)]:List Rk).map bM:=by rw[vF];rfl
 rw[<-hl];exact zc (sq (aS c1 rfl) (sq (aS c2 rfl) (sq c3 (sq (fS hr (fC rfl h4 (fC rfl h5 (fC rfl h6 (fC rfl h7 rfl))))) (ze rfl)))))
def fk(ks:List Rk)(d:Kd):List Rk:=ks.filter fun q=>eqT (c7 q.2) (c7 d)
theorem HB{ks:List Rk}{r:Rk}(h:r∈ks):(∀q∈fk ks r.2,q∈ks)/\0<(fk ks r.2).length:=⟨fun q hq=>(jg.mp hq).1,lb (jg.mpr ⟨h,lW _⟩)⟩
theorem se{ks:List Rk}(K:r9 ks){ρ:aI}{LL:PV}(h8:rd 8 ρ=some (KL ks))(hin:bL [none,none,none,some 4] ρ=[.un,.un,.un,.val LL]){j:Int}{q0:Rk}(hj:aF LL (.int j)=some (bM q0)):bI (fP [none,none,none,some 4] (dD (rd 8)) (cM 2 (aw (aj 1) (aw (aj 2) cI))) (toB (ab (rd 2) (ab (ab (rd 3) (cK (.int j)) aF) (kI 1) aF) dS)) (rd 1)) ρ=some (.aq ((fk ks q0.2).map dF)):=by
 have hl:=K.few;refine fF (cT (ps:=ks.map bM) (sV h8 rfl) (by rw[aE];lia) ?_)
 rw[hin];refine gI fun q hq=>?_
 have t0:cM 2 (aw (aj 1) (aw (aj 2) cI)) (bM q) [.un,.un,.un,.val LL]=some [.un,.val (.str q.1),.val (c7 q.2),.val LL]:=rfl;have g:toB (ab (rd 2) (ab (ab (rd 3) (cK (.int j)) aF) (kI 1) aF) dS) [.un,.val (.str q.1),.val (c7 q.2),.val LL]=some (eqT (c7 q.2) (c7 q0.2)):=bT (b2 rfl (b2 (b2 (x:=LL) rfl rfl hj) rfl rfl) (ZI q.2 (K.ok q hq) _));rw[t0,aY,g,aY];cases eqT (c7 q.2) (c7 q0.2)<;>rfl
theorem mI{n:Nat}{fa fb:FE}{ρ:aI}{ps:az}{i:Int}{p:PV}(h0:ρ[n]?=some (.own ps))(h:fa ρ=some (.int i))(h2:fb ρ=some p)(hi:0<=i/\i<=1000000)(hl:ps.length<100000):gL n (aa fa (aa fb ah)) yL ρ=some (.nx (ρ.set n (.own (ps.take i.toNat++p::ps.drop i.toNat)))):=by
 have e:yL ps [.int i,p]=some (ps.take i.toNat++p::ps.drop i.toNat):=if_pos ⟨hi.1,hi.2,SF hl⟩;rw[rW,h0,oZ,cA h (cA h2 rfl),aY,e];rfl
theorem JW(ns:List Int):∃cs:List Int,j6 (ns.map PV.int) (some 8) (some 24)=cs.map .int/\cs.length<=16:=by
 have e1:=HT.rJ (ns.map PV.int).length 0 8;have e2:=HT.rJ (ns.map PV.int).length (ns.map PV.int).length 24;unfold j6;rw[show(some 8:Option Int)=some ((8:Nat):Int)from rfl,show(some 24:Option Int)=some ((24:Nat):Int)from rfl,e1,e2,<-List.map_drop,<-List.map_take]
 exact⟨_,rfl,by rw[kD];lia⟩
theorem FH(C:Int):∀l:List (Fin 26),l.Nodup->(l.map fun i=>cB C i.1).Nodup
 | [],_=>xT
 | i::l,h=>by
  rw[jU]at h;rw[bK,jU];refine⟨fun hm=>?_,FH C l h.2⟩
  obtain⟨j,hj,e⟩:=bF.mp hm;have:=Rj j.2 i.2 e;exact h.1 (by rw[<-Fin.ext this];exact hj)
def N2(C:Int)(pl:Int)(d1 d4:Kd):List Rk:=if pl%2=1 then [(cB C 9,d1),(cB C 8,d4)]else [(cB C 8,d4),(cB C 9,d1)]
abbrev ltA(C:Int)(s1 s2 s3:Sh)(d4 d5 d6 d7:Kd):List Rk:=[(cB C 0,.ow .num),(cB C 1,.ow s1),(cB C 2,.ow s2),(cB C 3,.ow s3),(cB C 4,d4),(cB C 5,d5),(cB C 6,d6),(cB C 7,d7)]
theorem ZV(C pl:Int){s1 s2 s3:Sh}{d4 d5 d6 d7:Kd}(f1:gZ s1)(f2:gZ s2)(f3:gZ s3)(f4:gZ (cy d4))(f5:gZ (cy d5))(f6:gZ (cy d6))(f7:gZ (cy d7)):r9 (N2 C pl (.ow s1) d4++ltA C s1 s2 s3 d4 d5 d6 d7)/\(N2 C pl (.ow s1) d4++ltA C s1 s2 s3 d4 d5 d6 d7).length=10:=by
 have L2:(N2 C pl (.ow s1) d4++ltA C s1 s2 s3 d4 d5 d6 d7).length=10:=by
  unfold N2;split<;>rfl
 refine⟨⟨?_,?_,by lia,?_⟩,L2⟩
 ·by_cases h:pl%2=1
  ·have:=FH C [9,8,0,1,2,3,4,5,6,7] (by decide)
   unfold N2;rw[if_pos h];exact this
  ·have:=FH C [8,9,0,1,2,3,4,5,6,7] (by decide)
   unfold N2;rw[if_neg h];exact this
 ·intro q hq;rcases c9.mp hq with hq | hq
  ·unfold N2 at hq;split at hq
   all_goals
    simp only[bB,eY,fg]at hq;rcases hq with rfl | rfl
    all_goals first | exact f1 | exact f4
  ·simp only[bB,eY,fg]at hq;rcases hq with rfl | rfl | rfl | rfl | rfl | rfl | rfl | rfl
   ·exact NV
   ·exact f1
   ·exact f2
   ·exact f3
   ·exact f4
   ·exact f5
   ·exact f6
   ·exact f7
 ·intro q hq;have:∃i,q.1=cB C i:=by
   rcases c9.mp hq with hq | hq
   ·unfold N2 at hq;split at hq
    all_goals
     simp only[bB,eY,fg]at hq;rcases hq with rfl | rfl
     all_goals exact⟨_,rfl⟩
   ·simp only[bB,eY,fg]at hq;rcases hq with rfl | rfl | rfl | rfl | rfl | rfl | rfl | rfl
    all_goals exact⟨_,rfl⟩
  obtain⟨i,hi⟩:=this;rw[hi];exact VY C i
theorem N3{ks:List Rk}(K:r9 ks){z:Option Rk}(hz:∀r,z=some r->r∈ks):∃as,(∀M,lu ks M (.aA [.str "give",g9 z]) as)/\∀M j,rb M j (.aA [.str "give",g9 z]):=by
 have nx:∀M j,rb M j (.aA [.str "give",g9 z]):=fun M j=>⟨"give",rfl,fun h=>absurd h (by decide +kernel),fun h=>absurd h (by decide +kernel),fun h=>absurd h (by decide +kernel)⟩
 cases z with
 | none=>exact⟨_,fun M=>JM K M,nx⟩
 | some r=>exact⟨_,fun M=>NP K M (hz r rfl),nx⟩
theorem ZW{ks R1 R2:List Rk}(K:r9 ks)(yG:ks=R1++R2)(hl:ks.length=10){n0 n2 nm res iA:PV}{V8:List dO}(WC:∀M,lu ks M iA V8)(ZK:∀M j,rb M j iA){L:List (PV×List dO)}(hL:∀q∈L,lu ks (L.length+1) q.1 q.2)(h16:L.length<=16):VP (FD ks) 3 [n0,xb nm res (.aA (L.map (·.1)++[iA])) R1 R2,n2] nm res R1 R2 (L++[(iA,V8)]):=by
 have dQ:(L++[(iA,V8)]).length=L.length+1:=by simp
 have p5:∀q∈L++[(iA,V8)],lu ks (L.length+1) q.1 q.2:=fun q hq=>by
  rcases c9.mp hq with h | h
  ·exact hL q h
  ·rw[cW]at h;subst h;exact WC _
 have em:(L++[(iA,V8)]).map (fun q:PV×List dO=>q.1)=L.map (fun q:PV×List dO=>q.1)++[iA]:=by rw[c8];rfl
 have hr2:∀r∈R2,r∈ks:=fun r hr=>by rw[yG];exact dZ _ hr
 refine⟨?_,fun k hk q hq=>?_,by lia,by lia,fun q hq=>(p5 q hq).six,fun j p hp=>?_,fun r hr=>?_,?_,?_,fun q hq=>JL (p5 q hq).ok,by decide,?_⟩
 ·rw[em];rfl
 ·refine(p5 q hq).made _ k ?_ hk;rw[yG];refine Ge _ _ _ R1 R2 ?_ (by rw[<-yG];exact K.nd)
  have:=di List.length yG;rw[bU]at this
  lia
 ·rw[dQ];by_cases hj:j<L.length
  ·have AZ:(L.map (fun q:PV×List dO=>q.1))[j]?=some p:=by
    rw[em,jd (by rw[aE];exact hj)]at hp
    exact hp
   obtain⟨q,hq,rfl⟩:=bF.mp (cQ AZ);exact(hL q hq).nx j (by lia)
  ·rw[em,ly (by rw[aE];lia),aE]at hp
   have:p=iA:=by
    have:=cQ hp;simpa using this
   rw[this];exact ZK _ _
 ·have:=K.good r (hr2 r hr);refine⟨this.1.1,?_,bF.mpr ⟨r,hr2 r hr,rfl⟩⟩;unfold C3;split
  ·lia
  ·exact this.2
 ·have:=K.nd;rw[yG,c8,List.nodup_append]at this;exact this.2.1
 ·have:=di List.length yG;rw[bU]at this
  lia
 ·rw[dQ,FD,aE,hl]
  lia
theorem ZX:Bf (.int 10) (.int 12)=some (.int (10^12)):=by
 rw[BF,if_pos (by decide)]
 rfl
theorem sf(m:Int):m%4=0\/m%4=1\/m%4=2\/m%4=3:=by lia
def PrX(p:PV):Prop:=∃X fs nm res R1 R2 L,p=.aA fs/\VP X 3 fs nm res R1 R2 L
theorem JX(k:Nat)(hk:3<=k)(ns:List Int){W:List Str}(hW:0<W.length):∃p,run bt (k+4) "_law_program" [y0 ns,.int 16,.aq (W.map .str)]=some (.val p)/\PrX p:=by
 obtain⟨S,hS⟩:∃S,S=y0 ns:=⟨_,rfl⟩
 have lM:run bt (k+3) "_law_cell_at" [S,.int 0]=some (.val (.int (cell ns 0))):=by rw[hS];exact Nu (k+2) ns 0
 obtain⟨C,hC⟩:∃C,C=cell ns 0%10^12:=⟨_,rfl⟩
 have hn:=Rl (k+2) C;obtain⟨d4,d5,d6,d7,vx,i4,i5,i6,i7⟩:=V7 (k+1) (by lia) C ns
 obtain⟨cY,ZY⟩:∃cY,cY=JJ (cell ns 0) 3:=⟨_,rfl⟩
 have hb:=pC (k+2) (cell ns 0) (i:=3) (by decide)
 rw[<-ZY]at hb;obtain⟨pl,pI⟩:∃pl,pl=cY/1024%6:=⟨_,rfl⟩
 have hp6:0<=pl/\pl<6:=by lia
 have f1:=mB (mC ns 0);have f2:=mB (mC ns 1);have f3:=mB (mC ns 2);obtain⟨s1,e1⟩:∃s,s=i0 (mC ns 0):=⟨_,rfl⟩
 obtain⟨s2,e2⟩:∃s,s=i0 (mC ns 1):=⟨_,rfl⟩
 obtain⟨s3,e3⟩:∃s,s=i0 (mC ns 2):=⟨_,rfl⟩
 rw[<-e1]at f1;rw[<-e2]at f2;rw[<-e3]at f3;rw[<-e1,<-e2,<-e3]at vx;obtain⟨K,hkl⟩:=ZV C pl f1 f2 f3 i4.2 i5.2 i6.2 i7.2;obtain⟨LT,J6⟩:∃LT,LT=ltA C s1 s2 s3 d4 d5 d6 d7:=⟨_,rfl⟩
 obtain⟨P,hP⟩:∃P,P=N2 C pl (.ow s1) d4:=⟨_,rfl⟩
 obtain⟨ks,yG⟩:∃ks,ks=P++LT:=⟨_,rfl⟩
 have vx:run bt (k+1+2) "_law_lets" [y0 ns,NM C]=some (.own (LT.map bM)):=by rw[J6];exact vx
 rw[<-J6,<-hP,<-yG]at K hkl;have hPl:P.length=2:=by rw[hP];unfold N2;split<;>rfl
 have hLl:LT.length=8:=by rw[J6];rfl
 have m0:(cB C 0,Kd.ow .num)∈ks:=by rw[yG,J6];exact dZ _ (by simp)
 have m1:((cB C 1,Kd.ow s1):Rk)∈ks:=by rw[yG,J6];exact dZ _ (by simp)
 have m2:((cB C 2,Kd.ow s2):Rk)∈ks:=by rw[yG,J6];exact dZ _ (by simp)
 have m4:((cB C 4,d4):Rk)∈ks:=by rw[yG,J6];exact dZ _ (by simp)
 have m5:((cB C 5,d5):Rk)∈ks:=by rw[yG,J6];exact dZ _ (by simp)
 obtain⟨LL,V9⟩:∃LL,LL=PV.aq (LT.map bM):=⟨_,rfl⟩
 have l1:aF LL (.int 1)=some (bM (cB C 1,.ow s1)):=by rw[V9,J6];rfl
 have l2:aF LL (.int 2)=some (bM (cB C 2,.ow s2)):=by rw[V9,J6];rfl
 have l4:aF LL (.int 4)=some (bM (cB C 4,d4)):=by rw[V9,J6];rfl
 have l5:aF LL (.int 5)=some (bM (cB C 5,d5)):=by rw[V9,J6];rfl
 obtain⟨NN,Ae⟩:∃NN,NN=NM C:=⟨_,rfl⟩
 have n0:aF NN (.int 0)=some (.str (cB C 0)):=by rw[Ae];exact mi C (q:=0) (by decide)
 have n1:aF NN (.int 1)=some (.str (cB C 1)):=by rw[Ae];exact mi C (q:=1) (by decide)
 have n2:aF NN (.int 2)=some (.str (cB C 2)):=by rw[Ae];exact mi C (q:=2) (by decide)
 have n5:aF NN (.int 5)=some (.str (cB C 5)):=by rw[Ae];exact mi C (q:=5) (by decide)
 have n8:aF NN (.int 8)=some (.str (cB C 8)):=by rw[Ae];exact mi C (q:=8) (by decide)
 have n9:aF NN (.int 9)=some (.str (cB C 9)):=by rw[Ae];exact mi C (q:=9) (by decide)
 have n10:aF NN (.int 10)=some (.str (cB C 10)):=by rw[Ae];exact mi C (q:=10) (by decide)
 have n11:aF NN (.int 11)=some (.str (cB C 11)):=by rw[Ae];exact mi C (q:=11) (by decide)
 have n12:aF NN (.int 12)=some (.str (cB C 12)):=by rw[Ae];exact mi C (q:=12) (by decide)
 have aeA:Pt (some 10) none NN=some (.aq [.str (cB C 10),.str (cB C 11),.str (cB C 12)]):=by
  rw[Ae];show some (PV.aq (j6 _ (some ((10:Nat):Int)) none))=_;rw[M6];rfl
 obtain⟨cs,hcs,air⟩:=JW ns;have aeB:Pt (some 8) (some 24) S=some (.aq (cs.map .int)):=by
  rw[hS];show some (PV.aq (j6 (ns.map .int) (some 8) (some 24)))=_;rw[hcs]
 obtain⟨b5,t5,e5⟩:∃b5 t5,c7 d5=.aA [.str (hw b5),enc t5]:=by
  cases d5 with
  | ow s=>cases i5.1
  | ho b s=>exact⟨b,s,rfl⟩
 obtain⟨b4,t4,e4⟩:∃b4 t4,c7 d4=.aA [.str (hw b4),enc t4]:=by
  cases d4 with
  | ow s=>cases i4.1
  | ho b s=>exact⟨b,s,rfl⟩
 obtain⟨res,aeC⟩:∃res,aF (.aq [.df,.aA [.str (hw b5),enc t5,.aA []],.aA [.str (hw b5),enc t5,.aA [.str (cB C 8)]],c7 (.ow s2)]) (.int (cY%4))=some res:=by
  rcases sf cY with h | h | h | h<;>rw[h]<;>exact⟨_,rfl⟩
 obtain⟨z,hz,hzk⟩:∃z:Option Rk,aF (.aq [.str "",.str (cB C 5),.str (cB C 5),.str (cB C 2)]) (.int (cY%4))=some (g9 z)/\∀r,z=some r->r∈ks:=by
  rcases sf cY with h | h | h | h<;>rw[h]
  ·exact⟨none,rfl,fun r hr=>by cases hr⟩
  ·exact⟨some _,rfl,fun r hr=>by cases hr;exact m5⟩
  ·exact⟨some _,rfl,fun r hr=>by cases hr;exact m5⟩
  ·exact⟨some _,rfl,fun r hr=>by cases hr;exact m2⟩
 obtain⟨V8,WC,hlx⟩:=N3 K hzk;obtain⟨BK,hBK,hB1,rN⟩:∃BK:List (Option Rk),aF (.aq [.aq [.str ""],.aq ((fk ks d5).map dF),.aq ((fk ks d5).map dF),.aq ((fk ks (.ow s2)).map dF)]) (.int (cY%4))=some (.aq (BK.map g9))/\(∀o∈BK,∀r,o=some r->r∈ks)/\0<BK.length:=by
  have sm:∀{r:Rk},r∈ks->(∀o∈(fk ks r.2).map some,∀q,o=some q->q∈ks)/\0<((fk ks r.2).map some).length:=fun {r} hr=>by
   obtain⟨g1,g2⟩:=HB hr;refine⟨fun o ho q hq=>?_,by rw[aE];exact g2⟩
   obtain⟨q',N9,rfl⟩:=bF.mp ho;cases hq;exact g1 _ N9
  have mm:∀l:List Rk,(l.map some).map g9=l.map dF:=fun l=>by rw[eK];rfl
  rcases sf cY with h | h | h | h<;>rw[h]
  ·refine⟨[none],rfl,fun o ho r hr=>?_,by simp⟩
   rw[cW]at ho;rw[ho]at hr;cases hr
  ·exact⟨(fk ks d5).map some,by rw[mm];rfl,sm m5⟩
  ·exact⟨(fk ks d5).map some,by rw[mm];rfl,sm m5⟩
  ·exact⟨(fk ks (.ow s2)).map some,by rw[mm];rfl,sm m2⟩
 have CO:V5 ks (fk ks d4) (fk ks d5) (fk ks (.ow s1)) BK:=⟨HB m4,HB m5,HB m1,hB1,rN⟩;obtain⟨FI,aeD⟩:∃v,aF (.aq [.aA [],.aA [.str (cB C 0)],.aA [.str (cB C 1)],.aA [.str (cB C 0),.str (cB C 1)]]) (.int (cY/4%4))=some v:=by
  rcases sf (cY/4)with h | h | h | h<;>rw[h]<;>exact⟨_,rfl⟩
 have aeE:=Ro (k+1) (by lia) ks K.ok (by lia)
 have aeF:=JR (k+2) K (cB C 0) (cY/16%64);have ZZ:=fun c:Int=>ZS k hk K (M:=cs.length+1) (by lia) hW m0 ⟨_,m4,i4.1⟩ (cY/16%64) (.str (cB C 10)) (.str (cB C 11)) (.str (cB C 12)) CO hp6 ⟨V8,WC _⟩ c
 obtain⟨md,VR⟩:∃md,md=mdT W ks (cB C 0) (cY/16%64) (caT (.str (cB C 10)) (.str (cB C 11)) (.str (cB C 12)) (fk ks d4) (fk ks d5) (fk ks (.ow s1)) BK pl) (.aA [.str "give",g9 z]):=⟨_,rfl⟩
 rw[<-VR]at ZZ;have Z0:∃L:List (PV×List dO),j5 (fun p=>(aj 1 p [.un,.un,.val (.aq (cs.map .int)),.val md]).bind (ay (aM 3 (run bt (k+3) "_law_row")) (aa (rd 1) (aa (ab (cf cZ (aa (rd 2) ah)) (kI 1) bZ) (aa (rd 3) ah))))) (cs.map .int)=some (L.map (·.1))/\(∀q∈L,lu ks (cs.length+1) q.1 q.2)/\L.length=cs.length:=by
  refine Ho fun c hc=>?_
  obtain⟨p,h1,as,h2⟩:=ZZ c;refine⟨p,as,?_,h2⟩;have t:aj 1 (.int c) [.un,.un,.val (.aq (cs.map .int)),.val md]=some [.un,.val (.int c),.val (.aq (cs.map .int)),.val md]:=rfl;rw[t,aY];have hl1:ab (cf cZ (aa (rd 2) ah)) (kI 1) bZ [.un,.val (.int c),.val (.aq (cs.map .int)),.val md]=some (.int ((cs.length+1:Nat):Int)):=by
   refine b2 (bV (as:=[.aq (cs.map .int)]) (cA rfl rfl) (by rw[uJ,aE])) rfl ?_
   rw[js];exact di (fun z=>some (PV.int z)) (by lia)
  exact dN (cA rfl (cA hl1 (cA rfl rfl))) rfl h1 rfl
 obtain⟨L,hL1,hL2,hL3⟩:=Z0;have hLn:L.length<=16:=by lia
 rw[zF,aR,<-hS];obtain⟨WW,hWW⟩:∃WW,WW=PV.aq (W.map .str):=⟨_,rfl⟩
 rw[<-hWW];refine Rt.run ?_;have Te:run bt (k+3) "_law_names" [.int (cell ns 0%10^12),.int 13]=some (.own ((List.range 13).map fun q=>.str (cB C q))):=by rw[<-hC];exact hn
 rw[<-hS,<-Ae]at vx;have fN:oC (.own ((List.range 13).map fun q=>.str (cB C q)))=some NN:=by rw[Ae];rfl
 have fL:oC (.own (LT.map bM))=some LL:=by rw[V9];rfl
 have hkk:ks.map bM=P.map bM++LT.map bM:=by rw[yG,c8]
 have fd:cw (.int (cY/1024)) (.int 6)=some (.int pl):=by rw[pI];exact dJ (by decide)
 refine xS (fO:=[.val S,.val (.int 16),.val WW,.val NN,.un,.un,.un,.un,.un,.un,.un,.un,.un,.un,.un,.un,.un,.un,.un,.un,.un,.un,.un,.un]) (aS (p:=NN) (dN (cA (b2 (dN (cA rfl (cA rfl rfl)) rfl lM rfl) (b2 rfl rfl ZX) (dJ (by decide))) (cA rfl rfl)) rfl Te fN) rfl) ?_
 refine xS (fO:=[.val S,.val (.int 16),.val WW,.val NN,.val LL,.un,.un,.un,.un,.un,.un,.un,.un,.un,.un,.un,.un,.un,.un,.un,.un,.un,.un,.un]) (aS (p:=LL) (dN (cA rfl (cA rfl rfl)) rfl vx fL) rfl) ?_;refine xS (fO:=[.val S,.val (.int 16),.val WW,.val NN,.val LL,.val (.int cY),.un,.un,.un,.un,.un,.un,.un,.un,.un,.un,.un,.un,.un,.un,.un,.un,.un,.un]) (aS (p:=(.int cY)) (dN (cA (dN (cA rfl (cA rfl rfl)) rfl lM rfl) (cA rfl rfl)) rfl hb rfl) rfl) ?_;refine xS (fO:=[.val S,.val (.int 16),.val WW,.val NN,.val LL,.val (.int cY),.val (.int pl),.un,.un,.un,.un,.un,.un,.un,.un,.un,.un,.un,.un,.un,.un,.un,.un,.un]) (aS (p:=(.int pl)) (b2 (b2 rfl rfl (zO (by decide))) rfl fd) rfl) ?_
 refine xS (fO:=[.val S,.val (.int 16),.val WW,.val NN,.val LL,.val (.int cY),.val (.int pl),.own [bM (cB C 8,d4),bM (cB C 9,.ow s1)],.un,.un,.un,.un,.un,.un,.un,.un,.un,.un,.un,.un,.un,.un,.un,.un]) (sO (ps:=[bM (cB C 8,d4),bM (cB C 9,.ow s1)]) (lS (cA (tU (cA (b2 (x:=NN) rfl rfl n8) (cA (b2 (b2 (x:=LL) rfl rfl l4) rfl rfl) rfl)) (by simp)) (cA (tU (cA (b2 (x:=NN) rfl rfl n9) (cA (b2 (b2 (x:=LL) rfl rfl l1) rfl rfl) rfl)) (by simp)) rfl)) (by simp)) (by simp)) ?_
 refine xS (fO:=[.val S,.val (.int 16),.val WW,.val NN,.val LL,.val (.int cY),.val (.int pl),.own (P.map bM),.un,.un,.un,.un,.un,.un,.un,.un,.un,.un,.un,.un,.un,.un,.un,.un]) ?_ ?_
 ·have d2:jm (toB (ab (ab (rd 6) (kI 2) cw) (kI 1) dS)) [.val S,.val (.int 16),.val WW,.val NN,.val LL,.val (.int cY),.val (.int pl),.own [bM (cB C 8,d4),bM (cB C 9,.ow s1)],.un,.un,.un,.un,.un,.un,.un,.un,.un,.un,.un,.un,.un,.un,.un,.un]=some (decide (pl%2=1)):=bT (b2 (b2 (x:=.int pl) rfl rfl (dJ (by decide))) rfl iU)
  rw[hP];unfold N2;by_cases h:pl%2=1
  ·rw[dm h]at d2;rw[if_pos h];exact iT d2 rfl
  ·rw[eZ h]at d2;rw[if_neg h];exact iF d2 rfl
 refine xS (fO:=[.val S,.val (.int 16),.val WW,.val NN,.val LL,.val (.int cY),.val (.int pl),.val (.aq (P.map bM)),.val (KL ks),.un,.un,.un,.un,.un,.un,.un,.un,.un,.un,.un,.un,.un,.un,.un]) ?_ ?_
 ·show bj _ _ (fB (some [7]) [.val S,.val (.int 16),.val WW,.val NN,.val LL,.val (.int cY),.val (.int pl),.own (P.map bM),.un,.un,.un,.un,.un,.un,.un,.un,.un,.un,.un,.un,.un,.un,.un,.un])=_;unfold KL;rw[hkk];exact aS (p:=.aq (P.map bM++LT.map bM)) (b2 (x:=.aq (P.map bM)) (y:=.aq (LT.map bM)) rfl (by rw[V9];rfl) (aL (by rw[aE,aE];lia))) rfl
 refine xS (fO:=[.val S,.val (.int 16),.val WW,.val NN,.val LL,.val (.int cY),.val (.int pl),.val (.aq (P.map bM)),.val (KL ks),.val res,.un,.un,.un,.un,.un,.un,.un,.un,.un,.un,.un,.un,.un,.un]) (aS (p:=res) (b2 (x:=.aq [.df,.aA [.str (hw b5),enc t5,.aA []],.aA [.str (hw b5),enc t5,.aA [.str (cB C 8)]],c7 (.ow s2)]) (fF (lS (cA rfl (cA (b2 (x:=.aA [.str (hw b5),enc t5]) (y:=.aA [.aA []]) (b2 (b2 (x:=LL) rfl rfl l5) rfl (di some e5)) rfl (aT (by simp))) (cA (b2 (x:=.aA [.str (hw b5),enc t5]) (y:=.aA [.aA [.str (cB C 8)]]) (b2 (b2 (x:=LL) rfl rfl l5) rfl (di some e5)) (tU (cA (tU (cA (b2 (x:=NN) rfl rfl n8) rfl) (by simp)) rfl) (by simp)) (aT (by simp))) (cA (b2 (b2 (x:=LL) rfl rfl l2) rfl rfl) rfl)))) (by simp))) (b2 (x:=.int cY) rfl rfl (dJ (by decide))) aeC) rfl) ?_
 refine xS (fO:=[.val S,.val (.int 16),.val WW,.val NN,.val LL,.val (.int cY),.val (.int pl),.val (.aq (P.map bM)),.val (KL ks),.val res,.val (.aA [.str "give",g9 z]),.un,.un,.un,.un,.un,.un,.un,.un,.un,.un,.un,.un,.un]) (aS (p:=(.aA [.str "give",g9 z])) (tU (cA rfl (cA (b2 (x:=.aq [.str "",.str (cB C 5),.str (cB C 5),.str (cB C 2)]) (fF (lS (cA rfl (cA (b2 (x:=NN) rfl rfl n5) (cA (b2 (x:=NN) rfl rfl n5) (cA (b2 (x:=NN) rfl rfl n2) rfl)))) (by simp))) (b2 (x:=.int cY) rfl rfl (dJ (by decide))) hz) rfl)) (by simp)) rfl) ?_
 refine xS (fO:=[.val S,.val (.int 16),.val WW,.val NN,.val LL,.val (.int cY),.val (.int pl),.val (.aq (P.map bM)),.val (KL ks),.val res,.val (.aA [.str "give",g9 z]),.val (.aq ((fk ks d4).map dF)),.un,.un,.un,.un,.un,.un,.un,.un,.un,.un,.un,.un]) (aS (p:=(.aq ((fk ks d4).map dF))) (se K (LL:=LL) rfl rfl l4) rfl) ?_;refine xS (fO:=[.val S,.val (.int 16),.val WW,.val NN,.val LL,.val (.int cY),.val (.int pl),.val (.aq (P.map bM)),.val (KL ks),.val res,.val (.aA [.str "give",g9 z]),.val (.aq ((fk ks d4).map dF)),.val (.aq ((fk ks d5).map dF)),.un,.un,.un,.un,.un,.un,.un,.un,.un,.un,.un]) (aS (p:=(.aq ((fk ks d5).map dF))) (se K (LL:=LL) rfl rfl l5) rfl) ?_;refine xS (fO:=[.val S,.val (.int 16),.val WW,.val NN,.val LL,.val (.int cY),.val (.int pl),.val (.aq (P.map bM)),.val (KL ks),.val res,.val (.aA [.str "give",g9 z]),.val (.aq ((fk ks d4).map dF)),.val (.aq ((fk ks d5).map dF)),.val (.aq ((fk ks (.ow s1)).map dF)),.un,.un,.un,.un,.un,.un,.un,.un,.un,.un]) (aS (p:=(.aq ((fk ks (.ow s1)).map dF))) (se K (LL:=LL) rfl rfl l1) rfl) ?_;refine xS (fO:=[.val S,.val (.int 16),.val WW,.val NN,.val LL,.val (.int cY),.val (.int pl),.val (.aq (P.map bM)),.val (KL ks),.val res,.val (.aA [.str "give",g9 z]),.val (.aq ((fk ks d4).map dF)),.val (.aq ((fk ks d5).map dF)),.val (.aq ((fk ks (.ow s1)).map dF)),.val (.aq (BK.map g9)),.un,.un,.un,.un,.un,.un,.un,.un,.un]) (aS (p:=(.aq (BK.map g9))) (b2 (x:=.aq [.aq [.str ""],.aq ((fk ks d5).map dF),.aq ((fk ks d5).map dF),.aq ((fk ks (.ow s2)).map dF)]) (fF (lS (cA rfl (cA rfl (cA rfl (cA (se K (LL:=LL) rfl rfl l2) rfl)))) (by simp))) (b2 (x:=.int cY) rfl rfl (dJ (by decide))) hBK) rfl) ?_
 refine xS (fO:=[.val S,.val (.int 16),.val WW,.val NN,.val LL,.val (.int cY),.val (.int pl),.val (.aq (P.map bM)),.val (KL ks),.val res,.val (.aA [.str "give",g9 z]),.val (.aq ((fk ks d4).map dF)),.val (.aq ((fk ks d5).map dF)),.val (.aq ((fk ks (.ow s1)).map dF)),.val (.aq (BK.map g9)),.val (SL ks),.un,.un,.un,.un,.un,.un,.un,.un]) (aS (p:=(SL ks)) (dN (as:=[KL ks]) (cA rfl rfl) rfl aeE rfl) rfl) ?_;refine xS (fO:=[.val S,.val (.int 16),.val WW,.val NN,.val LL,.val (.int cY),.val (.int pl),.val (.aq (P.map bM)),.val (KL ks),.val res,.val (.aA [.str "give",g9 z]),.val (.aq ((fk ks d4).map dF)),.val (.aq ((fk ks d5).map dF)),.val (.aq ((fk ks (.ow s1)).map dF)),.val (.aq (BK.map g9)),.val (SL ks),.val (.aq ((Ad ks (cB C 0) (cY/16%64)).map gi)),.un,.un,.un,.un,.un,.un,.un]) (aS (p:=(.aq ((Ad ks (cB C 0) (cY/16%64)).map gi))) (dN (as:=[SL ks,.str (cB C 0),.int (cY/16%64)]) (cA rfl (cA (b2 (x:=NN) rfl rfl n0) (cA (b2 (b2 (x:=.int cY) rfl rfl (zO (by decide))) rfl (dJ (by decide))) rfl))) rfl aeF rfl) rfl) ?_
 refine xS (fO:=[.val S,.val (.int 16),.val WW,.val NN,.val LL,.val (.int cY),.val (.int pl),.val (.aq (P.map bM)),.val (KL ks),.val res,.val (.aA [.str "give",g9 z]),.val (.aq ((fk ks d4).map dF)),.val (.aq ((fk ks d5).map dF)),.val (.aq ((fk ks (.ow s1)).map dF)),.val (.aq (BK.map g9)),.val (SL ks),.val (.aq ((Ad ks (cB C 0) (cY/16%64)).map gi)),.val md,.un,.un,.un,.un,.un,.un]) (aS (p:=md) ?_ rfl) ?_
 ·rw[VR];unfold mdT caT;rw[<-hWW];exact tU (cA rfl (cA rfl (cA rfl (cA rfl (cA (tU (cA (x:=.aq [.str (cB C 10),.str (cB C 11),.str (cB C 12)]) aeA (cA rfl (cA rfl (cA rfl (cA rfl (cA rfl rfl)))))) (by simp)) (cA rfl rfl)))))) (by simp)
 refine xS (fO:=[.val S,.val (.int 16),.val WW,.val NN,.val LL,.val (.int cY),.val (.int pl),.val (.aq (P.map bM)),.val (KL ks),.val res,.val (.aA [.str "give",g9 z]),.val (.aq ((fk ks d4).map dF)),.val (.aq ((fk ks d5).map dF)),.val (.aq ((fk ks (.ow s1)).map dF)),.val (.aq (BK.map g9)),.val (SL ks),.val (.aq ((Ad ks (cB C 0) (cY/16%64)).map gi)),.val md,.val (.aq (cs.map .int)),.un,.un,.un,.un,.un]) (aS (p:=(.aq (cs.map .int))) (aeB) rfl) ?_;refine xS (fO:=[.val S,.val (.int 16),.val WW,.val NN,.val LL,.val (.int cY),.val (.int pl),.val (.aq (P.map bM)),.val (KL ks),.val res,.val (.aA [.str "give",g9 z]),.val (.aq ((fk ks d4).map dF)),.val (.aq ((fk ks d5).map dF)),.val (.aq ((fk ks (.ow s1)).map dF)),.val (.aq (BK.map g9)),.val (SL ks),.val (.aq ((Ad ks (cB C 0) (cY/16%64)).map gi)),.val md,.val (.aq (cs.map .int)),.val (.aq (L.map (fun q:PV×List dO=>q.1)++[.aA [.str "give",g9 z]])),.un,.un,.un,.un]) (aS (p:=(.aq (L.map (fun q:PV×List dO=>q.1)++[.aA [.str "give",g9 z]]))) (b2 (fF (cV (ps:=cs.map .int) rfl (by rw[aE];lia) hL1)) (fF (lS (cA rfl rfl) (by simp))) (aL (by simp only[aE,bA,kE];lia))) rfl) ?_
 refine xS (fO:=[.val S,.val (.int 16),.val WW,.val NN,.val LL,.val (.int cY),.val (.int pl),.val (.aq (P.map bM)),.val (KL ks),.val res,.val (.aA [.str "give",g9 z]),.val (.aq ((fk ks d4).map dF)),.val (.aq ((fk ks d5).map dF)),.val (.aq ((fk ks (.ow s1)).map dF)),.val (.aq (BK.map g9)),.val (SL ks),.val (.aq ((Ad ks (cB C 0) (cY/16%64)).map gi)),.val md,.val (.aq (cs.map .int)),.val (.aq (L.map (fun q:PV×List dO=>q.1)++[.aA [.str "give",g9 z]])),.val FI,.un,.un,.un]) (aS (p:=FI) (b2 (x:=.aq [.aA [],.aA [.str (cB C 0)],.aA [.str (cB C 1)],.aA [.str (cB C 0),.str (cB C 1)]]) (fF (lS (cA rfl (cA (tU (cA (b2 (x:=NN) rfl rfl n0) rfl) (by simp)) (cA (tU (cA (b2 (x:=NN) rfl rfl n1) rfl) (by simp)) (cA (tU (cA (b2 (x:=NN) rfl rfl n0) (cA (b2 (x:=NN) rfl rfl n1) rfl)) (by simp)) rfl)))) (by simp))) (b2 (b2 (x:=.int cY) rfl rfl (zO (by decide))) rfl (dJ (by decide))) aeD) rfl) ?_
 refine xS (fO:=[.val S,.val (.int 16),.val WW,.val NN,.val LL,.val (.int cY),.val (.int pl),.val (.aq (P.map bM)),.val (KL ks),.val res,.val (.aA [.str "give",g9 z]),.val (.aq ((fk ks d4).map dF)),.val (.aq ((fk ks d5).map dF)),.val (.aq ((fk ks (.ow s1)).map dF)),.val (.aq (BK.map g9)),.val (SL ks),.val (.aq ((Ad ks (cB C 0) (cY/16%64)).map gi)),.val md,.val (.aq (cs.map .int)),.val (.aq (L.map (fun q:PV×List dO=>q.1)++[.aA [.str "give",g9 z]])),.val FI,.own [bM (cB C 0,d4),bM (cB C 1,d5)],.un,.un]) (sO (ps:=[bM (cB C 0,d4),bM (cB C 1,d5)]) (lS (cA (tU (cA (b2 (x:=NN) rfl rfl n0) (cA (b2 (b2 (x:=LL) rfl rfl l4) rfl rfl) rfl)) (by simp)) (cA (tU (cA (b2 (x:=NN) rfl rfl n1) (cA (b2 (b2 (x:=LL) rfl rfl l5) rfl rfl) rfl)) (by simp)) rfl)) (by simp)) (by simp)) ?_
 obtain⟨hd,hhd⟩:∃hd,hd=[bM (cB C 0,d4),bM (cB C 1,d5)].take (pl/2).toNat++PV.aA [.str (cB C 2),c7 (.ow s1)]::[bM (cB C 0,d4),bM (cB C 1,d5)].drop (pl/2).toNat:=⟨_,rfl⟩
 refine xS (fO:=[.val S,.val (.int 16),.val WW,.val NN,.val LL,.val (.int cY),.val (.int pl),.val (.aq (P.map bM)),.val (KL ks),.val res,.val (.aA [.str "give",g9 z]),.val (.aq ((fk ks d4).map dF)),.val (.aq ((fk ks d5).map dF)),.val (.aq ((fk ks (.ow s1)).map dF)),.val (.aq (BK.map g9)),.val (SL ks),.val (.aq ((Ad ks (cB C 0) (cY/16%64)).map gi)),.val md,.val (.aq (cs.map .int)),.val (.aq (L.map (fun q:PV×List dO=>q.1)++[.aA [.str "give",g9 z]])),.val FI,.own hd,.un,.un]) ?_ ?_
 ·rw[hhd];exact mI (ps:=[bM (cB C 0,d4),bM (cB C 1,d5)]) (i:=pl/2) rfl (b2 (x:=.int pl) rfl rfl (zO (by decide))) (tU (cA (b2 (x:=NN) rfl rfl n2) (cA (b2 (b2 (x:=LL) rfl rfl l1) rfl rfl) rfl)) (by simp)) (by lia) (by simp)
 refine xS (fO:=[.val S,.val (.int 16),.val WW,.val NN,.val LL,.val (.int cY),.val (.int pl),.val (.aq (P.map bM)),.val (KL ks),.val res,.val (.aA [.str "give",g9 z]),.val (.aq ((fk ks d4).map dF)),.val (.aq ((fk ks d5).map dF)),.val (.aq ((fk ks (.ow s1)).map dF)),.val (.aq (BK.map g9)),.val (SL ks),.val (.aq ((Ad ks (cB C 0) (cY/16%64)).map gi)),.val md,.val (.aq (cs.map .int)),.val (.aq (L.map (fun q:PV×List dO=>q.1)++[.aA [.str "give",g9 z]])),.val FI,.val (.aq hd),.val (.aA [.str (cB C 12),.aA hd,.aA [.str (hw b4),enc t4,FI],.aA [],.aA [.aA [.str "give",.str (cB C 0)]]]),.un]) ?_ ?_
 ·show bj _ _ (fB (some [21]) [.val S,.val (.int 16),.val WW,.val NN,.val LL,.val (.int cY),.val (.int pl),.val (.aq (P.map bM)),.val (KL ks),.val res,.val (.aA [.str "give",g9 z]),.val (.aq ((fk ks d4).map dF)),.val (.aq ((fk ks d5).map dF)),.val (.aq ((fk ks (.ow s1)).map dF)),.val (.aq (BK.map g9)),.val (SL ks),.val (.aq ((Ad ks (cB C 0) (cY/16%64)).map gi)),.val md,.val (.aq (cs.map .int)),.val (.aq (L.map (fun q:PV×List dO=>q.1)++[.aA [.str "give",g9 z]])),.val FI,.own hd,.un,.un])=_
  exact aS (p:=(.aA [.str (cB C 12),.aA hd,.aA [.str (hw b4),enc t4,FI],.aA [],.aA [.aA [.str "give",.str (cB C 0)]]])) (tU (cA (b2 (x:=NN) rfl rfl n12) (cA (x:=.aA hd) (bV (as:=[.aq hd]) (cA rfl rfl) rfl) (cA (x:=.aA [.str (hw b4),enc t4,FI]) (b2 (x:=.aA [.str (hw b4),enc t4]) (y:=.aA [FI]) (b2 (b2 (x:=LL) rfl rfl l4) rfl (di some e4)) (tU (cA rfl rfl) (by simp)) (aT (by simp))) (cA rfl (cA (tU (cA (tU (cA rfl (cA (b2 (x:=NN) rfl rfl n0) rfl)) (by simp)) rfl) (by simp)) rfl))))) (by simp)) rfl
 refine xS (fO:=[.val S,.val (.int 16),.val WW,.val NN,.val LL,.val (.int cY),.val (.int pl),.val (.aq (P.map bM)),.val (KL ks),.val res,.val (.aA [.str "give",g9 z]),.val (.aq ((fk ks d4).map dF)),.val (.aq ((fk ks d5).map dF)),.val (.aq ((fk ks (.ow s1)).map dF)),.val (.aq (BK.map g9)),.val (SL ks),.val (.aq ((Ad ks (cB C 0) (cY/16%64)).map gi)),.val md,.val (.aq (cs.map .int)),.val (.aq (L.map (fun q:PV×List dO=>q.1)++[.aA [.str "give",g9 z]])),.val FI,.val (.aq hd),.val (.aA [.str (cB C 12),.aA hd,.aA [.str (hw b4),enc t4,FI],.aA [],.aA [.aA [.str "give",.str (cB C 0)]]]),.val (xb (.str (cB C 11)) res (.aA (L.map (fun q:PV×List dO=>q.1)++[.aA [.str "give",g9 z]])) P LT)]) ?_ ?_
 ·show bj _ _ (fB (some [7]) [.val S,.val (.int 16),.val WW,.val NN,.val LL,.val (.int cY),.val (.int pl),.val (.aq (P.map bM)),.val (KL ks),.val res,.val (.aA [.str "give",g9 z]),.val (.aq ((fk ks d4).map dF)),.val (.aq ((fk ks d5).map dF)),.val (.aq ((fk ks (.ow s1)).map dF)),.val (.aq (BK.map g9)),.val (SL ks),.val (.aq ((Ad ks (cB C 0) (cY/16%64)).map gi)),.val md,.val (.aq (cs.map .int)),.val (.aq (L.map (fun q:PV×List dO=>q.1)++[.aA [.str "give",g9 z]])),.val FI,.val (.aq hd),.val (.aA [.str (cB C 12),.aA hd,.aA [.str (hw b4),enc t4,FI],.aA [],.aA [.aA [.str "give",.str (cB C 0)]]]),.un])=_
  exact aS (p:=(xb (.str (cB C 11)) res (.aA (L.map (fun q:PV×List dO=>q.1)++[.aA [.str "give",g9 z]])) P LT)) (tU (cA (b2 (x:=NN) rfl rfl n11) (cA (x:=.aA (P.map bM)) (bV (as:=[.aq (P.map bM)]) (cA rfl rfl) rfl) (cA rfl (cA (x:=.aA (LT.map bM)) (bV (as:=[.aq (LT.map bM)]) (cA (by rw[V9];rfl) rfl) rfl) (cA (x:=.aA (L.map (fun q:PV×List dO=>q.1)++[.aA [.str "give",g9 z]])) (bV (as:=[.aq (L.map (fun q:PV×List dO=>q.1)++[.aA [.str "give",g9 z]])]) (cA rfl rfl) rfl) rfl))))) (by simp)) rfl
 refine xR (tU (ps:=[.aA [.str (cB C 10),.aA [],.df,.aA [],.aA [.aA [.str "give",.str ""]]],(xb (.str (cB C 11)) res (.aA (L.map (fun q:PV×List dO=>q.1)++[.aA [.str "give",g9 z]])) P LT),(.aA [.str (cB C 12),.aA hd,.aA [.str (hw b4),enc t4,FI],.aA [],.aA [.aA [.str "give",.str (cB C 0)]]])]) (cA (tU (cA (b2 (x:=NN) rfl rfl n10) (cA rfl (cA rfl (cA rfl (cA rfl rfl))))) (by simp)) (cA rfl (cA rfl rfl))) (by simp)) ⟨_,_,_,_,_,_,_,rfl,ZW K yG hkl WC hlx ?_ hLn⟩
 rw[hL3];exact hL2
theorem N4(ns:List Int)(h:ns.length<=63):run bt 30 "law" [y0 ns]=some (.val (.bl true)):=by
 obtain⟨p,hp,X,fs,nm,res,R1,R2,L,rfl,ok⟩:=JX 25 (by decide) ns (W:=["put","set","fill","copy","move","move","drop","drop","lend","lend","call","call","if","if","go","say","put","give"]) (by decide)
 exact VQ 29 (by decide) ns hp ok
end cE
namespace cE
open PySem L2 L2.PL
noncomputable def aeG:List Pos:=[⟨49,11,49,17⟩,⟨49,19,49,27⟩,⟨50,4,50,8⟩,⟨50,11,50,13⟩,⟨50,4,50,13⟩,⟨51,4,51,9⟩,⟨51,12,51,14⟩,⟨51,4,51,14⟩,⟨52,4,52,12⟩,⟨52,13,52,17⟩,⟨52,19,52,24⟩,⟨52,26,52,32⟩,⟨52,35,52,36⟩,⟨52,34,52,36⟩,⟨52,4,52,37⟩,⟨52,4,52,37⟩,⟨53,4,53,5⟩,⟨53,8,53,9⟩,⟨53,4,53,9⟩,⟨54,10,54,11⟩,⟨54,14,54,17⟩,⟨54,18,54,22⟩,⟨54,14,54,23⟩,⟨54,10,54,23⟩,⟨55,8,55,16⟩,⟨55,17,55,21⟩,⟨55,23,55,28⟩,⟨55,30,55,38⟩,⟨55,39,55,43⟩,⟨55,44,55,45⟩,⟨55,39,55,46⟩,⟨55,49,55,50⟩,⟨55,48,55,50⟩,⟨55,47,55,50⟩,⟨55,39,55,51⟩,⟨55,30,55,52⟩,⟨55,54,55,55⟩,⟨55,8,55,56⟩,⟨55,8,55,56⟩,⟨56,8,56,9⟩,⟨56,13,56,14⟩,⟨56,8,56,14⟩,⟨54,4,56,14⟩,⟨57,11,57,15⟩,⟨57,4,57,15⟩,⟨49,0,57,15⟩]
noncomputable def aeH:List Pos:=[⟨58,13,58,17⟩,⟨58,19,58,24⟩,⟨58,26,58,31⟩,⟨58,33,58,37⟩,⟨59,8,59,12⟩,⟨59,16,59,21⟩,⟨60,11,60,15⟩,⟨60,23,60,28⟩,⟨60,11,60,28⟩,⟨61,12,61,17⟩,⟨61,18,61,22⟩,⟨61,12,61,23⟩,⟨61,26,61,30⟩,⟨61,12,61,30⟩,⟨62,12,62,16⟩,⟨62,12,62,23⟩,⟨62,24,62,28⟩,⟨62,32,62,36⟩,⟨62,31,62,38⟩,⟨62,24,62,38⟩,⟨62,12,62,39⟩,⟨62,12,62,39⟩,⟨60,8,62,39⟩,⟨59,4,62,39⟩,⟨58,0,62,39⟩]
theorem aeI:MN bt:=⟨by kernel_rfl,.inr ⟨fun i=>aeG.getD i ⟨0,0,0,0⟩,fun i=>aeH.getD i ⟨0,0,0,0⟩,by kernel_rfl,by kernel_rfl,by kernel_rfl,by kernel_rfl⟩⟩
end cE
open PySem PySem.W PyProof.Rows PySem.Calls
theorem PySem.Challenge.cw_lendrule_k22_whole_why_it_is_empty_holds : PySem.Challenge.rw_lendrule_k22_whole_why_it_is_empty.Holds := by
 exact cE.fin fun d h1 h2=>L2.PL.IS (P:=cE.bt) (N:=30) (st:=cE.KJ) (x:="_law_script") (l:=PySem.Challenge.rw_lendrule_k22_whole_why_it_is_empty) (by kernel_rfl) (by kernel_rfl) rfl h1 h2 ⟨rfl,by decide,by decide⟩ cE.aeI (fun w h Y=>Y) cE.N4
end
