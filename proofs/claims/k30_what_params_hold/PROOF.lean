import PyProof.Rows.All
import Wide.All
import OpenK.AllK
import Wide.FinOn
import Lean
import PyProof.EqAt
import PyProof.EqKinds
import PyProof.TupleCall
import PyProof.NeKinds
import PySem.Challenge.RW_lendrule_k30_what_params_hold
set_option Elab.async false
set_option linter.all false
set_option maxRecDepth 100000
noncomputable section
section
open PySem PySem.Spec PyProof.Rows
def Hi:=@List.findIdx?_eq_some_iff_getElem
def nM:=@PyProof.Rows.slot_tuple_getitem
def Hj:=@List.length_filterMap_eq_countP
def AU:=@PyProof.Rows.callWith_builtin1
def Hk:=@List.eq_nil_of_length_eq_zero
def Hl:=@PySem.F.slot_dict_setdefault
def Hm:=@F.args_tuple_iterator_next_1
def vK:=@Array.getD_eq_getD_getElem?
def Hn:=@F.entry_tuple_iterator_next
def j1:=@PyProof.Rows.callWith_type1
def AV:=@List.getD_eq_getElem?_getD
def vL:=@F.slot_tuple_iterator_next
def Ho:=@Array.toList_setIfInBounds
def Hq:=@Calls.Name_function_global
def Hr:=@wpAny_newFunctionEnv_cells
def jk:=@List.getElem?_append_right
def gi:=@List.getElem?_append_left
def qy:=@Array.getElem?_eq_getElem
def qz:=@List.getElem?_eq_none_iff
def cM:=@List.getElem?_eq_some_iff
def vM:=@Classical.byContradiction
def j2:=@AutoSeq1.wpAny_loadPart'
def AW:=@Option.isSome_iff_exists
def di:=@List.getElem?_eq_getElem
def AX:=@PySem.F.args_tuple_add_2
def AY:=@PySem.F.type_list_append
def AZ:=@PySem.F.slot_list_append
def vN:=@List.getElem?_cons_succ
def A0:=@PySem.F.entry_tuple_add
def j3:=@wpAny_callSpecial?_slot
def j4:=@List.getElem?_replicate
def nN:=@F.plain_set_update_loop
def vO:=@Option.bind_eq_some_iff
def vP:=@F.entry_set_update_loop
def nO:=@PySem.F.plainAttrs_list
def bR:=@Heap.get?_push_of_some
def A1:=@Heap.get?_update_other
def A2:=@Calls.callWith_builtin
def A3:=@Array.toList_filterMap
def jl:=@Option.map_eq_some_iff
def A4:=@PySem.F.slot_tuple_add
def A5:=@Array.getElem?_eq_none
def qA:=@List.take_of_length_le
def bJ:=@List.getElem?_set_self
def j5:=@List.length_replicate
def vQ:=@Heap.get?_update_self
def gG:=@Array.getElem?_toList
def A6:=@Obj.isFreed_of_fields
def d7:=@List.mem_append_right
def jm:=@List.getElem?_eq_none
def lM:=@List.getElem?_of_mem
def cP:=@List.mem_of_getElem?
def qB:=@Around.under_plainId
def bx:=@List.mem_cons_of_mem
def bj:=@List.getElem?_set_ne
def A7:=@Array.mem_toList_iff
def A8:=@List.mem_of_mem_take
def gH:=@List.mem_append_left
def iH:=@beq_eq_false_iff_ne
def dC:=@PySem.mem_of_lookup
def vR:=@Int.toNat_of_nonneg
def cW:=@Heap.get?_push_size
def nQ:=@List.getElem?_range
def A9:=@List.filterMap_cons
def jn:=@Heap.SameBut.update
def fB:=@Array.length_toList
def d8:=@Bool.false_eq_true
def lN:=@Int.emod_lt_of_pos
def bE:=@List.mem_cons_self
def jo:=@wpAny_Call_Name_kw
def Ba:=@tupleKind_room_in1
def dt:=@List.mem_singleton
def j6:=@Nat.lt_of_le_of_lt
def nR:=@Obj.data_mapFields
def cz:=@Nat.lt_of_lt_of_le
def gI:=@Bool.false_ne_true
def lO:=@List.mem_filterMap
def bY:=@List.length_append
def Bb:=@List.pairwise_cons
def jq:=@decide_eq_true_eq
def fQ:=@List.length_range
def iI:=@List.map_inj_left
def jr:=@wpAny_truthy_bool
def iJ:=@wpAny_newObj_type
def vS:=@List.nodup_append
def qC:=@Classical.not_not
def nS:=@of_decide_eq_true
def cf:=@List.getElem?_map
def Bc:=@Obj.cls_mapFields
def qD:=@List.pairwise_map
def iK:=@List.append_assoc
def bz:=@List.size_toArray
def gj:=@wpAny_setState_of
def Bd:=@Option.isSome_map
def vT:=@wpAny_pyIter_list
def vU:=@List.reverse_cons
def eM:=@Int.toNat_natCast
def Be:=@PassesOwn.leaving
def Bf:=@wpAny_storeSet_of
def nU:=@Nat.lt_succ_of_lt
def iL:=@List.length_take
def Bg:=@wpAny_askSetting
def Bh:=@noFill_tuple_add
def aW:=@List.length_cons
def Bi:=@List.cons_append
def gV:=@List.lookup_cons
def iM:=@wpAny_call_entry
def aE:=@Bool.and_eq_true
def Bj:=@Nat.le_of_not_lt
def Bk:=@wpAny_forIn_list
def dX:=@List.not_mem_nil
def Bl:=@Option.getD_none
def qE:=@List.nodup_range
def Bm:=@wpAny_getItem_of
def nV:=@Nat.lt_succ_self
def qF:=@List.length_drop
def qG:=@beq_self_eq_true
def Bn:=@wpAny_isInstance
def j7:=@Around.in1_units
def aY:=@Option.bind_some
def vV:=@List.getElem_mem
def dj:=@List.all_eq_true
def vW:=@wpAny_execs_nil
def dY:=@decide_eq_false
def dD:=@List.mem_append
def j8:=@Int.emod_nonneg
def bo:=@Option.some.inj
def lP:=@wpAny_passesOwn
def dE:=@List.append_nil
def lQ:=@codeAny_builtin
def c8:=@List.nodup_cons
def nW:=@Nat.not_lt_zero
def gW:=@List.nil_append
def Bo:=@wpAny_ite_split
def aH:=@List.length_map
def nX:=@Option.map_some
def Bp:=@codeAny_of_tree
def Bq:=@List.mem_filter
def nY:=@List.find?_cons
def dO:=@List.map_append
def gk:=@List.length_set
def j9:=@List.length_nil
def vX:=@List.of_mem_zip
def du:=@List.mem_range
def vY:=@PySem.boot_len
def qH:=@wpAny_setField
def vZ:=@Bool.and_false
def v5:=@wpAny_seqItems
def gX:=@Heap.size_push
def eO:=@decide_eq_true
def nZ:=@List.nodup_nil
def v7:=@List.any_cons
def ka:=@Prod.mk.injEq
def v9:=@Paired.length
def gm:=@wpAny_holding
def fR:=@List.all_cons
def aZ:=@List.mem_cons
def gY:=@Nat.lt_irrefl
def bC:=@List.map_cons
def qI:=@Bool.not_true
def n0:=@List.map_nil
def lT:=@Int.zero_add
def iO:=@codeAny_mono
def n5:=@Nat.ne_of_gt
def eP:=@List.map_map
def gn:=@Nat.zero_add
def bt:=@List.mem_map
def iP:=@Nat.le_of_lt
def lU:=@Nat.le_of_eq
def bK:=@Heap.lt_size
def b0:=@Nat.le_trans
def b9:=@Nat.ne_of_lt
def qJ:=@wpAny_typeOf
def kc:=@wpAny_field
def wa:=@IsRange.new
def dP:=@Nat.zero_le
def aR:=@Nat.le_refl
def n6:=@Nat.le_succ
def lV:=@wpAny_mono
def ax:=@wpAny_pure
def lW:=@beq_iff_eq
def ai:=@wpAny_bind
def n8:=@wpAny_call
def n9:=@call_meets
def kh:=@Nat.mod_lt
def qK:=@wpAny_rule
def bD:=@eq_of_beq
def dZ:=@or_false
def c9:=@congrArg
def lX:=@Prod.ext
def dw:=@if_false
def dF:=@Ne.symm
def eQ:=@if_true
abbrev cm:=Value->Shared->Prop
abbrev cZ:=Str->Option Value
abbrev bW:=List Value
abbrev lb:=Option Value
abbrev ah:=PySem.W.Frag
abbrev au:=PySem.Shared
abbrev ag:=PySem.Value
abbrev ab:=PySem.Addr
abbrev aj:=PySem.Expr
abbrev ay:=PySem.Stmt
abbrev aM:=PySem.World
abbrev bA:=PySem.Around
abbrev bh:=PySem.Program
abbrev dk:=PySem.FuncData
end
namespace oR
end oR
section
namespace L2
open PySem PySem.Spec PyProof.Rows
abbrev b8:=Sum Int Str
inductive V where
  | cE | bl (b:Bool) | int (i:Int) | str (x:Str) | UE (b:Array UInt8) | YR (b:UInt64) | ref (a:ab) | ty (n:String)
  deriving DecidableEq
def RelV:V->ag->Prop
  | .cE,u=>u=Value.none
  | .bl b,u=>u=Value.bool b
  | .int i,u=>∃t,u=Value.int i t
  | .str x,u=>∃t,u=Value.str x t
  | .UE b,u=>∃t,u=Value.bytes b t
  | .YR b,u=>∃t,u=Value.float b t
  | .ref a,u=>u=Value.ref a
  | .ty n,u=>u=Value.type n
abbrev Vals:List V->bW->Prop:=Paired RelV
inductive HO where
  /-- a list -/
  | aA (xs:List V)
  /-- a tuple (never YS) -/
  | aI (xs:List V)
  /-- a dict U7 keys are ints and U8;one U7 keys are tuples of ints and U8 (Pd empty one is aeB) -/
  | dK (kvs:List (b8×V)) | dT (xs:List (List b8×ab×ag))
  /-- a set of ints: aQ YT,aQ size -/
  | set (S:Int->Bool) (n:Nat)
  /-- an instance of Pd class at C,aQ dict at dx,aQ QM -/
  | pK (C dx:ab) (fs:List (Str×V))
  /-- Pd dict of Pd instance at x -/
  | own (x:ab)
  /-- Pd dict of an UG -/
  | xd (fs:List (Str×V))
  /-- a bound method,f of x -/
  | Hs (f x:ab)
  /-- a range Ht lo,lo+1,.. below hi -/
  | rng (lo hi:Int)
  /-- a U9 aeC is adu to Pd Ht (Pd aap;a dict while a loop adw it): aeD,never written while it is so -/
  | lx (o:Obj) (u:HO)
  /-- a code Va table -/
  | yq (q:Str)
  /-- any other U9,by what is true of aQ one Ht (a def of adx own: aeE a S n:=HO.ext λh=>..) -/
  | ext (φ:Heap->Prop)
abbrev Hp:=ab->Option HO
def Rd(H:Hp)(a:ab)(u:HO):Prop:=H a=some u\/∃o,H a=some (.lx o u)
noncomputable def dG:List Str:=["arrivals","empties","needs","held"]
def gO(K:ah)(H:Hp)(a:ab)(xs:List V):Prop :=
  Rd H a (.aI xs) \/
    ∃(o:Obj) (aQ:Array ag) (n:Nat),K.lookup a=some o/\o.cls=.type "tuple"/\o.data=.seq aQ n/\aQ.size<=sizeLine/\Vals xs aQ.toList
def nJ(K:ah)(H:Hp)(a:ab)(xs:List V):Prop :=
  Rd H a (.aA xs)\/∃(aQ:bW) (n:Nat),K.lookup a=some {cls:=.type "list",data:=.seq aQ.toArray n}/\aQ.length<=sizeLine/\Vals xs aQ
structure Br (K:ah) (C:ab):Prop where
  pg:W.plainGet K C Str.empty=true
  hd:W.hasDictIn K C=true
  po:W.plainOver K C=true
  sa:W.findIn K (.ref C) "__setattr__"=some (some (.builtin "object.__setattr__"))
def d9(K:ah)(C:ab)(f:Str):Prop:=W.findIn K (.ref C) f=some none
section
variable {X:Cx} {CX:Dm} {k:Nat} {f C:ab} {fd:dk} {ps:List Str} {sp:Sp} {AI:List V} {ds:bW} {E:XK} {x m:Str} {p pos wb:Pos} {e o:aj} {es:List aj} {ta:TE} {t:TA}
structure Mk (K:ah) (C f:ab):Prop where
  makes:W.makesIn K C=true
  init:W.findIn K (.ref C) "__init__"=some (some (.ref f))
  fn:W.isFn K (.ref f)=true
  kp:W.keepIn K (.ref C)=true
end
structure de (N P:List Str) (sc:Scope):Prop where
  kind:sc.kind=.function
  co:sc.isCoroutine=false
  gen:sc.isGenerator=false
  nd:N.Nodup
  pre:N.take P.length=P
  par:∀x∈P,sc.names.lookup x=some .local\/sc.names.lookup x=some .cell
  nofree:∀y∈sc.names,y.2≠.free
def Ma(s:ay)(j:Nat):ay:=match s with
  | .ClassDef _ _ _ body _ _ _ _ _ _ _=>body.getD j (.Pass ⟨0,0,0,0⟩)
  | _=>.Pass ⟨0,0,0,0⟩
def iu(s:ay):Arguments:=match s with
  | .FunctionDef _ a _ _ _ _ _ _ _ _=>a
  | _=>{posonlyargs:=[],args:=[],vararg:=none,kwonlyargs:=[],kw_defaults:=[],kwarg:=none,defaults:=[]}
def bH(s:ay):List ay:=match s with
  | .FunctionDef _ _ b _ _ _ _ _ _ _=>b
  | _=>[]
noncomputable def aF(s:ay):Scope:=match s with
  | .FunctionDef _ _ _ _ _ _ sc _ _ _=>sc
  | _=>{kind:=.function,names:=[],isGenerator:=false,isCoroutine:=false}
structure AJ (K:ah) (x qual:Str) (st:ay) (f:ab) (fd:dk):Prop where
  ex:∃(oc:ag) (od:Option ab) (kV doc pm:ag) (an:Option ab) (cU ct:ag) (tZ:Array lb),
    fd=W.fnOf x qual (iu st) (bH st) (aF st) .none kV doc pm an cU ct/\K.lookup f=some ⟨oc,od,.func fd,tZ⟩/\W.codeIn K cU qual=true
  kp:W.keepIn K (.ref f)=true
section
variable {P:bh} {w:aM} {K:ah} {mg:cZ} {base:Heap}
theorem Hu{x qual:Str}{st:ay}{f:ab}{oc:ag}{od an:Option ab}{tZ:Array lb}{kV doc pm cU ct:ag}(l:K.lookup f=some ⟨oc,od,.func (W.fnOf x qual (iu st) (bH st) (aF st) .none kV doc pm an cU ct),tZ⟩)
    (c:W.codeIn K cU qual=true) (k:W.keepIn K (.ref f)=true):AJ K x qual st f (W.fnOf x qual (iu st) (bH st) (aF st) .none kV doc pm an cU ct):=⟨⟨oc,od,kV,doc,pm,an,cU,ct,tZ,rfl,l,c⟩,k⟩
end
end L2
namespace L2.PL
open PySem PySem.Spec PyProof.Rows
inductive PV where
 | cE | bl (b:Bool) | int (i:Int) | str (x:Str) | aI (xs:List PV) | aA (xs:List PV)
mutual
def cx(K:ah)(F:Hp):PV->V->Prop
 | .cE,v=>v=.cE
 | .bl b,v=>v=.bl b
 | .int i,v=>v=.int i
 | .str x,v=>v=.str x
 | .aI ps,v=>∃a vs,v=.ref a/\gO K F a vs/\aP K F ps vs
 | .aA ps,v=>∃a vs,v=.ref a/\nJ K F a vs/\aP K F ps vs
def aP(K:ah)(F:Hp):List PV->List V->Prop
 | [],vs=>vs=[]
 | p::ps,vs=>∃v r,vs=v::r/\cx K F p v/\aP K F ps r
end
section
variable {K:ah} {F F' H H':Hp}
theorem aP.nil:aP K F [] []:=by simp[aP]
theorem aP.cons{p:PV}{ps:List PV}{v:V}{vs:List V}(h:cx K F p v)(t:aP K F ps vs):aP K F (p::ps) (v::vs):=by
 simp only[aP];exact⟨v,vs,rfl,h,t⟩
theorem cX{v:V}:cx K F .cE v↔v=.cE:=by simp only[cx]
theorem bU{b:Bool}{v:V}:cx K F (.bl b) v↔v=.bl b:=by simp only[cx]
theorem aG{i:Int}{v:V}:cx K F (.int i) v↔v=.int i:=by simp only[cx]
theorem cb{i:Str}{v:V}:cx K F (.str i) v↔v=.str i:=by simp only[cx]
theorem bF{ps:List PV}{v:V}:cx K F (.aI ps) v↔∃a vs,v=.ref a/\gO K F a vs/\aP K F ps vs:=by simp only[cx]
end
def ClsAt(K:ah)(C:Str)(cls:ag):Prop:=W.nsIn K mainGlobals C=some (some cls)
section
variable {X:Cx} {H₀ aa:Hp}
noncomputable def Hv:bW:=[.type "ValueError",.type "Exception",.type "BaseException",.type "object"]
structure aaq (K:ah) (C:ab):Prop where
 ga:W.findIn K (.ref C) "__getattribute__"=some (some (.builtin "BaseException.__getattribute__"))
 noHook:W.findIn K (.ref C) "__getattr__"=some none
 cl:W.findIn K (.ref C) "__class__"=some (some (.builtin "object.__class__"))
 get:W.specialIn K (.builtin "object.__class__") "__get__"=some (some (.builtin "getset_descriptor.__get__"))
 takes:W.takesIn K (.builtin "object.__class__")=some true
 obj:W.mroIn K C (.type "object")=some true
 aeF:W.mroIn K C (.type "BaseException")=some true
def uz(K:ah)(C:Str):Prop:=∃Ca,ClsAt K C (.ref Ca)/\W.excIn K Ca Hv "ValueError.__new__"=true/\aaq K Ca
end
structure Pg where
 defs:List (Str×ay)
 cons:List (Str×PV)
 df:List Str
 exc:List Str:=[]
 sub:List ((Str×Str)×Bool):=[]
 tabs:List (Str×List (Str×Str)):=[]
 own:List (Str×List Str):=[]
 bP:List Str:=[]
 obs:List (Str×List Str):=[]
 cls:List (Str×ay):=[]
 flds:List Str:=[]
 eK:List (Str×List (Str×PV)):=[]
 mr:List Str:=[]
 Pe:List (Str×List Str):=[]
 dct:List (Str×List Str):=[]
 Mb:List (Str×List Str):=[]
def params(st:ay):List Str:=(iu st).args.map λa=>a.arg
def Vb:NameKind->Bool
 | .local=>true
 | .cell=>true
 | _=>false
def bI(st:ay):List Str:=params st++((aF st).names.filter λy=>Vb y.2&&!(params st).contains y.1).map λy=>y.1
structure Hw (K:ah) (x:Str) (st:ay):Prop where
 ex:∃f fd,W.nsIn K mainGlobals x=some (some (.ref f))/\AJ K x x st f fd/\∀us:bW,us.length=(params st).length->bindArgs fd ⟨us,[]⟩=pure ((params st).zip us)
 sc:de (bI st) (params st) (aF st)
def Bs(K:ah)(C D:Str)(b:Bool):Prop:=∃cls dv,ClsAt K C cls/\(W.nsIn K mainGlobals D=some (some dv)\/(W.nsIn K mainGlobals D=some none/\bootBuiltins D=some dv/\D≠"__name__"))/\((∃Da,dv=.ref Da)\/∃T,dv=.type T)/\W.exmOne K cls dv=some b/\W.kitOne K cls dv=some b
theorem Hx{K:ah}{C D:Str}{b:Bool}{cls:ag}{Da:ab}(a:W.nsIn K mainGlobals C=some (some cls))(d:W.nsIn K mainGlobals D=some (some (.ref Da)))(e:W.exmOne K cls (.ref Da)=some b)(k:W.kitOne K cls (.ref Da)=some b):Bs K C D b:=⟨cls,_,a,.inl d,.inl ⟨_,rfl⟩,e,k⟩
theorem Hy{K:ah}{C D:Str}{b:Bool}{cls:ag}{T:String}(a:W.nsIn K mainGlobals C=some (some cls))(d:W.nsIn K mainGlobals D=some none)(v:bootBuiltins D=some (.type T))(n:D≠"__name__")(e:W.exmOne K cls (.type T)=some b)(k:W.kitOne K cls (.type T)=some b):Bs K C D b:=⟨cls,_,a,.inr ⟨d,v,n⟩,.inr ⟨_,rfl⟩,e,k⟩
theorem Vc{K:ah}{C:Str}{Ca:ab}(a:W.nsIn K mainGlobals C=some (some (.ref Ca)))(q:W.excIn K Ca Hv "ValueError.__new__"=true)(k1:W.findIn K (.ref Ca) "__getattribute__"=some (some (.builtin "BaseException.__getattribute__")))(k2:W.findIn K (.ref Ca) "__getattr__"=some none)
  (k3:W.findIn K (.ref Ca) "__class__"=some (some (.builtin "object.__class__"))) (k4:W.specialIn K (.builtin "object.__class__") "__get__"=some (some (.builtin "getset_descriptor.__get__"))) (k5:W.takesIn K (.builtin "object.__class__")=some true) (k6:W.mroIn K Ca (.type "object")=some true) (k7:W.mroIn K Ca (.type "BaseException")=some true):uz K C :=
 ⟨Ca,a,q,⟨k1,k2,k3,k4,k5,k6,k7⟩⟩
def EY(K:ah)(P:Params)(T:Str)(rows:List (Str×Str)):Prop :=
 ∃a es n,W.nsIn K mainGlobals T=some (some (.ref a))/\K.lookup a=some ⟨.type "dict",none,.dict es n,#[]⟩/\W.KeysLit P es.toList/\∀d∈rows,∃f,W.nsIn K a d.1=some (some (.ref f))/\W.nsIn K mainGlobals d.2=some (some (.ref f))
theorem aar{K:ah}{P:Params}{T:Str}{rows:List (Str×Str)}{a:ab}{es:Array DictEntry}{n:Nat}(h1:W.nsIn K mainGlobals T=some (some (.ref a)))(h2:K.lookup a=some ⟨.type "dict",none,.dict es n,#[]⟩)(h3:W.KeysLit P es.toList)
  (h4:∀d∈rows,∃f,W.nsIn K a d.1=some (some (.ref f))/\W.nsIn K mainGlobals d.2=some (some (.ref f))):EY K P T rows:=⟨a,es,n,h1,h2,h3,h4⟩
noncomputable def flatIs:List PV->bW->Bool
 | [],[]=>true
 | .int i::r,.int j _::q=>(i==j)&&flatIs r q
 | .str x::r,.str y _::q=>(x==y)&&flatIs r q
 | .bl a::r,.bool b::q=>(a==b)&&flatIs r q
 | .cE::r,.none::q=>flatIs r q
 | _,_=>false
theorem mv{K:ah}:∀{ps:List PV} {us:bW},flatIs ps us=true->∃vs,Vals vs us/\∀F,aP K F ps vs
 | [],[],_=>⟨[],.nil,λ_=>.nil⟩
 | .int i::r,.int j t::q,h=>by
  simp only[flatIs,aE,lW]at h;obtain⟨vs,h1,h2⟩:=mv h.2;exact⟨.int i::vs,.cons ⟨t,by rw[h.1]⟩ h1,λF=>.cons (aG.mpr rfl) (h2 F)⟩
 | .str x::r,.str y t::q,h=>by
  simp only[flatIs,aE]at h;have e:=bD h.1;obtain⟨vs,h1,h2⟩:=mv h.2;exact⟨.str x::vs,.cons ⟨t,by rw[e]⟩ h1,λF=>.cons (cb.mpr rfl) (h2 F)⟩
 | .bl a::r,.bool b::q,h=>by
  simp only[flatIs,aE,lW]at h;obtain⟨vs,h1,h2⟩:=mv h.2;exact⟨.bl a::vs,.cons (by rw[h.1];rfl) h1,λF=>.cons (bU.mpr rfl) (h2 F)⟩
 | .cE::r,.none::q,h=>by
  simp only[flatIs]at h;obtain⟨vs,h1,h2⟩:=mv h;exact⟨.cE::vs,.cons rfl h1,λF=>.cons (cX.mpr rfl) (h2 F)⟩
theorem Mc{K:ah}{g:ab}{x:Str}{a:ab}{ps:List PV}{us:bW}{n:Nat}{dd:Option ab}{sl:Array lb}(h1:W.nsIn K g x=some (some (.ref a)))(h2:K.lookup a=some ⟨.type "tuple",dd,.seq us.toArray n,sl⟩)(h3:flatIs ps us=true)(h4:us.length<=100) :
  ∃u v,W.nsIn K g x=some (some u)/\RelV v u/\∀F,cx K F (.aI ps) v:=by
 obtain⟨vs,r,b⟩:=mv (K:=K) h3;exact⟨_,.ref a,h1,rfl,λF=>bF.mpr ⟨a,vs,rfl,.inr ⟨_,us.toArray,n,h2,rfl,rfl,by rw[bz];exact b0 h4 (by decide),by simpa using r⟩,b F⟩⟩
theorem Md{K:ah}{g:ab}{x:Str}{y:Str}{t:Tok}(a:W.nsIn K g x=some (some (.str y t))):∃u v,W.nsIn K g x=some (some u)/\RelV v u/\∀F,cx K F (.str y) v:=⟨_,.str y,a,⟨t,rfl⟩,λF=>cb.mpr rfl⟩
def QN(K:ah)(C:Str)(st:ay)(flds:List Str):Prop:=∃Ca f fd,W.nsIn K mainGlobals C=some (some (.ref Ca))/\Mk K Ca f/\Br K Ca/\(∀g∈flds,d9 K Ca g)/\AJ K "__init__" (C++".__init__") st f fd/\(∀us:bW,us.length=(params st).length->bindArgs fd ⟨us,[]⟩=pure ((params st).zip us))/\de (bI st) (params st) (aF st)
def yr(K:ah)(P:Params)(T:Str)(rows:List (Str×PV)):Prop :=
 ∃a es n,W.nsIn K mainGlobals T=some (some (.ref a))/\K.lookup a=some ⟨.type "dict",none,.dict es n,#[]⟩/\W.KeysLit P es.toList/\∀d∈rows,∃u v,W.nsIn K a d.1=some (some u)/\RelV v u/\∀F,cx K F d.2 v
def QO(K:ah)(x:Str):Prop:=x∈dG/\∃c T,W.tabIn K x=some (c,T)/\W.codeHdIn K c T=true
def Hz(K:ah):Prop:=∃bm o,W.nsIn K mainGlobals "__builtins__"=some (some (.ref bm))/\bm≠builtinsNs/\bm≠mainGlobals/\K.lookup bm=some o/\o.cls=.type "module"/\o.dict=some builtinsNs/\o.data=.plain
structure mw (K:ah) (h:Heap):Prop where
 at_:∀x∈dG,∀c T,W.tabIn K x=some (c,T)->W.codeHdIn K c T=true/\h.get? T=some {cls:=.none,data:=.fields #[]}/\K.lookup T=none
 nd:(dG.filterMap λx=>(W.tabIn K x).map (·.2)).Nodup
theorem mw.keeps{K:ah}{h h':Heap}(t:mw K h)(k:∀b o,h.get? b=some o->h'.get? b=some o):mw K h':=⟨λx hx c T e=>let ⟨h1,h2,h3⟩:=t.at_ x hx c T e;⟨h1,k _ _ h2,h3⟩,t.nd⟩
theorem Me{K:ah}{g:ab}{x:Str}{i:Int}{t:Tok}(a:W.nsIn K g x=some (some (.int i t))):∃u v,W.nsIn K g x=some (some u)/\RelV v u/\∀F,cx K F (.int i) v:=⟨_,.int i,a,⟨t,rfl⟩,λF=>aG.mpr rfl⟩
structure HA (P:Pg) (w:aM) (K:ah):Prop where
 hd:∀d∈P.defs,Hw K d.1 d.2
 hc:∀d∈P.cons,∃u v,W.nsIn K mainGlobals d.1=some (some u)/\RelV v u/\∀F,cx K F d.2 v
 hb:∀x∈P.df,W.nsIn K mainGlobals x=some none
 he:∀C∈P.exc,uz K C
 hs:∀d∈P.sub,Bs K d.1.1 d.1.2 d.2
 ht:∀d∈P.tabs,EY K w.params d.1 d.2
 hcl:∀d∈P.cls,QN K d.1 d.2 P.flds
 hct:∀d∈P.eK,yr K w.params d.1 d.2
 hlm:∀x∈P.mr,QO K x
 hbm:P.mr≠[]->Hz K
noncomputable def HB:ag->List ab
 | .ref a=>[a]
 | _=>[]
def Dn:Option Obj->List ab
 | some ⟨_,_,.dict es _,_⟩=>es.toList.flatMap λe=>HB e.val
 | some ⟨_,_,.func fd,_⟩=>HB fd.code
 | some ⟨_,_,.cls cd,_⟩=>cd.ns::cd.mro.flatMap HB
 | _=>[]
def fragOf(h:Heap):List ab->ah
 | []=>[]
 | a::r=>match h.get? a with
  | some o=>(a,o)::fragOf h r
  | none=>fragOf h r
theorem oe(h:Heap):∀as:List ab,(fragOf h as).In h
 | []=>λ_ _ e=>by cases e
 | a::r=>λb o e=>by
  unfold fragOf at e;split at e
  ·rename_i o' ho;rw[gV]at e;cases z:b==a with
   | true =>
    rw[z]at e;cases e;rw[bD z];exact ho
   | false =>
    rw[z]at e;exact oe h r b o e
  ·exact oe h r b o e
def nsO:Option Obj->List ab
 | some ⟨_,_,.cls cd,_⟩=>[cd.ns]
 | _=>[]
def aat(h:Heap)(a:ab):List ab:=a::(Dn (h.get? a)++(nsO (h.get? a)).flatMap λb=>(Dn (h.get? b)).flatMap λc=>c::Dn (h.get? c))
def eX(h:Heap):ah:=fragOf h (mainGlobals::(Dn (h.get? mainGlobals)).flatMap (aat h))
noncomputable def chFn(K:ah)(x:Str):Option dk:=match W.nsIn K mainGlobals x with
 | some (some (.ref f))=>(match K.lookup f with
  | some ⟨_,_,.func fd,_⟩=>(match W.codeIn K fd.code x with
   | true=>some {fd with kwdefaults:=.none,doc:=.none,pyModule:=.none,annotations:=none,code:=.none,closureTuple:=.none}
   | false=>none)
  | _=>none)
 | _=>none
def mx(x:Str)(st:ay):dk:=W.fnOf x x (iu st) (bH st) (aF st) .none .none .none .none none .none .none
theorem Mf{K:ah}{x:Str}{st:ay}(h:chFn K x=some (mx x st)):∃f fd,W.nsIn K mainGlobals x=some (some (.ref f))/\AJ K x x st f fd:=by
 unfold chFn at h;split at h
 ·rename_i f hf;split at h
  ·rename_i oc od fd tZ hl;split at h
   ·rename_i hc;have h:=bo h;obtain⟨a1,a2,a3,a4,a5,a6,a7,a8,a9,a10,a11,a12,a13,a14,a15⟩:=fd;unfold mx at h;simp only[FuncData.mk.injEq]at h;obtain⟨e1,e2,e3,e4,e5,e6,e7,e8,-,-,-,-,-,-,e15⟩:=h;subst e1 e2 e3 e4 e5 e6 e7 e8 e15;exact⟨f,_,hf,Hu hl hc (by unfold W.keepIn;dsimp only;rw[hl])⟩
   ·cases h
  ·cases h
 ·cases h
def uA(K:ah)(g:ab)(d:Str×PV):Bool:=match W.nsIn K g d.1 with
 | some (some (.int j _))=>(match d.2 with | .int i=>i==j | _=>false)
 | some (some (.str y _))=>(match d.2 with | .str x=>x==y | _=>false)
 | some (some (.ref a))=>(match K.lookup a with
  | some ⟨.type t,_,.seq us _,_⟩=>(match d.2 with | .aI ps=>(t=="tuple")&&(flatIs ps us.toList&&decide (us.toList.length<=100)) | _=>false)
  | _=>false)
 | _=>false
theorem yt{K:ah}{g:ab}{x:Str}{p:PV}(h:uA K g (x,p)=true):∃u v,W.nsIn K g x=some (some u)/\RelV v u/\∀F,cx K F p v:=by
 unfold uA at h;dsimp only at h
 split at h
 ·rename_i j t hn;split at h
  ·rename_i i;obtain rfl:=bD h;exact Me hn
  ·cases h
 ·rename_i y t hn;split at h
  ·rename_i i;obtain rfl:=bD h;exact Md hn
  ·cases h
 ·rename_i a hn;split at h
  ·rename_i t dd us n sl hl;split at h
   ·rename_i ps;rw[aE,aE]at h;obtain⟨h1,h2,h3⟩:=h;obtain rfl:=bD h1;obtain⟨us⟩:=us;exact Mc hn hl h2 (nS h3)
   ·cases h
  ·cases h
 ·cases h
def yu(K:ah)(x:Str):Bool:=match W.nsIn K mainGlobals x with
 | some none=>true
 | _=>false
theorem HC{K:ah}{x:Str}(h:yu K x=true):W.nsIn K mainGlobals x=some none:=by
 unfold yu at h;split at h
 ·assumption
 ·cases h
abbrev OV:=Option lb
def yv(K:ah)(C:Str):Option (Bool×OV×OV×OV×OV×Option Bool×Option Bool×Option Bool):=match W.nsIn K mainGlobals C with
 | some (some (.ref a))=>some (W.excIn K a Hv "ValueError.__new__",W.findIn K (.ref a) "__getattribute__",W.findIn K (.ref a) "__getattr__",W.findIn K (.ref a) "__class__",W.specialIn K (.builtin "object.__class__") "__get__",W.takesIn K (.builtin "object.__class__"),W.mroIn K a (.type "object"),W.mroIn K a (.type "BaseException"))
 | _=>none
def qL:Option (Bool×OV×OV×OV×OV×Option Bool×Option Bool×Option Bool):=some (true,some (some (.builtin "BaseException.__getattribute__")),some none,some (some (.builtin "object.__class__")),some (some (.builtin "getset_descriptor.__get__")),some true,some true,some true)
theorem HE{K:ah}{C:Str}(h:yv K C=qL):uz K C:=by
 unfold yv qL at h;split at h
 ·rename_i a hn;have h:=bo h;simp only[ka]at h;obtain⟨h1,h2,h3,h4,h5,h6,h7,h8⟩:=h;exact Vc hn h1 h2 h3 h4 h5 h6 h7 h8
 ·cases h
noncomputable def yw(K:ah)(C D:Str):Option (Option Bool×Option Bool):=match W.nsIn K mainGlobals C with
 | some (some cls)=>(match W.nsIn K mainGlobals D with
  | some (some (.ref a))=>some (W.exmOne K cls (.ref a),W.kitOne K cls (.ref a))
  | some none=>(match bootBuiltins D with
   | some (.type T)=>(match decide (D="__name__")with
    | true=>none
    | false=>some (W.exmOne K cls (.type T),W.kitOne K cls (.type T)))
   | _=>none)
  | _=>none)
 | _=>none
theorem HF{K:ah}{C D:Str}{b:Bool}(h:yw K C D=some (some b,some b)):Bs K C D b:=by
 unfold yw at h;split at h
 ·rename_i cls hc;split at h
  ·rename_i a hd;have h:=bo h;rw[ka]at h;exact Hx hc hd h.1 h.2
  ·rename_i hd;split at h
   ·rename_i T hT;split at h
    ·cases h
    ·rename_i hD;have h:=bo h;rw[ka]at h;exact Hy hc hd hT (of_decide_eq_false hD) h.1 h.2
   ·cases h
  ·cases h
 ·cases h
def Dp(e:DictEntry):Option Str×Int:=(match e.key with
 | .str x _=>some x
 | _=>none,e.hash)
noncomputable def HG(K:ah)(a:ab)(d:Str×Str):Bool:=match W.nsIn K a d.1,W.nsIn K mainGlobals d.2 with
 | some (some (.ref f)),some (some (.ref g))=>f==g
 | _,_=>false
def yx(K:ah)(T:Str)(rows:List (Str×Str)):Option (ag×Option ab×Array lb×List (Option Str×Int)×Bool):=match W.nsIn K mainGlobals T with
 | some (some (.ref a))=>(match K.lookup a with
  | some ⟨c,dd,.dict es _,sl⟩=>some (c,dd,sl,es.toList.map Dp,rows.all (HG K a))
  | _=>none)
 | _=>none
def qM(P:Params)(rows:List (Str×Str)):Option (ag×Option ab×Array lb×List (Option Str×Int)×Bool):=some (.type "dict",none,#[],rows.map (λd=>(some d.1,PyData.keyHash P d.1)),true)
theorem qN{β:Type}{P:Params}:∀{es:List DictEntry} {rows:List (Str×β)},es.map Dp=rows.map (λd=>(some d.1,PyData.keyHash P d.1))->W.KeysLit P es
 | [],_,_=>trivial
 | _::_,[],h=>by cases h
 | e::es,d::rows,h=>by
  rw[bC,bC,List.cons.injEq]at h;obtain⟨h1,h2⟩:=h;refine⟨?_,qN h2⟩;unfold Dp at h1;rw[ka]at h1;obtain⟨h3,h4⟩:=h1;split at h3
  ·rename_i x t hk;cases h3;exact⟨_,t,hk,h4⟩
  ·cases h3
theorem HH{K:ah}{a:ab}{d:Str×Str}(h:HG K a d=true):∃f,W.nsIn K a d.1=some (some (.ref f))/\W.nsIn K mainGlobals d.2=some (some (.ref f)):=by
 unfold HG at h;split at h
 ·rename_i f g h1 h2;obtain rfl:=bD h;exact⟨_,h1,h2⟩
 ·cases h
theorem HI{K:ah}{P:Params}{T:Str}{rows:List (Str×Str)}(h:yx K T rows=qM P rows):EY K P T rows:=by
 unfold yx qM at h;split at h
 ·rename_i a hn;split at h
  ·rename_i c dd es n sl hl;have h:=bo h;simp only[ka]at h;obtain⟨rfl,rfl,rfl,h4,h5⟩:=h;exact aar hn hl (qN h4) λd hd=>HH (dj.mp h5 d hd)
  ·cases h
 ·cases h
abbrev Mg:=Option (ag×Option ab×Array lb×List (Option Str×Int)×Bool)
def qO(K:ah)(T:Str)(rows:List (Str×PV)):Mg:=match W.nsIn K mainGlobals T with
 | some (some (.ref a))=>(match K.lookup a with
  | some ⟨c,dd,.dict es _,sl⟩=>some (c,dd,sl,es.toList.map Dp,rows.all (uA K a))
  | _=>none)
 | _=>none
def my(P:Params)(rows:List (Str×PV)):Mg:=some (.type "dict",none,#[],rows.map (λd=>(some d.1,PyData.keyHash P d.1)),true)
theorem EZ{K:ah}{P:Params}{T:Str}{rows:List (Str×PV)}(h:qO K T rows=my P rows):yr K P T rows:=by
 unfold qO my at h;split at h
 ·rename_i a hn;split at h
  ·rename_i c dd es n sl hl;have h:=bo h;simp only[ka]at h;obtain⟨rfl,rfl,rfl,h4,h5⟩:=h;exact⟨a,es,n,hn,hl,qN h4,λd hd=>yt (dj.mp h5 d hd)⟩
  ·cases h
 ·cases h
noncomputable def Bt(K:ah)(f:ab)(qual:Str):Option dk:=match K.lookup f with
 | some ⟨_,_,.func fd,_⟩=>(match W.codeIn K fd.code qual with
  | true=>some {fd with kwdefaults:=.none,doc:=.none,pyModule:=.none,annotations:=none,code:=.none,closureTuple:=.none}
  | false=>none)
 | _=>none
def HJ(x qual:Str)(st:ay):dk:=W.fnOf x qual (iu st) (bH st) (aF st) .none .none .none .none none .none .none
theorem E1{K:ah}{x qual:Str}{st:ay}{f:ab}(h:Bt K f qual=some (HJ x qual st)):∃fd,AJ K x qual st f fd:=by
 unfold Bt at h;split at h
 ·rename_i oc od fd tZ hl;split at h
  ·rename_i hc;have h:=bo h;obtain⟨a1,a2,a3,a4,a5,a6,a7,a8,a9,a10,a11,a12,a13,a14,a15⟩:=fd;unfold HJ at h;simp only[FuncData.mk.injEq]at h;obtain⟨e1,e2,e3,e4,e5,e6,e7,e8,-,-,-,-,-,-,e15⟩:=h;subst e1 e2 e3 e4 e5 e6 e7 e8 e15;exact⟨_,Hu hl hc (by unfold W.keepIn;dsimp only;rw[hl])⟩
  ·cases h
 ·cases h
abbrev QP:=Option (Bool×OV×List OV×Option dk)
def yy(K:ah)(flds:List Str)(C:Str):QP:=match W.nsIn K mainGlobals C with
 | some (some (.ref a))=>(match W.findIn K (.ref a) "__init__" with
  | some (some (.ref f))=>some (W.makesIn K a&&(W.isFn K (.ref f)&&(W.keepIn K (.ref a)&&(W.plainGet K a Str.empty&&(W.hasDictIn K a&&W.plainOver K a)))),W.findIn K (.ref a) "__setattr__",flds.map (λg=>W.findIn K (.ref a) g),Bt K f (C++".__init__"))
  | _=>none)
 | _=>none
def qP(flds:List Str)(C:Str)(st:ay):QP:=some (true,some (some (.builtin "object.__setattr__")),flds.map (λ_=>some none),some (HJ "__init__" (C++".__init__") st))
def wc:List Str->Bool
 | []=>true
 | x::r=>!r.contains x&&wc r
theorem uB:∀{l:List Str},wc l=true->l.Nodup
 | [],_=>nZ
 | x::r,h=>by
  simp only[wc,aE,Bool.not_eq_true',List.contains_eq_mem,decide_eq_false_iff_not]at h;exact c8.mpr ⟨h.1,uB h.2⟩
def aav:Option NameKind->Bool
 | some .local=>true
 | some .cell=>true
 | _=>false
def Vd:NameKind->Bool
 | .free=>false
 | _=>true
def Ve:ScopeKind->Bool
 | .function=>true
 | _=>false
def Mh(st:ay):Bool:=Ve (aF st).kind&&(!(aF st).isCoroutine&&(!(aF st).isGenerator&&(wc (bI st)&&((params st).all (λx=>aav ((aF st).names.lookup x))&&(aF st).names.all λy=>Vd y.2))))
theorem HK{st:ay}(h:Mh st=true):de (bI st) (params st) (aF st):=by
 unfold Mh at h;rw[aE,aE,aE,aE,aE]at h;obtain⟨h1,h2,h3,h4,h5,h6⟩:=h;refine⟨?_,by simpa using h2,by simpa using h3,uB h4,?_,λx hx=>?_,λy hy=>?_⟩
 ·cases z:(aF st).kind<;>rw[z]at h1<;>first | rfl | cases h1
 ·unfold bI;exact List.take_left
 ·have k:=dj.mp h5 x hx;cases z:(aF st).names.lookup x with
  | none=>rw[z]at k;cases k
  | some b =>
   rw[z]at k;cases b<;>first | exact .inl rfl | exact .inr rfl | cases k
 ·have k:=dj.mp h6 y hy;intro z;rw[z]at k;cases k
def Dq(P:Pg):Prop:=∀(kV doc pm:ag) (an:Option ab) (cU ct:ag) (u:Nat->ag),
 P.defs.map (λd=>bindArgs (W.fnOf d.1 d.1 (iu d.2) (bH d.2) (aF d.2) .none kV doc pm an cU ct) ⟨(List.range (params d.2).length).map u,[]⟩)=P.defs.map λd=>pure ((params d.2).zip ((List.range (params d.2).length).map u))
theorem yz{us:bW}{n:Nat}(h:us.length=n):(List.range n).map (λi=>us.getD i .none)=us:=by
 subst h;apply List.ext_getElem
 ·simp
 ·intro i h1 h2;simp[AV,h2]
theorem QQ{K:ah}{x:Str}{st:ay}{f:ab}{fd:dk}{P:Pg}(hb:Dq P)(hd:(x,st)∈P.defs)(F:AJ K x x st f fd)(us:bW)(hl:us.length=(params st).length):bindArgs fd ⟨us,[]⟩=pure ((params st).zip us):=by
 obtain⟨oc,od,kV,doc,pm,an,cU,ct,tZ,rfl,lk,uC⟩:=F.ex;have k:=iI.mp (hb kV doc pm an cU ct λi=>us.getD i .none) (x,st) hd
 dsimp only at k
 rw[yz hl]at k;exact k
def Mi(P:Pg):Prop:=∀(kV doc pm:ag) (an:Option ab) (cU ct:ag) (u:Nat->ag),
 P.cls.map (λd=>bindArgs (W.fnOf "__init__" (d.1++".__init__") (iu d.2) (bH d.2) (aF d.2) .none kV doc pm an cU ct) ⟨(List.range (params d.2).length).map u,[]⟩)=P.cls.map λd=>pure ((params d.2).zip ((List.range (params d.2).length).map u))
theorem HL{K:ah}{P:Pg}{C:Str}{st:ay}(QR:Mh st=true)(hb:Mi P)(hd:(C,st)∈P.cls)(h:yy K P.flds C=qP P.flds C st):QN K C st P.flds:=by
 unfold yy qP at h;split at h
 ·rename_i a hn;split at h
  ·rename_i f hf;have h:=bo h;simp only[ka,aE]at h;obtain⟨⟨h1,h2,h3,h4,h5,h6⟩,h7,h8,h9⟩:=h;obtain⟨fd,F⟩:=E1 h9;refine⟨a,f,fd,hn,⟨h1,hf,h2,h3⟩,⟨h4,h5,h6,h7⟩,λg hg=>iI.mp h8 g hg,F,λus hl=>?_,HK QR⟩
   obtain⟨oc,od,kV,doc,pm,an,cU,ct,tZ,rfl,lk,uC⟩:=F.ex;have k:=iI.mp (hb kV doc pm an cU ct λi=>us.getD i .none) (C,st) hd
   dsimp only at k
   rw[yz hl]at k;exact k
  ·cases h
 ·cases h
abbrev QS:=List (Option dk)×List (Option dk)×Bool×List (Option (Bool×OV×OV×OV×OV×Option Bool×Option Bool×Option Bool))×List (Option (Option Bool×Option Bool))×List Mg×List QP×List Mg
def Bu(K:ah)(h:Heap)(x:Str):Bool:=match W.tabIn K x with
 | none=>true
 | some (c,T)=>W.codeHdIn K c T&&((K.lookup T).isNone&&(match h.get? T with
  | some ⟨.none,none,.fields vs,sl⟩=>vs.isEmpty&&sl.isEmpty
  | _=>false))
def QT(K:ah):Bool:=match W.nsIn K mainGlobals "__builtins__" with
 | some (some (.ref bm))=>!(bm==builtinsNs)&&(!(bm==mainGlobals)&&(match K.lookup bm with
  | some ⟨.type m,some d,.plain,_⟩=>(m=="module")&&(d==builtinsNs)
  | _=>false))
 | _=>false
def yA(P:Pg)(K:ah)(h:Heap):Bool:=dG.all (Bu K h)&&(decide (dG.filterMap λx=>(W.tabIn K x).map (·.2)).Nodup&&((P.mr.isEmpty || QT K)&&P.mr.all λx=>dG.contains x&&(W.tabIn K x).isSome))
theorem uD{K:ah}{h:Heap}{x:Str}{c T:ab}(e:Bu K h x=true)(t:W.tabIn K x=some (c,T)):W.codeHdIn K c T=true/\h.get? T=some {cls:=.none,data:=.fields #[]}/\K.lookup T=none:=by
 unfold Bu at e;rw[t]at e;simp only[aE]at e;obtain⟨h1,h2,h3⟩:=e;refine⟨h1,?_,by simpa using h2⟩
 split at h3
 ·rename_i vs sl z;rw[aE]at h3;rw[z];have e1:vs=#[]:=by simpa using h3.1
  have e2:sl=#[]:=by simpa using h3.2
  rw[e1,e2]
 ·cases h3
theorem Mj{K:ah}(e:QT K=true):Hz K:=by
 unfold QT at e;split at e
 ·rename_i bm hb;simp only[aE]at e;obtain⟨h1,h2,h3⟩:=e;split at h3
  ·rename_i m d sl z;rw[aE]at h3;obtain rfl:=bD h3.1;obtain rfl:=bD h3.2;exact⟨bm,_,hb,by simpa using h1,by simpa using h2,z,rfl,rfl,rfl⟩
  ·cases h3
 ·cases e
theorem HM{P:Pg}{K:ah}{h:Heap}(e:yA P K h=true):mw K h/\(∀x∈P.mr,QO K x)/\(P.mr≠[]->Hz K):=by
 unfold yA at e;simp only[aE]at e;obtain⟨h1,h2,h3,h4⟩:=e;have all:=dj.mp h1;refine⟨⟨λx hx c T t=>uD (all x hx) t,nS h2⟩,λx hx=>?_,λz=>?_⟩
 ·have:=dj.mp h4 x hx;rw[aE]at this;have hm:x∈dG:=by simpa using this.1
  cases t:W.tabIn K x with
  | none=>rw[t]at this;cases this.2
  | some cT=>exact⟨hm,cT.1,cT.2,t,(uD (all x hm) t).1⟩
 ·rcases Bool.or_eq_true_iff.mp h3 with y | y
  ·exact absurd (List.isEmpty_iff.mp y) z
  ·exact Mj y
def Bv(P:Pg)(K:ah)(hp:Heap):QS:=((P.defs.take 26).map (λd=>chFn K d.1),(P.defs.drop 26).map (λd=>chFn K d.1),P.cons.all (uA K mainGlobals)&&(P.df.all (yu K)&&yA P K hp),P.exc.map (yv K),P.sub.map (λd=>yw K d.1.1 d.1.2),P.tabs.map (λd=>yx K d.1 d.2),P.cls.map (λd=>yy K P.flds d.1),P.eK.map λd=>qO K d.1 d.2)
def Bw(P:Pg)(w:aM):QS:=((P.defs.take 26).map (λd=>some (mx d.1 d.2)),(P.defs.drop 26).map (λd=>some (mx d.1 d.2)),true,P.exc.map (λ_=>qL),P.sub.map (λd=>some (some d.2,some d.2)),P.tabs.map (λd=>qM w.params d.2),P.cls.map (λd=>qP P.flds d.1 d.2),P.eK.map λd=>my w.params d.2)
theorem E2{P:Pg}{w:aM}{K:ah}(QR:P.defs.all (λd=>Mh d.2)=true)(Vf:Dq P)(HN:P.cls.all (λd=>Mh d.2)=true)(HP:Mi P){hp:Heap}(h:Bv P K hp=Bw P w):HA P w K/\mw K hp:=by
 unfold Bv Bw at h;simp only[ka]at h;obtain⟨h1,h0,h2,h3,h4,h5,h6,h7⟩:=h;rw[aE,aE]at h2;obtain⟨l1,l2,l3⟩:=HM h2.2.2;refine⟨⟨λd hd=>?_,λd hd=>yt (dj.mp h2.1 d hd),λx hx=>HC (dj.mp h2.2.1 x hx),λC hC=>HE (iI.mp h3 C hC),λd hd=>HF (iI.mp h4 d hd),λd hd=>HI (iI.mp h5 d hd),λd hd=>HL (dj.mp HN d hd) HP hd (iI.mp h6 d hd),λd hd=>EZ (iI.mp h7 d hd),l2,l3⟩,l1⟩
 have hh:chFn K d.1=some (mx d.1 d.2):=by
  have t7:=hd;rw[<-List.take_append_drop 26 P.defs]at t7;rcases dD.mp t7 with z | z
  ·exact iI.mp h1 d z
  ·exact iI.mp h0 d z
 obtain⟨f,fd,a,F⟩:=Mf hh;exact⟨⟨f,fd,a,F,λus hl=>QQ Vf hd F us hl⟩,HK (dj.mp QR d hd)⟩
theorem mz{α β γ:Type}{o:Option α}{f:α->β}{g:α->γ}{a:β}{b:γ}(h1:o.map f=some a)(h2:o.map g=some b):o.map (λs=>(f s,g s))=some (a,b):=by
 cases o with
 | none=>cases h1
 | some s=>cases h1;cases h2;rfl
def Ml(P:Pg)(QR:P.defs.all (λd=>Mh d.2)=true)(Vf:Dq P)(HN:P.cls.all (λd=>Mh d.2)=true)(HP:Mi P):W.Hook :=
 ⟨QS,λs=>Bv P (eX s.heap) s.heap,λw=>Bw P w,λw h=>∃K:ah,K.In h/\HA P w K/\mw K h,λw s e=>⟨_,oe _ _,E2 QR Vf HN HP e⟩,λ_ _ _ ⟨K,a,b,c⟩ k=>⟨K,a.keeps k,b,c.keeps k⟩⟩
def mB(p:bh)(row:String)(b:Bool)(N:Nat)(w:aM):Option au:=(W.fencedOpening treeTable p w N).bind λs₀=>W.topFrom treeTable p (w.withFollow row b) N s₀
theorem E3{p q:bh}{loose:List Str}{Xt:au->Bool}{α:Type}{Yf:au->α}{Ya:aM->α}{N:Nat}{g0:Bool}(row:String)
  (h1:∀w,(mB p row false N w).map (W.openSeen q loose (importedModules p.main.body) Xt g0)=some (W.openGood q loose)) (h2:∀w,(mB p row true N w).map (W.openSeen q loose (importedModules p.main.body) Xt g0)=some (W.openGood q loose))
  (h3:∀w,(mB p row false N w).map Yf=some (Ya (w.withFollow row false))) (h4:∀w,(mB p row true N w).map Yf=some (Ya (w.withFollow row true))):W.LeftO p q loose Xt Yf Ya N g0:=by
 refine W.LeftO.of_split row λw=>?_
 obtain⟨sA,a1,a2⟩:=jl.mp (h1 w);obtain⟨sB,b1,b2⟩:=jl.mp (h2 w);obtain⟨sC,c1,c2⟩:=jl.mp (h3 w);obtain⟨sD,d1,d2⟩:=jl.mp (h4 w);rw[a1]at c1;rw[b1]at d1;cases c1;cases d1;obtain⟨s0,f0,tA⟩:=vO.mp a1;obtain⟨s1,f1,tB⟩:=vO.mp b1;rw[f0]at f1;cases f1;rw[f0,nX,tA,tB,nX,nX,a2,b2,c2,d2]
end L2.PL
namespace cu
open PySem L2 L2.PL oR
noncomputable def top(i:Nat):ay:=PySem.Challenge.pw_lendrule_k30_what_params_hold.main.body.getD i (.Pass ⟨0,0,0,0⟩)
abbrev yB:ay:=top 5
abbrev mC:ay:=top 6
abbrev HQ:ay:=top 7
abbrev Dr:ay:=top 8
abbrev yC:ay:=top 9
abbrev uE:ay:=top 12
abbrev oS:ay:=top 13
abbrev qQ:ay:=top 14
abbrev HR:ay:=top 16
abbrev Bx:ay:=top 17
abbrev oT:ay:=top 29
abbrev HS:ay:=top 30
abbrev Ds:ay:=top 31
abbrev uF:ay:=top 32
abbrev qR:ay:=top 33
abbrev E4:ay:=top 34
abbrev E5:ay:=top 35
abbrev mD:ay:=top 36
abbrev mE:ay:=top 37
abbrev Dt:ay:=top 38
abbrev ly:ay:=top 39
abbrev uG:ay:=top 40
abbrev ki:ay:=top 41
abbrev t8:ay:=top 42
abbrev By:ay:=top 43
abbrev Bz:ay:=top 44
abbrev yD:ay:=top 45
abbrev yE:ay:=top 46
abbrev yF:ay:=top 47
abbrev yG:ay:=top 48
abbrev yH:ay:=top 49
abbrev E6:ay:=top 50
abbrev yI:ay:=top 51
abbrev E7:ay:=top 52
abbrev E8:ay:=top 53
abbrev qS:ay:=top 54
abbrev oU:ay:=top 55
abbrev wd:ay:=top 58
abbrev iZ:ay:=top 60
abbrev iw:ay:=top 61
abbrev jO:ay:=top 62
abbrev gP:ay:=top 63
abbrev gQ:ay:=top 64
abbrev gy:ay:=top 65
abbrev ix:ay:=top 66
abbrev qT:ay:=top 67
abbrev qU:ay:=top 69
abbrev yJ:ay:=top 70
abbrev yK:ay:=top 71
abbrev yL:ay:=top 72
abbrev uH:ay:=top 73
abbrev yM:ay:=top 74
abbrev yN:ay:=top 75
abbrev uI:ay:=top 76
abbrev Du:ay:=top 77
abbrev HU:ay:=top 78
abbrev Dv:ay:=top 79
abbrev HV:ay:=top 80
abbrev kj:ay:=Ma (top 59) 0
def bg:Pg where
 defs:=(("leaves":Str),yB)::(("check_part":Str),mC)::(("part":Str),HQ)::(("first":Str),Dr)::(("is_copied":Str),yC)::(("kind_of":Str),uE)::(("is_holder":Str),oS)::(("shape_of":Str),qQ)::(("spread":Str),HR)::(("tell_new":Str),Bx)::(("row_nexts":Str),oT)::(("acts":Str),HS)::(("nexts":Str),Ds)::(("come_to":Str),uF)::(("arrivals":Str),qR)::(("touched":Str),E4)::(("touches":Str),E5)::(("is_lending":Str),mD)::(("is_of_call":Str),mE)::(("touch":Str),Dt)::(("touch_whole":Str),ly)::(("at_acts":Str),uG)::(("operand_acts":Str),ki)::(("target_acts":Str),t8)::(("put_acts":Str),By)::(("set_acts":Str),Bz)::(("copy_acts":Str),yD)::(("move_acts":Str),yE)::(("drop_acts":Str),yF)::(("lend_acts":Str),yG)::(("call_acts":Str),yH)::(("arg_act":Str),E6)::(("owner_act":Str),yI)::(("if_acts":Str),E7)::(("go_acts":Str),E8)::(("say_acts":Str),qS)::(("give_acts":Str),oU)::(("held":Str),wd)::(("source_holders":Str),iZ)::(("count_leaves_of":Str),iw)::(("held_at_first":Str),jO)::(("newly_lent":Str),gP)::(("is_through":Str),gQ)::(("held_behind":Str),gy)::(("passed_on":Str),ix)::(("leaves_given":Str),qT)::(("_law_cell_at":Str),qU)::(("_law_mixed":Str),yJ)::(("_law_names":Str),yK)::(("_law_shape":Str),yL)::(("_law_leaves":Str),uH)::(("_law_parts":Str),yM)::(("_law_whole":Str),yN)::(("_law_params":Str),uI)::(("_law_rows":Str),Du)::(("_law_due":Str),HU)::(("_law_came":Str),Dv)::(("law":Str),HV)::[]
 cons:=[("HOLDER_WORDS",(.aI [(.str "lent"),(.str "sole")])),("ROW",(.int 0)),("ACT",(.int 1)),("NAME",(.int 2)),("THROUGH",(.int 3)),("FIRST",(.int 4)),("MANY",(.int 5)),("TAKER",(.int 6)),("REST",(.aI [(.str "rest"),(.str ""),(.bl false),(.int 0),(.int 0),(.str "")])),("HAND",(.aI [(.str "hand"),(.str ""),(.bl false),(.int 0),(.int 0),(.str "")])),("LENDING",(.aI [(.str "lend"),(.str "sole")]))]
 df:=["bool","enumerate","int","isinstance","len","list","range","set","sorted","str","sum","tuple"]
 exc:=["NoPart","NoName"]
 sub:=[]
 tabs:=[("MAKERS",[("put","put_acts"),("set","set_acts"),("fill","put_acts"),("copy","copy_acts"),("move","move_acts"),("drop","drop_acts"),("lend","lend_acts"),("sole","lend_acts"),("call","call_acts"),("if","if_acts"),("go","go_acts"),("say","say_acts"),("give","give_acts")])]
 own:=[]
 bP:=["newly_lent","is_through","held_behind","passed_on","leaves_given"]
 obs:=[("held",["course"])]
 cls:=[("Course",kj)]
 flds:=["function","listed","follow","sources"]
 eK:=[]
 mr:=["arrivals","held"]
 Pe:=[("nexts",["firsts"])]
 dct:=[("law",["_law_due_here"]),("_law_due",["_law_due_here"])]
 Mb:=[]
end cu
namespace cu
open PySem L2 L2.PL
theorem QR:bg.defs.all (λd=>Mh d.2)=true:=by kernel_rfl
theorem Vf:Dq bg:=by
 intro kV doc pm an cU ct u;kernel_rfl
theorem HN:bg.cls.all (λd=>Mh d.2)=true:=by kernel_rfl
theorem HP:Mi bg:=by
 intro kV doc pm an cU ct u;kernel_rfl
def qv:bh:=W.view (W.OpenLaw.prog PySem.Challenge.rw_lendrule_k30_what_params_hold) [80]
def lo:List Str:=(W.OpenLaw.prog PySem.Challenge.rw_lendrule_k30_what_params_hold).boundNames.filter (· != "law")
def Xt(s:au):Bool:=W.xlAt qv [] s&&W.recOk (W.RowW.records (W.OpenRow.toRowW (W.OpenLaw.row PySem.Challenge.rw_lendrule_k30_what_params_hold))) s
abbrev hk:W.Hook:=Ml bg QR Vf HN HP
theorem e1(w:aM):(mB (W.OpenLaw.prog PySem.Challenge.rw_lendrule_k30_what_params_hold) "special-get-raises" false 5000 w).map (W.openSeen qv lo (importedModules (W.OpenLaw.prog PySem.Challenge.rw_lendrule_k30_what_params_hold).main.body) Xt true)=some (W.openGood qv lo):=by kernel_rfl
theorem e2(w:aM):(mB (W.OpenLaw.prog PySem.Challenge.rw_lendrule_k30_what_params_hold) "special-get-raises" true 5000 w).map (W.openSeen qv lo (importedModules (W.OpenLaw.prog PySem.Challenge.rw_lendrule_k30_what_params_hold).main.body) Xt true)=some (W.openGood qv lo):=by kernel_rfl
theorem aaw(w:aM):(mB (W.OpenLaw.prog PySem.Challenge.rw_lendrule_k30_what_params_hold) "special-get-raises" false 5000 w).map (λs:au=>(bg.defs.take 26).map (λd=>chFn (eX s.heap) d.1))=some ((bg.defs.take 26).map (λd=>some (mx d.1 d.2))):=by kernel_rfl
theorem aax(w:aM):(mB (W.OpenLaw.prog PySem.Challenge.rw_lendrule_k30_what_params_hold) "special-get-raises" false 5000 w).map (λs:au=>(bg.defs.drop 26).map (λd=>chFn (eX s.heap) d.1))=some ((bg.defs.drop 26).map (λd=>some (mx d.1 d.2))):=by kernel_rfl
theorem aay(w:aM):(mB (W.OpenLaw.prog PySem.Challenge.rw_lendrule_k30_what_params_hold) "special-get-raises" false 5000 w).map (λs:au=>(bg.cons.all (uA (eX s.heap) mainGlobals)&&(bg.df.all (yu (eX s.heap))&&yA bg (eX s.heap) s.heap),bg.exc.map (yv (eX s.heap)),bg.sub.map (λd=>yw (eX s.heap) d.1.1 d.1.2),bg.tabs.map (λd=>yx (eX s.heap) d.1 d.2),bg.cls.map (λd=>yy (eX s.heap) bg.flds d.1),bg.eK.map λd=>qO (eX s.heap) d.1 d.2))=some ((true,bg.exc.map (λ_=>qL),bg.sub.map (λd=>some (some d.2,some d.2)),bg.tabs.map (λd=>qM (w.withFollow "special-get-raises" false).params d.2),bg.cls.map (λd=>qP bg.flds d.1 d.2),bg.eK.map λd=>my (w.withFollow "special-get-raises" false).params d.2)):=by kernel_rfl
theorem e3(w:aM):(mB (W.OpenLaw.prog PySem.Challenge.rw_lendrule_k30_what_params_hold) "special-get-raises" false 5000 w).map (W.Hook.obs hk)=some (W.Hook.val hk (w.withFollow "special-get-raises" false)):=mz (aaw w) (mz (aax w) (aay w))
theorem aaz(w:aM):(mB (W.OpenLaw.prog PySem.Challenge.rw_lendrule_k30_what_params_hold) "special-get-raises" true 5000 w).map (λs:au=>(bg.defs.take 26).map (λd=>chFn (eX s.heap) d.1))=some ((bg.defs.take 26).map (λd=>some (mx d.1 d.2))):=by kernel_rfl
theorem aaA(w:aM):(mB (W.OpenLaw.prog PySem.Challenge.rw_lendrule_k30_what_params_hold) "special-get-raises" true 5000 w).map (λs:au=>(bg.defs.drop 26).map (λd=>chFn (eX s.heap) d.1))=some ((bg.defs.drop 26).map (λd=>some (mx d.1 d.2))):=by kernel_rfl
theorem aaB(w:aM):(mB (W.OpenLaw.prog PySem.Challenge.rw_lendrule_k30_what_params_hold) "special-get-raises" true 5000 w).map (λs:au=>(bg.cons.all (uA (eX s.heap) mainGlobals)&&(bg.df.all (yu (eX s.heap))&&yA bg (eX s.heap) s.heap),bg.exc.map (yv (eX s.heap)),bg.sub.map (λd=>yw (eX s.heap) d.1.1 d.1.2),bg.tabs.map (λd=>yx (eX s.heap) d.1 d.2),bg.cls.map (λd=>yy (eX s.heap) bg.flds d.1),bg.eK.map λd=>qO (eX s.heap) d.1 d.2))=some ((true,bg.exc.map (λ_=>qL),bg.sub.map (λd=>some (some d.2,some d.2)),bg.tabs.map (λd=>qM (w.withFollow "special-get-raises" true).params d.2),bg.cls.map (λd=>qP bg.flds d.1 d.2),bg.eK.map λd=>my (w.withFollow "special-get-raises" true).params d.2)):=by kernel_rfl
theorem e4(w:aM):(mB (W.OpenLaw.prog PySem.Challenge.rw_lendrule_k30_what_params_hold) "special-get-raises" true 5000 w).map (W.Hook.obs hk)=some (W.Hook.val hk (w.withFollow "special-get-raises" true)):=mz (aaz w) (mz (aaA w) (aaB w))
theorem ws:W.OpenLaw.wellSaid PySem.Challenge.rw_lendrule_k30_what_params_hold=true:=by kernel_rfl
end cu
open PySem PySem.W PyProof.Rows PySem.Calls
set_option maxRecDepth 100000 in
set_option maxHeartbeats 0 in
theorem cu.fin(hc:∀d:DefRec,d.name="law"->d.params.defaults=[]->W.WalkO cu.qv cu.lo (XL cu.qv []) (Hook.says cu.hk) (W.OpenRow.toRowW (W.OpenLaw.row PySem.Challenge.rw_lendrule_k30_what_params_hold)) d [] (λf vs=>PySem.call f vs)):PySem.Challenge.rw_lendrule_k30_what_params_hold.Holds:=by
 w_on;refine W.holds_law cu.ws λaeN=>?_
 refine W.holds_open (q:=cu.qv) (loose:=cu.lo) (Xt:=cu.Xt) (XP:=XL cu.qv []) (Yf:=Hook.obs cu.hk) (Ya:=Hook.val cu.hk) (YP:=Hook.says cu.hk) (N:=5000) (L2.PL.E3 "special-get-raises" cu.e1 cu.e2 cu.e3 cu.e4) (Hook.of _) (Hook.keeps _) (λs e=>xl_of s (Bool.and_eq_true_iff.mp e).1) XL.keeps (by rfl) (by rfl) (by rfl) (λs e=>recFacts_of (Bool.and_eq_true_iff.mp e).2) (by rfl) (by first | assumption | decide +kernel) (by decide +kernel) ⟨rfl,rfl,rfl,rfl,rfl,by decide +kernel⟩ ?hw (hc _ rfl rfl)
 case hw=>w_witness2
end
namespace L2
open PySem PySem.Spec PyProof.Rows
def uJ:b8->ag->Bool
  | .inl k,v=>Value.isInt k v
  | .inr x,v=>Value.isStrOf x v
def aaC(w:aM):b8->Int
  | .inl k=>hashInt k
  | .inr x=>hashStr w x
theorem dm:∀{k:b8} {v:ag},uJ k v=true->(∃i t,k=Sum.inl i/\v=Value.int i t)\/(∃x t,k=Sum.inr x/\v=Value.str x t)
  | .inl i,v,h=>by
    obtain⟨t,e⟩:=Value.isInt_shape (k:=i) (v:=v) h;exact .inl ⟨i,t,rfl,e⟩
  | .inr x,v,h=>by
    obtain⟨t,e⟩:=Value.isStrOf_shape (x:=x) (v:=v) h;exact .inr ⟨x,t,rfl,e⟩
theorem E9(i:Int)(t:Tok):uJ (.inl i) (.int i t)=true:=by simp[uJ,Value.isInt]
theorem Fb(x:Str)(t:Tok):uJ (.inr x) (.str x t)=true:=by simp[uJ,Value.isStrOf]
theorem QU(a b:Int):decide ((Sum.inl a:b8)=Sum.inl b)=(a==b):=by
  by_cases e:a=b
  · subst e;simp
  · have h:¬(Sum.inl a:b8)=Sum.inl b:=λq=>e (Sum.inl.inj q)
    rw[dY h];exact(iH.mpr e).symm
theorem QV(a b:Str):decide ((Sum.inr a:b8)=Sum.inr b)=decide (a=b):=by
  by_cases e:a=b
  · subst e;simp
  · have h:¬(Sum.inr a:b8)=Sum.inr b:=λq=>e (Sum.inr.inj q)
    rw[dY h,dY e]
theorem QW(a:Int)(b:Str):decide ((Sum.inl a:b8)=Sum.inr b)=false:=dY (λq=>nomatch q)
theorem QX(a:Str)(b:Int):decide ((Sum.inr a:b8)=Sum.inl b)=false:=dY (λq=>nomatch q)
def eA(prog:bh)(w:aM):PySem.KeyKind prog w b8 where
  is:=uJ
  hash:=aaC w
  inj:=λv a b ha hb=>by
    rcases dm ha with⟨i,t,rfl,rfl⟩ | ⟨x,t,rfl,rfl⟩
    · rcases dm hb with⟨j,u,rfl,e⟩ | ⟨y,u,rfl,e⟩
      · injection e with e1 _;rw[e1]
      · exact nomatch e
    · rcases dm hb with⟨j,u,rfl,e⟩ | ⟨y,u,rfl,e⟩
      · exact nomatch e
      · injection e with e1 _;rw[e1]
  byValue:=λk v h=>by
    rcases dm h with⟨i,t,rfl,rfl⟩ | ⟨x,t,rfl,rfl⟩<;>rfl
  pyHash:=λhv h=>by
    rcases dm hv with⟨i,t,rfl,rfl⟩ | ⟨x,t,rfl,rfl⟩
    · exact wpAny_pyHash_int h
    · exact wpAny_pyHash_str h
  eqBool:=λhu hv h=>by
    rcases dm hu with⟨i,t,rfl,rfl⟩ | ⟨x,t,rfl,rfl⟩
    · rcases dm hv with⟨j,u,rfl,rfl⟩ | ⟨y,u,rfl,rfl⟩
      · rw[QU]at h;exact wpAny_eqBool_int h
      · rw[QW]at h;exact SeqAt.EqAt.int_str i t y u _ _ _ _ h
    · rcases dm hv with⟨j,u,rfl,rfl⟩ | ⟨y,u,rfl,rfl⟩
      · rw[QX]at h;exact SeqAt.EqAt.str_int x t j u _ _ _ _ h
      · rw[QV]at h;exact wpAny_eqBool_str h
  «strs» := λk x t v h=>by
    rcases dm h with⟨i,u,rfl,e⟩ | ⟨y,u,rfl,e⟩
    · exact nomatch e
    · injection e with e1 _
      subst e1;cases v<;>rfl
theorem yO(prog:bh)(w:aM)(i:Int)(t:Tok):(eA prog w).is (.inl i) (.int i t)=true:=E9 i t
theorem yP(prog:bh)(w:aM)(x:Str)(t:Tok):(eA prog w).is (.inr x) (.str x t)=true:=Fb x t
theorem Vals.length{xs:List V}{us:bW}(r:Vals xs us):xs.length=us.length:=v9 r
theorem Vals.get:∀{xs:List V} {us:bW} {i:Nat} {x:V},Vals xs us->xs[i]?=some x->∃u,us[i]?=some u/\RelV x u
  | _,_,_,_,.nil,e=>by simp at e
  | _,_,0,_,.cons r _,e=>by simp at e;subst e;exact⟨_,rfl,r⟩
  | _,_,i+1,x,.cons _ t,e=>by
    obtain⟨u,h1,h2⟩:=Vals.get (i:=i) (x:=x) t (by simpa using e)
    exact⟨u,by simpa using h1,h2⟩
theorem Vals.append:∀{xs ys:List V} {us ws:bW},Vals xs us->Vals ys ws->Vals (xs++ys) (us++ws)
  | _,_,_,_,.nil,s=>s
  | _,_,_,_,.cons r t,s=>.cons r (Vals.append t s)
theorem Vals.take:∀{xs:List V} {us:bW} (n:Nat),Vals xs us->Vals (xs.take n) (us.take n)
  | _,_,0,_=>.nil
  | _,_,_+1,.nil=>.nil
  | _,_,n+1,.cons r t=>.cons r (Vals.take n t)
theorem Vals.drop:∀{xs:List V} {us:bW} (n:Nat),Vals xs us->Vals (xs.drop n) (us.drop n)
  | _,_,0,r=>r
  | _,_,_+1,.nil=>.nil
  | _,_,n+1,.cons _ t=>Vals.drop n t
def qV:Option V->lb->Prop
  | some v,some u=>RelV v u
  | none,none=>True
  | _,_=>False
def KV{κ:Type}:List (κ×V)->List (κ×ag)->Prop:=Paired fun(p:κ×V) (q:κ×ag)=>p.1=q.1/\RelV p.2 q.2
def kV:b8->V
  | .inl i=>.int i
  | .inr x=>.str x
def upd(H:Hp)(a:ab)(o:HO):Hp:=λb=>if b=a then some o else H b
theorem az{H:Hp}{a:ab}{o:HO}:upd H a o a=some o:=by unfold upd;rw[if_pos rfl]
theorem upd_ne{H:Hp}{a b:ab}{o:HO}(h:b≠a):upd H a o b=H b:=by unfold upd;rw[if_neg h]
theorem we{H:Hp}{a:ab}{o u:HO}:upd (upd H a o) a u=upd H a u:=by
  funext b;unfold upd;split<;>rfl
theorem oV{H:Hp}{a b:ab}{o u:HO}(h:H a=some o)(h':H b=some u)(d:o≠u):a≠b:=by
  intro e;subst e;rw[h]at h';exact d (bo h')
theorem ne_of_none{H:Hp}{a b:ab}{o:HO}(h:H a=some o)(h':H b=none):a≠b:=by
  intro e;subst e;rw[h]at h';cases h'
section
variable (P:bh) (w:aM)
def dB(H:Hp)(h:Heap)(a:ab):HO->Prop
  | .aA xs=>xs.length<=sizeLine/\∃(aQ:bW) (n:Nat),Vals xs aQ/\h.get? a=some {cls:=.type "list",data:=.seq aQ.toArray n}
  | .aI xs=>xs.length<=sizeLine/\∃aQ:bW,Vals xs aQ/\IsTup h a aQ.toArray
  | .dK kvs=>kvs.length<=sizeLine/\(a==sysModules)=false/\∃vs,KV kvs vs/\h.DictOf (eA P w) a vs
  | .dT xs=>xs.length<=sizeLine/\(a==sysModules)=false/\∃o es ep,h.get? a=some o/\o.ExactDict/\o.data=.dict es ep/\es.toList=xs.map (entryOfKey (tupleKind (eA P w)))/\(xs.map (·.1)).Nodup
  | .set S n=>h.SetOf (intKind P w) a S n
  | .pK C dx fs=>H dx=some (.own a)/\fs.length<=1000/\dx≠a/\h.get? a=some (W.instObj C dx) /\
      ∃mA,h.Ns1 dx mA/\(∀f,qV (fs.lookup f) (mA f))/\PySem.Within mA (fs.map (·.1))
  | .own _=>∃o,h.get? a=some o
  | .xd fs=>∃mA,h.Ns1 a mA/\∀f,qV (fs.lookup f) (mA f)
  | .rng lo hi=>∃t u v,h.get? a=some {cls:=.type "range",data:=.fields #[.int lo t,.int hi u,.int 1 v]}
  | .lx o u=>h.get? a=some o/\dB H h a u
  | .yq q=>∃ps:Array ag,h.get? a=some {cls:=.none,data:=.fields ps}/\TriplesOk ps.toList/\∀(pos:Pos) (cv:ag),codeAmong pos ps.toList=some cv ->
      ∃(c:ab) (oc:Obj) (u:HO) (vs:Array ag) (t:Tok),cv=.ref c/\H c=some (.lx oc u)/\oc.data=.fields vs/\vs[1]?=some (.str q t)
  | .Hs f x=>h.get? a=some (W.methodObj (.ref f) (.ref x))
  | .ext φ=>φ h/\(∃o,h.get? a=some o)/\∀h1 h2:Heap,φ h1->(∀o,h1.get? a=some o->h2.get? a=some o)->φ h2
def mF(H:Hp)(h:Heap):Prop:=∀a o,H a=some o->dB P w H h a o
end
section
variable {P:bh} {w:aM} {H H':Hp} {h h':Heap} {a:ab} {o:HO}
theorem dB.lt(x:dB P w H h a o):a<h.objs.size:=by
  cases o with
  | aA xs=>obtain⟨_,_,_,_,e⟩:=x;exact bK e
  | aI xs=>obtain⟨_,_,_,p⟩:=x;exact p.lt
  | dK kvs=>obtain⟨_,_,_,_,o,_,_,e,_⟩:=x;exact bK e
  | dT kvs=>obtain⟨_,_,o,_,_,e,_⟩:=x;exact bK e
  | set S n=>obtain⟨o,_,_,_,e,_⟩:=x;exact bK e
  | pK C dx fs=>obtain⟨_,_,_,e,_⟩:=x;exact bK e
  | own y=>obtain⟨_,e⟩:=x;exact bK e
  | xd fs=>obtain⟨_,⟨_,_,_,e,_⟩,_⟩:=x;exact bK e
  | rng lo hi=>obtain⟨_,_,_,e⟩:=x;exact bK e
  | lx ob u=>obtain⟨e,_⟩:=x;exact bK e
  | yq q=>obtain⟨_,e,_⟩:=x;exact bK e
  | Hs f y=>exact bK (show h.get? a=some _ from x)
  | ext φ=>obtain⟨_,⟨_,e⟩,_⟩:=x;exact bK e
theorem Paired.HW{α β:Type}{F G:α->β->Prop}:∀{l₁:List α} {l₂:List β},Paired F l₁ l₂->(∀a b,F a b->G a b)->Paired G l₁ l₂
  | _,_,.nil,_=>.nil
  | _,_,.cons r t,f=>.cons (f _ _ r) (Paired.HW t f)
theorem dB.yQ(x:dB P w H h a o)(k:∀b u,(b=a\/H b=some (.own a))->h.get? b=some u->h'.get? b=some u)
    (ho:∀b,H b=some (.own a)->H' b=some (.own a)) (ht:∀b xs,H b=some (.aI xs)->H' b=some (.aI xs)) (hz:∀b ob u,H b=some (.lx ob u)->H' b=some (.lx ob u)):dB P w H' h' a o:=by
  induction o with
  | aA xs=>obtain⟨z,aQ,n,r,e⟩:=x;exact⟨z,aQ,n,r,k _ _ (.inl rfl) e⟩
  | aI xs=>obtain⟨z,aQ,r,ob,e,c⟩:=x;exact⟨z,aQ,r,ob,k _ _ (.inl rfl) e,c⟩
  | dK kvs=>obtain⟨z,y,vs,r,ob,es,ep,e,c⟩:=x;exact⟨z,y,vs,r,ob,es,ep,k _ _ (.inl rfl) e,c⟩
  | dT kvs=>obtain⟨z,y,ob,es,ep,e,c⟩:=x;exact⟨z,y,ob,es,ep,k _ _ (.inl rfl) e,c⟩
  | set S n=>obtain⟨ob,es,ep,t,e,c⟩:=x;exact⟨ob,es,ep,t,k _ _ (.inl rfl) e,c⟩
  | pK C dx fs =>
    obtain⟨d,z,ne,e,mA,⟨od,es,ep,e2,c⟩,r⟩:=x;exact⟨ho _ d,z,ne,k _ _ (.inl rfl) e,mA,⟨od,es,ep,k _ _ (.inr d) e2,c⟩,r⟩
  | own y=>obtain⟨ob,e⟩:=x;exact⟨ob,k _ _ (.inl rfl) e⟩
  | xd fs=>obtain⟨mA,⟨od,es,ep,e,c⟩,r⟩:=x;exact⟨mA,⟨od,es,ep,k _ _ (.inl rfl) e,c⟩,r⟩
  | rng lo hi=>obtain⟨t,u,v,e⟩:=x;exact⟨t,u,v,k _ _ (.inl rfl) e⟩
  | lx ob u ih=>obtain⟨e,q⟩:=x;exact⟨k _ _ (.inl rfl) e,ih q⟩
  | yq q =>
    obtain⟨ps,e,t,c⟩:=x;exact⟨ps,k _ _ (.inl rfl) e,t,λpos cv z=>let ⟨c,oc,u,vs,tk,h1,h2,h3⟩:=c pos cv z;⟨c,oc,u,vs,tk,h1,hz _ _ _ h2,h3⟩⟩
  | Hs f y =>
    have e:h.get? a=some (W.methodObj (.ref f) (.ref y)):=x;show h'.get? a=some (W.methodObj (.ref f) (.ref y));exact k a _ (.inl rfl) e
  | ext φ=>obtain⟨p,⟨o,e⟩,st⟩:=x;exact⟨st _ _ p λo q=>k _ _ (.inl rfl) q,⟨o,k _ _ (.inl rfl) e⟩,st⟩
theorem mF.lt(x:mF P w H h)(e:H a=some o):a<h.objs.size:=(x a o e).lt
theorem mF.fresh(x:mF P w H h)(e:h.objs.size<=a):H a=none:=by
  cases q:H a with
  | none=>rfl
  | some u=>exact absurd (cz (x.lt q) e) (gY _)
theorem mF.kept(x:mF P w H h)(k:∀b u,h.get? b=some u->h'.get? b=some u):mF P w H h':=λa o e =>
  (x a o e).yQ (λb u _ q=>k b u q) (λ_ q=>q) (λ_ _ q=>q) λ_ _ _ q=>q
theorem mF.laid(x:mF P w H h)(k:∀b u,h.get? b=some u->h'.get? b=some u)(hp:h.objs.size<=a)(new:dB P w (upd H a o) h' a o):mF P w (upd H a o) h':=λb u e=>by
  have hn:=x.fresh hp;by_cases hb:b=a
  · subst hb;rw[az]at e;cases e;exact new
  · rw[upd_ne hb]at e
    exact(x b u e).yQ (λc v _ q=>k c v q) (λc q=>by rw[upd_ne (ne_of_none q hn)];exact q) (λc xs q=>by rw[upd_ne (ne_of_none q hn)];exact q) λc ob v q=>by rw[upd_ne (ne_of_none q hn)];exact q
end
theorem Rd.ok{P:bh}{w:aM}{H:Hp}{h:Heap}{a:ab}{u:HO}(r:Rd H a u)(x:mF P w H h):dB P w H h a u:=by
  rcases r with r | ⟨o,r⟩
  · exact x a u r
  · obtain⟨_,q⟩:=x a _ r
    exact q
def YU:Option HO->Prop
  | some (.aA _)=>True
  | some (.dK _)=>True
  | some (.dT _)=>True
  | some (.set _ _)=>True
  | some (.pK _ _ _)=>True
  | some (.ext _)=>True
  | _=>False
section
variable {P:bh} {w:aM} {H:Hp} {h h':Heap} {x e:ab} {o':HO}
theorem mF.write(ok:mF P w H h)(mu:YU (H x))(he:e=x\/H e=some (.own x))(k:∀b u,b≠e->h.get? b=some u->h'.get? b=some u)(UH:∃u,h'.get? e=some u)
    (new:dB P w (upd H x o') h' x o'):mF P w (upd H x o') h':=λb u q=>by
  have Vg:∀c y,H c=some (.own y)->c≠x:=λc y r z=>by subst z;rw[r]at mu;exact mu
  have aaD:∀c xs,H c=some (.aI xs)->c≠x:=λc xs r z=>by subst z;rw[r]at mu;exact mu
  have aaE:∀c ob v,H c=some (.lx ob v)->c≠x:=λc ob v r z=>by subst z;rw[r]at mu;exact mu
  by_cases hb:b=x
  · subst hb;rw[az]at q;cases q;exact new
  · rw[upd_ne hb]at q
    by_cases QY:b=e
    · have q':H b=some (.own x):=by
        rcases he with z | z
        · exact absurd (QY.trans z) hb
        · rw[QY];exact z
      rw[q]at q';cases q';obtain⟨v,hv⟩:=UH;exact⟨v,by rw[QY];exact hv⟩
    · refine(ok b u q).yQ (λc v hc r=>k c v ?_ r) (λc r=>by rw[upd_ne (Vg c b r)];exact r) (λc xs r=>by rw[upd_ne (aaD c xs r)];exact r) λc ob v r=>by rw[upd_ne (aaE c ob v r)];exact r
      rcases hc with rfl | hc
      · exact QY
      · rintro rfl
        rcases he with z | z
        · exact Vg c b hc z
        · rw[hc]at z;cases z;exact hb rfl
end
structure Un (fs ex:List ab) (H H':Hp) (h h':Heap):Prop where
  keep:∀b o,h.get? b=some o->H b=none->b∉fs->b∉ex->h'.get? b=some o
  slot:∀b o,h.get? b=some o->H b=none->b∈fs->b∉ex->∃sl,h'.get? b=some {o with slots:=sl}
  free:∀b o,h.get? b=some o->H b=none->b∉ex->H' b=none
  there:∀b o,h.get? b=some o->b∉ex->∃o',h'.get? b=some o'
  tups:∀b xs,H b=some (.aI xs)->H' b=some (.aI xs)
  frzs:∀b o u,H b=some (.lx o u)->H' b=some (.lx o u)
  tbls:∀b q,H b=some (.yq q)->H' b=some (.yq q)
section
variable {fs QZ ex ex':List ab} {H H1 H2:Hp} {h h1 h2 h':Heap} {a x e:ab} {o:HO}
theorem Un.any(u:Un fs ex H H1 h h1){b:ab}{ob:Obj}(q:h.get? b=some ob)(n:H b=none)(hx:b∉ex):∃sl,h1.get? b=some {ob with slots:=sl}:=by
  by_cases hb:b∈fs
  · exact u.slot b ob q n hb hx
  · exact⟨ob.slots,u.keep b ob q n hb hx⟩
theorem Un.trans(a:Un fs ex H H1 h h1)(b:Un fs ex H1 H2 h1 h2):Un fs ex H H2 h h2 where
  keep:=λc ob q n hc hx=>b.keep c ob (a.keep c ob q n hc hx) (a.free c ob q n hx) hc hx
  slot:=λc ob q n hc hx=>by
    obtain⟨sl,e1⟩:=a.slot c ob q n hc hx;obtain⟨sl',e2⟩:=b.slot c _ e1 (a.free c ob q n hx) hc hx;exact⟨sl',e2⟩
  free:=λc ob q n hx=>by
    obtain⟨o',e1⟩:=a.there c ob q hx;exact b.free c o' e1 (a.free c ob q n hx) hx
  there:=λc ob q hx=>by
    obtain⟨o',e1⟩:=a.there c ob q hx;exact b.there c o' e1 hx
  tups:=λc xs q=>b.tups c xs (a.tups c xs q)
  frzs:=λc ob xs q=>b.frzs c ob xs (a.frzs c ob xs q)
  tbls:=λc q e=>b.tbls c q (a.tbls c q e)
theorem Un.kept(k:∀b u,h.get? b=some u->h'.get? b=some u):Un fs ex H H h h' :=
  ⟨λb ob q _ _ _=>k b ob q,λb ob q _ _ _=>⟨ob.slots,k b ob q⟩,λ_ _ _ n _=>n,λb ob q _=>⟨ob,k b ob q⟩,λ_ _ q=>q,λ_ _ _ q=>q,λ_ _ q=>q⟩
theorem Un.refl:Un fs ex H H h h:=Un.kept λ_ _ q=>q
theorem Un.laid(k:∀b u,h.get? b=some u->h'.get? b=some u)(hp:h.objs.size<=a)(hn:H a=none):Un fs ex H (upd H a o) h h' where
  keep:=λb u q _ _ _=>k b u q
  slot:=λb u q _ _ _=>⟨u.slots,k b u q⟩
  free:=λb u q n _=>by rw[upd_ne (b9 (cz (bK q) hp))];exact n
  there:=λb u q _=>⟨u,k b u q⟩
  tups:=λb xs q=>by rw[upd_ne (ne_of_none q hn)];exact q
  frzs:=λb u xs q=>by rw[upd_ne (ne_of_none q hn)];exact q
  tbls:=λb ps q=>by rw[upd_ne (ne_of_none q hn)];exact q
theorem Un.write(mu:YU (H x))(he:e=x\/H e=some (.own x))(k:∀b u,b≠e->h.get? b=some u->h'.get? b=some u)(UH:∃u,h'.get? e=some u):Un fs ex H (upd H x o) h h':=by
  have hx:∀b,H b=none->b≠x:=λb n z=>by subst z;rw[n]at mu;exact mu
  have hb:∀b,H b=none->b≠e:=λb n z=>by
    subst z;rcases he with r | r
    · exact hx b n r
    · rw[n]at r;cases r
  have hm:∀b u,H b=some u->¬YU (some u)->b≠x:=λb u q nm z=>by subst z;rw[q]at mu;exact nm mu
  refine⟨λb u q n _ _=>k b u (hb b n) q,λb u q n _ _=>⟨u.slots,k b u (hb b n) q⟩,λb u q n _=>by rw[upd_ne (hx b n)];exact n,λb u q _=>?_,
    λb xs q=>by rw[upd_ne (hm b _ q λz=>z)];exact q,λb u xs q=>by rw[upd_ne (hm b _ q λz=>z)];exact q,λb ps q=>by rw[upd_ne (hm b _ q λz=>z)];exact q⟩
  by_cases QY:b=e
  · subst QY;exact UH
  · exact⟨u,k b u QY q⟩
end
def YV(h:Heap)(H:Hp):List ab:=(List.range h.objs.size).filter λa=>(H a).isSome
def yR(h:Heap)(H:Hp):Heap:=W.hideAll h (YV h H)
theorem Fc(h:Heap)(H:Hp):(yR h H).objs.size=h.objs.size:=W.hideAll_size _ _
theorem hidT_get{h:Heap}{H:Hp}{b:ab}{o:Obj}(e:h.get? b=some o)(n:H b=none):(yR h H).get? b=some o :=
  W.hideAll_get _ e λhm=>by
    have q:(H b).isSome=true:=(Bq.mp hm).2;rw[n]at q;simp at q
theorem of_hidT{h:Heap}{H:Hp}{b:ab}{o:Obj}(e:(yR h H).get? b=some o):h.get? b=some o/\H b=none:=by
  have e':h.get? b=some o:=W.of_hideAll (YV h H) e;refine⟨e',?_⟩;cases q:H b with
  | none=>rfl
  | some x =>
    have hm:b∈YV h H:=Bq.mpr ⟨du.mpr (bK e'),by simp[q]⟩
    have z:(yR h H).get? b=none:=W.hideAll_none (YV h H) hm;rw[z]at e;cases e
structure Mod (K:ah) (mg:cZ) (base:Heap):Prop where
  kin:K.In base
  glob:base.Ns mainGlobals mg
  blt:∃mb,base.Ns builtinsNs mb/\∀x:Str,x≠"__name__"->mb x=bootBuiltins x
  nolimit:base.NoLimit
structure Cx where
  prog:bh
  w:aM
  K:ah
  mg:cZ
  base:Heap
  A:bA
  N:List Str
  s₀:au
  H₀:Hp
  env:Env
  outer:List Env
  stack:List Env
  ex:List ab
  fn:Str->Bool
  calm:Bool
  pn:List (ab×Obj)
  xe:cm
def AK(l:List Env):List ab:=l.filterMap (·.frame)
abbrev Cx.fs(X:Cx):List ab:=AK X.outer
def Q0(sc:Scope)(x:Str):Prop:=sc.names.lookup x=some .local\/sc.names.lookup x=some .cell\/sc.names.lookup x=some .free
def Pf(sc:Scope)(x:Str):Prop:=sc.names.lookup x=some .local\/sc.names.lookup x=some .cell
def aaG(env:Env)(h:Heap)(m:cZ)(x:Str)(u:ag):Prop :=
  (env.kindOf x=some .local/\m x=some u)\/((env.kindOf x=some .cell\/env.kindOf x=some .free)/\∃c,env.cells.lookup x=some c/\h.IsCell c (some u))
def t9(x:Str):Str:=x++".<locals>."++"<lambda>"
def qW(K:ah)(H:Hp):Prop:=∀x∈dG,∀c T,W.tabIn K x=some (c,T)->H T=some (.yq (t9 x))
structure Cx.Ok (X:Cx):Prop where
  mod:Mod X.K X.mg X.base
  kind:X.env.scope.kind=.function
  glob:X.env.globals=mainGlobals
  blt:X.env.builtins=builtinsNs
  above:X.s₀.heap.objs.size<=X.env.locals
  inj:∀x y c,X.env.cells.lookup x=some c->X.env.cells.lookup y=some c->x=y
  has:∀x,(X.env.kindOf x=some .cell\/X.env.kindOf x=some .free)->∃c,X.env.cells.lookup x=some c
  cab:∀x c,X.fn x=true->X.env.cells.lookup x=some c->X.s₀.heap.objs.size<=c
  hd:X.calm=true->X.A.handled=none
  frames:X.A.frames=some X.stack
  stk:X.stack=X.outer\/(X.stack=X.env::X.outer/\X.env.frame=some X.env.locals)
  exf:∀b∈X.ex,b≠X.env.locals/\∀x c,X.env.cells.lookup x=some c->c≠b
  bs:∀b o,X.base.get? b=some o->X.s₀.heap.get? b=some o/\X.H₀ b=none
  bsz:X.base.objs.size<=X.s₀.heap.objs.size
  noex:∀b o,X.base.get? b=some o->b∉X.ex
  exfs:∀b∈X.ex,b∉X.fs
  funs:X.s₀.heap.FunFrames X.base X.outer
  frf:∀b∈X.fs,X.H₀ b=none
  tabs:qW X.K X.H₀
structure Inv (X:Cx) (ae:List (ab×Obj)) (σ:List (Option V)) (H:Hp) (s:au):Prop where
  ok:X.Ok
  os:s.os=X.s₀.os
  bare:AllBare s.gens
  base:Un X.fs X.ex X.H₀ H X.s₀.heap s.heap
  loc:∃m,s.heap.Ns X.env.locals m/\∀(i:Nat) (x:Str) (v:V),X.N[i]?=some x->σ[i]?=some (some v)->Q0 X.env.scope x->∃u,RelV v u/\aaG X.env s.heap m x u
  cell:∀x c,X.env.cells.lookup x=some c->∃v,s.heap.IsCell c v
  free:H X.env.locals=none
  freeC:∀x c,X.env.cells.lookup x=some c->H c=none
  pin:∀p∈X.pn++ae,s.heap.get? p.1=some p.2/\H p.1=none/\p.1≠X.env.locals/\p.1∉X.fs/\∀v,p.2.data≠.cell v
  hok:mF X.prog X.w H s.heap
  len:σ.length=X.N.length
section
variable {X:Cx} {ae:List (ab×Obj)} {σ:List (Option V)} {H H':Hp} {s:au} {h':Heap}
theorem Cx.Ok.aaH(ok:X.Ok){b:ab}{o:Obj}(e:X.base.get? b=some o):b∉X.fs:=λhb=>by
  have:=(ok.funs.mem hb).1;rw[e]at this;cases this
theorem Inv.bs(I:Inv X ae σ H s):∀b o,X.base.get? b=some o->s.heap.get? b=some o/\H b=none:=λb o e =>
  ⟨I.base.keep b o (I.ok.bs b o e).1 (I.ok.bs b o e).2 (I.ok.aaH e) (I.ok.noex b o e),I.base.free b o (I.ok.bs b o e).1 (I.ok.bs b o e).2 (I.ok.noex b o e)⟩
theorem Inv.bk(I:Inv X ae σ H s):∀b o,X.base.get? b=some o->s.heap.get? b=some o:=λb o e=>(I.bs b o e).1
theorem Inv.mod(I:Inv X ae σ H s):Mod X.K X.mg X.base:=I.ok.mod
theorem Inv.oW(I:Inv X ae σ H s):X.K.In s.heap:=I.ok.mod.kin.keeps I.bk
theorem Inv.lt(I:Inv X ae σ H s):X.env.locals<s.heap.objs.size:=let ⟨_,hn,_⟩:=I.loc;hn.lt
theorem Inv.sz(I:Inv X ae σ H s):X.s₀.heap.objs.size<=s.heap.objs.size:=b0 I.ok.above (iP I.lt)
theorem Inv.aaI(I:Inv X ae σ H s){a:ab}(h:s.heap.objs.size<=a):a∉X.fs:=λhb=>by
  obtain⟨_,o,ho,_⟩:=I.ok.funs.mem hb;exact absurd (cz (bK ho) (b0 I.sz h)) (gY _)
theorem Inv.Q1(I:Inv X ae σ H s):∀x c,X.env.cells.lookup x=some c->c≠X.env.locals:=λx c e z=>by
  obtain⟨v,o,ho,hd⟩:=I.cell x c e;obtain⟨m,⟨o',es,ep,tY,t7,_⟩,_⟩:=I.loc;rw[z,tY]at ho;cases ho;rw[t7]at hd;cases hd
theorem Inv.funs(I:Inv X ae σ H s):s.heap.FunFrames X.base X.outer:=by
  have all:∀(l:List Env),(∀b∈AK l,b∈X.fs)->X.s₀.heap.FunFrames X.base l->s.heap.FunFrames X.base l:=by
    intro l;induction l with
    | nil=>intro _ _;trivial
    | cons env r ih =>
      intro hs hl;obtain⟨hk,⟨L,o,hf,hn,ho,hd⟩,hr⟩:=hl;have hL:L∈X.fs:=hs L (by unfold AK;rw[A9,hf];exact bE)
      obtain⟨sl,e⟩:=I.base.slot L o ho (I.ok.frf L hL) hL λz=>I.ok.exfs L z hL
      exact⟨hk,⟨L,_,hf,hn,e,hd⟩,ih (λb hb=>hs b (by unfold AK;rw[A9,hf];exact bx _ hb)) hr⟩
  exact all X.outer (λ_ hb=>hb) I.ok.funs
theorem Inv.stack(I:Inv X ae σ H s):s.heap.FunFrames X.base X.stack:=by
  rcases I.ok.stk with e | ⟨e,hf⟩
  · rw[e];exact I.funs
  · rw[e]
    obtain⟨m,hn,_⟩:=I.loc;refine .cons (by rw[I.ok.kind];decide) hf hn ?_ I.funs
    exact Heap.get?_none_of_le (b0 I.ok.bsz I.ok.above)
theorem Inv.BA(I:Inv X ae σ H s):∀b∈AK X.stack,b∈X.env.locals::X.fs:=λb hb=>by
  rcases I.ok.stk with e | ⟨e,hf⟩
  · rw[e]at hb;exact bx _ hb
  · rw[e]at hb
    unfold AK at hb;rw[A9,hf]at hb;exact hb
theorem Inv.Dw(I:Inv X ae σ H s):∀b∈AK X.stack,H b=none:=λb hb=>by
  rcases aZ.mp (I.BA b hb)with e | hb
  · rw[e];exact I.free
  · obtain⟨_,o,ho,_⟩:=I.ok.funs.mem hb
    exact I.base.free b o ho (I.ok.frf b hb) λz=>I.ok.exfs b z hb
theorem Inv.tabs(I:Inv X ae σ H s):qW X.K H:=λx hx c T e=>I.base.tbls T _ (I.ok.tabs x hx c T e)
theorem Inv.step{g':Array GenState}{t':Nat}{d':Drawn}{ch:List ab}(I:Inv X ae σ H s)
    (L3:∀b∈ch,(b∈X.ex\/X.s₀.heap.objs.size<=b)/\b≠X.env.locals/\(∀x c,X.env.cells.lookup x=some c->c≠b)/\∀p∈X.pn++ae,p.1≠b)
    (keep:∀b o,b≠X.env.locals->b∉X.fs->b∉ch->s.heap.get? b=some o->H b=none->h'.get? b=some o)
    (slot:∀b o,b≠X.env.locals->b∈X.fs->b∉ch->s.heap.get? b=some o->H b=none->∃sl,h'.get? b=some {o with slots:=sl}) (free:∀b o,b∉ch->s.heap.get? b=some o->H b=none->H' b=none)
    (there:∀b o,b∉ch->s.heap.get? b=some o->∃o',h'.get? b=some o')
    (tups:∀b xs,H b=some (.aI xs)->H' b=some (.aI xs)) (frzs:∀b o u,H b=some (.lx o u)->H' b=some (.lx o u)) (tbls:∀b q,H b=some (.yq q)->H' b=some (.yq q))
    (ns:∀m,s.heap.Ns X.env.locals m->h'.Ns X.env.locals m) (hok:mF X.prog X.w H' h') (hg:AllBare g') :
    Inv X ae σ H' {s with heap:=h',gens:=g',drawn:=d',toks:=t'}:=by
  have neL:∀b o,X.s₀.heap.get? b=some o->b≠X.env.locals:=λb o e=>b9 (cz (bK e) I.ok.above)
  have YW:∀b o,X.s₀.heap.get? b=some o->b∉X.ex->b∉ch:=λb o e hx hb=>by
    rcases(L3 b hb).1 with z | z
    · exact hx z
    · exact absurd (cz (bK e) z) (gY _)
  have cellK:∀x c,X.env.cells.lookup x=some c->∀v,s.heap.IsCell c v->h'.IsCell c v:=by
    rintro x c e v ⟨o,ho,hd⟩
    have Vh:c∉ch:=λz=>(L3 c z).2.2.1 x c e rfl
    by_cases hc:c∈X.fs
    · obtain⟨sl,q⟩:=slot c o (I.Q1 x c e) hc Vh ho (I.freeC x c e)
      exact⟨_,q,hd⟩
    · exact⟨o,keep c o (I.Q1 x c e) hc Vh ho (I.freeC x c e),hd⟩
  refine⟨I.ok,I.os,hg,⟨λb o e n hb hx=>?_,λb o e n hb hx=>?_,λb o e n hx=>?_,λb o e hx=>?_,λb xs e=>tups b xs (I.base.tups b xs e),λb o xs e=>frzs b o xs (I.base.frzs b o xs e),λb ps e=>?_⟩,?_,λx c e=>?_,?_,λx c e=>?_,λp hp=>?_,hok,I.len⟩
  · exact keep b o (neL b o e) hb (YW b o e hx) (I.base.keep b o e n hb hx) (I.base.free b o e n hx)
  · obtain⟨sl,e1⟩:=I.base.slot b o e n hb hx
    obtain⟨sl',e2⟩:=slot b _ (neL b o e) hb (YW b o e hx) e1 (I.base.free b o e n hx);exact⟨sl',e2⟩
  · obtain⟨o',e1⟩:=I.base.there b o e hx
    exact free b o' (YW b o e hx) e1 (I.base.free b o e n hx)
  · obtain⟨o',e1⟩:=I.base.there b o e hx
    exact there b o' (YW b o e hx) e1
  · exact tbls b ps (I.base.tbls b ps e)
  · obtain⟨m,hn,hl⟩:=I.loc
    refine⟨m,ns m hn,λi x v e1 e2 e3=>?_⟩
    obtain⟨u,r,l⟩:=hl i x v e1 e2 e3;refine⟨u,r,?_⟩;rcases l with l | ⟨k,c,e,z⟩
    · exact .inl l
    · exact .inr ⟨k,c,e,cellK x c e _ z⟩
  · obtain⟨v,z⟩:=I.cell x c e
    exact⟨v,cellK x c e v z⟩
  · obtain⟨m,⟨o,_,_,ho,_⟩,_⟩:=I.loc
    exact free _ o (λz=>(L3 _ z).2.1 rfl) ho I.free
  · obtain⟨v,o,ho,hd⟩:=I.cell x c e
    exact free c o (λz=>(L3 c z).2.2.1 x c e rfl) ho (I.freeC x c e)
  · obtain⟨e,n,ne,nf,d⟩:=I.pin p hp
    have Vh:p.1∉ch:=λz=>(L3 p.1 z).2.2.2 p hp rfl
    exact⟨keep p.1 p.2 ne nf Vh e n,free p.1 p.2 Vh e n,ne,nf,d⟩
theorem Inv.un{t':Nat}(I:Inv X ae σ H s)(u:Un X.fs [] H H' s.heap h')(hok:mF X.prog X.w H' h'):Inv X ae σ H' {s with heap:=h',toks:=t'}:=by
  obtain⟨m,⟨o,es,ep,ho,r⟩,_⟩:=id I.loc;obtain⟨sl,hL⟩:=u.any ho I.free (by simp)
  exact I.step (g':=s.gens) (d':=s.drawn) (ch:=[]) (λ_ z=>nomatch z) (λb o _ hb _ e n=>u.keep b o e n hb (by simp)) (λb o _ hb _ e n=>u.slot b o e n hb (by simp)) (λb o _ e n=>u.free b o e n (by simp)) (λb o _ e=>u.there b o e (by simp)) u.tups u.frzs u.tbls (λm' hm=>by
    obtain⟨o',AL,Vi,tY,r'⟩:=hm;rw[ho]at tY;cases tY;exact⟨_,AL,Vi,hL,r'⟩) hok I.bare
theorem Inv.call{g':Array GenState}{t':Nat}{d':Drawn}{ch:List ab}(I:Inv X ae σ H s)(u:Un (AK X.stack) ch H H' s.heap h')(hok:mF X.prog X.w H' h')(hg:AllBare g')
    (L3:∀b∈ch,(b∈X.ex\/X.s₀.heap.objs.size<=b)/\b≠X.env.locals/\(∀x c,X.env.cells.lookup x=some c->c≠b)/\∀p∈X.pn++ae,p.1≠b) :
    Inv X ae σ H' {s with heap:=h',gens:=g',drawn:=d',toks:=t'}:=by
  obtain⟨m,⟨o,es,ep,ho,r⟩,_⟩:=id I.loc;obtain⟨sl,hL⟩:=u.any ho I.free λz=>(L3 _ z).2.1 rfl
  exact I.step (ch:=ch) L3 (λb o hL hb hc e n=>u.keep b o e n (λz=>(aZ.mp (I.BA b z)).elim hL hb) hc) (λb o _ _ hc e n=>u.any e n hc) (λb o hc e n=>u.free b o e n hc) (λb o hc e=>u.there b o e hc) u.tups u.frzs u.tbls (λm' hm=>by
    obtain⟨o',AL,Vi,tY,r'⟩:=hm;rw[ho]at tY;cases tY;exact⟨_,AL,Vi,hL,r'⟩) hok hg
theorem Inv.turned{t':Nat}{it:ab}(I:Inv X ae σ H s)(k:∀b o,b≠it->s.heap.get? b=some o->h'.get? b=some o)(hn:H it=none)(hL:it≠X.env.locals)
    (h1:it∈X.ex\/X.s₀.heap.objs.size<=it) (h2:∀x c,X.env.cells.lookup x=some c->c≠it) (h3:∀p∈X.pn++ae,p.1≠it):Inv X ae σ H {s with heap:=h',toks:=t'}:=by
  have Vj:∀b u,H b=some u->b≠it:=λb u e z=>by rw[z,hn]at e;cases e
  refine I.step (g':=s.gens) (d':=s.drawn) (ch:=[it]) (λb hb=>?_) (λb o _ _ hc e _=>k b o (λz=>hc (by simp[z])) e) (λb o _ _ hc e _=>⟨o.slots,k b o (λz=>hc (by simp[z])) e⟩) (λ_ _ _ _ n=>n)
    (λb o hc e=>⟨o,k b o (λz=>hc (by simp[z])) e⟩) (λ_ _ e=>e) (λ_ _ _ e=>e) (λ_ _ e=>e) (λm hm=>?_) (λb u e=>?_) I.bare
  · have e:b=it:=by simpa using hb
    subst e;exact⟨h1,hL,h2,h3⟩
  · obtain⟨o,es,ep,ho,r⟩:=hm
    exact⟨o,es,ep,k _ o (dF hL) ho,r⟩
  · refine(I.hok b u e).yQ (λc v hc q=>k c v ?_ q) (λ_ q=>q) (λ_ _ q=>q) λ_ _ _ q=>q
    rcases hc with z | z
    · rw[z];exact Vj b u e
    · exact Vj c _ z
theorem Inv.tok(I:Inv X ae σ H s)(t:Nat):Inv X ae σ H {s with toks:=t}:=I.un (h':=s.heap) (t':=t) Un.refl I.hok
theorem Inv.kept{t':Nat}(I:Inv X ae σ H s)(k:∀b u,s.heap.get? b=some u->h'.get? b=some u):Inv X ae σ H {s with heap:=h',toks:=t'}:=I.un (Un.kept k) (I.hok.kept k)
theorem Inv.laid{a:ab}{o:HO}{t':Nat}(I:Inv X ae σ H s)(k:∀b u,s.heap.get? b=some u->h'.get? b=some u)(hp:s.heap.objs.size<=a)(new:dB X.prog X.w (upd H a o) h' a o) :
    Inv X ae σ (upd H a o) {s with heap:=h',toks:=t'}:=I.un (Un.laid k hp (I.hok.fresh hp)) (I.hok.laid k hp new)
theorem Inv.write{x e:ab}{o:HO}{t':Nat}(I:Inv X ae σ H s)(mu:YU (H x))(he:e=x\/H e=some (.own x))(k:∀b u,b≠e->s.heap.get? b=some u->h'.get? b=some u)(UH:∃u,h'.get? e=some u)
    (new:dB X.prog X.w (upd H x o) h' x o):Inv X ae σ (upd H x o) {s with heap:=h',toks:=t'}:=I.un (Un.write mu he k UH) (I.hok.write mu he k UH new)
theorem Inv.mG{Ph:List (ab×Obj)}(I:Inv X ae σ H s)(h:∀p∈Ph,s.heap.get? p.1=some p.2/\H p.1=none/\p.1≠X.env.locals/\p.1∉X.fs/\∀v,p.2.data≠.cell v):Inv X Ph σ H s :=
  ⟨I.ok,I.os,I.bare,I.base,I.loc,I.cell,I.free,I.freeC,λp hp=>(dD.mp hp).elim (λz=>I.pin p (gH _ z)) (h p),I.hok,I.len⟩
theorem yS{N:List Str}(hN:N.Nodup){i j:Nat}{x:Str}(a:N[i]?=some x)(b:N[j]?=some x):i=j:=by
  obtain⟨h1,e1⟩:=cM.mp a;obtain⟨h2,e2⟩:=cM.mp b;exact(List.getElem_inj hN).mp (e1.trans e2.symm)
theorem store_ok2{M:Model}{A:bA}{E:cm}{i:Nat}{x:Str}{v:V}{u:ag}{Q:Unit->au->Prop}(I:Inv X ae σ H s)(hN:X.N.Nodup)(hi:X.N[i]?=some x)(hx:Pf X.env.scope x)(r:RelV v u)
    (h:∀s',Inv X ae (σ.set i (some v)) H s'->(∃a,Heap.SameBut a s.heap s'.heap/\(a=X.env.locals\/X.env.cells.lookup x=some a))->Q () s') (hf:X.fn x=true\/X.env.scope.names.lookup x=some .local:=by first | exact .inl rfl | exact .inr rfl | assumption):wpAny M A (storeName X.env x u) Q E s:=by
  obtain⟨m,hn,hl⟩:=id I.loc;have aaJ:(X.env.scope.kind==.class || (X.env.scope.kind==.module&&X.env.locals != X.env.globals))=false:=by rw[I.ok.kind];rfl
  have Vk:i<σ.length:=by rw[I.len];exact(cM.mp hi).1
  have Q1:=I.Q1;have Dx:∀{a:ab} {h':Heap},(∃o,s.heap.get? a=some o/\H a=none)->Heap.SameBut a s.heap h'->mF X.prog X.w H h':=λ{a h'} ha hs b ob e=>by
    obtain⟨_,_,qX⟩:=ha;refine(I.hok b ob e).yQ (λc w' hc q=>(hs.2 c ?_).trans q) (λ_ q=>q) (λ_ _ q=>q) λ_ _ _ q=>q
    rintro rfl
    rcases hc with rfl | hc
    · rw[qX]at e;cases e
    · rw[qX]at hc;cases hc
  rcases hx with hk | hk
  · refine wpAny_storeName_local hk hn (λh' UI hs=>?_) aaJ
    obtain⟨oL,_,_,Vl,_⟩:=id hn;refine h _ ⟨I.ok,I.os,I.bare,⟨λb o e n hb hx=>?_,λb o e n hb hx=>?_,I.base.free,λb o e hx=>?_,I.base.tups,I.base.frzs,I.base.tbls⟩,⟨_,UI,λj y v' e1 e2 e3=>?_⟩,λy c e=>?_,I.free,I.freeC,λp hp=>?_,Dx ⟨oL,Vl,I.free⟩ hs,by simpa using I.len⟩ ⟨_,hs,.inl rfl⟩
    · exact(hs.2 b (b9 (cz (bK e) I.ok.above))).trans (I.base.keep b o e n hb hx)
    · obtain⟨sl,e1⟩:=I.base.slot b o e n hb hx
      exact⟨sl,(hs.2 b (b9 (cz (bK e) I.ok.above))).trans e1⟩
    · obtain⟨o',e1⟩:=I.base.there b o e hx
      exact⟨o',(hs.2 b (b9 (cz (bK e) I.ok.above))).trans e1⟩
    · by_cases hj:j=i
      · subst hj
        rw[hi]at e1;cases e1;rw[bJ Vk]at e2;cases e2;exact⟨u,r,.inl ⟨hk,by simp⟩⟩
      · rw[bj (dF hj)]at e2
        obtain⟨u',r',q⟩:=hl j y v' e1 e2 e3;refine⟨u',r',?_⟩;rcases q with⟨k,e⟩ | ⟨k,c,e,z⟩
        · refine .inl ⟨k,?_⟩
          have:y≠x:=λe=>hj (yS hN e1 (e▸hi))
          simp[this,e]
        · exact .inr ⟨k,c,e,z.sameBut hs (Q1 y c e)⟩
    · obtain⟨w',z⟩:=I.cell y c e
      exact⟨w',z.sameBut hs (Q1 y c e)⟩
    · obtain⟨e,n,ne,nf,d⟩:=I.pin p hp
      exact⟨(hs.2 p.1 ne).trans e,n,ne,nf,d⟩
  · have Mm:X.fn x=true:=by
      rcases hf with z | z
      · exact z
      · rw[z]at hk;cases hk
    obtain⟨c,hc⟩:=I.ok.has x (.inl hk);obtain⟨w',z⟩:=I.cell x c hc;refine wpAny_storeName_cell I.ok.kind hk hc z (λh' Dy hs=>?_)
    obtain⟨oc,YX,aaK⟩:=id z;refine h {s with heap:=h'} ⟨I.ok,I.os,I.bare,⟨λb o e n hb hx=>?_,λb o e n hb hx=>?_,I.base.free,λb o e hx=>?_,I.base.tups,I.base.frzs,I.base.tbls⟩,⟨m,hn.sameBut hs (dF (Q1 x c hc)),λj y v' e1 e2 e3=>?_⟩,λy c' e=>?_,I.free,I.freeC,λp hp=>?_,Dx ⟨oc,YX,I.freeC x c hc⟩ hs,by simpa using I.len⟩ ⟨c,hs,.inr hc⟩
    · exact(hs.2 b (b9 (cz (bK e) (I.ok.cab x c Mm hc)))).trans (I.base.keep b o e n hb hx)
    · obtain⟨sl,e1⟩:=I.base.slot b o e n hb hx
      exact⟨sl,(hs.2 b (b9 (cz (bK e) (I.ok.cab x c Mm hc)))).trans e1⟩
    · obtain⟨o',e1⟩:=I.base.there b o e hx
      exact⟨o',(hs.2 b (b9 (cz (bK e) (I.ok.cab x c Mm hc)))).trans e1⟩
    · by_cases hj:j=i
      · subst hj
        rw[hi]at e1;cases e1;rw[bJ Vk]at e2;cases e2;exact⟨u,r,.inr ⟨.inl hk,c,hc,Dy⟩⟩
      · rw[bj (dF hj)]at e2
        obtain⟨u',r',q⟩:=hl j y v' e1 e2 e3;refine⟨u',r',?_⟩;rcases q with q | ⟨k,c',e,z'⟩
        · exact .inl q
        · refine .inr ⟨k,c',e,z'.sameBut hs ?_⟩
          rintro rfl
          exact hj (yS hN e1 (I.ok.inj _ _ _ e hc▸hi))
    · by_cases hcc:c'=c
      · subst hcc;exact⟨_,Dy⟩
      · obtain⟨w2,z2⟩:=I.cell y c' e
        exact⟨w2,z2.sameBut hs hcc⟩
    · obtain⟨e,n,ne,nf,d⟩:=I.pin p hp
      refine⟨(hs.2 p.1 ?_).trans e,n,ne,nf,d⟩;intro q;rw[q,YX]at e;have q':oc=p.2:=bo e;exact d w' (by rw[<-q'];exact aaK)
theorem qY{M:Model}{A:bA}{E:cm}{i:Nat}{x:Str}{v:V}{u:ag}{Q:Unit->au->Prop}(I:Inv X ae σ H s)(hN:X.N.Nodup)(hi:X.N[i]?=some x)(hx:Pf X.env.scope x)(r:RelV v u)
    (h:∀s',Inv X ae (σ.set i (some v)) H s'->Q () s') (hf:X.fn x=true\/X.env.scope.names.lookup x=some .local:=by first | exact .inl rfl | exact .inr rfl | assumption):wpAny M A (storeName X.env x u) Q E s :=
  store_ok2 I hN hi hx r (λs' I' _=>h s' I') hf
theorem Inv.Vm{s':au}{ch:List ab}(I:Inv X ae σ H s)(ho:s'.os=s.os)(u:Un (AK X.stack) ch H H' s.heap s'.heap)(hok:mF X.prog X.w H' s'.heap)(hg:AllBare s'.gens)
    (L3:∀b∈ch,(b∈X.ex\/X.s₀.heap.objs.size<=b)/\b≠X.env.locals/\(∀x c,X.env.cells.lookup x=some c->c≠b)/\∀p∈X.pn++ae,p.1≠b):Inv X ae σ H' s':=by
  obtain⟨h',g',d',t',o'⟩:=s';have e:o'=s.os:=ho;subst e;exact I.call (g':=g') (t':=t') (d':=d') u hok hg L3
end
abbrev XK:=ag->Option ab->Hp->Prop
abbrev St:=List (Option V)
abbrev VK:=V->Hp->Prop
abbrev TE:=St->Hp->VK->Prop
abbrev TT:=St->Hp->(Bool->Hp->Prop)->Prop
abbrev TA:=St->Hp->(List V->Hp->Prop)->Prop
structure jS where
  nx:St->Hp->Prop
  rt:VK
  bk:St->Hp->Prop:=λ_ _=>False
  ct:St->Hp->Prop:=λ_ _=>False
abbrev TS:=jS->St->Hp->Prop
def EP(X:Cx)(ae:List (ab×Obj))(σ:St)(Q:VK)(u:ag)(s':au):Prop:=∃v H',Inv X ae σ H' s'/\RelV v u/\Q v H'
def TP(X:Cx)(ae:List (ab×Obj))(σ:St)(Q:Bool->Hp->Prop)(b:Bool)(s':au):Prop:=∃H',Inv X ae σ H' s'/\Q b H'
def AP(X:Cx)(ae:List (ab×Obj))(σ:St)(Q:List V->Hp->Prop)(us:bW)(s':au):Prop:=∃vs H',Inv X ae σ H' s'/\Vals vs us/\Q vs H'
def SP(X:Cx)(ae:List (ab×Obj))(D:jS)(f:Flow)(s':au):Prop :=
  match f with
  | .next=>∃cG H',Inv X ae cG H' s'/\D.nx cG H'
  | .brk=>∃cG H',Inv X ae cG H' s'/\D.bk cG H'
  | .cont=>∃cG H',Inv X ae cG H' s'/\D.ct cG H'
  | .ret u=>∃v cG H',Inv X ae cG H' s'/\RelV v u/\D.rt v H'
def PE(X:Cx)(e:aj)(t:TE):Prop :=
  ∀(ae:List (ab×Obj)) (s:au) (σ:St) (H:Hp) (Q:VK),Inv X ae σ H s->t σ H Q->wpAny (model X.prog X.w) X.A (eval e X.env) (EP X ae σ Q) X.xe s
def PT(X:Cx)(e:aj)(t:TT):Prop :=
  ∀(ae:List (ab×Obj)) (s:au) (σ:St) (H:Hp) (Q:Bool->Hp->Prop),Inv X ae σ H s->t σ H Q->wpAny (model X.prog X.w) X.A (isTrue e X.env (eval e X.env)) (TP X ae σ Q) X.xe s
def PW(X:Cx)(e:aj)(t:TT):Prop :=
  ∀(iy:Sem ag) (ae:List (ab×Obj)) (s:au) (σ:St) (H:Hp) (Q:Bool->Hp->Prop),Inv X ae σ H s->t σ H Q->wpAny (model X.prog X.w) X.A (isTrue e X.env iy) (TP X ae σ Q) X.xe s
theorem PW.pt{X:Cx}{e:aj}{t:TT}(h:PW X e t):PT X e t:=h _
def PA(X:Cx)(es:List aj)(t:TA):Prop :=
  ∀(pos:Pos) (ae:List (ab×Obj)) (s:au) (σ:St) (H:Hp) (Q:List V->Hp->Prop),Inv X ae σ H s->t σ H Q->wpAny (model X.prog X.w) X.A (spliced (backTo pos (starEach es X.env))) (AP X ae σ Q) X.xe s
def PS(X:Cx)(st:ay)(t:TS):Prop :=
  ∀(ae:List (ab×Obj)) (s:au) (σ:St) (H:Hp) (D:jS),Inv X ae σ H s->t D σ H->wpAny (model X.prog X.w) X.A (exec st X.env) (SP X ae D) X.xe s
def PSs(X:Cx)(st:List ay)(t:TS):Prop :=
  ∀(ae:List (ab×Obj)) (s:au) (σ:St) (H:Hp) (D:jS),Inv X ae σ H s->t D σ H->wpAny (model X.prog X.w) X.A (execs st X.env) (SP X ae D) X.xe s
theorem thn{α:Type}{t:Sem α}{Q Q':α->au->Prop}{M:Model}{A:bA}{E:cm}{s:au}(h:wpAny M A t Q E s)(hQ:∀a s,Q a s->Q' a s):wpAny M A t Q' E s:=lV h hQ λ_ _ x=>x
section
variable {X:Cx}
def gR(i:Nat):TE:=λσ H Q=>∃v,σ[i]?=some (some v)/\Q v H
def tC(v:V):TE:=λ_ H Q=>Q v H
theorem pe_var{i:Nat}{x:Str}{pos:Pos}(hN:X.N[i]?=some x)(hv:Q0 X.env.scope x)(hd:(x==("__debug__":Str))=false:=by decide)(uC:(x==("__classdict__":Str))=false:=by decide):PE X (.Name x pos) (gR i):=by
  intro ae s σ H Q I h;obtain⟨v,e,h⟩:=h;obtain⟨m,hn,hl⟩:=I.loc;obtain⟨u,r,l⟩:=hl i x v hN e hv;have fin:EP X ae σ Q u s:=⟨v,H,I,r,h⟩;rcases l with⟨hk,hm⟩ | ⟨hk,c,hc,kl⟩
  · exact wpAny_Name (wpAny_loadName_local I.ok.kind hk hn hm fin) hd
  · rcases hk with hk | hk
    · exact wpAny_Name (wpAny_loadName_cell I.ok.kind hk hc kl fin) hd
    · exact wpAny_Name (wpAny_loadName_free I.ok.kind hk hc kl fin uC) hd
theorem wj{i j pos}:PE X (.Constant (.int i) j pos) (tC (.int i)):=λ_ _ _ H _ I h=>wpAny_Constant_int ⟨.int i,H,I.tok _,⟨_,rfl⟩,h⟩
theorem Pj{b j pos}:PE X (.Constant (.bool b) j pos) (tC (.bl b)):=λ_ _ _ H _ I h=>Constant_bool ⟨.bl b,H,I,rfl,h⟩
theorem Q2{j pos}:PE X (.Constant .none j pos) (tC .cE):=λ_ _ _ H _ I h=>Constant_none ⟨.cE,H,I,rfl,h⟩
theorem Q3{x j pos}:PE X (.Constant (.str x) j pos) (tC (.str x)):=λ_ _ _ H _ I h=>Calls.Constant_str ⟨.str x,H,I.tok _,⟨_,rfl⟩,h⟩
def Gl(X:Cx)(x:Str):Prop:=X.env.kindOf x=some .globalImplicit
theorem ld_glob{E:cm}{ae:List (ab×Obj)}{s:au}{σ:St}{H:Hp}{x:Str}{u:ag}{pos:Pos}{Q:cm}(I:Inv X ae σ H s)(hg:Gl X x)(hm:X.mg x=some u)(h:Q u s)
    (hd:(x==("__debug__":Str))=false:=by decide):wpAny (model X.prog X.w) X.A (eval (.Name x pos) X.env) Q E s :=
  Hq I.ok.kind hg (Calls.loadGlobal_global (by rw[I.ok.glob];exact I.mod.glob.keeps I.bk) hm h) hd
theorem ld_blt{E:cm}{ae:List (ab×Obj)}{s:au}{σ:St}{H:Hp}{x:Str}{u:ag}{pos:Pos}{Q:cm}(I:Inv X ae σ H s)(hg:Gl X x)(hm:X.mg x=none)(hv:bootBuiltins x=some u)(h:Q u s)
    (hn:x≠"__name__":=by decide) (hd:(x==("__debug__":Str))=false:=by decide):wpAny (model X.prog X.w) X.A (eval (.Name x pos) X.env) Q E s:=by
  obtain⟨mb,h1,h2⟩:=I.mod.blt;exact Hq I.ok.kind hg (Calls.loadGlobal_builtin (by rw[I.ok.glob];exact I.mod.glob.keeps I.bk) hm (by rw[I.ok.blt];exact h1.keeps I.bk) ((h2 x hn).trans hv) h) hd
theorem mH{x:Str}{v:V}{u:ag}{pos:Pos}(hg:Gl X x)(hm:X.mg x=some u)(r:RelV v u)(hd:(x==("__debug__":Str))=false:=by decide):PE X (.Name x pos) (tC v) :=
  λ_ _ _ H _ I h=>ld_glob I hg hm ⟨v,H,I,r,h⟩ hd
theorem Mn{x:Str}{v:V}{u:ag}{pos:Pos}(hg:Gl X x)(hm:X.mg x=none)(hv:bootBuiltins x=some u)(r:RelV v u)(hn:x≠"__name__":=by decide)(hd:(x==("__debug__":Str))=false:=by decide):PE X (.Name x pos) (tC v) :=
  λ_ _ _ H _ I h=>ld_blt I hg hm hv ⟨v,H,I,r,h⟩ hn hd
variable {a b:aj} {ta tb:TE} {pos:Pos}
def tB(t:TE):TT:=λσ H Q=>t σ H λx H1=>∃c,x=.bl c/\Q c H1
theorem Q4{e:aj}{t:TE}(h:PE X e t)(he:∀iy,isTrue e X.env iy=(do let v <-iy;standAt e.pos;holding [v] (truthy v)):=by intro _;rfl):PT X e (tB t):=by
  intro ae s σ H Q I hw;refine isTrue_plain (thn (h ae s σ H _ I hw) λv s1 ⟨x,H1,I1,r1,q1⟩=>?_) (he _)
  obtain⟨d,rfl,q⟩:=q1;cases r1;exact jr ⟨H1,I1,q⟩
variable {tA YY:TT} {rest:List aj}
def aaL(t u:TT):TT:=λσ H Q=>t σ H λc H1=>if c=true then u σ H1 Q else Q false H1
def tOr(t u:TT):TT:=λσ H Q=>t σ H λc H1=>if c=true then Q true H1 else u σ H1 Q
def aaM(t:TT):TT:=λσ H Q=>t σ H λc H1=>Q (!c) H1
theorem Mo(ha:PT X a tA):PW X (.BoolOp .And [a] pos) tA:=by
  intro wh ae s σ H Q I h;refine isTrue_and (thn (ha ae s σ H Q I h) λc s1 e=>?_)
  cases c with
  | true=>exact isTrue_and_nil e
  | false=>exact e
theorem Q5(ha:PT X a tA):PW X (.BoolOp .Or [a] pos) tA:=by
  intro wh ae s σ H Q I h;refine isTrue_or (thn (ha ae s σ H Q I h) λc s1 e=>?_)
  cases c with
  | false=>exact isTrue_or_nil e
  | true=>exact e
theorem Q6(ha:PT X a tA)(hb:PW X (.BoolOp .And (b::rest) pos) YY):PW X (.BoolOp .And (a::b::rest) pos) (aaL tA YY):=by
  intro wh ae s σ H Q I h;refine isTrue_and (thn (ha ae s σ H _ I h) λc s1 ⟨H1,I1,q1⟩=>?_)
  cases c with
  | true=>exact hb wh ae s1 σ H1 Q I1 q1
  | false=>exact⟨H1,I1,q1⟩
theorem Vn(ha:PT X a tA)(hb:PW X (.BoolOp .Or (b::rest) pos) YY):PW X (.BoolOp .Or (a::b::rest) pos) (tOr tA YY):=by
  intro wh ae s σ H Q I h;refine isTrue_or (thn (ha ae s σ H _ I h) λc s1 ⟨H1,I1,q1⟩=>?_)
  cases c with
  | true=>exact⟨H1,I1,q1⟩
  | false=>exact hb wh ae s1 σ H1 Q I1 q1
theorem Q7(ha:PT X a tA):PT X (.UnaryOp .Not a pos) (aaM tA):=by
  intro ae s σ H Q I h;exact isTrue_not (ha ae s σ H (λc H1=>Q (!c) H1) I h)
def Vo(ta tb:TE):TE:=λσ H Q=>ta σ H λx H1=>∃c,x=.bl c/\if c=true then tb σ H1 Q else Q (.bl false) H1
def Vp(ta:TE):TE:=λσ H Q=>ta σ H λx H1=>∃c,x=.bl c/\Q (.bl (!c)) H1
theorem Q8{op}{t:TE}(h:PE X a t):PE X (.BoolOp op [a] pos) t:=λae s σ H Q I hw=>BoolOp_one (h ae s σ H Q I hw)
theorem Q9(ha:PE X a ta)(hb:PE X (.BoolOp .And (b::rest) pos) tb):PE X (.BoolOp .And (a::b::rest) pos) (Vo ta tb):=by
  intro ae s σ H Q I h;refine BoolOp_and (thn (ha ae s σ H _ I h) λv s1 ⟨x,H1,I1,r1,q1⟩=>?_)
  obtain⟨c,rfl,q1⟩:=q1;cases r1;refine jr ?_;cases c with
  | true=>exact hb ae s1 σ H1 Q I1 q1
  | false=>exact⟨.bl false,H1,I1,rfl,q1⟩
theorem Ra(ha:PE X a ta):PE X (.UnaryOp .Not a pos) (Vp ta):=by
  intro ae s σ H Q I h;refine UnaryOp_ (thn (ha ae s σ H _ I h) λv s1 ⟨x,H1,I1,r1,q1⟩=>?_)
  obtain⟨c,rfl,q1⟩:=q1;cases r1;exact not_of (jr ⟨.bl (!c),H1,I1,rfl,q1⟩)
def tIf(t:TT)(ta tb:TE):TE:=λσ H Q=>t σ H λc H1=>if c=true then ta σ H1 Q else tb σ H1 Q
theorem HX{c:aj}(hc:PT X c tA)(ha:PE X a ta)(hb:PE X b tb):PE X (.IfExp c a b pos) (tIf tA ta tb):=by
  intro ae s σ H Q I h;refine wpAny_IfExp (thn (hc ae s σ H _ I h) λd s1 ⟨H1,I1,q1⟩=>?_)
  cases d with
  | true=>exact ha ae s1 σ H1 Q I1 q1
  | false=>exact hb ae s1 σ H1 Q I1 q1
end
def lg(K:ah)(H:Hp)(a:ab)(xs:List V):Prop :=
  Rd H a (.aA xs) \/
    ∃(o:Obj) (aQ:Array ag) (n:Nat),K.lookup a=some o/\o.cls=.type "list"/\o.dict=none/\o.data=.seq aQ n/\aQ.size<=sizeLine/\Vals xs aQ.toList
theorem nJ.sq{K:ah}{H:Hp}{a:ab}{xs:List V}(h:nJ K H a xs):lg K H a xs:=by
  rcases h with h | ⟨aQ,n,e,z,r⟩
  · exact .inl h
  · exact .inr ⟨_,aQ.toArray,n,e,rfl,rfl,rfl,by simpa using z,by simpa using r⟩
def aaN:ag->Option V
  | .none=>some .cE
  | .bool b=>some (.bl b)
  | .int i _=>some (.int i)
  | .str x _=>some (.str x)
  | .bytes b _=>some (.UE b)
  | .float b _=>some (.YR b)
  | .ref a=>some (.ref a)
  | .type n=>some (.ty n)
  | _=>none
theorem RelV.abs{x:V}{u:ag}(r:RelV x u):aaN u=some x:=by
  cases x with
  | cE=>cases r;rfl
  | bl _=>cases r;rfl
  | int _=>obtain⟨t,rfl⟩:=r;rfl
  | str _=>obtain⟨t,rfl⟩:=r;rfl
  | UE _=>obtain⟨t,rfl⟩:=r;rfl
  | YR _=>obtain⟨t,rfl⟩:=r;rfl
  | ref _=>cases r;rfl
  | ty _=>cases r;rfl
theorem RelV.inj{x y:V}{u:ag}(r:RelV x u)(q:RelV y u):x=y:=bo (r.abs.symm.trans q.abs)
theorem Vals.inj:∀{xs ys:List V} {us:bW},Vals xs us->Vals ys us->xs=ys
  | _,_,_,.nil,.nil=>rfl
  | _,_,_,.cons r t,.cons r' t'=>by rw[r.inj r',Vals.inj t t']
section
variable {X:Cx} {ae:List (ab×Obj)} {σ:St} {H:Hp} {s:au} {a:ab} {xs ys:List V}
theorem lg.of{K:ah}(h:H a=some (.aA xs)):lg K H a xs:=.inl (.inl h)
theorem gO.of{K:ah}(h:H a=some (.aI xs)):gO K H a xs:=.inl (.inl h)
theorem Inv.list(I:Inv X ae σ H s)(h:lg X.K H a xs):∃aQ:bW,Vals xs aQ/\PlainL s.heap a aQ.toArray/\xs.length<=sizeLine:=by
  rcases h with h | ⟨o,aQ,n,hk,hc,hd,hs,hz,r⟩
  · obtain⟨z,aQ,n,r,e⟩:=h.ok I.hok
    exact⟨aQ,r,⟨_,n,e,rfl,rfl,rfl⟩,z⟩
  · refine⟨aQ.toList,r,⟨o,n,I.oW a o hk,hc,hd,by simpa using hs⟩,?_⟩
    have e:=r.length;simp only[fB]at e
    lia
theorem Inv.tuple(I:Inv X ae σ H s)(h:gO X.K H a xs):∃aQ:bW,Vals xs aQ/\IsTup s.heap a aQ.toArray/\xs.length<=sizeLine:=by
  rcases h with h | ⟨o,aQ,n,hk,hc,hs,hz,r⟩
  · obtain⟨z,aQ,r,p⟩:=h.ok I.hok
    exact⟨aQ,r,p,z⟩
  · refine⟨aQ.toList,r,⟨o,I.oW a o hk,hc,n,by simpa using hs⟩,?_⟩
    have e:=r.length;simp only[fB]at e
    lia
theorem Inv.qZ(I:Inv X ae σ H s)(h:lg X.K H a xs)(h':lg X.K H a ys):xs=ys:=by
  obtain⟨aQ,r,⟨o,n,e,_,_,d⟩,_⟩:=I.list h;obtain⟨its',r',⟨o',n',e',_,_,d'⟩,_⟩:=I.list h';rw[e]at e';cases e';rw[d]at d';injection d' with d1 _
  have:aQ=its':=by simpa using c9 Array.toList d1
  subst this;exact r.inj r'
theorem Inv.og(I:Inv X ae σ H s)(h:gO X.K H a xs)(h':gO X.K H a ys):xs=ys:=by
  obtain⟨aQ,r,⟨o,e,_,n,d⟩,_⟩:=I.tuple h;obtain⟨its',r',⟨o',e',_,n',d'⟩,_⟩:=I.tuple h';rw[e]at e';cases e';rw[d]at d';injection d' with d1 _
  have:aQ=its':=by simpa using c9 Array.toList d1
  subst this;exact r.inj r'
end
section
variable {X:Cx} {st:ay} {rest:List ay} {t u:TS} {e:aj} {te:TE} {pos:Pos}
def Vq:TS:=λD σ H=>D.nx σ H
def aaO(t u:TS):TS:=λD σ H=>t {D with nx:=u D} σ H
theorem wm:PSs X [] Vq:=λ_ _ σ H _ I h=>vW ⟨σ,H,I,h⟩
theorem fU(h1:PS X st t)(h2:PSs X rest u):PSs X (st::rest) (aaO t u):=by
  intro ae s σ H D I h;refine wpAny_execs_cons (thn (h1 ae s σ H {D with nx:=u D} I h) λf s1 q=>?_)
  cases f with
  | next =>
    obtain⟨cG,H',I',q⟩:=q;exact h2 ae s1 cG H' D I' q
  | ret v=>exact q
  | brk=>exact q
  | cont=>exact q
theorem kR(h1:PS X st t):PSs X [st] t:=by
  intro ae s σ H D I h;refine wpAny_execs_cons (thn (h1 ae s σ H D I h) λf s1 q=>?_)
  cases f with
  | next=>exact vW q
  | ret v=>exact q
  | brk=>exact q
  | cont=>exact q
theorem Inv.quiet{ae:List (ab×Obj)}{σ:St}{H:Hp}{s:au}(I:Inv X ae σ H s):interactive X.env=false:=by simp[interactive,I.ok.kind]
def tDrop(te:TE):TS:=λD σ H=>te σ H λ_ H1=>D.nx σ H1
theorem gz(he:PE X e te)(hs:swapsWith e none pos.line X.env=pure false:=by rfl):PS X (.Expr e pos) (tDrop te):=by
  intro ae s σ H D I h;exact wpAny_Expr_any (thn (he ae s σ H _ I h) λv s1 ⟨x,H1,I1,r1,q1⟩=>⟨σ,H1,I1,q1⟩) I.quiet hs
def aaP(te:TE):TS:=λD σ H=>te σ H D.rt
theorem wo(he:PE X e te):PS X (.Return (some e) pos) (aaP te):=by
  intro ae s σ H D I h;exact wpAny_Return_some (thn (he ae s σ H _ I h) λv s1 ⟨x,H1,I1,r1,q1⟩=>⟨x,σ,H1,I1,r1,q1⟩)
def Vr:TS:=λD _ H=>D.rt .cE H
theorem Mp:PS X (.Return none pos) Vr:=λ_ _ σ H _ I h=>wpAny_Return_none ⟨.cE,σ,H,I,rfl,h⟩
def aaQ(c:TT)(t u:TS):TS:=λD σ H=>c σ H λb H1=>if b=true then t D σ H1 else u D σ H1
theorem Pk{c:aj}{a b:List ay}{tc:TT}(hc:PT X c tc)(ha:PSs X a t)(hb:PSs X b u):PS X (.If c a b pos) (aaQ tc t u):=by
  intro ae s σ H D I h;refine wpAny_If (thn (hc ae s σ H _ I h) λd s1 ⟨H1,I1,q1⟩=>?_)
  cases d with
  | true=>exact ha ae s1 σ H1 D I1 q1
  | false=>exact hb ae s1 σ H1 D I1 q1
def Rb:TS:=λ_ _ _=>False
theorem HY:PS X st Rb:=λ_ _ _ _ _ _ h=>h.elim
end
abbrev TG:=V->St->Hp->(St->Hp->Prop)->Prop
abbrev Mq:=List V->St->Hp->(St->Hp->Prop)->Prop
def PG(X:Cx)(target:aj)(t:TG):Prop :=
  ∀(ae:List (ab×Obj)) (s:au) (σ:St) (H:Hp) (v:V) (u:ag) (Q:St->Hp->Prop),Inv X ae σ H s->RelV v u->t v σ H Q ->
    wpAny (model X.prog X.w) X.A (assign target X.env u) (λ_ s'=>∃cG H',Inv X ae cG H' s'/\Q cG H') X.xe s
def Ha(X:Cx)(ts:List aj)(t:Mq):Prop :=
  ∀(ae:List (ab×Obj)) (s:au) (σ:St) (H:Hp) (vs:List V) (us:bW) (Q:St->Hp->Prop),Inv X ae σ H s->Vals vs us->t vs σ H Q ->
    wpAny (model X.prog X.w) X.A (assignInOrder ((assignEach ts X.env).map (·.2)) us) (λ_ s'=>∃cG H',Inv X ae cG H' s'/\Q cG H') X.xe s
abbrev TIp:=V->V->Hp->VK->Prop
def PIp(X:Cx)(op:Operator)(t:TIp):Prop :=
  ∀(ae:List (ab×Obj)) (s:au) (σ:St) (H:Hp) (x y:V) (v u:ag) (Q:VK),Inv X ae σ H s->RelV x v->RelV y u->t x y H Q ->
    wpAny (model X.prog X.w) X.A (inplaceOp op v u) (EP X ae σ Q) X.xe s
section
variable {X:Cx} {pos:Pos}
def gName(i:Nat):TG:=λv σ H Q=>Q (σ.set i (some v)) H
theorem Dz{i:Nat}{x:Str}(hN:X.N.Nodup)(hi:X.N[i]?=some x)(hx:Pf X.env.scope x)(hf:X.fn x=true\/X.env.scope.names.lookup x=some .local:=by first | exact .inl rfl | exact .inr rfl | assumption):PG X (.Name x pos) (gName i):=by
  intro ae s σ H v u Q I r h;exact wpAny_assign_Name (qY I hN hi hx r (λs' I'=>⟨_,H,I',h⟩) hf)
def aaS:Mq:=λvs σ H Q=>vs=[]/\Q σ H
def Vs(t:TG)(u:Mq):Mq:=λvs σ H Q=>∃v r,vs=v::r/\t v σ H λcG H'=>u r cG H' Q
theorem Mr:Ha X [] aaS:=by
  intro ae s σ H vs us Q I r h;obtain⟨e,h⟩:=h;subst e;cases r;exact assignInOrder_nil ⟨σ,H,I,h⟩
theorem HZ{e:aj}{es:List aj}{t:TG}{u:Mq}(h1:PG X e t)(h2:Ha X es u)
    (hs:(assignEach (e::es) X.env).map (·.2)=assign e X.env::(assignEach es X.env).map (·.2):=by rfl):Ha X (e::es) (Vs t u):=by
  intro ae s σ H vs us Q I r h;obtain⟨v,vr,e1,h⟩:=h;subst e1;cases r with
  | cons r rr =>
    rw[hs];refine assignInOrder_cons (thn (h1 ae s σ H _ _ _ I r h) λ_ s1 ⟨i0,H1,I1,q1⟩=>?_)
    exact h2 ae s1 i0 H1 _ _ Q I1 rr q1
def aaT(K:ah)(n:Nat)(t:Mq):TG:=λv σ H Q=>∃a xs,v=.ref a/\gO K H a xs/\xs.length=n/\t xs σ H Q
theorem Rc{es:List aj}{k:Nat}{t:Mq}{n:Nat}(hc:X.calm=true)(h:Ha X es t)
    (hn:(assignEach es X.env).length=n:=by rfl) (wq:(assignEach es X.env).findIdx? (·.1)=none:=by rfl):PG X (.Tuple es k pos) (aaT X.K n t):=by
  intro ae s σ H v u Q I r hw;obtain⟨a,xs,e1,hq,hl,hw⟩:=hw;subst e1;cases r;obtain⟨aQ,rv,ht,hz⟩:=I.tuple hq;refine assign_Tuple_tuple (I.ok.hd hc) ht (by simp[hn,<-hl,rv.length]) wq λh' hx=>?_
  have I1:Inv X ae σ H {s with heap:=h'}:=I.kept (t':=s.toks) λb o e=>hx b o (b9 (bK e)) e
  exact h ae _ σ H xs _ Q I1 (by simpa using rv) hw
def lh(te:TE)(g:TG):TS:=λD σ H=>te σ H λx H1=>g x σ H1 D.nx
theorem Rg{tg e:aj}{te:TE}{g:TG}(he:PE X e te)(hg:PG X tg g)(hs:swapsWithSole [tg] e pos.line X.env=pure false:=by rfl)(hw:swappedStores [tg] e X.env=pure none:=by rfl)
    (h1:(assignEach [tg] X.env).map (·.2)=[assign tg X.env]:=by rfl):PS X (.Assign [tg] e pos) (lh te g):=by
  intro ae s σ H D I h;refine wpAny_Assign_stores (thn (he ae s σ H _ I h) λv s1 ⟨x,H1,I1,r1,q1⟩=>?_) hs hw
  rw[h1];exact thn (hg ae s1 σ H1 x v _ I1 r1 q1) λ_ s2 q=>q
theorem wt{i:Nat}{x:Str}{e:aj}{te:TE}{eY:Pos}(hN:X.N.Nodup)(hi:X.N[i]?=some x)(hx:Pf X.env.scope x)(he:PE X e te)(hs:swapsWith e (some (.Name x eY)) pos.line X.env=pure false:=by rfl)(hf:X.fn x=true\/X.env.scope.names.lookup x=some .local:=by first | exact .inl rfl | exact .inr rfl | assumption) :
    PS X (.Assign [.Name x eY] e pos) (lh te (gName i)):=by
  intro ae s σ H D I h;refine wpAny_Assign_Name (thn (he ae s σ H _ I h) λv s1 ⟨y,H1,I1,r1,q1⟩=>?_) hs
  exact qY I1 hN hi hx r1 (λs2 I2=>⟨_,H1,I2,q1⟩) hf
def aaU(i:Nat)(te:TE)(ti:TIp):TS:=λD σ H=>∃x,σ[i]?=some (some x)/\te σ H λy H1=>ti x y H1 λz H2=>D.nx (σ.set i (some z)) H2
theorem H9{i:Nat}{x:Str}{e:aj}{te:TE}{op:Operator}{ti:TIp}{eY:Pos}(hN:X.N.Nodup)(hi:X.N[i]?=some x)(hx:Pf X.env.scope x)(he:PE X e te)(ho:PIp X op ti)(hf:X.fn x=true\/X.env.scope.names.lookup x=some .local:=by first | exact .inl rfl | exact .inr rfl | assumption) :
    PS X (.AugAssign (.Name x eY) op e pos) (aaU i te ti):=by
  intro ae s σ H D I h;obtain⟨v,e1,h⟩:=h;obtain⟨m,hn,hl⟩:=I.loc;have qc:Q0 X.env.scope x:=by rcases hx with k | k;exact .inl k;exact .inr (.inl k)
  obtain⟨u,r,l⟩:=hl i x v hi e1 qc;refine wpAny_AugAssign_Name ?_;have go:wpAny (model X.prog X.w) X.A (eval e X.env) (λw wu=>wpAny (model X.prog X.w) X.A (inplaceOp op u w) (λr aaV=>wpAny (model X.prog X.w) X.A (storeName X.env x r) (λ_=>SP X ae D .next) X.xe aaV) X.xe wu) X.xe s:=by
    refine thn (he ae s σ H _ I h) λw s1 ⟨y,H1,I1,r1,q1⟩=>?_
    refine thn (ho ae s1 σ H1 v y u w _ I1 r r1 q1) λz s2 ⟨zv,H2,I2,r2,q2⟩=>?_
    exact qY I2 hN hi hx r2 (λs3 I3=>⟨_,H2,I3,q2⟩) hf
  rcases l with⟨hk,hm⟩ | ⟨hk,c,hc,kl⟩
  · exact wpAny_loadName_local I.ok.kind hk hn hm go
  · rcases hk with hk | hk
    · exact wpAny_loadName_cell I.ok.kind hk hc kl go
    · rcases hx with k | k
      · have:X.env.scope.names.lookup x=some .free:=hk
        rw[k]at this;cases this
      · have:X.env.scope.names.lookup x=some .free:=hk
        rw[k]at this;cases this
end
section
variable {X:Cx} {pos:Pos}
def Rh(c:TT)(tb:TS):TS:=λD σ H=>∃W:Nat->St->Hp->Prop,(∃m,W m σ H)/\∀m σ H,W m σ H ->
  c σ H λb H1=>if b=true then ∃N:St->Hp->Prop,(∀cG H',N cG H'->∃m',m'<m/\W m' cG H')/\tb {D with nx:=N,ct:=N,bk:=D.nx} σ H1 else D.nx σ H1
theorem Ia{c:aj}{body:List ay}{tc:TT}{tb:TS}(hp:PassesOwn (model X.prog X.w) X.A X.env X.xe)(hc:PT X c tc)(hb:PSs X body tb):PS X (.While c body [] pos) (Rh tc tb):=by
  intro ae s σ H D I h;obtain⟨W,⟨m0,w0⟩,BB⟩:=h;refine wpAny_While (codeAny_whileLoop (λn s'=>∃cG H',Inv X ae cG H' s'/\W n cG H') ?_ m0 ⟨σ,H,I,w0⟩)
  rintro n s1 ⟨i0,H1,I1,w1⟩
  refine lP hp (thn (hc ae s1 i0 H1 _ I1 (BB n i0 H1 w1)) λb s2 ⟨H2,I2,q2⟩=>?_)
  cases b with
  | true =>
    obtain⟨N,hN,q2⟩:=q2;rw[if_pos rfl];refine lP hp (thn (hb ae s2 i0 H2 _ I2 q2) λf s3 q3=>?_)
    cases f with
    | next =>
      obtain⟨qd,H3,I3,n3⟩:=q3;obtain⟨m',hm,w3⟩:=hN qd H3 n3;exact⟨m',hm,qd,H3,I3,w3⟩
    | cont =>
      obtain⟨qd,H3,I3,n3⟩:=q3;obtain⟨m',hm,w3⟩:=hN qd H3 n3;exact⟨m',hm,qd,H3,I3,w3⟩
    | brk=>exact q3
    | ret v=>exact q3
  | false =>
    rw[if_neg gI];exact vW ⟨i0,H2,I2,q2⟩
end
structure It where
  go:Nat->Hp->Prop
  yld:Nat->Hp->V->Hp->Prop
  stop:Nat->Hp->Prop
def wx(X:Cx)(ae:List (ab×Obj))(H:Hp)(b:ab):Prop :=
  H b=none/\b≠X.env.locals/\b∉X.fs/\(b∈X.ex\/X.s₀.heap.objs.size<=b)/\(∀x c,X.env.cells.lookup x=some c->c≠b)/\∀p∈X.pn++ae,p.1≠b
theorem Inv.Ib{X:Cx}{ae:List (ab×Obj)}{σ:St}{H H':Hp}{s:au}{b:ab}(I:Inv X ae σ H s)(hb:s.heap.objs.size<=b)(hn:H' b=none):wx X ae H' b:=by
  refine⟨hn,n5 (cz I.lt hb),I.aaI hb,.inr (b0 I.sz hb),λx c e z=>?_,λp hp z=>?_⟩
  · obtain⟨v,q⟩:=I.cell x c e
    exact absurd (cz q.lt (by rw[z];exact hb)) (gY _)
  · exact absurd (cz (bK (I.pin p hp).1) (by rw[z];exact hb)) (gY _)
structure Turn (P:bh) (w:aM) (K:ah) (tg:aj) (J:It) (fp:List ab) (it:ab) (tn:Nat->Heap->Prop):Prop where
  mem:it∈fp
  obj:∀i h,tn i h->∀b∈fp,∃o,h.get? b=some o/\∀v,o.data≠.cell v
  keep:∀i h h',tn i h->(∀b∈fp,∀o,h.get? b=some o->h'.get? b=some o)->tn i h'
  item:∀(X:Cx),X.prog=P->X.w=w->X.K=K->X.calm=true->∀(i:Nat) (ae:List (ab×Obj)) (s:au) (σ:St) (H:Hp) (E:cm),Inv X ae σ H s->(∀b∈fp,wx X ae H b)->tn i s.heap->J.go i H ->
    wpAny (model P w) X.A (pyNext (.ref it)) (λr s1=>∃u,r=some u /\
      wpAny (model P w) X.A (letOwnedTupleGo tg (.ref it) u) (λ_ s2=>∃x H',Inv X ae σ H' s2/\RelV x u/\J.yld i H x H'/\tn (i+1) s2.heap/\∀b∈fp,H' b=none) E s1) E s
  done:∀(X:Cx),X.prog=P->X.w=w->X.K=K->X.calm=true->∀(i:Nat) (ae:List (ab×Obj)) (s:au) (σ:St) (H:Hp) (E:cm),Inv X ae σ H s->(∀b∈fp,wx X ae H b)->tn i s.heap->J.stop i H ->
    wpAny (model P w) X.A (pyNext (.ref it)) (λr s1=>r=none/\Inv X ae σ H s1) E s
  self:∀(A:bA) (i:Nat) (s:au) (Q:cm) (E:cm),tn i s.heap->Q (.ref it) s->wpAny (model P w) A (pyIter (.ref it)) Q E s
abbrev TI:=St->Hp->(It->Hp->Prop)->Prop
def PIE(X:Cx)(ae:List (ab×Obj))(σ:St)(tg:aj)(R:It->Hp->Prop)(itv:ag)(s2:au):Prop :=
  ∃(it:ab) (fp:List ab) (tn:Nat->Heap->Prop) (J:It) (H':Hp),itv=.ref it/\Inv X ae σ H' s2/\Turn X.prog X.w X.K tg J fp it tn/\tn 0 s2.heap/\(∀b∈fp,wx X ae H' b)/\R J H'
def PI(X:Cx)(tg iter:aj)(wi:TI):Prop :=
  ∀(ae:List (ab×Obj)) (s:au) (σ:St) (H:Hp) (R:It->Hp->Prop),Inv X ae σ H s->wi σ H R ->
    wpAny (model X.prog X.w) X.A (eval iter X.env) (λv s1=>wpAny (model X.prog X.w) X.A (pyIter v) (PIE X ae σ tg R) X.xe s1) X.xe s
theorem Ic{M:Model}{A:bA}{E:cm}{s:au}{tg:aj}{it:ab}{u:ag}{o:Obj}{n:String}{vs:Array ag}{Q:Unit->au->Prop}(ho:s.heap.get? it=some o)(hc:o.cls=.type n)(hd:o.data=.fields vs)
    (hn:["enumerate","zip","dict_itemiterator","dict_reverseitemiterator","odict_iterator","itertools.zip_longest","itertools.pairwise"].contains n=false) (hQ:Q () s):wpAny M A (letOwnedTupleGo tg (.ref it) u) Q E s:=by
  unfold letOwnedTupleGo;cases tg<;>first
    | exact ax hQ
    | (cases u<;>first
        | exact ax hQ
        | (refine ai (wpAny_load ho ?_)
           rw[hc,hd];show wpAny M A (if(["enumerate","zip","dict_itemiterator","dict_reverseitemiterator","odict_iterator","itertools.zip_longest","itertools.pairwise"].contains n&&vs[0]?==some (rawInt _))=true then _ else _) Q E s
           rw[if_neg (by intro h;rw[hn,Bool.false_and]at h;cases h)]
           exact ax hQ))
def UJ(K:ah)(a:ab):It :=
  ⟨λi H=>∃xs x,lg K H a xs/\xs[i]?=some x,λi H x H'=>H'=H/\∀xs,lg K H a xs->xs[i]?=some x,λi H=>∃xs,lg K H a xs/\xs.length<=i⟩
def Itt(K:ah)(a:ab):It :=
  ⟨λi H=>∃xs x,gO K H a xs/\xs[i]?=some x,λi H x H'=>H'=H/\∀xs,gO K H a xs->xs[i]?=some x,λi H=>∃xs,gO K H a xs/\xs.length<=i⟩
def Vt(lo:Int)(n:Nat):It:=⟨λi _=>i<n,λi H x H'=>H'=H/\x=.int (lo+i),λi _=>n<=i⟩
theorem Fe{P:bh}{w:aM}{K:ah}{tg:aj}(a it:ab):Turn P w K tg (UJ K a) [it] it (λi h=>h.IsListIter it a i) where
  mem:=by simp
  obj:=λi h st b hb=>by
    have e:b=it:=by simpa using hb
    subst e;obtain⟨o,e,c,d⟩:=st;exact⟨o,e,λv z=>by rw[d]at z;cases z⟩
  keep:=λi h h' st k=>st.at λo e=>k it (by simp) o e
  item:=by
    intro X hP hw hK hc i ae s σ H E I hf st hg;subst hP hw hK;obtain⟨xs,x,hq,hx⟩:=hg;obtain⟨aQ,rv,p,hz⟩:=I.list hq;obtain⟨u,hu,ru⟩:=rv.get hx;obtain⟨f0,f1,f2,f3,f4,f5⟩:=hf it (by simp)
    refine wpAny_pyNext_list_item st p.isList (x:=u) (by simpa using hu) λh' lY sb=>?_
    have I1:Inv X ae σ H {s with heap:=h'}:=I.turned (t':=s.toks) (λb o hb e=>(sb.2 b hb).trans e) f0 f1 f3 f4 f5
    obtain⟨o,e,c,d⟩:=id lY;exact⟨u,rfl,Ic (s:={s with heap:=h'}) e c d (by decide) ⟨x,H,I1,ru,⟨rfl,λys hy=>by rw[I.qZ hy hq];exact hx⟩,lY,λb hb=>(hf b hb).1⟩⟩
  done:=by
    intro X hP hw hK hc i ae s σ H E I hf st hg;subst hP hw hK;obtain⟨xs,hq,hx⟩:=hg;obtain⟨aQ,rv,p,hz⟩:=I.list hq;obtain⟨f0,f1,f2,f3,f4,f5⟩:=hf it (by simp)
    have hl:=rv.length;exact wpAny_pyNext_list_end (I.ok.hd hc) st p.isList (by simp;lia) λh' eb=>⟨rfl,I.turned (t':=s.toks) (λb o hb e=>eb b o hb e) f0 f1 f3 f4 f5⟩
  self:=λ_ _ _ _ _ st h=>wpAny_pyIter_listiter st h
theorem BC{P:bh}{w:aM}{K:ah}{tg:aj}(a it:ab):Turn P w K tg (Itt K a) [it] it (λi h=>h.IsTupleIter it a i) where
  mem:=by simp
  obj:=λi h st b hb=>by
    have e:b=it:=by simpa using hb
    subst e;obtain⟨o,e,c,d⟩:=st;exact⟨o,e,λv z=>by rw[d]at z;cases z⟩
  keep:=λi h h' st k=>st.at λo e=>k it (by simp) o e
  item:=by
    intro X hP hw hK hc i ae s σ H E I hf st hg;subst hP hw hK;obtain⟨xs,x,hq,hx⟩:=hg;obtain⟨aQ,rv,p,hz⟩:=I.tuple hq;obtain⟨u,hu,ru⟩:=rv.get hx;obtain⟨f0,f1,f2,f3,f4,f5⟩:=hf it (by simp)
    refine wpAny_pyNext_tuple_item st (show s.heap.IsTuple a aQ.toArray from p) (x:=u) (by simpa using hu) λh' lY sb=>?_
    have I1:Inv X ae σ H {s with heap:=h'}:=I.turned (t':=s.toks) (λb o hb e=>(sb.2 b hb).trans e) f0 f1 f3 f4 f5
    obtain⟨o,e,c,d⟩:=id lY;exact⟨u,rfl,Ic (s:={s with heap:=h'}) e c d (by decide) ⟨x,H,I1,ru,⟨rfl,λys hy=>by rw[I.og hy hq];exact hx⟩,lY,λb hb=>(hf b hb).1⟩⟩
  done:=by
    intro X hP hw hK hc i ae s σ H E I hf st hg;subst hP hw hK;obtain⟨xs,hq,hx⟩:=hg;obtain⟨aQ,rv,p,hz⟩:=I.tuple hq;obtain⟨f0,f1,f2,f3,f4,f5⟩:=hf it (by simp)
    have hl:=rv.length;exact wpAny_pyNext_tuple_end (I.ok.hd hc) st (show s.heap.IsTuple a aQ.toArray from p) (by simp;lia) λh' eb=>⟨rfl,I.turned (t':=s.toks) (λb o hb e=>eb b o hb e) f0 f1 f3 f4 f5⟩
  self:=λ_ _ _ _ _ st h=>wpAny_pyIter_tupleiter st h
theorem BD{P:bh}{w:aM}{K:ah}{tg:aj}(it:ab)(lo:Int)(n:Nat):Turn P w K tg (Vt lo n) [it] it (λi h=>IsRangeIter h it (lo+(i:Nat)*1) ((n:Int)-(i:Nat)) 1) where
  mem:=by simp
  obj:=λi h st b hb=>by
    have e:b=it:=by simpa using hb
    subst e;exact⟨_,st,λv z=>by
      have z':Data.fields _=Data.cell v:=z;cases z'⟩
  keep:=λi h h' st k=>k it (by simp) _ st
  item:=by
    intro X hP hw hK hc i ae s σ H E I hf st hg;subst hP hw hK;obtain⟨f0,f1,f2,f3,f4,f5⟩:=hf it (by simp)
    have W:=Walks.range (prog:=X.prog) (w:=X.w) (I.ok.hd hc) it lo 1 n;refine W.item i s _ _ hg st λv h' tk hv lY kk=>?_
    obtain⟨t,rfl⟩:=hv;have I1:Inv X ae σ H {s with heap:=h',toks:=tk}:=I.turned (λb o hb e=>kk b o (by simpa using hb) e) f0 f1 f3 f4 f5
    refine⟨_,rfl,Ic (s:={s with heap:=h',toks:=tk}) (n:="range_iterator") lY rfl rfl (by decide) ⟨.int (lo+i),H,I1,⟨t,?_⟩,⟨rfl,rfl⟩,lY,λb hb=>(hf b hb).1⟩⟩
    rw[Int.mul_one]
  done:=by
    intro X hP hw hK hc i ae s σ H E I hf st hg;subst hP hw hK;obtain⟨f0,f1,f2,f3,f4,f5⟩:=hf it (by simp)
    exact wpAny_pyNext_range_end (I.ok.hd hc) st (by have:n<=i:=hg;lia) λh' eb=>⟨rfl,I.turned (t':=s.toks) (λb o hb e=>eb b o hb e) f0 f1 f3 f4 f5⟩
  self:=λ_ _ _ _ _ st h=>wpAny_pyIter_rangeiter st h
section
variable {X:Cx} {tg:aj}
def Vu(K:ah)(tl:TE):TI:=λσ H R=>tl σ H λx H1=>∃a,x=.ref a/\(∃xs,lg K H1 a xs)/\R (UJ K a) H1
def aaY(K:ah)(tl:TE):TI:=λσ H R=>tl σ H λx H1=>∃a,x=.ref a/\(∃xs,gO K H1 a xs)/\R (Itt K a) H1
theorem DA{l:aj}{tl:TE}(hl:PE X l tl):PI X tg l (Vu X.K tl):=by
  intro ae s σ H R I h;refine thn (hl ae s σ H _ I h) λv s1 ⟨x,H1,I1,r1,q1⟩=>?_
  obtain⟨a,e,⟨xs,hq⟩,q⟩:=q1;subst e;cases r1;obtain⟨aQ,rv,p,hz⟩:=I1.list hq;refine vT p.isList ?_;refine⟨s1.heap.objs.size,[s1.heap.objs.size],_,_,H1,rfl,I1.kept (t':=s1.toks) λb o e=>bR _ e,Fe a _,⟨_,cW _ rfl,rfl,rfl⟩,λb hb=>?_,q⟩
  have e:b=s1.heap.objs.size:=by simpa using hb
  subst e;exact I1.Ib (aR _) (I1.hok.fresh (aR _))
theorem Ri{l:aj}{tl:TE}(hl:PE X l tl):PI X tg l (aaY X.K tl):=by
  intro ae s σ H R I h;refine thn (hl ae s σ H _ I h) λv s1 ⟨x,H1,I1,r1,q1⟩=>?_
  obtain⟨a,e,⟨xs,hq⟩,q⟩:=q1;subst e;cases r1;obtain⟨aQ,rv,p,hz⟩:=I1.tuple hq;refine wpAny_pyIter_tuple (show s1.heap.IsTuple a aQ.toArray from p) ?_
  refine⟨s1.heap.objs.size,[s1.heap.objs.size],_,_,H1,rfl,I1.kept (t':=s1.toks) λb o e=>bR _ e,BC a _,⟨_,cW _ rfl,rfl,rfl⟩,λb hb=>?_,q⟩
  have e:b=s1.heap.objs.size:=by simpa using hb
  subst e;exact I1.Ib (aR _) (I1.hok.fresh (aR _))
theorem yT{ae:List (ab×Obj)}{σ:St}{H:Hp}{s:au}{R:It->Hp->Prop}{E:cm}{lo hi:Int}{t u v:Tok}{tk:Nat}(I:Inv X ae σ H s)(h1:-(2^62)<=lo)(h2:lo<2^62)(h3:-(2^62)<=hi)(h4:hi<2^62)
    (q:R (Vt lo (hi-lo).toNat) H):wpAny (model X.prog X.w) X.A (pyIter (.ref s.heap.objs.size)) (PIE X ae σ tg R) E {s with heap:=s.heap.push {cls:=.type "range",data:=.fields #[.int lo t,.int hi u,.int 1 v]},toks:=tk}:=by
  refine wpAny_pyIter_range (wa ..) (small_one h1 h2 h3 h4) ?_;have I1:Inv X ae σ H {s with heap:=s.heap.push {cls:=.type "range",data:=.fields #[.int lo t,.int hi u,.int 1 v]},toks:=tk}:=I.kept λb o e=>bR _ e
  refine⟨(s.heap.push {cls:=.type "range",data:=.fields #[.int lo t,.int hi u,.int 1 v]}).objs.size,[(s.heap.push {cls:=.type "range",data:=.fields #[.int lo t,.int hi u,.int 1 v]}).objs.size],_,_,H,rfl,
    I1.kept (t':=tk) λb o e=>bR _ e,BD _ lo (hi-lo).toNat,?_,λb hb=>?_,q⟩
  · have e1:lo+((0:Nat):Int)*1=lo:=by simp
    have e2:(((hi-lo).toNat:Nat):Int)-((0:Nat):Int)=Builtin.Range.rangeSize lo hi 1:=by rw[rangeSize_one];split<;>lia
    show IsRangeIter _ _ (lo+((0:Nat):Int)*1) ((((hi-lo).toNat:Nat):Int)-((0:Nat):Int)) 1;rw[e1,e2];exact cW _ rfl
  · have e:b=(s.heap.push {cls:=.type "range",data:=.fields #[.int lo t,.int hi u,.int 1 v]}).objs.size:=by simpa using hb
    subst e;exact I1.Ib (aR _) (I1.hok.fresh (aR _))
def Vv(ta:TA):TI:=λσ H R=>ta σ H λvs H1=>∃j:Int,vs=[.int j] /\ -(2^62)<=j/\j<2^62/\R (Vt 0 j.toNat) H1
def Vw(ta:TA):TI:=λσ H R=>ta σ H λvs H1=>∃i j:Int,vs=[.int i,.int j]/\(-(2^62)<=i/\i<2^62 /\ -(2^62)<=j/\j<2^62)/\R (Vt i (j-i).toNat) H1
theorem Fg{a:aj}{ta:TA}{p pos:Pos}(hg:Gl X "range")(hm:X.mg "range"=none)(ha:PA X [a] ta)(hs:starEach [a] X.env=[(false,eval a X.env)]:=by rfl):PI X tg (.Call (.Name "range" p) [a] [] pos) (Vv ta):=by
  intro ae s σ H R I h;refine Call_ (ld_blt I hg hm boot_range (j1 (thn (ha pos ae s σ H _ I h) λus s1 ⟨vs,H1,I1,r1,q1⟩=>?_) hs rfl))
  obtain⟨j,e,q1,q2,q⟩:=q1;subst e;cases r1 with
  | cons r rr =>
    cases rr;obtain⟨t,rfl⟩:=r;exact call_range_1 (yT I1 (by lia) (by lia) q1 q2 (by simpa using q))
theorem Fh{a b:aj}{ta:TA}{p pos:Pos}(hg:Gl X "range")(hm:X.mg "range"=none)(ha:PA X [a,b] ta)(hs:starEach [a,b] X.env=[(false,eval a X.env),(false,eval b X.env)]:=by rfl)(Ie:starEach [b] X.env=[(false,eval b X.env)]:=by rfl) :
    PI X tg (.Call (.Name "range" p) [a,b] [] pos) (Vw ta):=by
  intro ae s σ H R I h;refine Call_ (ld_blt I hg hm boot_range (j1 (thn (ha pos ae s σ H _ I h) λus s1 ⟨vs,H1,I1,r1,q1⟩=>?_) (by rw[hs,Ie]) (by rw[Ie];rfl)))
  obtain⟨i,j,e,⟨q1,q2,q3,q4⟩,q⟩:=q1;subst e;cases r1 with
  | cons r rr =>
    cases rr with
    | cons r' rr =>
      cases rr;obtain⟨t,rfl⟩:=r;obtain⟨t',rfl⟩:=r';exact call_range_2 (yT I1 q1 q2 q3 q4 q)
def aaZ(wi:TI)(g:TG)(tb:TS):TS:=λD σ H=>wi σ H λJ H1=>∃W:Nat->Nat->St->Hp->Prop,(∃m,W 0 m σ H1)/\∀i m σ H,W i m σ H ->
  (J.stop i H/\D.nx σ H)\/(J.go i H/\∃N:St->Hp->Prop,(∀cG H',N cG H'->∃m',m'<m/\W (i+1) m' cG H')/\∀x H',J.yld i H x H'->g x σ H' λAM H2=>tb {D with nx:=N,ct:=N,bk:=D.nx} AM H2)
def q0(fp:List ab)(h:Heap):List (ab×Obj):=fp.filterMap λb=>(h.get? b).map λo=>(b,o)
theorem js{fp:List ab}{h:Heap}{b:ab}{o:Obj}(hb:b∈fp)(e:h.get? b=some o):(b,o)∈q0 fp h:=lO.mpr ⟨b,hb,by rw[e];rfl⟩
theorem Fi{fp:List ab}{h:Heap}{p:ab×Obj}(hp:p∈q0 fp h):p.1∈fp/\h.get? p.1=some p.2:=by
  obtain⟨b,hb,e⟩:=lO.mp hp;cases q:h.get? b with
  | none=>rw[q]at e;cases e
  | some o =>
    rw[q]at e;have e':(b,o)=p:=bo e;subst e';exact⟨hb,q⟩
theorem Inv.pinned{ae:List (ab×Obj)}{σ:St}{H:Hp}{s:au}{fp:List ab}(I:Inv X ae σ H s)(hf:∀b∈fp,wx X ae H b)(ho:∀b∈fp,∃o,s.heap.get? b=some o/\∀v,o.data≠.cell v):Inv X (ae++q0 fp s.heap) σ H s :=
  I.mG λp hp=>(dD.mp hp).elim (λz=>I.pin p (d7 _ z)) λz=>by
    obtain⟨hb,e⟩:=Fi z;obtain⟨f0,f1,f2,_⟩:=hf p.1 hb;obtain⟨o,e',d⟩:=ho p.1 hb;rw[e]at e';cases e';exact⟨e,f0,f1,f2,d⟩
theorem Inv.q8{ae pl:List (ab×Obj)}{σ:St}{H:Hp}{s:au}(I:Inv X (ae++pl) σ H s):Inv X ae σ H s:=I.mG λp hp=>I.pin p (d7 _ (gH _ hp))
theorem Ig{iter:aj}{body:List ay}{wi:TI}{g:TG}{tb:TS}{pos:Pos}(hp:PassesOwn (model X.prog X.w) X.A X.env X.xe)(hc:X.calm=true)(hi:PI X tg iter wi)(hg:PG X tg g)(hb:PSs X body tb)
    (hs:∀x,foldedSetIterable iter X.env x=pure x:=by intro _;rfl):PS X (.For tg iter body [] pos) (aaZ wi g tb):=by
  intro ae s σ H D I h;refine wpAny_For (thn (hi ae s σ H _ I h) λv s1 h1=>thn h1 λitv s2 h2=>?_) hs
  obtain⟨it,fp,tn,J,H2,e,I2,T,UK,f2,W,⟨m0,w0⟩,BB⟩:=h2;subst e;have BE:∀{H':Hp},(∀b∈fp,H' b=none)->∀b∈fp,wx X ae H' b:=λhn b hb=>⟨hn b hb,(f2 b hb).2⟩
  refine codeAny_forLoop_any (λn s'=>∃i cG H',Inv X ae cG H' s'/\tn i s'.heap/\(∀b∈fp,H' b=none)/\W i n cG H') ?_ m0 ⟨0,σ,H2,I2,UK,λb hb=>(f2 b hb).1,w0⟩
  rintro n s3 ⟨i,qd,H3,I3,st3,fr3,w3⟩
  rcases BB i n qd H3 w3 with⟨stop,qn⟩ | ⟨go,N,hN,step⟩
  · refine lP hp (thn (T.done X rfl rfl rfl hc i ae s3 qd H3 X.xe I3 (BE fr3) st3 stop) λr s4 ⟨hr,I4⟩=>?_)
    subst hr;exact vW ⟨qd,H3,I4,qn⟩
  · refine lP hp (thn (T.item X rfl rfl rfl hc i ae s3 qd H3 X.xe I3 (BE fr3) st3 go) λr s4 ⟨u,hr,h4⟩=>?_)
    subst hr;refine lP hp (thn h4 λ_ s5 ⟨x,H5,I5,r5,y5,Rj,fr5⟩=>?_)
    have I5':=I5.pinned (BE fr5) (T.obj _ _ Rj);refine lP hp (thn (hg _ s5 qd H5 x u _ I5' r5 (step x H5 y5)) λ_ s6 ⟨YZ,H6,I6,q6⟩=>?_)
    refine lP hp (thn (hb _ s6 YZ H6 _ I6 q6) λf s7 q7=>?_)
    have again:∀{Ih:St} {H7:Hp},Inv X (ae++q0 fp s5.heap) Ih H7 s7->N Ih H7->∃m,m<n/\∃i cG H',Inv X ae cG H' s7/\tn i s7.heap/\(∀b∈fp,H' b=none)/\W i m cG H':=λ{Ih H7} I7 n7=>by
      obtain⟨m',hm,w7⟩:=hN Ih H7 n7;refine⟨m',hm,i+1,Ih,H7,I7.q8,T.keep _ _ _ Rj λb hb o e=>(I7.pin (b,o) (d7 _ (d7 _ (js hb e)))).1,λb hb=>?_,w7⟩
      obtain⟨o,e,d⟩:=T.obj _ _ Rj b hb;exact(I7.pin (b,o) (d7 _ (d7 _ (js hb e)))).2.1
    cases f with
    | next=>obtain⟨Ih,H7,I7,n7⟩:=q7;exact again I7 n7
    | cont=>obtain⟨Ih,H7,I7,n7⟩:=q7;exact again I7 n7
    | brk=>obtain⟨Ih,H7,I7,q7⟩:=q7;exact⟨Ih,H7,I7.q8,q7⟩
    | ret v=>obtain⟨x7,Ih,H7,I7,r7,q7⟩:=q7;exact⟨x7,Ih,H7,I7.q8,r7,q7⟩
end
theorem Ii{K:ah}{a:ab}{xs:List V}{g:TG}{tb:TS}{D:jS}{σ:St}{H:Hp}(Pv:Nat->St->Hp->Prop)(h0:Pv 0 σ H)(hl:∀i σ H,i<=xs.length->Pv i σ H->lg K H a xs)
    (hs:∀i x σ H,xs[i]?=some x->Pv i σ H->g x σ H λAM H2=>tb {D with nx:=Pv (i+1),ct:=Pv (i+1),bk:=D.nx} AM H2) (hd:∀σ H,Pv xs.length σ H->D.nx σ H) :
    ∃W:Nat->Nat->St->Hp->Prop,(∃m,W 0 m σ H)/\∀i m σ H,W i m σ H ->
      ((UJ K a).stop i H/\D.nx σ H)\/((UJ K a).go i H/\∃N:St->Hp->Prop,(∀cG H',N cG H'->∃m',m'<m/\W (i+1) m' cG H')/\∀x H',(UJ K a).yld i H x H'->g x σ H' λAM H2=>tb {D with nx:=N,ct:=N,bk:=D.nx} AM H2):=by
  refine⟨λi m σ H=>m=xs.length-i/\i<=xs.length/\Pv i σ H,⟨xs.length,by simp,dP _,h0⟩,?_⟩
  rintro i m σ H ⟨rfl,hi,p⟩
  have q:=hl i σ H hi p;by_cases dW:i<xs.length
  · refine .inr ⟨⟨xs,xs[i],q,by simp[dW]⟩,Pv (i+1),λcG H' p'=>⟨xs.length-(i+1),by lia,rfl,dW,p'⟩,λx H' y=>?_⟩
    obtain⟨e,y⟩:=y;subst e;exact hs i x σ _ (y xs q) p
  · have e:i=xs.length:=by lia
    subst e;exact .inl ⟨⟨xs,q,aR _⟩,hd σ H p⟩
abbrev R2:=V->V->Hp->VK->Prop
def OpR(X:Cx)(f:ag->ag->Sem ag)(r:R2):Prop :=
  ∀(ae:List (ab×Obj)) (s:au) (σ:St) (H:Hp) (x y:V) (v u:ag) (Q:VK),Inv X ae σ H s->RelV x v->RelV y u->r x y H Q ->
    wpAny (model X.prog X.w) X.A (f v u) (EP X ae σ Q) X.xe s
def UnR(X:Cx)(f:ag->Sem ag)(r:V->Hp->VK->Prop):Prop :=
  ∀(ae:List (ab×Obj)) (s:au) (σ:St) (H:Hp) (x:V) (v:ag) (Q:VK),Inv X ae σ H s->RelV x v->r x H Q ->
    wpAny (model X.prog X.w) X.A (f v) (EP X ae σ Q) X.xe s
def km(X:Cx)(f:ag)(r:List V->Hp->VK->Prop):Prop :=
  ∀(ae:List (ab×Obj)) (s:au) (σ:St) (H:Hp) (xs:List V) (us:bW) (Q:VK),Inv X ae σ H s->Vals xs us->r xs H Q ->
    wpAny (model X.prog X.w) X.A (call f us) (EP X ae σ Q) X.xe s
def aa2(X:Cx)(r:V->Hp->(Bool->Hp->Prop)->Prop):Prop :=
  ∀(ae:List (ab×Obj)) (s:au) (σ:St) (H:Hp) (x:V) (v:ag) (Q:Bool->Hp->Prop),Inv X ae σ H s->RelV x v->r x H Q ->
    wpAny (model X.prog X.w) X.A (truthy v) (TP X ae σ Q) X.xe s
def UL(r:R2)(ta tb:TE):TE:=λσ H Q=>ta σ H λx H1=>tb σ H1 λy H2=>r x y H2 Q
def tUn(r:V->Hp->VK->Prop)(ta:TE):TE:=λσ H Q=>ta σ H λx H1=>r x H1 Q
def rI(C:Int->Int->Prop)(g:Int->Int->V):R2:=λx y H Q=>∃i j,x=.int i/\y=.int j/\C i j/\Q (g i j) H
def BF(g:Int->Int->V):R2:=λx y H Q=>∃i j,x=.int i/\y=.int j/\Q (g i j) H
def rU(g:Int->V):V->Hp->VK->Prop:=λx H Q=>∃i,x=.int i/\Q (g i) H
section
variable {X:Cx} {a b c:aj} {ta tb tc:TE} {pos:Pos}
theorem Rl(ha:PE X a ta)(hb:PE X b tb){ae:List (ab×Obj)}{s:au}{σ:St}{H:Hp}{R:V->V->Hp->Prop}(I:Inv X ae σ H s)
    (h:ta σ H λx H1=>tb σ H1 λy H2=>R x y H2) {Q:cm} {f:ag->ag->Sem ag}
    (hf:∀v u s2 x y H2,Inv X ae σ H2 s2->RelV x v->RelV y u->R x y H2->wpAny (model X.prog X.w) X.A (f v u) Q X.xe s2) :
    wpAny (model X.prog X.w) X.A (eval a X.env) (λv s₁=>wpAny (model X.prog X.w) X.A (eval b X.env) (λu wu=>wpAny (model X.prog X.w) X.A (f v u) Q X.xe wu) X.xe s₁) X.xe s:=by
  refine thn (ha ae s σ H _ I h) λv s1 ⟨x,H1,I1,r1,q1⟩=>?_
  refine thn (hb ae s1 σ H1 _ I1 q1) λu s2 ⟨y,H2,I2,r2,q2⟩=>?_
  exact hf v u s2 x y H2 I2 r1 r2 q2
theorem Pl{op:Operator}{r:R2}(ho:OpR X (binaryOp op) r)(ha:PE X a ta)(hb:PE X b tb):PE X (.BinOp a op b pos) (UL r ta tb):=by
  intro ae s σ H Q I h;exact wpAny_BinOp (Rl ha hb I h λv u s2 x y H2 I2 rx ry q=>ho ae s2 σ H2 x y v u Q I2 rx ry q)
theorem Pm{op:UnaryOp}{r:V->Hp->VK->Prop}(ho:UnR X (unaryOp op) r)(ha:PE X a ta):PE X (.UnaryOp op a pos) (tUn r ta):=by
  intro ae s σ H Q I h;exact UnaryOp_ (thn (ha ae s σ H _ I h) λv s1 ⟨x,H1,I1,r1,q1⟩=>ho ae s1 σ H1 x v Q I1 r1 q1)
theorem Y0{f:ag->ag->Sem ag}{C:Int->Int->Prop}{g:Int->Int->Int}
    (rule:∀(i j:Int) (t u:Tok) (s:au) (Q:cm) (E:cm),C i j->Q (.int (g i j) s.toks) {s with toks:=s.toks+1}->wpAny (model X.prog X.w) X.A (f (.int i t) (.int j u)) Q E s) :
    OpR X f (rI C λi j=>.int (g i j)):=by
  intro ae s σ H x y v u Q I rx ry h;obtain⟨i,j,rfl,rfl,hc,q⟩:=h;obtain⟨t,rfl⟩:=rx;obtain⟨t',rfl⟩:=ry;exact rule i j t t' s _ _ hc ⟨.int (g i j),H,I.tok _,⟨_,rfl⟩,q⟩
theorem Ms{f:ag->ag->Sem ag}{g:Int->Int->Int}
    (rule:∀(i j:Int) (t u:Tok) (s:au) (Q:cm) (E:cm),Q (.int (g i j) s.toks) {s with toks:=s.toks+1}->wpAny (model X.prog X.w) X.A (f (.int i t) (.int j u)) Q E s) :
    OpR X f (BF λi j=>.int (g i j)):=by
  intro ae s σ H x y v u Q I rx ry h;obtain⟨i,j,rfl,rfl,q⟩:=h;obtain⟨t,rfl⟩:=rx;obtain⟨t',rfl⟩:=ry;exact rule i j t t' s _ _ ⟨.int (g i j),H,I.tok _,⟨_,rfl⟩,q⟩
theorem Mt{f:ag->ag->Sem ag}{g:Int->Int->Bool}
    (rule:∀(i j:Int) (t u:Tok) (s:au) (Q:cm) (E:cm),Q (.bool (g i j)) s->wpAny (model X.prog X.w) X.A (f (.int i t) (.int j u)) Q E s) :
    OpR X f (BF λi j=>.bl (g i j)):=by
  intro ae s σ H x y v u Q I rx ry h;obtain⟨i,j,rfl,rfl,q⟩:=h;obtain⟨t,rfl⟩:=rx;obtain⟨t',rfl⟩:=ry;exact rule i j t t' s _ _ ⟨.bl (g i j),H,I,rfl,q⟩
def aa3(i j:Int):Prop:=0<j/\j<1073741824
def aa4(i j:Int):Prop:=0<=j/\j<=1000000/\i.natAbs<2^64
def Rm(i j:Int):Prop:=(-(2^64)<i/\i<2^64)\/(-(2^64)<j/\j<2^64)
theorem Rm.ok{i j:Int}(h:Rm i j):IntMulOk i j:=by
  rcases h with⟨h1,h2⟩ | ⟨h1,h2⟩
  · exact .of_left (intBits_le_64 h1 h2)
  · exact .of_right (intBits_le_64 h1 h2)
theorem Rn:OpR X (binaryOp .Add) (BF λi j=>.int (i+j)):=Ms λ_ _ _ _ _ _ _ q=>add_int q
theorem Ro:OpR X (binaryOp .Sub) (BF λi j=>.int (i-j)):=Ms λ_ _ _ _ _ _ _ q=>sub_int q
theorem Rq:OpR X (binaryOp .Mult) (rI Rm λi j=>.int (i*j)):=Y0 λ_ _ _ _ _ _ _ hc q=>mul_int q hc.ok
theorem Mu:OpR X (binaryOp .FloorDiv) (rI aa3 λi j=>.int (i/j)):=Y0 λi j _ _ _ _ _ hc q=>by
  have h1:(0:Int)<j:=hc.1;have h2:j<1073741824:=hc.2;exact floordiv_int (by lia) (by rw[Int.fdiv_eq_ediv_of_nonneg i (by lia)];exact q) (.inl (PyProof.noPylong_small (by lia)))
theorem Rt:OpR X (binaryOp .Mod) (rI (λ_ j=>0<j) λi j=>.int (i%j)):=Y0 λi j _ _ _ _ _ hc q=>by
  have h1:(0:Int)<j:=hc;exact mod_int' (by lia) (by rw[Int.fmod_eq_emod_of_nonneg i (by lia)];exact q)
theorem Ru:OpR X (binaryOp .Pow) (rI aa4 λi j=>.int (i^j.toNat)):=Y0 λ_ _ _ _ _ _ _ hc q=>pow_int_small hc.1 hc.2.1 hc.2.2 q
theorem iop_add:OpR X (inplaceOp .Add) (BF λi j=>.int (i+j)):=Ms λ_ _ _ _ _ _ _ q=>iadd_int q
theorem Mv:OpR X (inplaceOp .Sub) (BF λi j=>.int (i-j)):=Ms λ_ _ _ _ _ _ _ q=>isub_int q
theorem unI{f:ag->Sem ag}{g:Int->Int}
    (rule:∀(i:Int) (t:Tok) (s:au) (Q:cm) (E:cm),Q (.int (g i) s.toks) {s with toks:=s.toks+1}->wpAny (model X.prog X.w) X.A (f (.int i t)) Q E s) :
    UnR X f (rU λi=>.int (g i)):=by
  intro ae s σ H x v Q I rx h;obtain⟨i,rfl,q⟩:=h;obtain⟨t,rfl⟩:=rx;exact rule i t s _ _ ⟨.int (g i),H,I.tok _,⟨_,rfl⟩,q⟩
theorem Ij:UnR X (unaryOp .USub) (rU λi=>.int (-i)):=unI λ_ _ _ _ _ q=>neg_int q
end
section
variable {X:Cx} {a b c:aj} {ta tb tc:TE} {pos:Pos}
theorem Ik{ae:List (ab×Obj)}{σ:St}{H:Hp}{s:au}{Q:VK}{k k':Bool}(I:Inv X ae σ H s)(q:Q (.bl k) H)(e:k=k'):EP X ae σ Q (.bool k') s:=by
  subst e;exact⟨.bl k,H,I,rfl,q⟩
theorem Pn:OpR X (compareOp .Lt) (BF λi j=>.bl (decide (i<j))):=Mt λ_ _ _ _ _ _ _ q=>lt_int q
theorem Vx:OpR X (compareOp .LtE) (BF λi j=>.bl (decide (i<=j))):=Mt λ_ _ _ _ _ _ _ q=>le_int q
theorem Vy:OpR X (compareOp .Gt) (BF λi j=>.bl (decide (j<i))):=Mt λ_ _ _ _ _ _ _ q=>gt_int q
theorem Vz:OpR X (compareOp .GtE) (BF λi j=>.bl (decide (j<=i))):=Mt λ_ _ _ _ _ _ _ q=>ge_int q
theorem Rv:OpR X (compareOp .Is) (λx y H Q=>y=.cE/\Q (.bl (decide (x=.cE))) H):=by
  intro ae s σ H x y v u Q I rx ry h;obtain⟨rfl,q⟩:=h;cases ry;refine is_none_gen (Ik I q ?_);cases x<;>first
    | (cases rx;rfl)
    | (obtain⟨t,rfl⟩:=rx;rfl)
theorem Mw:OpR X (compareOp .IsNot) (λx y H Q=>y=.cE/\Q (.bl (!decide (x=.cE))) H):=by
  intro ae s σ H x y v u Q I rx ry h;obtain⟨rfl,q⟩:=h;cases ry;refine isnot_none_gen (Ik I q ?_);cases x<;>first
    | (cases rx;rfl)
    | (obtain⟨t,rfl⟩:=rx;rfl)
theorem Mx{op:CmpOp}{r:R2}(ho:OpR X (compareOp op) r)(ha:PE X a ta)(hb:PE X b tb)(hm:behindInMarks op b=false):PE X (.Compare a [op] [b] pos) (UL r ta tb):=by
  intro ae s σ H Q I h;exact wpAny_Compare1 (Rl ha hb I h λv u s2 x y H2 I2 rx ry q=>ho ae s2 σ H2 x y v u Q I2 rx ry q) hm
def Po(t:TE):TT:=λσ H Q=>t σ H λx H'=>∃k,x=.bl k/\Q k H'
theorem mI{op:CmpOp}{r:R2}(ho:OpR X (compareOp op) r)(ha:PE X a ta)(hb:PE X b tb)(hm:behindInMarks op b=false):PT X (.Compare a [op] [b] pos) (Po (UL r ta tb)):=by
  intro ae s σ H Q I h;refine wpAny_isTrue_Compare1 (thn (ha ae s σ H _ I h) λv s1 ⟨x,H1,I1,r1,q1⟩=>thn (hb ae s1 σ H1 _ I1 q1) λu s2 ⟨y,H2,I2,r2,q2⟩ =>
    thn (ho ae s2 σ H2 x y v u _ I2 r1 r2 q2) λc s3 ⟨z,H3,I3,r3,k,e,q3⟩=>?_) hm
  subst e;cases r3;exact jr ⟨H3,I3,q3⟩
def Il(r r':R2)(ta tb tc:TE):TE:=λσ H Q=>ta σ H λx H1=>tb σ H1 λy H2=>r x y H2 λz H3=>∃k,z=.bl k /\
  (if k=true then tc σ H3 λw' H4=>r' y w' H4 Q else Q (.bl false) H3)
theorem Im{op wz:CmpOp}{r r':R2}(ho:OpR X (compareOp op) r)(tY:OpR X (compareOp wz) r')(ha:PE X a ta)(hb:PE X b tb)(hc:PE X c tc)
    (hm:lastMarks [op,wz] [b,c]=false:=by with_unfolding_all rfl):PE X (.Compare a [op,wz] [b,c] pos) (Il r r' ta tb tc):=by
  intro ae s σ H Q I h;refine Compare_chain (thn (ha ae s σ H _ I h) λv s1 ⟨x,H1,I1,r1,q1⟩=>chain_link (thn (hb ae s1 σ H1 _ I1 q1) λu s2 ⟨y,H2,I2,r2,q2⟩ =>
    thn (ho ae s2 σ H2 x y v u _ I2 r1 r2 q2) λd s3 ⟨z,H3,I3,r3,k,e,q3⟩=>?_)) hm
  subst e;cases r3;refine jr ?_;cases k with
  | false=>exact ite_ff ⟨.bl false,H3,I3,rfl,q3⟩
  | true=>exact ite_tt (chain_last (thn (hc ae s3 σ H3 _ I3 q3) λw' s4 ⟨z',H4,I4,r4,q4⟩=>tY ae s4 σ H4 y z' u w' Q I4 r2 r4 q4))
theorem Io{op wz:CmpOp}{r r':R2}(ho:OpR X (compareOp op) r)(tY:OpR X (compareOp wz) r')(ha:PE X a ta)(hb:PE X b tb)(hc:PE X c tc)
    (hm:lastMarks [op,wz] [b,c]=false:=by with_unfolding_all rfl):PT X (.Compare a [op,wz] [b,c] pos) (Po (Il r r' ta tb tc)):=by
  intro ae s σ H Q I h;refine isTrue_chain (thn (ha ae s σ H _ I h) λv s1 ⟨x,H1,I1,r1,q1⟩=>test_link (thn (hb ae s1 σ H1 _ I1 q1) λu s2 ⟨y,H2,I2,r2,q2⟩ =>
    thn (ho ae s2 σ H2 x y v u _ I2 r1 r2 q2) λd s3 ⟨z,H3,I3,r3,k,e,q3⟩=>?_)) hm
  subst e;cases r3;refine jr ?_;cases k with
  | false =>
    obtain⟨k',e',q'⟩:=q3;cases e';exact ite_ff ⟨H3,I3,q'⟩
  | true =>
    refine ite_tt (test_last (thn (hc ae s3 σ H3 _ I3 q3) λw' s4 ⟨z',H4,I4,r4,q4⟩=>thn (tY ae s4 σ H4 y z' u w' _ I4 r2 r4 q4) λd' s5 ⟨z2,H5,I5,r5,k2,e2,q5⟩=>?_))
    subst e2;cases r5;exact jr ⟨H5,I5,q5⟩
def VA(K:ah)(x:V)(H:Hp)(k:Bool):Prop :=
  match x with
  | .cE=>k=false
  | .bl b=>k=b
  | .int i=>k=(i != 0)
  | .str y=>y.length<=sizeLine/\k=((y.length:Int) != 0)
  | .UE y=>y.size<=sizeLine/\k=((y.size:Int) != 0)
  | .ref p=>(∃xs,lg K H p xs/\k = !xs.isEmpty)\/(∃xs,gO K H p xs/\k = !xs.isEmpty)\/∃kvs,H p=some (.dK kvs)/\k = !kvs.isEmpty
  | _=>False
theorem BG{κ:Type}{kvs:List (κ×V)}{vs:List (κ×ag)}(r:KV kvs vs):(!vs.isEmpty) = !kvs.isEmpty:=by
  cases r<;>rfl
theorem q9{xs:List V}{aQ:bW}(r:Vals xs aQ):(!aQ.toArray.isEmpty) = !xs.isEmpty:=by
  cases r<;>simp
theorem oh:(sizeLine:Nat)<2^63:=by rw[sizeLine_eq];decide
theorem Rx:aa2 X (λx H Q=>∃k,VA X.K x H k/\Q k H):=by
  intro ae s σ H x v Q I rx h;obtain⟨k,e,q⟩:=h;have hl:=oh;have hs:sizeLine=16777216:=sizeLine_eq;cases x with
  | cE =>
    cases rx;have e':k=false:=e;subst e';exact truthy_none ⟨H,I,q⟩
  | bl b =>
    cases rx;have e':k=b:=e;subst e';exact jr ⟨H,I,q⟩
  | int i =>
    obtain⟨t,rfl⟩:=rx;have e':k=(i != 0):=e;subst e';exact PySem.P.truthy_int ⟨H,I,q⟩
  | str y =>
    obtain⟨t,rfl⟩:=rx;obtain⟨hy,e'⟩:y.length<=sizeLine/\k=((y.length:Int) != 0):=e;subst e';exact PySem.P.truthy_str (by lia) ⟨H,I.tok _,q⟩
  | UE y =>
    obtain⟨t,rfl⟩:=rx;obtain⟨hy,e'⟩:y.size<=sizeLine/\k=((y.size:Int) != 0):=e;subst e';exact W.truthy_bytes (by lia) ⟨H,I.tok _,q⟩
  | ref p =>
    cases rx;have e':(∃xs,lg X.K H p xs/\k = !xs.isEmpty)\/(∃xs,gO X.K H p xs/\k = !xs.isEmpty)\/∃kvs,H p=some (.dK kvs)/\k = !kvs.isEmpty:=e
    rcases e' with⟨xs,hx,e'⟩ | ⟨xs,hx,e'⟩ | ⟨kvs,hx,e'⟩
    · subst e'
      obtain⟨aQ,r,pl,hz⟩:=I.list hx;have cD:=r.length;exact wpAny_truthy_list pl.isList (by simp only[bz];lia) ⟨H,I.tok _,by rw[q9 r];exact q⟩
    · subst e'
      obtain⟨aQ,r,pl,hz⟩:=I.tuple hx;have cD:=r.length;exact truthy_tuple pl (by simp only[bz];lia) ⟨H,I.tok _,by rw[q9 r];exact q⟩
    · subst e'
      obtain⟨hz,hS,vs,r,m⟩:kvs.length<=sizeLine/\(p==sysModules)=false/\∃vs,KV kvs vs/\s.heap.DictOf (eA X.prog X.w) p vs:=I.hok p _ hx
      have cD:kvs.length=vs.length:=v9 r;exact wpAny_truthy_dict hS m (by lia) ⟨H,I.tok _,by rw[BG r];exact q⟩
  | _=>exact(show False from e).elim
theorem BH:OpR X (binaryOp .Add) (λx y H Q=>∃i j,x=.str i/\y=.str j/\i.length+j.length<=sizeLine/\Q (.str (i++j)) H):=by
  intro ae s σ H x y v u Q I rx ry h;obtain⟨i,j,rfl,rfl,hz,q⟩:=h;obtain⟨t,rfl⟩:=rx;obtain⟨t',rfl⟩:=ry;exact add_str (λt' tk=>⟨.str (i++j),H,I.tok _,⟨_,rfl⟩,q⟩) hz
theorem i4{x:V}{us:bW}(r:Vals [x] us):∃u,us=[u]/\RelV x u:=by
  cases r with
  | cons r1 r2=>cases r2;exact⟨_,rfl,r1⟩
theorem Ip{x y:V}{us:bW}(r:Vals [x,y] us):∃u w',us=[u,w']/\RelV x u/\RelV y w':=by
  cases r with
  | cons r1 r2 =>
    cases r2 with
    | cons r3 r4=>cases r4;exact⟨_,_,rfl,r1,r3⟩
theorem uK:km X (.type "int") (λxs H Q=>(∃i,xs=[.int i]/\Q (.int i) H)\/∃k,xs=[.bl k]/\Q (.int (if k then 1 else 0)) H):=by
  intro ae s σ H xs us Q I r h;rcases h with⟨i,rfl,q⟩ | ⟨k,rfl,q⟩
  · obtain⟨u,rfl,t,rfl⟩:=i4 r
    exact call_int_int ⟨.int i,H,I,⟨_,rfl⟩,q⟩
  · obtain⟨u,rfl,r1⟩:=i4 r
    cases r1;exact call_int_bool ⟨.int (if k then 1 else 0),H,I.tok _,⟨_,rfl⟩,q⟩
theorem wA:km X (.type "str") (λxs H Q=>∃i,xs=[.int i]/\i.natAbs.log2<1920/\Q (.str (toString i)) H):=by
  intro ae s σ H xs us Q I r h;obtain⟨i,rfl,hz,q⟩:=h;obtain⟨u,rfl,t,rfl⟩:=i4 r;exact PySem.P.str_of_int hz ⟨.str _,H,I.tok _,⟨_,rfl⟩,q⟩
end
structure Fj (h:Heap) (x dx C:ab) (mA:cZ):Prop where
  obj:h.get? x=some (W.instObj C dx)
  ns:h.Ns1 dx mA
  ne:dx≠x
theorem Fl{h:Heap}{dx:ab}{mA:cZ}(n:h.Ns1 dx mA):∃od,h.get? dx=some od/\∀name,W.lookIn name od=some (mA name):=by
  obtain⟨o,es,ep,ho,hd,hk,_,hm⟩:=n;refine⟨o,ho,λname=>?_⟩
  have e:=hm name;unfold nsFind findBy at e;rw[<-Array.find?_toList]at e;unfold W.lookIn;rw[hd];dsimp only
  split
  · rename_i y q
    rw[q]at e;exact c9 some e
  · rename_i q
    rw[q]at e;have a:es.toList.any (·.refKey)=false:=by
      rw[List.any_eq_false];intro y hy;obtain⟨z,t,Ry⟩:=hk y (A7.mp hy);simp[DictEntry.refKey,Ry]
    have a':¬es.toList.any (·.refKey)=true:=by rw[a];exact gI
    rw[if_neg a'];exact c9 some e
theorem Fj.VB{h:Heap}{x dx C:ab}{mA:cZ}(I:Fj h x dx C mA):∃od,W.InstAt h x (W.instObj C dx) C (some od)/\∀name,W.lookIn name od=some (mA name) :=
  let ⟨od,ho,hl⟩:=Fl I.ns
  ⟨od,⟨I.obj,rfl,rfl,ho⟩,hl⟩
section
variable {prog:bh} {w:aM} {A:bA} {E:cm} {s:au} {K:ah} {x dx C f:ab} {mA:cZ} {name:Str} {v:ag}
theorem My{expr:Bool}{Q:cm}(X:K.In s.heap)(I:Fj s.heap x dx C mA)(hg:W.plainGet K C name=true)(hh:W.hasDictIn K C=true)
    (ha:W.findIn K (.ref C) name=some none) (hv:mA name=some v) (Rz:W.handedIn v=true) (h:Q v {s with toks:=s.toks+1}) :
    wpAny (model prog w) A (getAttr (.ref x) name expr) Q E s:=by
  obtain⟨od,J,hl⟩:=I.VB;exact W.get_value X J (W.plainGet_of hg).1 (W.findObj_own hh ha rfl (by rw[hl,hv])) Rz h
theorem Mz{ns:List Str}{Q:Unit->au->Prop}(X:K.In s.heap)(I:Fj s.heap x dx C mA)
    (hs:W.findIn K (.ref C) "__setattr__"=some (some (.builtin "object.__setattr__"))) (hp:W.plainOver K C=true) (ht:W.takerIn K C name=some none) (hh:W.hasDictIn K C=true)
    (hw:PySem.Within mA ns) (hsz:ns.length<=sizeLine)
    (h:∀h',Fj h' x dx C (λy=>if y=name then some v else mA y)->Heap.SameBut dx s.heap h'->Q () {s with heap:=h',toks:=s.toks+2}) :
    wpAny (model prog w) A (setAttr (.ref x) name v) Q E s:=by
  obtain⟨od,J,hl⟩:=I.VB;refine W.set_plain X J hs (W.osa_open (s:={s with toks:=s.toks+1}) (r:=none) X J hp ht λb=>?_)
  obtain⟨cd,hc,t7⟩:=W.any_some hh;have hx:s.heap.get? x=some ⟨.ref C,some dx,.plain,#[]⟩:=I.obj;refine ai (ax (ai (ai (wpAny_loadPart hx (ai (W.Looks.here (s:={s with toks:=s.toks+1}) (W.looks_clsIn X hc) ?_))))))
  rw[t7];refine ax (a:=some dx) (ai (ax (ai ?_)));refine wpAny_nsSet1 (s:={s with toks:=s.toks+1}) I.ns λh' Y1 Ie=>?_
  obtain⟨oD,esD,epD,hoD,hdD,hcD⟩:=Y1.count (PySem.Within.cons name v hw);refine ai (wpAny_lookBehind hoD (by rw[hdD];exact pastItsLine_dict (b0 hcD (by rw[aW];lia))) ?_)
  exact ax (h _ ⟨(Ie.2 _ (dF I.ne)).trans I.obj,Y1,I.ne⟩ Ie)
theorem Iq{R:Result->au->Prop}{vs:bW}{kw:List (Str×ag)}(X:K.In s.heap)(hm:W.makesIn K C=true)
    (hi:W.findIn K (.ref C) "__init__"=some (some (.ref f))) (hf:W.typeIn K (.ref f)=some (.type "function"))
    (h:codeAny (model prog w) (A.under (.builtin "type.__call__" ⟨.ref C::vs,kw⟩)) (.call (.ref f) ⟨.ref (s.heap.objs.size+1)::vs,kw⟩) (W.InitBack (s.heap.objs.size+1) R)
      {s with heap:=(s.heap.push W.emptyDict).push (W.instObj C s.heap.objs.size)}) :
    codeAny (model prog w) A (.call (.ref C) ⟨vs,kw⟩) R s:=by
  obtain⟨hh,g,d,t,os⟩:=s;exact W.make_core (W.makes_of X hm) (W.looks_findIn X hi) (λself=>W.bind_fn X self hf) (.inl rfl) h
end
def jT(f:Str)(v:V):List (Str×V)->List (Str×V)
  | []=>[(f,v)]
  | (g,x)::r=>if g=f then(g,v)::r else(g,x)::jT f v r
theorem oX(f g:Str)(v:V):∀fs:List (Str×V),(jT f v fs).lookup g=if g=f then some v else fs.lookup g
  | []=>by
    show List.lookup g [(f,v)]=_;by_cases h:g=f
    · have hb:(g==f)=true:=lW.mpr h
      simp only[List.lookup,hb,if_pos h]
    · have hb:(g==f)=false:=iH.mpr h
      simp only[List.lookup,hb,if_neg h]
  | (k,x)::r=>by
    have ih:=oX f g v r;rw[show jT f v ((k,x)::r)=(if k=f then(k,v)::r else(k,x)::jT f v r)from rfl]
    by_cases hk:k=f
    · rw[if_pos hk]
      by_cases h:g=k
      · have hb:(g==k)=true:=lW.mpr h
        simp only[List.lookup,hb,if_pos (h.trans hk)]
      · have hb:(g==k)=false:=iH.mpr h
        simp only[List.lookup,hb,if_neg (λe:g=f=>h (e.trans hk.symm))]
    · rw[if_neg hk]
      by_cases h:g=k
      · have hb:(g==k)=true:=lW.mpr h
        simp only[List.lookup,hb,if_neg (λe:g=f=>hk (h.symm.trans e))]
      · have hb:(g==k)=false:=iH.mpr h
        simp only[List.lookup,hb];exact ih
theorem oi(f:Str)(v:V):∀fs:List (Str×V),f∈(jT f v fs).map (·.1)/\∀g,g∈fs.map (·.1)->g∈(jT f v fs).map (·.1)
  | []=>⟨by simp[jT],λg h=>by simp at h⟩
  | (k,x)::r=>by
    obtain⟨i1,i2⟩:=oi f v r;rw[show jT f v ((k,x)::r)=(if k=f then(k,v)::r else(k,x)::jT f v r)from rfl]
    by_cases hk:k=f
    · rw[if_pos hk]
      subst hk;exact⟨by simp,λg h=>by simpa using h⟩
    · rw[if_neg hk]
      refine⟨?_,λg h=>?_⟩
      · rw[bC]
        exact bx _ i1
      · rw[bC]at h ⊢
        rcases aZ.mp h with e | e
        · exact aZ.mpr (.inl e)
        · exact bx _ (i2 g e)
theorem oY(f:Str)(v:V):∀fs:List (Str×V),(jT f v fs).length<=fs.length+1
  | []=>by simp[jT]
  | (k,x)::r=>by
    have ih:=oY f v r;rw[show jT f v ((k,x)::r)=(if k=f then(k,v)::r else(k,x)::jT f v r)from rfl]
    by_cases hk:k=f
    · rw[if_pos hk,aW,aW];lia
    · rw[if_neg hk,aW,aW];lia
theorem qV.MA{v:V}{o:lb}(r:qV (some v) o):∃u,o=some u/\RelV v u:=by
  cases o with
  | none=>exact(show False from r).elim
  | some u=>exact⟨u,rfl,r⟩
theorem Fm{v:V}{u:ag}(r:RelV v u):W.handedIn u=true:=by
  cases v with
  | cE=>cases(show u=Value.none from r);rfl
  | bl b=>cases(show u=Value.bool b from r);rfl
  | int i=>obtain⟨t,e⟩:=(show ∃t,u=Value.int i t from r);cases e;rfl
  | str x=>obtain⟨t,e⟩:=(show ∃t,u=Value.str x t from r);cases e;rfl
  | UE b=>obtain⟨t,e⟩:=(show ∃t,u=Value.bytes b t from r);cases e;rfl
  | YR b=>obtain⟨t,e⟩:=(show ∃t,u=Value.float b t from r);cases e;rfl
  | ref a=>cases(show u=Value.ref a from r);rfl
  | ty n=>cases(show u=Value.type n from r);rfl
section
variable {P:bh} {w:aM} {H H':Hp} {h h':Heap} {a C dx:ab} {fs QZ:List (Str×V)}
theorem DB(hok:mF P w H h)(e:H a=some (.pK C dx fs)):∃mA,Fj h a dx C mA/\(∀f,qV (fs.lookup f) (mA f))/\PySem.Within mA (fs.map (·.1))/\fs.length<=1000/\H dx=some (.own a):=by
  obtain⟨d,z,ne,ob,mA,n,r,q⟩:=(show dB P w H h a (.pK C dx fs)from hok a _ e)
  exact⟨mA,⟨ob,n,ne⟩,r,q,z,d⟩
end
theorem Br.get{K:ah}{C:ab}(c:Br K C)(f:Str):W.plainGet K C f=true:=c.pg
theorem d9.VC{K:ah}{C:ab}{f:Str}(n:d9 K C f):W.takerIn K C f=some none:=by
  unfold W.takerIn;rw[show W.findIn K (.ref C) f=some none from n]
  rfl
section
variable {X:Cx} {ae:List (ab×Obj)} {σ:St} {H:Hp} {s:au} {a C dx:ab} {fs:List (Str×V)} {f:Str} {v:V} {A:bA} {E:cm}
theorem BI{b:Bool}{Q:cm}(I:Inv X ae σ H s)(e:H a=some (.pK C dx fs))(c:Br X.K C)(n:d9 X.K C f)(l:fs.lookup f=some v)
    (h:∀u s',Inv X ae σ H s'->RelV v u->Q u s'):wpAny (model X.prog X.w) A (getAttr (.ref a) f b) Q E s:=by
  obtain⟨mA,O,r,_,_,_⟩:=DB I.hok e;obtain⟨u,hu,ru⟩:=qV.MA (v:=v) (o:=mA f) (by rw[<-l];exact r f)
  exact My I.oW O (c.get f) c.hd n hu (Fm ru) (h u _ (I.tok _) ru)
theorem BJ{y:V}{u:ag}{Q:Unit->au->Prop}(I:Inv X ae σ H s)(e:H a=some (.pK C dx fs))(c:Br X.K C)(n:d9 X.K C f)(hl:fs.length<1000)(ry:RelV y u)
    (h:∀s',Inv X ae σ (upd H a (.pK C dx (jT f y fs))) s'->Q () s'):wpAny (model X.prog X.w) A (setAttr (.ref a) f u) Q E s:=by
  obtain⟨mA,O,r,wi,_,ho⟩:=DB I.hok e;have hz:(fs.map (·.1)).length<=sizeLine:=by rw[aH,sizeLine_eq];lia
  refine Mz I.oW O c.sa c.po n.VC c.hd wi hz λh' O' sb=>h _ ?_
  have hd:∃o,h'.get? dx=some o:=let ⟨o,_,_,e',_⟩:=O'.ns;⟨o,e'⟩
  refine I.write (x:=a) (e:=dx) (by rw[e];exact True.intro) (.inr ho) (λb q hb z=>(sb.2 b hb).trans z) hd ?_
  refine⟨by rw[upd_ne O.ne];exact ho,?_,O.ne,O'.obj,_,O'.ns,λg=>?_,λg hg=>?_⟩
  · have:=oY f y fs;lia
  · show qV ((jT f y fs).lookup g) (if g=f then some u else mA g)
    rw[oX];by_cases q:g=f
    · rw[if_pos q,if_pos q];exact ry
    · rw[if_neg q,if_neg q];exact r g
  · by_cases q:g=f
    · rw[q];exact(oi f y fs).1
    · refine(oi f y fs).2 g (wi g λz=>hg ?_)
      show(if g=f then some u else mA g)=none
      rw[if_neg q];exact z
theorem Inv.made(I:Inv X ae σ H s):Inv X ae σ (upd (upd H s.heap.objs.size (.own (s.heap.objs.size+1))) (s.heap.objs.size+1) (.pK C s.heap.objs.size []))
    {s with heap:=(s.heap.push W.emptyDict).push (W.instObj C s.heap.objs.size)}:=by
  have e1:(s.heap.push W.emptyDict).get? s.heap.objs.size=some W.emptyDict:=cW s.heap rfl;have e2:((s.heap.push W.emptyDict).push (W.instObj C s.heap.objs.size)).get? (s.heap.objs.size+1)=some (W.instObj C s.heap.objs.size):=by
    have:=cW (s.heap.push W.emptyDict) (o:=W.instObj C s.heap.objs.size) rfl
    rwa [gX]at this
  have e3:(s.heap.push W.emptyDict).Ns s.heap.objs.size (λ_=>none):=⟨W.emptyDict,#[],_,e1,rfl,(λe he=>absurd he (by simp)),λ_=>rfl⟩
  have I1:=I.laid (a:=s.heap.objs.size) (o:=.own (s.heap.objs.size+1)) (h':=s.heap.push W.emptyDict) (t':=s.toks) (λb u q=>bR _ q) (aR _) ⟨_,e1⟩
  refine I1.laid (a:=s.heap.objs.size+1) (o:=.pK C s.heap.objs.size []) (t':=s.toks) (λb u q=>bR _ q) (lU (gX _ _)) ?_
  have ne:s.heap.objs.size≠s.heap.objs.size+1:=b9 (nV _);refine⟨by rw[upd_ne ne,az],dP _,ne,e2,λ_=>none,(Heap.Ns1.of_empty e3).at λo q=>bR _ q,λ_=>True.intro,λy hy=>absurd rfl hy⟩
theorem MB{prog:bh}{w:aM}{env:Env}{e:aj}{f:Str}{pos:Pos}{s:au}{Q:cm}(hb:attributeBase e f env (eval e env)=eval e env)
    (h:wpAny (model prog w) A (eval e env) (λo s₁=>wpAny (model prog w) A (getAttr o f true) Q E s₁) E s):wpAny (model prog w) A (eval (.Attribute e f pos) env) Q E s :=
  Attribute_any_ h (by rw[arm_eval_Attribute,hb])
end
def aa5(K:ah)(ta:TE)(f:Str):TE:=λσ H Q=>ta σ H λx H1=>∃a C dx fs v,x=.ref a/\H1 a=some (.pK C dx fs)/\Br K C/\d9 K C f/\fs.lookup f=some v/\Q v H1
def aa6(K:ah)(ta tv:TE)(f:Str):TS:=λD σ H=>tv σ H λy H1=>ta σ H1 λx H2=>∃a C dx fs,x=.ref a/\H2 a=some (.pK C dx fs)/\Br K C/\d9 K C f/\fs.length<1000 /\
  D.nx σ (upd H2 a (.pK C dx (jT f y fs)))
section
variable {X:Cx} {o e value:aj} {f:Str} {pos eY RA:Pos} {ta tv:TE}
theorem RB(he:PE X e ta)(hb:attributeBase e f X.env (eval e X.env)=eval e X.env):PE X (.Attribute e f pos) (aa5 X.K ta f):=by
  intro ae s σ H Q I h;refine MB hb (thn (he ae s σ H _ I h) λu s1 ⟨x,H1,I1,rx,a,C,dx,fs,v,ex,ea,c,n,l,q⟩=>?_)
  subst ex;obtain rfl:u=Value.ref a:=rx;exact BI I1 ea c n l λu' s2 I2 ru=>⟨v,H1,I2,ru,q⟩
theorem RC(ha:PE X o ta)(hv:PE X value tv)(hs:swapsWith value (some (.Attribute o f eY)) pos.line X.env=pure false):PS X (.Assign [.Attribute o f eY] value pos) (aa6 X.K ta tv f):=by
  intro ae s σ H D I h;refine plainObj_wpAny_Assign_Attribute (thn (hv ae s σ H _ I h) λu s1 ⟨y,H1,I1,ry,q⟩=>thn (ha ae s1 σ H1 _ I1 q) λov s2 ⟨x,H2,I2,rx,a,C,dx,fs,ex,ea,c,n,l,q2⟩=>?_) hs
  subst ex;obtain rfl:ov=Value.ref a:=rx;exact BJ I2 ea c n l ry λs3 I3=>⟨σ,_,I3,q2⟩
end
structure dg (k:Nat) (A:bA):Prop where
  hd:A.handled=none
  dp:A.depth+3*k+5<recursionLimit
  un:A.units+16*k+1200<cLine
theorem dg.mono{j k:Nat}{A:bA}(r:dg k A)(h:j<=k):dg j A:=⟨r.hd,by have:=r.dp;lia,by have:=r.un;lia⟩
theorem dg.deeper{k:Nat}{A:bA}(r:dg (k+1) A)(env:Env):dg k (A.deeper env) :=
  ⟨r.hd,by have:=r.dp;show A.depth+1+3*k+5<_;lia,by have:=r.un;show A.units+3+16*k+1200<_;lia⟩
theorem BK{A:bA}{C:ab}{us:bW}{kw:List (Str×ag)}:(A.under (.builtin "type.__call__" ⟨.ref C::us,kw⟩)).depth=A.depth+1:=by
  first | rfl | simp[Around.under,Code.weight,Code.isCreation,Code.isGuard,Code.isCaller,Code.frames,Code.isFrame,guardIds]
theorem BL{A:bA}{C:ab}{us:bW}{kw:List (Str×ag)}:(A.under (.builtin "type.__call__" ⟨.ref C::us,kw⟩)).units=A.units+1:=by
  first | rfl | simp[Around.under,Code.cUnits,Code.frames,Code.isFrame]
theorem dg.make{k:Nat}{A:bA}(r:dg (k+1) A)(C:ab)(us:bW)(kw:List (Str×ag)):dg k (A.under (.builtin "type.__call__" ⟨.ref C::us,kw⟩)) :=
  ⟨r.hd,by have:=r.dp;rw[BK];lia,by have:=r.un;rw[BL];lia⟩
theorem dg.depth{k:Nat}{A:bA}(r:dg k A):A.depth<recursionLimit:=by have:=r.dp;lia
theorem dg.units{k:Nat}{A:bA}(r:dg k A):A.units+64<cLine:=by have:=r.un;lia
def aa7:TA:=λ_ H Q=>Q [] H
def Pp(ta:TE)(tr:TA):TA:=λσ H Q=>ta σ H λx H1=>tr σ H1 λxs H2=>Q (x::xs) H2
section
variable {X:Cx} {e:aj} {es:List aj} {te:TE} {t:TA} {pos:Pos}
theorem gZ:PA X [] aa7:=λ_ _ _ _ H Q I h=>Calls.spliced_nil ⟨[],H,I,.nil,h⟩
theorem cL(ha:PE X e te)(hr:PA X es t)(hs:starEach (e::es) X.env=(false,eval e X.env)::starEach es X.env:=by rfl):PA X (e::es) (Pp te t):=by
  intro pos ae s σ H Q I h;rw[hs];show wpAny _ _ (spliced ((false,eval e X.env)::backTo pos (starEach es X.env))) _ _ s;refine Calls.spliced_cons (thn (ha ae s σ H _ I h) λu s1 ⟨x,H1,I1,r1,q1⟩=>?_)
  exact thn (hr pos ae s1 σ H1 _ I1 q1) λus s2 ⟨xs,H2,I2,r2,q2⟩=>⟨x::xs,H2,I2,.cons r1 r2,q2⟩
def aa8(t:TA):TE:=λσ H Q=>t σ H λxs H1=>xs.length<=sizeLine/\∀p,H1 p=none->Q (.ref p) (upd H1 p (.aI xs))
def aa9(t:TA):TE:=λσ H Q=>t σ H λxs H1=>xs.length<=sizeLine/\∀p,H1 p=none->Q (.ref p) (upd H1 p (.aA xs))
theorem RD{x1}(h:PA X es t):PE X (.Tuple es x1 pos) (aa8 t):=by
  intro ae s σ H Q I hq;refine wpAny_Tuple_spliced (thn (h pos ae s σ H _ I hq) λus s1 ⟨xs,H1,I1,r,z,q⟩=>⟨by rw[<-r.length];exact z,?_⟩)
  have hf:H1 s1.heap.objs.size=none:=I1.hok.fresh (aR _);refine⟨.ref s1.heap.objs.size,upd H1 s1.heap.objs.size (.aI xs),I1.laid (t':=s1.toks) (λb u e=>bR _ e) (aR _) ?_,rfl,q _ hf⟩
  exact⟨z,us,r,⟨_,cW _ rfl,rfl,_,rfl⟩⟩
theorem Ir(h:PA X es t):PE X (.List es pos) (aa9 t):=by
  intro ae s σ H Q I hq;refine wpAny_List_spliced (thn (h pos ae s σ H _ I hq) λus s1 ⟨xs,H1,I1,r,z,q⟩=>⟨by rw[<-r.length];exact z,?_⟩)
  have hf:H1 s1.heap.objs.size=none:=I1.hok.fresh (aR _);refine⟨.ref s1.heap.objs.size,upd H1 s1.heap.objs.size (.aA xs),I1.laid (t':=s1.toks) (λb u e=>bR _ e) (aR _) ?_,rfl,q _ hf⟩
  exact⟨z,us,0,r,cW _ rfl⟩
end
abbrev Sp:=List V->Hp->VK->XK->Prop
abbrev Dm:=List Env->Hp->au->XK->cm
structure Env0 (P:bh) (w:aM) (K:ah) (mg:cZ) (base:Heap) (A:bA) (outer:List Env) (s:au) (H:Hp):Prop where
  frames:A.frames=some outer
  mod:Mod K mg base
  bs:∀b o,base.get? b=some o->s.heap.get? b=some o/\H b=none
  bsz:base.objs.size<=s.heap.objs.size
  funs:s.heap.FunFrames base outer
  frf:∀b∈AK outer,H b=none
  hok:mF P w H s.heap
  bare:AllBare s.gens
  tabs:qW K H
def CE(outer:List Env)(P:bh)(w:aM)(H:Hp)(s:au)(Q:VK)(u:ag)(s':au):Prop :=
  ∃v H',s'.os=s.os/\AllBare s'.gens/\Un (AK outer) [] H H' s.heap s'.heap/\mF P w H' s'.heap/\RelV v u/\Q v H'
def CR(CX:Dm)(outer:List Env)(P:bh)(w:aM)(H:Hp)(s:au)(Q:VK)(E:XK)(r:Result)(s':au):Prop :=
  match r with
  | .ok (.ret u)=>CE outer P w H s Q u s'
  | .ok _=>False
  | .error e=>CX outer H s E e s'
structure FnOk (P:bh) (w:aM) (K:ah) (mg:cZ) (base:Heap) (CX:Dm) (k:Nat) (f:ab) (fd:dk) (ps:List Str) (sp:Sp):Prop where
  len:∀vs H Q E,sp vs H Q E->vs.length=ps.length
  run:∀(A:bA) (outer:List Env) (s:au) (H:Hp) (args:Args) (us:bW) (vs:List V) (Q:VK) (E:XK),dg k A->Env0 P w K mg base A outer s H->BindsTo s fd args (ps.zip us)->Vals vs us->sp vs H Q E ->
    codeAny (model P w) A (.call (.ref f) args) (CR CX outer P w H s Q E) s
theorem Env0.make{P:bh}{w:aM}{K:ah}{mg:cZ}{base:Heap}{A:bA}{outer:List Env}{s:au}{H:Hp}(e:Env0 P w K mg base A outer s H)(C:ab)(us:bW)(kw:List (Str×ag)) :
    Env0 P w K mg base (A.under (.builtin "type.__call__" ⟨.ref C::us,kw⟩)) outer s H:=⟨by first | exact e.frames | (simpa[Around.under,Code.envs,Code.isFrame,pushEnvs]using e.frames),e.mod,e.bs,e.bsz,e.funs,e.frf,e.hok,e.bare,e.tabs⟩
section
variable {X:Cx} {ae:List (ab×Obj)} {σ:St} {H:Hp} {s s':au}
theorem Inv.MC(I:Inv X ae σ H s):Env0 X.prog X.w X.K X.mg X.base X.A X.stack s H :=
  ⟨I.ok.frames,I.ok.mod,I.bs,b0 I.ok.bsz I.sz,I.stack,I.Dw,I.hok,I.bare,I.tabs⟩
theorem Inv.after{Q:VK}{u:ag}(I:Inv X ae σ H s)(h:CE X.stack X.prog X.w H s Q u s'):EP X ae σ Q u s':=by
  obtain⟨v,H',os,bare,un,hok,r,q⟩:=h;obtain⟨hh,g,d,t,RE⟩:=s';obtain rfl:RE=s.os:=os;exact⟨v,H',I.call (h':=hh) (g':=g) (d':=d) (t':=t) (ch:=[]) un hok bare (λb z=>absurd z (by simp)),r,q⟩
end
def uL(sp:Sp)(AI:List V)(E:XK)(t:TA):TE:=λσ H Q=>t σ H λvs H1=>sp (vs++AI) H1 Q E
def VD(C:ab)(sp:Sp)(AI:List V)(E:XK)(t:TA):TE:=λσ H Q=>t σ H λvs H1=>∀x dx,H1 x=none->H1 dx=none->dx≠x ->
  sp (.ref x::(vs++AI)) (upd (upd H1 dx (.own x)) x (.pK C dx [])) (λv H2=>v=.cE/\Q (.ref x) H2) E
def dS(K:ah)(fd:dk)(ps:List Str)(ds:bW):Prop :=
  ∀(s:au) (us:bW),K.In s.heap->(us++ds).length=ps.length->BindsTo s fd ⟨us,[]⟩ (ps.zip (us++ds))
theorem dS.all{K:ah}{fd:dk}{ps:List Str}(h:∀us:bW,us.length=ps.length->bindArgs fd ⟨us,[]⟩=pure (ps.zip us)):dS K fd ps []:=λs us _ hl=>by
  rw[dE]at hl ⊢;exact .of_eq (h us hl)
def rb(CX:Dm)(X:Cx)(E:XK):Prop:=∀(ae:List (ab×Obj)) (σ:St) (H:Hp) (s:au) (e:ag) (s':au),Inv X ae σ H s->CX X.stack H s E e s'->X.xe e s'
section
variable {X:Cx} {CX:Dm} {k:Nat} {f C:ab} {fd:dk} {ps:List Str} {sp:Sp} {AI:List V} {ds:bW} {E:XK} {x m:Str} {p pos wb:Pos} {e o:aj} {es:List aj} {ta:TE} {t:TA}
theorem wB{ae:List (ab×Obj)}{σ:St}{H:Hp}{s:au}{Q:VK}{us:bW}{vs:List V}(F:FnOk X.prog X.w X.K X.mg X.base CX k f fd ps sp)(hr:dg k X.A)(hb:dS X.K fd ps ds)(hd:Vals AI ds)(hx:rb CX X E)
    (I:Inv X ae σ H s) (r:Vals vs us) (h:sp (vs++AI) H Q E):wpAny (model X.prog X.w) X.A (call (.ref f) us) (EP X ae σ Q) X.xe s:=by
  have r2:Vals (vs++AI) (us++ds):=r.append hd;have hl:(us++ds).length=ps.length:=by rw[<-r2.length];exact F.len _ _ _ _ h
  refine n8 (iO (F.run X.A X.stack s H ⟨us,[]⟩ (us++ds) (vs++AI) Q E hr I.MC (hb s us I.oW hl) r2 h) λr s' hq=>?_)
  cases r with
  | error e=>exact hx ae σ H s e s' I hq
  | ok fl =>
    cases fl with
    | ret u=>exact I.after hq
    | next=>exact False.elim hq
    | brk=>exact False.elim hq
    | cont=>exact False.elim hq
theorem kU(F:FnOk X.prog X.w X.K X.mg X.base CX k f fd ps sp)(hr:dg k X.A)(hg:Gl X x)(hm:X.mg x=some (.ref f))(hk:W.keepIn X.K (.ref f)=true)(hb:dS X.K fd ps ds)(hd:Vals AI ds)(hx:rb CX X E)
    (ha:PA X (e::es) t) (pM:(x==("__debug__":Str))=false:=by decide) (he:starEach (e::es) X.env=(false,eval e X.env)::starEach es X.env:=by rfl) (jt:(backTo pos (starEach es X.env)).any (·.1)=false:=by rfl) :
    PE X (.Call (.Name x p) (e::es) [] pos) (uL sp AI E t):=by
  intro ae s σ H Q I h;refine jo (ld_glob I hg hm ?_ pM);refine W.callWith_K (h₀:=X.base) I.ok.mod.kin hk (thn (ha pos ae s σ H _ I h) λus s1 ⟨vs,H1,I1,r,q⟩=>⟨I1.oW,?_⟩) he jt
  exact wB F hr hb hd hx I1 r q
theorem Iu{ae:List (ab×Obj)}{σ:St}{H:Hp}{s:au}{Q:VK}{us:bW}{vs:List V}(M:Mk X.K C f)(F:FnOk X.prog X.w X.K X.mg X.base CX k f fd ps sp)(hr:dg (k+1) X.A)(hb:dS X.K fd ps ds)(hd:Vals AI ds)
    (hx:rb CX X E) (I:Inv X ae σ H s) (r:Vals vs us)
    (h:∀x dx,H x=none->H dx=none->dx≠x->sp (.ref x::(vs++AI)) (upd (upd H dx (.own x)) x (.pK C dx [])) (λv H2=>v=.cE/\Q (.ref x) H2) E) :
    wpAny (model X.prog X.w) X.A (call (.ref C) us) (EP X ae σ Q) X.xe s:=by
  have hq:=h (s.heap.objs.size+1) s.heap.objs.size (I.hok.fresh (n6 _)) (I.hok.fresh (aR _)) (b9 (nV _));have I2:=Inv.made (C:=C) I;have r2:Vals (V.ref (s.heap.objs.size+1)::(vs++AI)) (Value.ref (s.heap.objs.size+1)::(us++ds)):=.cons rfl (r.append hd);have hl:(Value.ref (s.heap.objs.size+1)::us++ds).length=ps.length:=by
    have e:=r2.length;rw[F.len _ _ _ _ hq]at e;exact e.symm
  refine n8 (Iq (f:=f) I.oW M.makes M.init (lW.mp M.fn) (iO (F.run _ X.stack _ _ ⟨Value.ref (s.heap.objs.size+1)::us,[]⟩ (Value.ref (s.heap.objs.size+1)::(us++ds)) _ _ E (hr.make C us [])
    (I2.MC.make C us []) (hb _ (Value.ref (s.heap.objs.size+1)::us) I2.oW hl) r2 hq) λr s' DC=>?_))
  cases r with
  | error e=>exact hx ae σ _ _ e s' I2 DC
  | ok fl =>
    cases fl with
    | ret u =>
      obtain⟨v,H',I3,rv,ev,q3⟩:=I2.after DC;subst ev;exact⟨rv,⟨V.ref (s.heap.objs.size+1),H',I3,rfl,q3⟩⟩
    | next=>exact False.elim DC
    | brk=>exact False.elim DC
    | cont=>exact False.elim DC
theorem MD(M:Mk X.K C f)(F:FnOk X.prog X.w X.K X.mg X.base CX k f fd ps sp)(hr:dg (k+1) X.A)(hg:Gl X x)(hm:X.mg x=some (.ref C))(hb:dS X.K fd ps ds)(hd:Vals AI ds)(hx:rb CX X E)
    (ha:PA X (e::es) t) (pM:(x==("__debug__":Str))=false:=by decide) (he:starEach (e::es) X.env=(false,eval e X.env)::starEach es X.env:=by rfl) (jt:(backTo pos (starEach es X.env)).any (·.1)=false:=by rfl) :
    PE X (.Call (.Name x p) (e::es) [] pos) (VD C sp AI E t):=by
  intro ae s σ H Q I h;refine jo (ld_glob I hg hm ?_ pM);refine W.callWith_K (h₀:=X.base) I.ok.mod.kin M.kp (thn (ha pos ae s σ H _ I h) λus s1 ⟨vs,H1,I1,r,q⟩=>⟨I1.oW,?_⟩) he jt
  exact Iu M F hr hb hd hx I1 r q
end
theorem uM{kindOf:Str->Option NameKind}{x:Str}:∀{yU:List (Str×ag)} {m:cZ},(∀v,(x,v)∉yU)->bindL kindOf yU m x=m x
  | [],_,_=>rfl
  | (n,v)::r,m,h=>by
    unfold bindL;rw[uM λw hw=>h w (bx _ hw)]
    split
    · have:x≠n:=by rintro rfl;exact h v bE
      simp[this]
    · rfl
theorem uN{kindOf:Str->Option NameKind}{x:Str}:∀{yU:List (Str×ag)} {m:cZ},(∀v,(x,v)∉yU)->bindC kindOf yU m x=m x
  | [],_,_=>rfl
  | (n,v)::r,m,h=>by
    unfold bindC;rw[uN λw hw=>h w (bx _ hw)]
    split
    · rfl
    · have:x≠n:=by rintro rfl;exact h v bE
      simp[this]
theorem uO{kindOf:Str->Option NameKind}{x:Str}{v:ag}:∀{P:List Str} {vs:bW} {i:Nat} {m:cZ},P.Nodup->P[i]?=some x->vs[i]?=some v->kindOf x=some .local ->
    bindL kindOf (P.zip vs) m x=some v
  | [],_,_,_,_,h,_,_=>by simp at h
  | _::_,[],_,_,_,_,h,_=>by simp at h
  | p::P,w::vs,0,m,nd,h1,h2,hk=>by
    simp at h1 h2;subst h1;subst h2;show bindL kindOf ((p,w)::P.zip vs) m p=_;unfold bindL;rw[uM λv hv=>(c8.mp nd).1 (vX hv).1,if_pos hk]
    simp
  | p::P,w::vs,i+1,m,nd,h1,h2,hk=>by
    show bindL kindOf ((p,w)::P.zip vs) m x=_;unfold bindL;exact uO (i:=i) (c8.mp nd).2 (by simpa using h1) (by simpa using h2) hk
theorem uP{kindOf:Str->Option NameKind}{x:Str}{v:ag}:∀{P:List Str} {vs:bW} {i:Nat} {m:cZ},P.Nodup->P[i]?=some x->vs[i]?=some v->kindOf x≠some .local ->
    bindC kindOf (P.zip vs) m x=some v
  | [],_,_,_,_,h,_,_=>by simp at h
  | _::_,[],_,_,_,_,h,_=>by simp at h
  | p::P,w::vs,0,m,nd,h1,h2,hk=>by
    simp at h1 h2;subst h1;subst h2;show bindC kindOf ((p,w)::P.zip vs) m p=_;unfold bindC;rw[uN λv hv=>(c8.mp nd).1 (vX hv).1,if_neg hk]
    simp
  | p::P,w::vs,i+1,m,nd,h1,h2,hk=>by
    show bindC kindOf ((p,w)::P.zip vs) m x=_;unfold bindC;exact uP (i:=i) (c8.mp nd).2 (by simpa using h1) (by simpa using h2) hk
def start(N:List Str)(vs:List V):St:=vs.map some++List.replicate (N.length-vs.length) none
def ju(CX:Dm)(P:bh)(w:aM)(K:ah)(mg:cZ)(base:Heap)(N:List Str)(qual:Str)(scope:Scope)(f:ab)(cd:ag)(A:bA)(outer:List Env)(s:au)(H:Hp)(E:XK):Cx where
  prog:=P
  w:=w
  K:=K
  mg:=mg
  base:=base
  A:=A.deeper (envOfC qual scope s.heap.objs.size f cd)
  N:=N
  s₀:=s
  H₀:=H
  env:=envOfC qual scope s.heap.objs.size f cd
  outer:=outer
  stack:=envOfC qual scope s.heap.objs.size f cd::outer
  ex:=[]
  calm:=true
  fn:=λ_=>true
  pn:=[]
  xe:=λe s'=>wpAny (model P w) (A.deeper (envOfC qual scope s.heap.objs.size f cd)) (leaving (envOfC qual scope s.heap.objs.size f cd) e) (λ_ Iv=>CX outer H s E e Iv) (λe' Iv=>CX outer H s E e' Iv) s'
theorem yV{sc:Scope}{n:Nat}{x:Str}(h:sc.names.lookup x=some .cell):∃c,(cellsFrom n sc.names []).lookup x=some c:=by
  have q:=W.cellsFrom_some sc.names n [] (.inl h);exact AW.mp q
theorem uQ{CX:Dm}{P:bh}{w:aM}{K:ah}{mg:cZ}{base:Heap}{N ps:List Str}{qual:Str}{scope:Scope}{f:ab}{cd:ag}{A:bA}{outer:List Env}{s s1:au}{H:Hp}{E:XK}{us:bW}{vs:List V}
    (S:de N ps scope) (hd:A.handled=none) (e0:Env0 P w K mg base A outer s H) (hl:vs.length=ps.length) (r:Vals vs us)
    (x:InCallC s s.heap.objs.size (bindL (envOfC qual scope s.heap.objs.size f cd).kindOf (ps.zip us) λ_=>none) (cellsFrom (s.heap.objs.size+1) scope.names []) (bindC (envOfC qual scope s.heap.objs.size f cd).kindOf (ps.zip us) λ_=>none) s1) :
    Inv (ju CX P w K mg base N qual scope f cd A outer s H E) [] (start N vs) H s1:=by
  have jt:ps.length<=N.length:=by have:=c9 List.length S.pre;rw[iL]at this;lia
  obtain⟨h1,tk,rfl,hk⟩:=x.done;have noA:∀b:ab,b∉(ju CX P w K mg base N qual scope f cd A outer s H E).ex:=λb z=>absurd (show b∈([]:List ab)from z) (by simp)
  refine⟨⟨e0.mod,S.kind,rfl,rfl,aR _,λy z c h1 h2=>?_,λy hy=>?_,λy c _ h=>?_,λ_=>hd,Around.frames_deeper e0.frames,.inr ⟨rfl,rfl⟩,λb z=>absurd z (noA b),e0.bs,e0.bsz,λb _ _=>noA b,λb z=>absurd z (noA b),e0.funs,e0.frf,e0.tabs⟩,
    rfl,e0.bare,Un.kept hk,⟨_,x.toInCall.ns,λi y v h1 h2 h3=>?_⟩,λy c h=>⟨_,x.cell y c h⟩,e0.hok.fresh (aR _),λy c h=>?_,λp hp=>absurd (show p∈([]:List (ab×Obj))from hp) (by simp),e0.hok.kept hk,?_⟩
  · exact name_of_addr x.apart (dC h1) (dC h2)
  · have hy:scope.names.lookup y=some .cell\/scope.names.lookup y=some .free:=hy
    rcases hy with hy | hy
    · exact yV hy
    · exact absurd rfl (S.nofree _ (dC hy))
  · exact iP (x.above y c (dC h))
  · have hi:i<vs.length:=by
      unfold start at h2;by_cases hi:i<vs.length
      · exact hi
      · rw[jk (by simpa using hi)]at h2
        rw[j4]at h2;split at h2<;>cases h2
    have ha:vs[i]?=some v:=by
      unfold start at h2;rw[gi (by simpa using hi),cf]at h2
      cases e:vs[i]? with
      | none=>rw[e]at h2;cases h2
      | some a=>rw[e]at h2;cases h2;rfl
    obtain⟨u,hu,rv⟩:=r.get ha;have hp:ps[i]?=some y:=by
      rw[<-S.pre,List.getElem?_take_of_lt (by lia)];exact h1
    have ndP:ps.Nodup:=by rw[<-S.pre];exact S.nd.sublist (List.take_sublist _ _)
    refine⟨u,rv,?_⟩;rcases S.par y (cP hp)with k | k
    · exact .inl ⟨k,uO ndP hp hu k⟩
    · obtain⟨c,e⟩:=yV (n:=s.heap.objs.size+1) k
      refine .inr ⟨.inl k,c,e,?_⟩;have q:=x.cell y c e;rw[uP ndP hp hu (by show scope.names.lookup y≠_;rw[k];decide)]at q
      exact q
  · exact e0.hok.fresh (iP (x.above y c (dC h)))
  · unfold start
    show _=N.length;rw[bY,aH,j5]
    lia
theorem Pq{CX:Dm}{P:bh}{w:aM}{K:ah}{mg:cZ}{base:Heap}{k:Nat}{f:ab}{name qual:Str}{params:Arguments}{body:List ay}{scope:Scope}{dV kV doc pm cU ct oc:ag}{an od:Option ab}
    {tZ:Array lb} {N ps:List Str} {sp:Sp} (lk:K.lookup f=some ⟨oc,od,.func (W.fnOf name qual params body scope dV kV doc pm an cU ct),tZ⟩) (uC:W.codeIn K cU qual=true) (S:de N ps scope)
    (len:∀vs H Q E,sp vs H Q E->vs.length=ps.length)
    (hbody:∀(A:bA) (outer:List Env) (s:au) (H:Hp) (vs:List V) (Q:VK) (E:XK),dg k (A.deeper (envOfC qual scope s.heap.objs.size f cU))->sp vs H Q E ->
      ∃t,PSs (ju CX P w K mg base N qual scope f cU A outer s H E) body t/\t {nx:=λ_ H'=>Q .cE H',rt:=Q} (start N vs) H) :
    FnOk P w K mg base CX (k+1) f (W.fnOf name qual params body scope dV kV doc pm an cU ct) ps sp:=by
  refine⟨len,λA outer s H args us vs Q E hr e0 hb r lz=>?_⟩
  have hl:=len _ _ _ _ lz;have KX:K.In s.heap:=e0.mod.kin.keeps λb o e=>(e0.bs b o e).1
  have lim:s.heap.NoLimit:=e0.mod.nolimit.keeps λb o e=>(e0.bs b o e).1
  have VE:∀y∈ps.zip us,scope.names.lookup y.1=some .local\/(scope.names.lookup y.1=some .cell/\((cellsFrom (s.heap.objs.size+1) scope.names []).lookup y.1).isSome=true):=by
    rintro⟨n,v⟩ hy
    rcases S.par n (vX hy).1 with q | q
    · exact .inl q
    · exact .inr ⟨q,W.cellsFrom_some _ _ _ (.inl q)⟩
  refine codeAny_call_function hr.depth (KX _ _ lk) rfl S.co S.gen rfl (W.codeRec_of KX uC) (hb _ _ _ _ ?_);refine Hr S.kind VE λenv he s1 x=>?_
  subst he;refine⟨lim.keeps x.toInCall.keep,codeAny_func ?_⟩;obtain⟨t,ht,hq⟩:=hbody A outer s H vs Q E (hr.deeper _) lz;have I:Inv (ju CX P w K mg base N qual scope f cU A outer s H E) [] (start N vs) H s1:=uQ S hr.hd e0 hl r x;refine lV (ht [] s1 (start N vs) H _ I hq) (λfl s' hs=>?_) λe s' hs=>hs
  have fin:∀{cG:St} {H':Hp} {v:V} {u:ag},Inv (ju CX P w K mg base N qual scope f cU A outer s H E) [] cG H' s'->RelV v u->Q v H'->CE outer P w H s Q u s' :=
    λ{cG H' v u} J rv q=>⟨v,H',J.os,J.bare,J.base,J.hok,rv,q⟩
  cases fl with
  | ret u =>
    obtain⟨v,cG,H',J,rv,q⟩:=hs;exact fin J rv q
  | next =>
    obtain⟨cG,H',J,q⟩:=hs;exact fin (v:=V.cE) (u:=Value.none) J rfl q
  | brk =>
    obtain⟨_,_,_,q⟩:=hs;exact False.elim q
  | cont =>
    obtain⟨_,_,_,q⟩:=hs;exact False.elim q
section
variable {X:Cx} {x:Str} {p pos:Pos} {e:aj} {es:List aj} {t:TA} {id T:String} {r:List V->Hp->VK->Prop}
def tCB(r:List V->Hp->VK->Prop)(t:TA):TE:=λσ H Q=>t σ H λvs H1=>r vs H1 Q
theorem i5(hc:km X (.builtin id) r)(hg:Gl X x)(hm:X.mg x=none)(hv:bootBuiltins x=some (.builtin id))(ha:PA X (e::es) t)(hn:x≠"__name__":=by decide)(pM:(x==("__debug__":Str))=false:=by decide)
    (he:starEach (e::es) X.env=(false,eval e X.env)::starEach es X.env:=by rfl) (jt:(backTo pos (starEach es X.env)).any (·.1)=false:=by rfl):PE X (.Call (.Name x p) (e::es) [] pos) (tCB r t):=by
  intro ae s σ H Q I h;refine jo (ld_blt I hg hm hv ?_ hn pM);exact AU (thn (ha pos ae s σ H _ I h) λus s1 ⟨vs,H1,I1,r1,q1⟩=>hc ae s1 σ H1 vs us Q I1 r1 q1) he jt
theorem i6(hc:km X (.type T) r)(hg:Gl X x)(hm:X.mg x=none)(hv:bootBuiltins x=some (.type T))(ha:PA X (e::es) t)(hn:x≠"__name__":=by decide)(pM:(x==("__debug__":Str))=false:=by decide)
    (he:starEach (e::es) X.env=(false,eval e X.env)::starEach es X.env:=by rfl) (jt:(backTo pos (starEach es X.env)).any (·.1)=false:=by rfl):PE X (.Call (.Name x p) (e::es) [] pos) (tCB r t):=by
  intro ae s σ H Q I h;refine jo (ld_blt I hg hm hv ?_ hn pM);exact j1 (thn (ha pos ae s σ H _ I h) λus s1 ⟨vs,H1,I1,r1,q1⟩=>hc ae s1 σ H1 vs us Q I1 r1 q1) he jt
end
end L2
namespace HT
open PySem PyProof.Rows
section
variable {prog:bh} {w:aM} {A:bA} {E:cm} {s:au}
theorem ME{t b:ab}{vs ws:bW}{Q:cm}(ht:IsTup s.heap t vs.toArray)(hb:IsTup s.heap b ws.toArray)(hv:vs≠[])
    (h1:ws=[]->Q (.ref t) s) (h2:ws≠[]->Q (.ref s.heap.objs.size) {s with heap:=s.heap.push {cls:=.type "tuple",data:=.seq (vs++ws).toArray}})
    (hsz:vs.length+ws.length<=sizeLine):wpAny (model prog w) A (binaryOp .Add (.ref t) (.ref b)) Q E s:=by
  obtain⟨⟨cls,dd,data,sl⟩,ho,hc,n,hd⟩:=id ht;obtain⟨⟨abd,Y2,VF,Y3⟩,RF,VG,n2,VH⟩:=id hb;simp only at hc hd VG VH;subst hc hd VG VH;have e:vs.toArray++ws.toArray=(vs++ws).toArray:=by simp
  by_cases hw:ws=[]
  · exact concat_meets ⟨_,ho,rfl⟩ ⟨_,RF,rfl⟩ Bh seq_tuple_add A4 A0 (AX _ _)
      (tuple_addW1 t b vs.toArray ws.toArray n n2 dd Y2 sl Y3 (by simpa using hv) (by simp[hw])) ⟨ho,RF,h1 hw⟩
  · refine concat_meets ⟨_,ho,rfl⟩ ⟨_,RF,rfl⟩ Bh seq_tuple_add A4 A0 (AX _ _)
      (tuple_addW2 t b vs.toArray ws.toArray n n2 dd Y2 sl Y3 (by simpa using hv) (by simpa using hw) (by rw[bz,bz];exact hsz)) ⟨ho,RF,?_⟩
    rw[e];exact h2 hw
noncomputable def eB(n d:Nat):Option Int->Nat
  | none=>d
  | some v=>if v<0 then(v+(n:Int)).toNat else min v.toNat n
theorem Iw(n d:Nat):eB n d none=d:=rfl
theorem wC(n d k:Nat):eB n d (some (k:Int))=min k n:=by
  show(if(k:Int)<0 then((k:Int)+(n:Int)).toNat else min (k:Int).toNat n)=min k n
  rw[if_neg (by lia),eM]
theorem RG(n d:Nat)(hd:d<=n)(o:Option Int):eB n d o<=n:=by
  cases o with
  | none=>exact hd
  | some v =>
    show(if v<0 then(v+(n:Int)).toNat else min v.toNat n)<=n
    by_cases hv:v<0
    · rw[if_pos hv];lia
    · rw[if_neg hv];exact Nat.min_le_right _ _
theorem DD(v:Int)(n d:Nat):(if v<0 then max (v+(n:Int)) 0 else min v (n:Int))=((eB n d (some v):Nat):Int):=by
  show(if v<0 then max (v+(n:Int)) 0 else min v (n:Int))=(((if v<0 then(v+(n:Int)).toNat else min v.toNat n):Nat):Int)
  by_cases hv:v<0
  · simp only[if_pos hv];lia
  · simp only[if_neg hv];lia
theorem BM(lo hi:Option Int)(n:Nat):Builtin.Slice.sliceAdjust lo hi 1 (n:Int)=(((eB n 0 lo:Nat):Int),((eB n n hi:Nat):Int)):=by
  have h1:¬((1:Int)<0):=by lia
  unfold Builtin.Slice.sliceAdjust;simp only[h1,dw];refine lX ?_ ?_
  · cases lo with
    | none=>rfl
    | some v=>exact DD v n 0
  · cases hi with
    | none=>rfl
    | some v=>exact DD v n n
theorem BN(i j:Nat):Builtin.Slice.slicePlaces (i:Int) (j:Int) 1=j-i:=by
  unfold Builtin.Slice.slicePlaces;have h1:(1:Int)>0:=by lia
  simp only[h1,eQ,Int.ediv_one];split<;>lia
theorem rf{v:ag}{o:Option Int}{Q:Option Int->au->Prop}(p:IsPart v o)(h:Q o s):wpAny (model prog w) A (Builtin.Slice.slicePartIndex v) Q E s:=by
  cases p with
  | none=>exact slicePart_none h
  | int i t=>exact slicePart_int h
theorem i7{sl:ab}{vl vu:ag}{lo hi:Option Int}{n:Nat}{Q:Int×Int×Nat->au->Prop}(hs:s.heap.IsSliceOf sl vl vu .none)(pl:IsPart vl lo)(pu:IsPart vu hi)
    (h:Q (((eB n 0 lo:Nat):Int),1,eB n n hi-eB n 0 lo) s):wpAny (model prog w) A (Builtin.Slice.sliceApplied (.ref sl) (pure (n:Int))) Q E s:=by
  obtain⟨os,RH,hcs,VI⟩:=id hs;unfold Builtin.Slice.sliceApplied Builtin.Slice.sliceFields;refine ai (ai (kc RH VI (x:=vl) rfl (ai (kc RH VI (x:=vu) rfl (ai (kc RH VI (x:=.none) rfl (ax ?_)))))));refine ai (slicePart_none ?_);show wpAny _ _ (if((1:Int)==0)=true then _ else _) _ _ s
  rw[if_neg (by decide)]
  refine ai (rf pl (ai (rf pu (ai (ax ?_)))));show wpAny _ _ (match Builtin.Slice.sliceAdjust lo hi 1 (n:Int)with | (lo,hi)=>pure (lo,(1:Int),Builtin.Slice.slicePlaces lo hi 1)) _ _ s
  rw[BM lo hi n];show wpAny _ _ (pure (((eB n 0 lo:Nat):Int),(1:Int),Builtin.Slice.slicePlaces ((eB n 0 lo:Nat):Int) ((eB n n hi:Nat):Int) 1)) _ _ s;rw[BN];exact ax h
theorem Iy(xs:Array ag)(i k:Nat):((List.range k).filterMap fun(m:Nat)=>xs[((i:Int)+(m:Int)*1).toNat]?).toArray=((xs.toList.drop i).take k).toArray:=by
  have e:(fun(m:Nat)=>xs[((i:Int)+(m:Int)*1).toNat]?)=λm=>xs[i+m]?:=by
    funext m
    have:((i:Int)+(m:Int)*1).toNat=i+m:=by lia
    rw[this]
  rw[e];have:=pick_run xs i k;rw[List.filterMap_map]at this;have e2:((λx=>xs[x]?) ∘ λx=>i+x)=λm=>xs[i+m]?:=rfl
  rw[e2]at this;rw[this]
theorem mJ{t sl:ab}{items:Array ag}{vl vu:ag}{lo hi:Option Int}{Q:cm}(ht:IsTup s.heap t items)(hs:s.heap.IsSliceOf sl vl vu .none)(pl:IsPart vl lo)(pu:IsPart vu hi)
    (hw:¬(eB items.size 0 lo=0/\eB items.size items.size hi=items.size))
    (h:Q (.ref s.heap.objs.size) {s with heap:=s.heap.push {cls:=.type "tuple",data:=.seq ((items.toList.drop (eB items.size 0 lo)).take (eB items.size items.size hi-eB items.size 0 lo)).toArray}})
    (hsz:items.size<=sizeLine):wpAny (model prog w) A (getItem (.ref t) (.ref sl)) Q E s:=by
  have DE:sizeOk (.seq ((items.toList.drop (eB items.size 0 lo)).take (eB items.size items.size hi-eB items.size 0 lo)).toArray):=by
    show((items.toList.drop (eB items.size 0 lo)).take (eB items.size items.size hi-eB items.size 0 lo)).toArray.size<=sizeLine;rw[bz,iL,qF,fB]
    lia
  have hj:eB items.size items.size hi<=items.size:=RG _ _ (aR _) hi;obtain⟨os,RH,hcs,VI⟩:=id hs;have hTs:s.TypeIs (.ref sl) "slice":=⟨os,RH,hcs⟩;unfold getItem
  try with_reducible refine gm ?_
  first | refine ai (ax ?_) | skip
  refine ai (wpAny_sequenceKey ht.typeIs (by decide) ?_)
  refine ai (j3 (name:=Str.ofString "__getitem__") ht.typeIs nM
    (iM nM ht.typeIs entry_tuple_getitem ?_ (args_tuple_getitem _ _)))
  show wpAny _ _ (Builtin.Tuple.tupleItemsOf (.ref t) >>= _) _ _ s;refine ai (tupleItemsOf_ ht ?_);refine ai (qJ hTs ?_);rw[if_pos (by decide)]
  refine ai (i7 hs pl pu ?_);have hno:¬((((eB items.size 0 lo:Nat):Int)==0&&(1:Int)==1&&(eB items.size items.size hi-eB items.size 0 lo)==items.size)=true):=by
    intro q;rw[aE,aE]at q;have q1:((eB items.size 0 lo:Nat):Int)=0:=bD q.1.1;have q2:eB items.size items.size hi-eB items.size 0 lo=items.size:=bD q.2;exact hw ⟨by lia,by lia⟩
  show wpAny _ _ (if(((eB items.size 0 lo:Nat):Int)==0&&(1:Int)==1&&(eB items.size items.size hi-eB items.size 0 lo)==items.size)=true then _ else _) _ _ s
  rw[if_neg hno,Iy]
  first
    | exact ai (m:=Builtin.Tuple.tupleExact _) (iJ (ax ⟨_,rfl,ax h⟩) DE)
    | exact ai (m:=Builtin.Tuple.tupleExact _) (iJ (ai (ax (ax ⟨_,rfl,ax h⟩))) DE)
    | exact ai (ai (m:=Builtin.Tuple.tupleExact _) (iJ (ax (ax ⟨_,rfl,ax h⟩)) DE))
    | exact ai (ai (m:=Builtin.Tuple.tupleExact _) (iJ (ax ⟨_,rfl,ax h⟩) DE))
end
end HT
namespace L2
open PySem PySem.Spec PyProof.Rows
abbrev TO:=St->Hp->(Option Int->Hp->Prop)->Prop
def PO(X:Cx)(e:Option aj)(t:TO):Prop :=
  ∀(ae:List (ab×Obj)) (s:au) (σ:St) (H:Hp) (Q:Option Int->Hp->Prop),Inv X ae σ H s->t σ H Q ->
    wpAny (model X.prog X.w) X.A (evalPart e X.env) (λu s'=>∃o H',Inv X ae σ H' s'/\IsPart u o/\Q o H') X.xe s
def MF:TO:=λ_ H Q=>Q none H
def VJ(t:TE):TO:=λσ H Q=>t σ H λx H1=>∃i,x=.int i/\Q (some i) H1
theorem lZ{ns:List Int}:∀{us:bW},Vals (ns.map V.int) us->IntsAre us ns:=by
  induction ns with
  | nil=>intro us r;rw[n0]at r;cases r;exact .nil
  | cons n ns ih =>
    intro us r;rw[bC]at r;cases r with
    | cons r1 r2 =>
      obtain⟨t,e⟩:=r1;subst e;exact .cons n t (ih r2)
section
variable {X:Cx} {e:aj} {te:TE} {lo hi:Option aj} {tl th:TO} {pos p2:Pos}
theorem MG:PO X none MF:=by
  intro ae s σ H Q I h;rw[evalPart_none];exact ax ⟨none,H,I,.none,h⟩
theorem MH(h:PE X e te):PO X (some e) (VJ te):=by
  intro ae s σ H Q I hw;rw[evalPart_some];refine thn (h ae s σ H _ I hw) λu s1 ⟨x,H1,I1,r1,q1⟩=>?_
  obtain⟨i,rfl,q⟩:=q1;obtain⟨t,rfl⟩:=r1;exact⟨some i,H1,I1,.int i t,q⟩
def Y4(X:Cx)(r:V->Option Int->Option Int->Hp->VK->Prop):Prop :=
  ∀(ae:List (ab×Obj)) (s:au) (σ:St) (H:Hp) (x:V) (v vl vu:ag) (lo hi:Option Int) (sl:ab) (Q:VK),Inv X ae σ H s->RelV x v->s.heap.IsSliceOf sl vl vu .none->IsPart vl lo->IsPart vu hi->r x lo hi H Q ->
    ∃T id,typeLookup (.type T) "__getitem__"=pure (some (.builtin id))/\s.TypeIs v T/\wpAny (model X.prog X.w) X.A (getItem v (.ref sl)) (EP X ae σ Q) X.xe s
def tSl(r:V->Option Int->Option Int->Hp->VK->Prop)(te:TE)(tl th:TO):TE:=λσ H Q=>te σ H λx H1=>tl σ H1 λl H2=>th σ H2 λu H3=>r x l u H3 Q
theorem yW{r:V->Option Int->Option Int->Hp->VK->Prop}(hr:Y4 X r)(he:PE X e te)(hl:PO X lo tl)(hu:PO X hi th):PE X (.Subscript e (.Slice lo hi none p2) pos) (tSl r te tl th):=by
  intro ae s σ H Q I h;refine Subscript_ (thn (he ae s σ H _ I h) λv s1 ⟨x,H1,I1,r1,q1⟩=>?_)
  refine wpAny_Slice (thn (hl ae s1 σ H1 _ I1 q1) λvl s2 ⟨l,H2,I2,pl,q2⟩=>thn (hu ae s2 σ H2 _ I2 q2) λvu s3 ⟨u,H3,I3,pu,q3⟩=>?_)
  rw[evalPart_none];refine ax ?_;have I4:Inv X ae σ H3 {s3 with heap:=s3.heap.push {cls:=.type "slice",data:=.fields #[vl,vu,.none]}}:=I3.kept (t':=s3.toks) λb ob q=>bR _ q
  obtain⟨T,id,hT,ht,hg⟩:=hr ae {s3 with heap:=s3.heap.push {cls:=.type "slice",data:=.fields #[vl,vu,.none]}} σ H3 x v vl vu l u s3.heap.objs.size Q I4 r1 (Heap.IsSliceOf.new ..) pl pu q3
  show wpAny (model X.prog X.w) X.A (subscriptTail e (.Slice lo hi none p2) v (.ref s3.heap.objs.size)) (EP X ae σ Q) X.xe {s3 with heap:=s3.heap.push {cls:=.type "slice",data:=.fields #[vl,vu,.none]}}
  exact tail_any (ops:=[.ref s3.heap.objs.size,v]) ht hT hg (by with_unfolding_all rfl)
def ua(xs:List V)(lo hi:Option Int):List V:=(xs.drop (HT.eB xs.length 0 lo)).take (HT.eB xs.length xs.length hi-HT.eB xs.length 0 lo)
theorem oZ(xs:List V)(lo hi:Option Int):(ua xs lo hi).length<=xs.length:=by
  unfold ua;rw[iL,qF]
  lia
def abe(K:ah):V->Option Int->Option Int->Hp->VK->Prop:=λx lo hi H Q=>∃a xs,x=.ref a/\gO K H a xs /\
  ¬(HT.eB xs.length 0 lo=0/\HT.eB xs.length xs.length hi=xs.length)/\∀p,H p=none->Q (.ref p) (upd H p (.aI (ua xs lo hi)))
theorem RI:Y4 X (abe X.K):=by
  intro ae s σ H x v vl vu lo hi sl Q I rx hs pl pu h;obtain⟨a,xs,rfl,hx,hw,q⟩:=h;cases rx;obtain⟨aQ,r,ht,hz⟩:=I.tuple hx;have cD:aQ.toArray.size=xs.length:=by rw[bz];exact r.length.symm
  refine⟨"tuple",_,nM.lookup,ht.typeIs,?_⟩;refine HT.mJ ht hs pl pu (by rw[cD];exact hw) ?_ (by rw[cD];exact hz)
  rw[cD];refine⟨.ref s.heap.objs.size,_,I.laid (t':=s.toks) (o:=.aI (ua xs lo hi)) (λb ob q=>bR _ q) (aR _) ?_,rfl,q _ (I.hok.fresh (aR _))⟩
  exact⟨b0 (oZ xs lo hi) hz,_,(r.drop (HT.eB xs.length 0 lo)).take (HT.eB xs.length xs.length hi-HT.eB xs.length 0 lo),IsTup.new _ _⟩
def VL(K:ah):R2:=λx y H Q=>∃a b xs ys,x=.ref a/\y=.ref b/\gO K H a xs/\gO K H b ys/\xs≠[]/\xs.length+ys.length<=sizeLine /\
  (ys=[]->Q (.ref a) H)/\(ys≠[]->∀p,H p=none->Q (.ref p) (upd H p (.aI (xs++ys))))
theorem Vals.wD{xs:List V}{us:bW}(r:Vals xs us):us=[]↔xs=[]:=by
  cases r with
  | nil=>simp
  | cons _ _=>simp
theorem MI:OpR X (binaryOp .Add) (VL X.K):=by
  intro ae s σ H x y v u Q I rx ry h;obtain⟨a,b,xs,ys,rfl,rfl,ha,hb,hx,hz,q1,q2⟩:=h;cases rx;cases ry;obtain⟨aQ,r1,p1,_⟩:=I.tuple ha;obtain⟨ip,r2,p2,_⟩:=I.tuple hb;refine HT.ME p1 p2 (λz=>hx (r1.wD.mp z)) (λz=>⟨.ref a,H,I,rfl,q1 (r2.wD.mp z)⟩) (λz=>?_) (by rw[<-r1.length,<-r2.length];exact hz)
  refine⟨.ref s.heap.objs.size,_,I.laid (t':=s.toks) (o:=.aI (xs++ys)) (λb ob q=>bR _ q) (aR _) ?_,rfl,q2 (λw=>z (r2.wD.mpr w)) _ (I.hok.fresh (aR _))⟩
  exact⟨by rw[bY];exact hz,_,r1.append r2,IsTup.new _ _⟩
end
def Iz(n:Nat)(i:Int):Option Nat:=if 0<=i then(if i<n then some i.toNat else none)else if -(n:Int)<=i then some (i+n).toNat else none
def atI{α:Type}(xs:List α)(i:Int):Option α:=(Iz xs.length i).bind λj=>xs[j]?
theorem MJ{n:Nat}{i:Int}{j:Nat}(h:Iz n i=some j):seqIndex? i n=some j/\j<n /\ -(n:Int)<=i/\i<n:=by
  unfold Iz at h;by_cases h0:0<=i
  · rw[if_pos h0]at h
    by_cases h1:i<n
    · rw[if_pos h1]at h
      have e:i.toNat=j:=bo h;exact⟨by rw[seqIndex_of h0 h1,e],by lia,by lia,h1⟩
    · rw[if_neg h1]at h;cases h
  · rw[if_neg h0]at h
    by_cases h1:-(n:Int)<=i
    · rw[if_pos h1]at h
      have e:(i+n).toNat=j:=bo h;exact⟨by rw[seqIndex_neg (by lia) h1,e],by lia,h1,by lia⟩
    · rw[if_neg h1]at h;cases h
theorem wF{α:Type}{xs:List α}{i:Int}{v:α}(h:atI xs i=some v):∃j,seqIndex? i xs.length=some j/\xs[j]?=some v/\j<xs.length /\ -(xs.length:Int)<=i/\i<xs.length:=by
  unfold atI at h;cases e:Iz xs.length i with
  | none=>rw[e]at h;cases h
  | some j =>
    rw[e]at h;obtain⟨h1,h2,h3,h4⟩:=MJ e;exact⟨j,h1,h,h2,h3,h4⟩
theorem eE{α:Type}{xs:List α}{j:Nat}{v:α}(h:xs[j]?=some v):atI xs (j:Int)=some v:=by
  have hj:j<xs.length:=(cM.mp h).1;have e:Iz xs.length (j:Int)=some j:=by
    unfold Iz;rw[if_pos (by lia),if_pos (by lia)];simp
  unfold atI;rw[e];exact h
def gS(b:aj):Prop:=∀o i,subscripted b false o i=operate [o,i] (getItem o i)
def MK(X:Cx)(r:R2):Prop :=
  ∀(value slice:aj) (ae:List (ab×Obj)) (s:au) (σ:St) (H:Hp) (x y:V) (v u:ag) (Q:VK),Inv X ae σ H s->RelV x v->RelV y u->r x y H Q ->
    subscripted slice false v u=operate [v,u] (getItem v u)->wpAny (model X.prog X.w) X.A (subscriptTail value slice v u) (EP X ae σ Q) X.xe s
def Y5(X:Cx)(id:String)(r:V->List V->Hp->VK->Prop):Prop :=
  ∀(ae:List (ab×Obj)) (s:au) (σ:St) (H:Hp) (x:V) (xs:List V) (v:ag) (us:bW) (Q:VK),Inv X ae σ H s->RelV x v->Vals xs us->r x xs H Q ->
    wpAny (model X.prog X.w) X.A (call (.builtin id) (v::us)) (EP X ae σ Q) X.xe s
section
variable {X:Cx} {a b:aj} {ta tb:TE} {pos:Pos}
theorem o7{r:R2}(hr:MK X r)(ha:PE X a ta)(hb:PE X b tb)(hs:gS b):PE X (.Subscript a b pos) (UL r ta tb):=by
  intro ae s σ H Q I h;exact Subscript_ (Rl ha hb I h λv u s2 x y H2 I2 rx ry q=>hr a b ae s2 σ H2 x y v u Q I2 rx ry q (hs _ _))
def abf(K:ah):R2:=λx y H Q=>∃p xs i v,x=.ref p/\y=.int i/\lg K H p xs/\atI xs i=some v/\Q v H
def abg(K:ah):R2:=λx y H Q=>∃p xs i v,x=.ref p/\y=.int i/\gO K H p xs/\atI xs i=some v/\Q v H
def abh:R2:=λx y H Q=>∃z i c,x=.str z/\y=.int i/\z.length<=sizeLine/\atI z.cps.toList i=some c/\Q (.str ⟨#[c]⟩) H
theorem wG:MK X (abf X.K):=by
  intro value slice ae s σ H x y v u Q I rx ry h hs;obtain⟨p,xs,i,z,rfl,rfl,hq,he,q⟩:=h;cases rx;obtain⟨t,rfl⟩:=ry;obtain⟨aQ,r,pl,hz⟩:=I.list hq;obtain⟨j,h1,h2,h3,h4,h5⟩:=wF he;obtain⟨w,ew,RJ⟩:=r.get h2;have hl:=r.length;have hn:=oh;have fin:EP X ae σ Q w s:=⟨z,H,I,RJ,q⟩;by_cases h0:0<=i
  · have hj:i.toNat=j:=by
      rw[seqIndex_of h0 h5]at h1;exact bo h1
    exact item_listR pl.isList h0 (by lia) (by rw[hj];simpa using ew) fin hs
  · have hj:(i+(aQ.toArray.size:Int)).toNat=j:=by
      rw[seqIndex_neg (by lia) h4]at h1
      rw[bz,<-hl];exact bo h1
    exact subscriptTail_builtinR (x:=w) pl.isList.typeIs slot_list_getitem.lookup
      (wpAny_getItem_list_neg (Q:=λr s'=>r=w/\EP X ae σ Q r s') pl.isList (by lia) (by rw[bz]<;>lia) (by lia) (by rw[hj];simpa using ew) ⟨rfl,fin⟩) hs
theorem RK:MK X (abg X.K):=by
  intro value slice ae s σ H x y v u Q I rx ry h hs;obtain⟨p,xs,i,z,rfl,rfl,hq,he,q⟩:=h;cases rx;obtain⟨t,rfl⟩:=ry;obtain⟨aQ,r,pl,hz⟩:=I.tuple hq;obtain⟨j,h1,h2,h3,h4,h5⟩:=wF he;obtain⟨w,ew,RJ⟩:=r.get h2;have hl:=r.length;have hn:=oh;have fin:EP X ae σ Q w s:=⟨z,H,I,RJ,q⟩;exact subscriptTail_builtinR (x:=w) pl.typeIs slot_tuple_getitem.lookup
    (getItem_tuple (j:=j) (Q:=λr s'=>r=w/\EP X ae σ Q r s') pl (by lia) (by lia) (by rw[bz,<-hl];exact h1) (by simpa using ew) ⟨rfl,fin⟩) hs
theorem RL:MK X abh:=by
  intro value slice ae s σ H x y v u Q I rx ry h hs;obtain⟨z,i,c,rfl,rfl,hz,he,q⟩:=h;obtain⟨t,rfl⟩:=rx;obtain⟨t',rfl⟩:=ry;obtain⟨j,h1,h2,h3,h4,h5⟩:=wF he;have hl:z.cps.toList.length=z.length:=by simp[Str.length]
  rw[hl]at h1 h4 h5;have hn:=oh;exact tail_any (typeIs_str s z t) slot_str_getitem.lookup (getItem_str (c:=c) (by
    have e1:decide (i < -(2^63:Int))=false:=dY (by lia)
    have e2:decide (i>=2^63)=false:=dY (by lia)
    rw[e1,e2,Bool.or_false]) (by rw[h1];simpa using h2) ⟨.str ⟨#[c]⟩,H,I.tok _,⟨_,rfl⟩,q⟩) hs
theorem wH(lo hi:Option Int)(n:Nat):(sliceBounds lo hi none n).1=((HT.eB n 0 lo:Nat):Int)/\(sliceBounds lo hi none n).2.1=((HT.eB n n hi:Nat):Int)/\(sliceBounds lo hi none n).2.2=1:=by
  refine⟨?_,?_,rfl⟩
  · cases lo with
    | none=>simp[sliceBounds,HT.eB]
    | some i =>
      simp only[sliceBounds,HT.eB,Bl,show(1:Int)>0 by decide,eQ]
      by_cases h:i<0
      · simp only[h,eQ]<;>lia
      · simp only[h,dw]<;>lia
  · cases hi with
    | none=>simp[sliceBounds,HT.eB]
    | some i =>
      simp only[sliceBounds,HT.eB,Bl,show(1:Int)>0 by decide,eQ]
      by_cases h:i<0
      · simp only[h,eQ]<;>lia
      · simp only[h,dw]<;>lia
theorem ub(aQ:bW)(lo hi:Option Int):slicePick aQ.toArray lo hi none=((aQ.drop (HT.eB aQ.length 0 lo)).take (HT.eB aQ.length aQ.length hi-HT.eB aQ.length 0 lo)).toArray:=by
  obtain⟨h1,h2,h3⟩:=wH lo hi aQ.toArray.size;unfold slicePick;rw[h1,h2,h3];simp only[sliceRange_one,pick_run,bz]<;>rfl
def abi(K:ah):V->Option Int->Option Int->Hp->VK->Prop:=λx lo hi H Q=>∃a xs,x=.ref a/\lg K H a xs/\∀p,H p=none->Q (.ref p) (upd H p (.aA (ua xs lo hi)))
theorem DF:Y4 X (abi X.K):=by
  intro ae s σ H x v vl vu lo hi sl Q I rx hs pl pu h;obtain⟨a,xs,rfl,hx,q⟩:=h;cases rx;obtain⟨aQ,r,ht,hz⟩:=I.list hx;have cD:=r.length;refine⟨"list",_,slot_list_getitem.lookup,ht.isList.typeIs,?_⟩;refine wpAny_getItem_list_slice ht.isList hs pl pu .none (by simp) ?_ (by rw[bz]<;>lia)
  rw[ub,<-cD];refine⟨.ref s.heap.objs.size,_,I.laid (t':=s.toks) (o:=.aA (ua xs lo hi)) (λb ob q=>bR _ q) (aR _) ?_,rfl,q _ (I.hok.fresh (aR _))⟩
  exact⟨b0 (oZ xs lo hi) hz,_,0,(r.drop (HT.eB xs.length 0 lo)).take (HT.eB xs.length xs.length hi-HT.eB xs.length 0 lo),cW _ rfl⟩
theorem jv:km X (.builtin "len") (λxs H Q=>∃p ys,xs=[.ref p]/\(lg X.K H p ys\/gO X.K H p ys)/\Q (.int ys.length) H):=by
  intro ae s σ H xs us Q I r h;obtain⟨p,ys,rfl,hq,q⟩:=h;obtain⟨u,rfl,rx⟩:=i4 r;cases rx;have hn:=oh;rcases hq with hq | hq
  · obtain⟨aQ,r',pl,hz⟩:=I.list hq
    have cD:=r'.length;exact Calls.call_len_list pl.isList (by simp only[bz]<;>lia) ⟨.int ys.length,H,I.tok _,⟨s.toks+1,by rw[bz,cD]⟩,q⟩
  · obtain⟨aQ,r',pl,hz⟩:=I.tuple hq
    have cD:=r'.length;exact len_tuple pl (by simp only[bz]<;>lia) ⟨.int ys.length,H,I.tok _,⟨s.toks+1,by rw[bz,cD]⟩,q⟩
theorem wI:km X (.builtin "len") (λxs H Q=>∃z,xs=[.str z]/\z.length<=sizeLine/\Q (.int z.length) H):=by
  intro ae s σ H xs us Q I r h;obtain⟨z,rfl,hz,q⟩:=h;obtain⟨u,rfl,t,rfl⟩:=i4 r;have hn:=oh;exact len_str (by lia) ⟨.int z.length,H,I.tok _,⟨_,rfl⟩,q⟩
theorem jw:km X (.type "list") (λxs H Q=>∃p ys,xs=[.ref p]/\(lg X.K H p ys\/gO X.K H p ys)/\∀l,H l=none->Q (.ref l) (upd H l (.aA ys))):=by
  intro ae s σ H xs us Q I r h;obtain⟨p,ys,rfl,hq,q⟩:=h;obtain⟨u,rfl,rx⟩:=i4 r;cases rx;have fin:∀(aQ:bW),Vals ys aQ->ys.length<=sizeLine->∀(h':Heap) (c':Nat),(∀b o',s.heap.get? b=some o'->h'.get? b=some o') ->
      h'.get? s.heap.objs.size=some {cls:=.type "list",dict:=none,data:=.seq aQ.toArray c',slots:=#[]}->EP X ae σ Q (.ref s.heap.objs.size) {s with heap:=h'}:=λaQ r' hz h' c' kp e =>
    ⟨.ref s.heap.objs.size,_,I.laid (t':=s.toks) kp (aR _) (show dB X.prog X.w _ h' _ (.aA ys)from⟨hz,aQ,c',r',e⟩),rfl,q _ (I.hok.fresh (aR _))⟩
  rcases hq with hq | hq
  · obtain⟨aQ,r',pl,hz⟩:=I.list hq
    have cD:=r'.length;obtain⟨o,ho,hc,n,hd⟩:=pl.isList;exact call_list_seq p (.inl rfl) ho hc hd (λh' c' kp e=>fin aQ r' hz h' c' kp e) (by simp only[bz]<;>lia)
  · obtain⟨aQ,r',pl,hz⟩:=I.tuple hq
    have cD:=r'.length;obtain⟨o,ho,hc,n,hd⟩:=pl;exact call_list_seq p (.inr rfl) ho hc hd (λh' c' kp e=>fin aQ r' hz h' c' kp e) (by simp only[bz]<;>lia)
theorem lA:km X (.type "tuple") (λxs H Q=>∃p ys,xs=[.ref p]/\((lg X.K H p ys/\∀l,H l=none->Q (.ref l) (upd H l (.aI ys)))\/(gO X.K H p ys/\Q (.ref p) H))):=by
  intro ae s σ H xs us Q I r h;obtain⟨p,ys,rfl,h⟩:=h;obtain⟨u,rfl,rx⟩:=i4 r;cases rx;rcases h with⟨hq,q⟩ | ⟨hq,q⟩
  · obtain⟨aQ,r',pl,hz⟩:=I.list hq
    have cD:=r'.length;refine call_tuple_list pl.isList (λh' kp=>?_) (by simp only[bz]<;>lia)
    have I1:Inv X ae σ H {s with heap:=h'}:=I.kept (t':=s.toks) kp
    have I2:Inv X ae σ (upd H h'.objs.size (.aI ys)) {s with heap:=h'.push {cls:=.type "tuple",data:=.seq aQ.toArray}} :=
      I1.laid (t':=s.toks) (λb o e=>bR _ e) (aR _) (show dB X.prog X.w _ _ _ (.aI ys)from⟨hz,aQ,r',IsTup.new _ _⟩)
    exact⟨.ref h'.objs.size,_,I2,rfl,q _ (I1.hok.fresh (aR _))⟩
  · obtain⟨aQ,r',pl,hz⟩:=I.tuple hq
    exact call_tuple_same pl ⟨.ref p,H,I,rfl,q⟩
def tyV(K:ah)(T:String)(x:V)(H:Hp):Prop:=match x with
  | .str _=>T="str"
  | .int _=>T="int"
  | .ref p=>(T="list"/\∃xs,lg K H p xs)\/(T="tuple"/\∃o,K.lookup p=some o/\o.cls=.type "tuple"/\o.dict=none) \/
      (T="dict"/\((∃kvs,H p=some (.dK kvs))\/∃kvs,H p=some (.dT kvs)))\/(T="set"/\∃S n,H p=some (.set S n))
  | _=>False
theorem BO{ae:List (ab×Obj)}{σ:St}{H:Hp}{s:au}{T:String}{x:V}{v:ag}(I:Inv X ae σ H s)(r:RelV x v)(ty:tyV X.K T x H) :
    s.TypeIs v T/\∀a,v=.ref a->∃ob,s.heap.get? a=some ob/\ob.dict=none:=by
  cases x with
  | str z =>
    obtain⟨t,rfl⟩:=r;cases(show T="str" from ty)
    exact⟨typeIs_str s z t,λ_ e=>nomatch e⟩
  | int i =>
    obtain⟨t,rfl⟩:=r;cases(show T="int" from ty)
    exact⟨typeIs_int s i t,λ_ e=>nomatch e⟩
  | ref p =>
    cases r;rcases ty with⟨rfl,xs,hq⟩ | ⟨rfl,o,hk,hc,hd⟩ | ⟨rfl,hk⟩ | ⟨rfl,S,n,hk⟩
    · obtain⟨aQ,_,pl,_⟩:=I.list hq
      refine⟨pl.isList.typeIs,λa e=>?_⟩
      cases e;obtain⟨o,n,e,c,hd,_⟩:=pl;exact⟨o,e,hd⟩
    · refine⟨⟨o,I.oW p o hk,hc⟩,λa e=>?_⟩
      cases e;exact⟨o,I.oW _ o hk,hd⟩
    · have z:∃o,s.heap.get? p=some o/\o.ExactDict:=by
        rcases hk with⟨kvs,hk⟩ | ⟨kvs,hk⟩
        · obtain⟨_,_,_,_,o,_,_,e,ex,_⟩:=I.hok p _ hk
          exact⟨o,e,ex⟩
        · obtain⟨_,_,o,_,_,e,ex,_⟩:=(show dB X.prog X.w H s.heap p (.dT kvs)from I.hok p _ hk)
          exact⟨o,e,ex⟩
      obtain⟨o,e,ex⟩:=z;refine⟨⟨o,e,ex.1⟩,λa e2=>?_⟩
      cases e2;exact⟨o,e,ex.2.1⟩
    · obtain⟨o,_,_,_,e,ex,_⟩:=I.hok p _ hk
      refine⟨⟨o,e,ex.1⟩,λa e2=>?_⟩
      cases e2;exact⟨o,e,ex.2.1⟩
  | _=>exact False.elim ty
def VM(K:ah)(T:String)(r:V->List V->Hp->VK->Prop)(to:TE):TE:=λσ H Q=>to σ H λx H1=>tyV K T x H1/\r x [] H1 Q
def tBM(K:ah)(T:String)(r:V->List V->Hp->VK->Prop)(to:TE)(t:TA):TE:=λσ H Q=>to σ H λx H1=>tyV K T x H1/\t σ H1 λxs H2=>r x xs H2 Q
variable {o e:aj} {es:List aj} {to:TE} {t:TA} {name:Str} {wb kn:Pos} {T id:String} {r:V->List V->Hp->VK->Prop}
theorem IA(pa:PlainAttrs T)(slot:Slot T name id)(hty:typeOf (.builtin id)=pure (.type "method_descriptor"))(hm:Y5 X id r)(ho:PE X o to)
    (yX:attributeBase o name X.env (eval o X.env)=eval o X.env:=by rfl) (rg:(wb.endLine==kn.line)=true:=by rfl):PE X (.Call (.Attribute o name wb) [] [] kn) (VM X.K T r to):=by
  intro ae s σ H Q I h;refine wpAny_Call_method0_late yX rg (thn (ho ae s σ H _ I h) λv s1 ⟨x,H1,I1,r1,ty,q1⟩=>?_)
  obtain⟨h1,h2⟩:=BO I1 r1 ty;exact⟨T,id,pa,slot,hty,h1,h2,A2 rfl (PySem.evalArgs_none (hm ae s1 σ H1 x [] v [] Q I1 r1 .nil q1))⟩
theorem yY(pa:PlainAttrs T)(slot:Slot T name id)(hty:typeOf (.builtin id)=pure (.type "method_descriptor"))(hm:Y5 X id r)(ho:PE X o to)(ha:PA X (e::es) t)
    (yX:attributeBase o name X.env (eval o X.env)=eval o X.env:=by rfl)
    (RM:((backTo kn (starEach (e::es) X.env)).all (λx=>!x.1)&&(backToKw kn (keywordEach [] X.env)).all (λx=>x.1.isSome)
      && decide ((e::es).length+([]:List Keyword).length+(if([]:List Keyword).isEmpty then 0 else 1)<30))=true:=by rfl)
    (rg:(wb.endLine==kn.line)=true:=by rfl) (hs:starEach (e::es) X.env=(false,eval e X.env)::starEach es X.env:=by rfl) (BP:(backTo kn (starEach es X.env)).any (·.1)=false:=by rfl) :
    PE X (.Call (.Attribute o name wb) (e::es) [] kn) (tBM X.K T r to t):=by
  intro ae s σ H Q I h;refine wpAny_Call_method_late yX RM rg rfl (thn (ho ae s σ H _ I h) λv s1 ⟨x,H1,I1,r1,ty,q1⟩=>?_)
  obtain⟨h1,h2⟩:=BO I1 r1 ty;refine⟨T,id,pa,slot,hty,h1,h2,?_⟩;have hA:=ha kn ae s1 σ H1 _ I1 q1;rw[hs]at hA ⊢;refine A2 (by show(false || (backTo kn (starEach es X.env)).any (·.1))=false;rw[BP]<;>rfl) (Calls.evalArgs_plain ?_)
  exact thn hA λus s2 ⟨vs,H2,I2,r2,q2⟩=>hm ae s2 σ H2 x vs v us Q I2 r1 r2 q2
end
def VN(X:Cx)(id:String)(r:V->List V->Hp->VK->Prop):Prop :=
  ∀(ae:List (ab×Obj)) (s:au) (σ:St) (H:Hp) (x:V) (xs:List V) (v:ag) (us:bW) (Q:VK),Inv X ae σ H s->RelV x v->Vals xs us->r x xs H Q ->
    wpAny (model X.prog X.w) X.A (call (.builtin id) (v::us)) (EP X ae σ Q) X.xe s
theorem Vals.one:∀{x:V} {us:bW},Vals [x] us->∃u,us=[u]/\RelV x u
  | _,_,.cons r .nil=>⟨_,rfl,r⟩
theorem Vals.two:∀{x y:V} {us:bW},Vals [x,y] us->∃u v,us=[u,v]/\RelV x u/\RelV y v
  | _,_,_,.cons r (.cons q .nil)=>⟨_,_,rfl,r,q⟩
theorem Vals.zero:∀{us:bW},Vals [] us->us=[]
  | _,.nil=>rfl
theorem Vals.reverse{xs:List V}{us:bW}(h:Vals xs us):Vals xs.reverse us.reverse:=by
  induction h with
  | nil=>exact .nil
  | cons r t ih=>rw[vU,vU];exact Vals.append ih (.cons r .nil)
section
variable {X:Cx} {ae:List (ab×Obj)} {σ:St} {H:Hp} {s:au} {l b:ab} {xs ys zs:List V}
theorem Inv.ML{aQ its':bW}{n:Nat}{f:Array ag->Array ag}{t':Nat}(I:Inv X ae σ H s)(hH:H l=some (.aA xs))
    (e:s.heap.get? l=some {cls:=.type "list",data:=.seq aQ.toArray n}) (hf:f aQ.toArray=its'.toArray) (hv:Vals ys its') (hz:ys.length<=sizeLine) :
    Inv X ae σ (upd H l (.aA ys)) {s with heap:=s.heap.update l (Obj.mapSeq f),toks:=t'}:=by
  have q:=PySem.IsL.update e f;rw[hf]at q;refine I.write (x:=l) (e:=l) (by rw[hH];exact trivial) (.inl rfl) (λb' u hb hu=>(A1 s.heap (Obj.mapSeq f) (dF hb)).trans hu) ⟨_,q⟩ ?_
  exact⟨hz,its',_,hv,q⟩
theorem Inv.VO{aQ:bW}{t':Nat}(I:Inv X ae σ H s)(hv:Vals ys aQ)(hz:ys.length<=sizeLine) :
    Inv X ae σ (upd H s.heap.objs.size (.aA ys)) {s with heap:=s.heap.push {cls:=.type "list",data:=.seq aQ.toArray},toks:=t'} :=
  I.laid (λ_ _ q=>bR _ q) (aR _) ⟨hz,aQ,0,hv,cW _ rfl⟩
theorem Inv.fresh(I:Inv X ae σ H s):H s.heap.objs.size=none:=I.hok.fresh (aR _)
theorem Inv.MM(I:Inv X ae σ H s)(hH:H l=some (.aA xs)):xs.length<=sizeLine/\∃(aQ:bW) (n:Nat),Vals xs aQ/\xs.length=aQ.length/\s.heap.get? l=some {cls:=.type "list",data:=.seq aQ.toArray n}:=by
  obtain⟨z,aQ,n,r,e⟩:=I.hok l _ hH;exact⟨z,aQ,n,r,r.length,e⟩
theorem IB{n:Nat}(h:n<=sizeLine):Builtin.List.listTooLong n=false:=by
  unfold Builtin.List.listTooLong;exact dY (by lia)
end
section
variable {X:Cx}
def DG:V->List V->Hp->VK->Prop:=λx vs H Q=>∃l xs y,x=.ref l/\vs=[y]/\H l=some (.aA xs)/\xs.length<sizeLine/\Q .cE (upd H l (.aA (xs++[y])))
theorem oj:VN X "list.append" DG:=by
  intro ae s σ H x vs v us Q I rx rv h;obtain⟨l,xs,y,rfl,rfl,hH,hz,q⟩:=h;cases rx;obtain⟨u,rfl,ru⟩:=rv.one;obtain⟨z,aQ,n,r,hl,e⟩:=I.MM hH;refine n9 F.slot_list_append ⟨_,e,rfl⟩ F.entry_list_append (F.args_list_append_2 _ _) (PySem.list_append l aQ.toArray n u (by rw[bz];lia)) ⟨e,?_⟩
  refine⟨.cE,_,I.ML (its':=aQ++[u]) hH e (by simp) (r.append (.cons ru .nil)) ?_,rfl,q⟩
  rw[bY,List.length_singleton]
  lia
def yZ:V->List V->Hp->VK->Prop:=λx vs H Q=>∃l xs,x=.ref l/\vs=[]/\H l=some (.aA xs)/\Q .cE (upd H l (.aA xs.reverse))
theorem BQ:VN X "list.reverse" yZ:=by
  intro ae s σ H x vs v us Q I rx rv h;obtain⟨l,xs,rfl,rfl,hH,q⟩:=h;cases rx;have hus:=rv.zero;subst hus;obtain⟨z,aQ,n,r,hl,e⟩:=I.MM hH;refine n9 F.slot_list_reverse ⟨_,e,rfl⟩ F.entry_list_reverse (F.args_list_reverse_1 _) (AutoSeq1.list_reverse_list_0 l aQ.toArray n (by rw[bz];lia)) ⟨e,?_⟩
  refine⟨.cE,_,I.ML (its':=aQ.reverse) hH e (by simp) r.reverse ?_,rfl,q⟩
  rw[List.length_reverse]
  lia
end
end L2
namespace Att
open PySem PySem.W PySem.Calls PyProof.Rows
theorem pN{P:Params}{h:Heap}:∀(ns:List Int) (vs:bW),WellAll P h vs (ns.map WData.int)->IntsAre vs ns:=by
  intro ns;induction ns with
  | nil =>
    intro vs w;rw[n0]at w;cases w;exact .nil
  | cons n ns ih =>
    intro vs w;rw[bC]at w;cases w with
    | cons a b =>
      cases a;exact .cons _ _ (ih _ b)
theorem Fo{l:OpenLaw}{n:Nat}(hn:l.most=some n){P:Params}{h:Heap}{args:List WData}{RN:bW}
    (MN:l.row.toRowW.claim.pre args=true) (MO:WellAll P h RN args) :
    ∃a vs ns,RN=[Value.ref a]/\args=[WData.list (ns.map WData.int)]/\h.get? a=some {cls:=.type "list",data:=.seq vs.toArray}/\IntsAre vs ns/\ns.length<=n:=by
  have VP:WShape.hasAll [] args [.list .int]=true:=(pre_splitW MN).1;have hc:l.pre.holds [] {args:=args}=true:=(pre_splitW MN).2
  obtain⟨d,r,rfl,h1,h2⟩:=hasAllW_cons VP;obtain rfl:=hasAllW_nil h2;obtain⟨xs,rfl,h3⟩:=hasW_list h1;obtain⟨ns,rfl⟩:=items_int h3;have cD:ns.length<=n:=by
    unfold OpenLaw.pre at hc;have h4:(WTm.not (.lt (.lit (.int (n:Int))) (.len (.arg 0)))).holds [] {args:=[.list (ns.map .int)]}=true:=by
      have h4:=(holds_andW hc).1;rw[hn]at h4;exact h4
    have h5:=condW_of h4 (w_not (w_lt w_lit (w_len_list (w_arg rfl))));rw[aH]at h5;refine Bj λq=>?_
    have q':(n:Int)<((ns.length:Nat):Int):=by lia
    first
      | (rw[eO q']at h5;exact absurd h5 (by decide))
      | (simp at h5;lia)
  cases MO with
  | cons w1 w2 =>
    cases w2;cases w1 with
    | list ho hall=>exact⟨_,_,ns,rfl,rfl,ho,pN ns _ hall,cD⟩
theorem Fp(l:OpenLaw)(args:List WData):l.row.toRowW.claim.post args (.bool true) args=true :=
  postW_of (r:=l.row.toRowW) (X:=(true==true))
    (show WShape.has [] (.bool true) .bool=true by first | rfl | decide | simp[WShape.has,WShape.arms,WShape.armsAll])
    (show(WTm.eq .res (.lit (.bool true))).value [] {args:=args,res:=some (.bool true),after:=args}=some (.bool (true==true))from w_eq_bool (w_res rfl) w_lit) rfl
theorem y0{l:OpenLaw}{n:Nat}{q:bh}{loose:List Str}{XP:cZ->Heap->Prop}{YP:aM->Heap->Prop}{d:DefRec}
    (hn:l.most=some n) (hdf:d.params.defaults=[])
    (call:∀(w:aM) (s₀ s₁:au) (mg mb:cZ) (fa:ab) (o:Obj) (pm cd doc:ag) (a:ab) (vs:bW) (ns:List Int),
      Ground q loose [] XP w s₀ mg mb s₁.heap->YP w s₁.heap ->
      s₁.heap.get? fa=some o->o.data=.func (docDef d.name d.params d.body d.scope pm cd doc)->s₁.heap.CodeRec cd d.name->mg d.name=some (.ref fa) ->
      s₁.heap.get? a=some {cls:=.type "list",data:=.seq vs.toArray}->IntsAre vs ns->ns.length<=n->s₁.gens=#[] ->
      codeAny (model l.prog w) callerA (.call (.ref fa) ⟨[.ref a],[]⟩) (λr s'=>r=.ok (.ret (.bool true))/\OldK s₁.heap s'.heap/\s'.os=s₁.os/\AllBare s'.gens) s₁) :
    WalkO q loose XP YP l.row.toRowW d [] (λf vs=>PySem.call f vs):=by
  intro w s₀ s₁ mg mb G Y fa o pm cd doc dV kV ho hd uC hD Pr hg args RN as MN aeY hrd MO hlo;obtain rfl:dV=.none:=Dflts.none hD hdf;obtain rfl:kV=.none:=Dflts.noKw hD;obtain⟨a,vs,ns,rfl,rfl,IC,ID,cD⟩:=Fo hn MN MO;refine enter_call (iO (call w s₀ s₁ mg mb fa o pm cd doc a vs ns G Y ho (fd_plain hd) uC Pr IC ID cD hg) λr s' hq=>?_)
  obtain⟨rfl,h2,h3,h4⟩:=hq;exact⟨.inl ⟨.bool true,.bool true,[],rfl,λ_=>rfl,.bool true,Fp l _,λ_=>⟨List.Pairwise.nil,λ_ hm=>(nomatch hm)⟩⟩,h2,h3,h4⟩
end Att
namespace L2
open PySem PySem.Spec PyProof.Rows
theorem uR:∀{vs:bW} {ns:List Int},IntsAre vs ns->Vals (ns.map V.int) vs
  | _,_,.nil=>.nil
  | _,_,.cons n t h=>.cons ⟨t,rfl⟩ (uR h)
theorem Fq{P:bh}{w:aM}{K:ah}{mg mb:cZ}{CX:Dm}{k:Nat}{fa a:ab}{fd:dk}{x:Str}{sp:Sp}{s₁:au}{vs:bW}{ns:List Int}{tabs:List (ab×Str)}
    (KX:K.In s₁.heap) (IE:s₁.heap.Ns mainGlobals mg) (hb:s₁.heap.Ns builtinsNs mb) (hbb:∀x:Str,x≠"__name__"->mb x=bootBuiltins x) (IF:s₁.heap.NoLimit) (hg:s₁.gens=#[])
    (hT:∀b q,tabs.lookup b=some q->s₁.heap.get? b=some {cls:=.none,data:=.fields #[]}/\isCodeTable s₁.heap b/\K.lookup b=none) (hTI:∀H:Hp,(∀b q,tabs.lookup b=some q->H b=some (.yq q))->qW K H)
    (ha:s₁.heap.get? a=some {cls:=.type "list",data:=.seq vs.toArray}) (hi:IntsAre vs ns) (hl:ns.length<=sizeLine) (hr:dg k callerA)
    (F:∀base:Heap,K.In base->base.Ns mainGlobals mg->FnOk P w K mg base CX k fa fd [x] sp) (VQ:∀(s:au) (u:ag),BindsTo s fd ⟨[u],[]⟩ [(x,u)])
    (lz:∀H:Hp,nJ K H a (ns.map V.int)->sp [.ref a] H (λv _=>v=.bl true) λ_ _ _=>False) (hCX:∀H e s',CX [] H s₁ (λ_ _ _=>False) e s'->False) :
    codeAny (model P w) callerA (.call (.ref fa) ⟨[.ref a],[]⟩) (λr s'=>r=.ok (.ret (.bool true))/\OldK s₁.heap s'.heap/\s'.os=s₁.os/\AllBare s'.gens) s₁:=by
  have rv:=uR hi;have eF:=hi.length
  let oa:Obj:={cls:=.type "list",data:=.seq vs.toArray}
  let H:Hp:=λb=>if b=a/\K.lookup a=none then some (.lx oa (.aA (ns.map V.int)))else(tabs.lookup b).map HO.yq
  have RO:∀b,H b=if b=a/\K.lookup a=none then some (.lx oa (.aA (ns.map V.int)))else(tabs.lookup b).map HO.yq:=λ_=>rfl
  have hHt:∀b q,tabs.lookup b=some q->H b=some (.yq q):=λb q e=>by
    have hne:b≠a:=λz=>by
      subst z;have h1:=(hT b q e).1;rw[ha]at h1;cases h1
    rw[RO,if_neg (λz=>hne z.1),e]
    rfl
  have hH:∀b u,H b=some u->(b=a/\K.lookup a=none/\u=.lx oa (.aA (ns.map V.int)))\/∃q,tabs.lookup b=some q/\u=.yq q:=λb u e=>by
    rw[RO]at e;by_cases h:b=a/\K.lookup a=none
    · rw[if_pos h]at e
      cases e;exact .inl ⟨h.1,h.2,rfl⟩
    · rw[if_neg h]at e
      cases z:tabs.lookup b with
      | none=>rw[z]at e;cases e
      | some q=>rw[z]at e;cases e;exact .inr ⟨q,rfl,rfl⟩
  have hS:nJ K H a (ns.map V.int):=by
    cases hk:K.lookup a with
    | some o =>
      have e:=KX a o hk;rw[ha]at e;cases e;exact .inr ⟨vs,_,hk,by rw[eF];exact hl,rv⟩
    | none=>exact .inl (.inr ⟨oa,by rw[RO,if_pos ⟨rfl,hk⟩]⟩)
  have hok:mF P w H s₁.heap:=λb u e=>by
    rcases hH b u e with⟨rfl,_,rfl⟩ | ⟨q,hq,rfl⟩
    · exact⟨ha,by rw[aH];exact hl,vs,_,rv,ha⟩
    · exact⟨#[],(hT b q hq).1,trivial,λpos cv z=>by cases z⟩
  have noD:∀{b:ab} {o:Obj} {es:Array DictEntry} {ep:Nat},s₁.heap.get? b=some o->o.data=.dict es ep->H b=none:=λ{b o es ep} e d=>by
    cases q:H b with
    | none=>rfl
    | some u =>
      rcases hH b u q with⟨rfl,_,_⟩ | ⟨t,ht,_⟩
      · rw[ha]at e;cases e;cases d
      · have h1:=(hT b t ht).1
        rw[h1]at e;cases e;cases d
  have Y6:∀{b:ab} {m:cZ},s₁.heap.Ns b m->(yR s₁.heap H).Ns b m:=λ{b m} ⟨o,es,ep,e,d,r⟩=>⟨o,es,ep,hidT_get e (noD e d),d,r⟩
  have hKb:K.In (yR s₁.heap H):=λb o e=>hidT_get (KX b o e) (by
    cases q:H b with
    | none=>rfl
    | some u =>
      rcases hH b u q with⟨rfl,z,_⟩ | ⟨t,ht,_⟩
      · rw[z]at e;cases e
      · rw[(hT b t ht).2.2]at e;cases e)
  have hM:Mod K mg (yR s₁.heap H):=⟨hKb,Y6 IE,⟨mb,Y6 hb,hbb⟩,let ⟨mc,h1,h2⟩:=IF;⟨mc,Y6 h1,h2⟩⟩
  have e0:Env0 P w K mg (yR s₁.heap H) callerA [] s₁ H:=⟨rfl,hM,λb o e=>of_hidT e,lU (Fc _ _),trivial,λb hb=>absurd (show b∈([]:List ab)from hb) (by simp),hok,.of_eq hg,hTI H hHt⟩
  refine iO ((F _ hKb (Y6 IE)).run callerA [] s₁ H ⟨[.ref a],[]⟩ [.ref a] [.ref a] _ _ hr e0 (VQ s₁ (.ref a)) (.cons rfl .nil) (lz H hS)) λr s' h=>?_
  cases r with
  | error e=>exact(hCX H e s' h).elim
  | ok fl =>
    cases fl with
    | next=>exact False.elim h
    | brk=>exact False.elim h
    | cont=>exact False.elim h
    | ret u =>
      obtain⟨v,H',os,bare,un,VR,r',q⟩:=h;have q':v=.bl true:=q;subst q';obtain rfl:u=Value.bool true:=r';have noF:∀b:ab,b∉AK ([]:List Env):=λb z=>absurd (show b∈([]:List ab)from z) (by simp)
      refine⟨rfl,⟨λb o e=>?_,λb o e=>un.there b o e (by simp)⟩,os,bare⟩
      cases q:H b with
      | none=>exact .inl (un.keep b o e q (noF b) (by simp))
      | some u =>
        rcases hH b u q with⟨rfl,_,rfl⟩ | ⟨t,ht,rfl⟩
        · obtain⟨e2,_⟩:=VR b _ (un.frzs b _ _ q)
          rw[ha]at e;cases e;exact .inl e2
        · obtain⟨h1,h2,_⟩:=hT b t ht
          obtain⟨ps,e2,_⟩:=(show dB P w H' s'.heap b (.yq t)from VR b _ (un.tbls b _ q))
          rw[h1]at e;cases e;exact .inr (.inl ⟨h2,rfl,#[],ps,rfl,by rw[e2];simp⟩)
abbrev E0:XK:=λ_ _ _=>False
theorem VS{A:bA}{k:Nat}(hr:dg k A):A.units+1<cLine:=j6 (Nat.add_le_add_left (by decide:1<=64) _) hr.units
section
variable {X:Cx}
theorem pv(i:Nat){x:Str}{pos:Pos}(hN:X.N[i]?=some x:=by rfl)(hv:Q0 X.env.scope x:=by first | exact Or.inl rfl | exact Or.inr (Or.inl rfl) | exact Or.inr (Or.inr rfl))(hd:(x==("__debug__":Str))=false:=by decide)
    (uC:(x==("__classdict__":Str))=false:=by decide):PE X (.Name x pos) (gR i):=pe_var hN hv hd uC
end
theorem VT{A B:Prop}(h:B):if false=true then A else B:=by
  rw[if_neg gI];exact h
theorem VU{A B:Prop}(h:A):if true=true then A else B:=by
  rw[if_pos rfl];exact h
def Same(H H':Hp):Prop:=∀b o,H b=some o->H' b=some o
theorem Same.refl(H:Hp):Same H H:=λ_ _ h=>h
theorem Same.trans{H H1 H2:Hp}(a:Same H H1)(b:Same H1 H2):Same H H2:=λc o h=>b c o (a c o h)
theorem Same.free{H H':Hp}(e:Same H H'){l:ab}(h:H' l=Option.none):H l=Option.none:=by
  cases q:H l with
  | none=>rfl
  | some o =>
    rw[e l o q]at h;cases h
theorem Same.seq{K:ah}{H H':Hp}{a:ab}{xs:List V}(e:Same H H')(h:lg K H a xs):lg K H' a xs:=by
  rcases h with(h | ⟨o,h⟩) | h
  · exact .inl (.inl (e _ _ h))
  · exact .inl (.inr ⟨o,e _ _ h⟩)
  · exact .inr h
section
variable {κ:Type} [DecidableEq κ]
def lj(kvs:List (κ×V))(k:κ):Option V:=(kvs.find? λkv=>decide (kv.1=k)).map (·.2)
def MP(kvs:List (κ×V))(k:κ)(v:V):List (κ×V) :=
 if(kvs.any λkv=>decide (kv.1=k))=true then kvs.map (λkv=>if kv.1=k then(kv.1,v)else kv)else kvs++[(k,v)]
theorem rh{p:κ×V}{r:List (κ×V)}{k:κ}(e:p.1=k):lj (p::r) k=some p.2:=by simp[lj,nY,e]
theorem ri{p:κ×V}{r:List (κ×V)}{k:κ}(e:¬p.1=k):lj (p::r) k=lj r k:=by simp[lj,nY,e]
theorem y6(k:κ):∀kvs:List (κ×V),(kvs.any λkv=>decide (kv.1=k))=(lj kvs k).isSome
 | []=>rfl
 | p::r=>by
  rw[v7];by_cases e:p.1=k
  ·simp only[rh e,eO e,Bool.true_or,Option.isSome_some]
  ·rw[ri e,dY e,Bool.false_or];exact y6 k r
theorem IG{kvs:List (κ×V)}{k:κ}(v:V)(h:lj kvs k=none):MP kvs k v=kvs++[(k,v)]:=by
 unfold MP;rw[y6,h];exact if_neg (by decide)
theorem qV.getD{o:Option V}{u:lb}{d:V}{d':ag}(r:qV o u)(rd:RelV d d'):RelV (o.getD d) (u.getD d'):=by
 cases o with
 | none=>cases u with
  | none=>exact rd
  | some _=>exact(show False from r).elim
 | some _=>cases u with
  | none=>exact(show False from r).elim
  | some _=>exact r
theorem KV.val{kvs:List (κ×V)}{vs:List (κ×ag)}(r:KV kvs vs)(k:κ):qV (lj kvs k) (valueAt vs k):=by
 unfold KV at r;induction r with
 | nil=>exact True.intro
 | @cons p q ps qs h t ih =>
  obtain⟨h1,h2⟩:=h;by_cases e:p.1=k
  ·have e':q.1=k:=h1.symm.trans e;have b:valueAt (q::qs) k=some q.2:=by simp[valueAt,nY,e']
   rw[rh e,b];exact h2
  ·have e':¬q.1=k:=λz=>e (h1.trans z)
   have b:valueAt (q::qs) k=valueAt qs k:=by simp[valueAt,nY,e']
   rw[ri e,b];exact ih
theorem KV.any{kvs:List (κ×V)}{vs:List (κ×ag)}(r:KV kvs vs)(k:κ):(kvs.any λkv=>decide (kv.1=k))=vs.any λkv=>decide (kv.1=k):=by
 unfold KV at r;induction r with
 | nil=>rfl
 | cons h t ih=>rw[v7,v7,ih,h.1]
theorem KV.abn{kvs:List (κ×V)}{vs:List (κ×ag)}(r:KV kvs vs)(k:κ){y:V}{u:ag}(ry:RelV y u) :
  KV (kvs.map λkv=>if kv.1=k then(kv.1,y)else kv) (vs.map λkv=>if kv.1=k then(kv.1,u)else kv):=by
 unfold KV at r ⊢;induction r with
 | nil=>exact .nil
 | @cons p q ps qs h t ih =>
  rw[bC,bC];refine .cons ?_ ih;obtain⟨h1,h2⟩:=h;by_cases e:p.1=k
  ·rw[if_pos e,if_pos (h1.symm.trans e)];exact⟨h1,ry⟩
  ·rw[if_neg e,if_neg (λz=>e (h1.trans z))];exact⟨h1,h2⟩
theorem KV.put{kvs:List (κ×V)}{vs:List (κ×ag)}(r:KV kvs vs)(k:κ){y:V}{u:ag}(ry:RelV y u):KV (MP kvs k y) (stored vs k u):=by
 unfold MP stored;rw[r.any k];by_cases e:(vs.any λkv=>decide (kv.1=k))=true
 ·rw[if_pos e,if_pos e];exact r.abn k ry
 ·rw[if_neg e,if_neg e];exact Paired.snoc r ⟨rfl,ry⟩
theorem KV.length{kvs:List (κ×V)}{vs:List (κ×ag)}(r:KV kvs vs):kvs.length=vs.length:=v9 r
end
theorem IH{P:bh}{w:aM}{k:b8}{u:ag}(r:RelV (kV k) u):(eA P w).is k u=true:=by
 cases k with
 | inl i=>obtain⟨t,e⟩:=(show ∃t,u=Value.int i t from r);subst e;exact yO P w i t
 | inr x=>obtain⟨t,e⟩:=(show ∃t,u=Value.str x t from r);subst e;exact yP P w x t
theorem uS{P:bh}{w:aM}:∀{ks:List b8} {us:bW},Vals (ks.map kV) us->ItemsAre (eA P w) ks us
 | [],_,r=>by rw[n0]at r;cases r;exact .nil
 | k::ks,_,r=>by
  rw[bC]at r;cases r with
  | cons h t=>exact .cons (IH h) (uS t)
section
variable {P:bh} {w:aM} {H:Hp} {h:Heap} {a:ab}
theorem II{u:HO}(ok:mF P w H h)(e:Rd H a u):dB P w H h a u:=e.ok ok
theorem Pu{kvs:List (b8×V)}(ok:mF P w H h)(e:Rd H a (.dK kvs)):kvs.length<=sizeLine/\(a==sysModules)=false/\∃vs,KV kvs vs/\h.DictOf (eA P w) a vs :=
 show dB P w H h a (.dK kvs)from II ok e
theorem VV{kvs:List (b8×V)}(ok:mF P w H h)(e:H a=some (.dK kvs)):kvs.length<=sizeLine/\(a==sysModules)=false/\∃vs,KV kvs vs/\h.DictOf (eA P w) a vs:=Pu ok (.inl e)
end
section
variable {X:Cx} {ae:List (ab×Obj)} {σ:St} {H:Hp} {s:au} {a b:ab} {k:List b8} {v:V} {r:ag} {A:bA} {E:cm} {xs:List (List b8×ab×ag)}
def iQ(K:ah)(H:Hp)(xs:List (List b8×ab×ag)):Prop:=∀x∈xs,gO K H x.2.1 (x.1.map kV)
theorem key_is(I:Inv X ae σ H s)(e:gO X.K H a (k.map kV)):(tupleKind (eA X.prog X.w)).is s.heap k a:=by
 obtain⟨aQ,r,⟨o,h1,h2,n,h3⟩,_⟩:=I.tuple e;exact⟨o,aQ.toArray,n,h1,h2,h3,by simpa using uS r⟩
theorem IJ(I:Inv X ae σ H s)(e:Rd H a (.dT xs))(hk:iQ X.K H xs):xs.length<=sizeLine/\(a==sysModules)=false/\s.heap.DictOfH (tupleKind (eA X.prog X.w)) a xs:=by
 obtain⟨z,y,o,es,ep,h1,h2,h3,h4,h5⟩:=(show dB X.prog X.w H s.heap a (.dT xs)from II I.hok e)
 exact⟨z,y,o,es,ep,h1,h2,h3,h4,λx hx=>key_is I (hk x hx),h5⟩
theorem VW{Q:cm}(hu:A.units+1<cLine)(I:Inv X ae σ H s)(e:Rd H a (.dT xs))(hk:iQ X.K H xs)(eb:gO X.K H b (k.map kV))(h:∀s',Inv X ae σ H s'->Q (.bool (atKey xs k).isSome) s') :
  wpAny (model X.prog X.w) A (compareOp .In (.ref b) (.ref a)) Q E s:=by
 obtain⟨_,hd,dd⟩:=IJ I e hk;exact wpAny_in_heap (Ba hu) (key_is I eb) hd dd (h _ (I.tok _))
theorem VX{Q:cm}(hu:A.units+1<cLine)(I:Inv X ae σ H s)(e:Rd H a (.dT xs))(hk:iQ X.K H xs)(eb:gO X.K H b (k.map kV)) (h:∀s',Inv X ae σ H s'->Q (.bool (!(atKey xs k).isSome)) s') :
  wpAny (model X.prog X.w) A (compareOp .NotIn (.ref b) (.ref a)) Q E s:=by
 obtain⟨_,hd,dd⟩:=IJ I e hk;exact wpAny_notIn_heap (Ba hu) (key_is I eb) hd dd (h _ (I.tok _))
theorem BR{κ:Type} [DecidableEq κ] (xs:List (κ×ab×ag)) (k:κ) (a:ab) (v:ag):(storedH xs k a v).length<=xs.length+1:=by
 unfold storedH;split
 ·rw[aH];lia
 ·rw[bY];exact aR _
theorem RP{Q:Unit->au->Prop}(hu:A.units+1<cLine)(I:Inv X ae σ H s)(e:H a=some (.dT xs))(hk:iQ X.K H xs)(eb:gO X.K H b (k.map kV))(hl:xs.length<sizeLine)
  (h:∀s',Inv X ae σ (upd H a (.dT (storedH xs k b r))) s'->Q () s'):wpAny (model X.prog X.w) A (setItem (.ref a) (.ref b) r) Q E s:=by
 obtain⟨_,hd,dd⟩:=IJ I (.inl e) hk;refine wpAny_setItem_heap (hsz:=iP hl) (Ba hu) (key_is I eb) dd λh' Y7 hs=>h _ ?_
 obtain⟨q,es,ep,hq,h2,h3,h4,_,h5⟩:=Y7;have hz:(storedH xs k b r).length<=sizeLine:=by have:=BR xs k b r;lia
 exact I.write (x:=a) (e:=a) (by rw[e];exact True.intro) (.inl rfl) (λc q' hc z=>(hs.2 c hc).trans z) ⟨q,hq⟩ ⟨hz,hd,q,es,ep,hq,h2,h3,h4,h5⟩
theorem y7(I:Inv X ae σ H s):sysModules<s.heap.objs.size:=Nat.lt_trans (by decide) (show mainGlobals<s.heap.objs.size from(I.mod.glob.keeps I.bk).lt)
def DH(o:HO):TE:=λ_ H Q=>∀p,H p=none->Q (.ref p) (upd H p o)
theorem DI{pos:Pos}:PE X (.Dict [] [] pos) (DH (.dT [])):=λae s σ H Q I h =>
 wpAny_Dict_empty ⟨.ref s.heap.objs.size,_,I.laid (a:=s.heap.objs.size) (o:=.dT []) (t':=s.toks) (λ_ _ q=>bR _ q) (aR _)
  ⟨dP _,iH.mpr (dF (b9 (y7 I))),_,#[],0,cW _ rfl,⟨rfl,rfl,rfl⟩,rfl,rfl,nZ⟩,rfl,h _ (I.hok.fresh (aR _))⟩
theorem uT{κ:Type} [DecidableEq κ] (xs:List (κ×ab×ag)) (k:κ):(atKey xs k).isSome=(xs.map (·.1)).any λj=>decide (j=k):=by
 unfold atKey;rw[Bd,List.any_map,List.isSome_find?];rfl
end
def UM(CX:Dm)(P:bh)(w:aM)(K:ah)(mg:cZ)(base:Heap)(N:List Str)(qual:Str)(scope:Scope)(f:ab)(cd:ag)(cl:List (Str×ab))(A:bA)(outer:List Env)(s:au)(H:Hp)(E:XK):Cx where
 prog:=P
 w:=w
 K:=K
 mg:=mg
 base:=base
 A:=A.deeper (W.envX qual scope s.heap.objs.size f cd cl)
 N:=N
 s₀:=s
 H₀:=H
 env:=W.envX qual scope s.heap.objs.size f cd cl
 outer:=outer
 stack:=W.envX qual scope s.heap.objs.size f cd cl::outer
 ex:=[]
 calm:=true
 fn:=λ_=>false
 pn:=[]
 xe:=λe s'=>wpAny (model P w) (A.deeper (W.envX qual scope s.heap.objs.size f cd cl)) (leaving (W.envX qual scope s.heap.objs.size f cd cl) e) (λ_ Iv=>CX outer H s E e Iv) (λe' Iv=>CX outer H s E e' Iv) s'
structure ko (h:Heap) (H:Hp) (scope:Scope) (cl:List (Str×ab)) (N:List Str) (τ:St):Prop where
 inj:∀x y c,cl.lookup x=some c->cl.lookup y=some c->x=y
 has:∀x,scope.names.lookup x=some .free->∃c,cl.lookup x=some c
 cell:∀x c,cl.lookup x=some c->∃v,h.IsCell c v
 free:∀x c,cl.lookup x=some c->H c=none
 val:∀(i:Nat) (x:Str) (v:V),N[i]?=some x->τ[i]?=some (some v)->∃c u,scope.names.lookup x=some .free/\cl.lookup x=some c/\h.IsCell c (some u)/\RelV v u
 len:τ.length=N.length
theorem ko.un{h h':Heap}{H H':Hp}{scope:Scope}{cl:List (Str×ab)}{N:List Str}{τ:St}{fs:List ab}(C:ko h H scope cl N τ)(u:Un fs [] H H' h h'):ko h' H' scope cl N τ where
 inj:=C.inj
 has:=C.has
 cell:=λx c e=>by
  obtain⟨v,o,ho,hd⟩:=C.cell x c e;obtain⟨sl,q⟩:=u.any ho (C.free x c e) (by simp)
  exact⟨v,_,q,hd⟩
 free:=λx c e=>by
  obtain⟨v,o,ho,hd⟩:=C.cell x c e;exact u.free c o ho (C.free x c e) (by simp)
 val:=λi x v e1 e2=>by
  obtain⟨c,w,k,e,⟨o,ho,hd⟩,r⟩:=C.val i x v e1 e2;obtain⟨sl,q⟩:=u.any ho (C.free x c e) (by simp)
  exact⟨c,w,k,e,⟨_,q,hd⟩,r⟩
 len:=C.len
theorem MQ{CX:Dm}{P:bh}{w:aM}{K:ah}{mg:cZ}{base:Heap}{N:List Str}{x qual:Str}{scope:Scope}{f:ab}{cd:ag}{cl:List (Str×ab)}{A:bA}{outer:List Env}{s:au}{H:Hp}{E:XK}{u:ag}{v:V}{τ:St}{h1:Heap}{tk:Nat}
  (hk:scope.kind=.function) (hx:scope.names.lookup x=some .local) (nc:∀y∈scope.names,y.2≠.cell) (hd:A.handled=none) (e0:Env0 P w K mg base A outer s H) (r:RelV v u) (C:ko s.heap H scope cl N τ)
  (IE:h1.Ns s.heap.objs.size λy=>[(x,u)].reverse.lookup y) (Y8:∀b o,s.heap.get? b=some o->h1.get? b=some o) :
  Inv (UM CX P w K mg base (x::N) qual scope f cd cl A outer s H E) [] (some v::τ) H {s with heap:=h1,toks:=tk}:=by
 have noA:∀b:ab,b∉(UM CX P w K mg base (x::N) qual scope f cd cl A outer s H E).ex:=λb z=>absurd (show b∈([]:List ab)from z) (by simp)
 refine⟨⟨e0.mod,hk,rfl,rfl,aR _,C.inj,λy hy=>?_,λy c h _=>(by cases h),λ_=>hd,Around.frames_deeper e0.frames,.inr ⟨rfl,rfl⟩,λb z=>absurd z (noA b),e0.bs,e0.bsz,λb _ _=>noA b,λb z=>absurd z (noA b),e0.funs,e0.frf,e0.tabs⟩,
  rfl,e0.bare,Un.kept Y8,⟨_,IE,λi y z h1 h2 h3=>?_⟩,λy c h=>?_,e0.hok.fresh (aR _),λy c h=>C.free y c h,λp hp=>absurd (show p∈([]:List (ab×Obj))from hp) (by simp),e0.hok.kept Y8,?_⟩
 ·have hy:scope.names.lookup y=some .cell\/scope.names.lookup y=some .free:=hy;rcases hy with hy | hy
  ·exact absurd rfl (nc _ (dC hy))
  ·exact C.has y hy
 ·cases i with
  | zero =>
   have e1:x=y:=bo (show some x=some y from h1)
   have e2:v=z:=bo (bo (show some (some v)=some (some z)from h2))
   subst e1 e2;exact⟨u,r,.inl ⟨hx,by simp⟩⟩
  | succ i =>
   obtain⟨c,w',k,e,z',r'⟩:=C.val i y z (by simpa using (show(x::N)[i+1]?=some y from h1)) (by simpa using h2)
   exact⟨w',r',.inr ⟨.inr k,c,e,z'.keeps Y8⟩⟩
 ·obtain⟨v,z⟩:=C.cell y c h;exact⟨v,z.keeps Y8⟩
 ·show(some v::τ).length=(x::N).length;rw[aW,aW,C.len]
theorem MR{CX:Dm}{P:bh}{w:aM}{K:ah}{mg:cZ}{base:Heap}{k:Nat}{N:List Str}{x name qual:Str}{params:Arguments}{body:aj}{scope:Scope}{f:ab}{pm cU Fs:ag}{cl:List (Str×ab)}{A:bA}{outer:List Env}{s:au}{H:Hp}{Q:VK}{E:XK}{u:ag}{v:V}{τ:St}{o:Obj}
  (ho:s.heap.get? f=some o) (hf:o.data=.func (W.kla_fn name qual params body scope cl pm cU Fs)) (uC:s.heap.CodeRec cU qual) (hr:dg (k+1) A) (e0:Env0 P w K mg base A outer s H)
  (hb:bindArgs (W.kla_fn name qual params body scope cl pm cU Fs) ⟨[u],[]⟩=pure [(x,u)]) (r:RelV v u) (hk:scope.kind=.function) (RQ:scope.isCoroutine=false) (RR:scope.isGenerator=false) (hx:scope.names.lookup x=some .local) (nc:∀y∈scope.names,y.2≠.cell)
  (C:ko s.heap H scope cl N τ) (hbody:∃t,PE (UM CX P w K mg base (x::N) qual scope f cU cl A outer s H E) body t/\t (some v::τ) H Q) :
  codeAny (model P w) A (.call (.ref f) ⟨[u],[]⟩) (CR CX outer P w H s Q E) s:=by
 have lim:s.heap.NoLimit:=e0.mod.nolimit.keeps λb o e=>(e0.bs b o e).1
 refine W.kla_callFunE hr.depth ho hf RQ RR rfl uC ?_;rw[hb];refine ax (wpAny_newFunctionEnv nc (λy hy=>?_) (λFt IE hsb=>⟨lim.fresh _ hsb,?_⟩) hk)
 ·obtain rfl:y=(x,u):=by simpa using hy
  exact hx
 ·show codeAny _ _ (.expr body (W.envX qual scope s.heap.objs.size f cU cl)) _ _;obtain⟨t,ht,hq⟩:=hbody;have VY:∀b o,s.heap.get? b=some o->Ft.get? b=some o:=λb o e=>hsb.extBut b o (b9 (bK e)) (bR _ e)
  have I:=MQ (CX:=CX) (qual:=qual) (f:=f) (cd:=cU) (E:=E) (tk:=s.toks+1) hk hx nc hr.hd e0 r C IE VY;refine W.kla_codeExpr (lV (ht [] _ _ H Q I hq) (λu' s' hs=>?_) λe s' hs=>hs)
  obtain⟨v',H',J,rv,q⟩:=hs;exact⟨v',H',J.os,J.bare,J.base,J.hok,rv,q⟩
theorem ud{pos p:Pos}{c cv:ag}(l:bW)(h:TriplesOk l)(e:codeAmong p (l++[rawInt pos.line,rawInt pos.col,c])=some cv):codeAmong p l=some cv\/cv=c:=by
 fun_induction TriplesOk l with
 | case1 =>
  simp only[gW,codeAmong,rawInt]at e;split at e
  ·cases e;exact .inr rfl
  ·cases e
 | case2 a t b u x rest ih =>
  simp only[Bi,codeAmong]at e ⊢;split at e
  ·rename_i hc;rw[if_pos hc];exact .inl e
  ·rename_i hc;rw[if_neg hc];exact ih h e
 | case3 l h1 h2=>exact h.elim
def wJ:HO:=.ext λ_=>True
theorem BS{P:bh}{w:aM}{H:Hp}{h:Heap}{a:ab}{o:Obj}(e:h.get? a=some o):dB P w H h a (.lx o wJ):=⟨e,trivial,⟨o,e⟩,λ_ _ _ _=>trivial⟩
def y8(mg:cZ)(base:Heap):Prop:=∃bm o,mg "__builtins__"=some (.ref bm)/\bm≠builtinsNs/\bm≠mainGlobals/\base.get? bm=some o/\o.cls=.type "module"/\o.dict=some builtinsNs/\o.data=.plain
def IK(H:Hp)(f:ab)(qual:Str)(params:Arguments)(body:aj)(scope:Scope)(cl:List (Str×ab)):Prop :=
 ∃o u pm cU Fs c oc uc vs t,H f=some (.lx o u)/\o.data=.func (W.kla_fn "<lambda>" qual params body scope cl pm cU Fs)/\cU=.ref c/\H c=some (.lx oc uc)/\oc.data=.fields vs/\vs[1]?=some (.str qual t)
def abo(qual:Str)(params:Arguments)(body:aj)(scope:Scope)(cl:List (Str×ab)):TE:=λ_ H Q=>∀f H',H f=none->Same H H'->(∀b o,H' b=some o->H b=some o\/H b=none)->IK H' f qual params body scope cl->Q (.ref f) H'
section
variable {X:Cx} {x:Str} {params:Arguments} {body:aj} {scope:Scope} {lp:Pos} {cl:List (Str×ab)} {c T:ab}
theorem RS(hx:x∈dG)(ht:W.tabIn X.K x=some (c,T))(hC:W.codeHdIn X.K c T=true)(Pw:X.env.code=.ref c)(VZ:X.env.qual++"<lambda>"=t9 x)(hB:y8 X.mg X.base)
  (abp:defaultsOf params X.env=([],[])) (hcl:closureFor scope X.env=pure cl):PE X (.Lambda params body scope lp) (abo (t9 x) params body scope cl):=by
 intro ae s σ H Q I h;have hT:H T=some (.yq (t9 x)):=I.tabs x hx c T ht;obtain⟨ps,hP,Y9,Px⟩:=(show dB X.prog X.w H s.heap T (.yq (t9 x))from I.hok T _ hT)
 have C:W.CodeHd s.heap c T:=W.codeHd_of_K I.oW hC;have hg:s.heap.Ns mainGlobals X.mg:=I.mod.glob.keeps I.bk;obtain⟨bm,ob,b1,b2,b3,b4,b5⟩:=hB;have ne:∀{b:ab} {o:Obj},X.base.get? b=some o->b≠T:=λ{b o} e z=>by
  have:=(I.bs b o e).2;rw[z,hT]at this;cases this
 have hgT:mainGlobals≠T:=by
  obtain⟨o,es,ep,e,_⟩:=I.mod.glob;exact ne e
 refine W.kla_eval abp ?_;rw[VZ];cases hc:codeAmong lp ps.toList with
 | some cv =>
  obtain⟨cc,oc,uc,vs,t,rfl,k1,k2,k3⟩:=Px lp cv hc;refine W.kla_makeFunctionHit (mg:=X.mg) hcl I.ok.glob hg Pw C hP Y9 hc ⟨bm,ob,b1,b2,b3,ne b4,(I.bs _ _ b4).1,b5⟩ λFs h' tk hk hsz=>?_
  have hn:H h'.objs.size=none:=I.hok.fresh hsz;refine⟨.ref h'.objs.size,upd H h'.objs.size (.lx _ wJ),I.laid (t':=tk) (λb u e=>bR _ (hk b u e)) hsz (BS (cW _ rfl)),rfl,h _ _ hn (λb u e=>by rw[upd_ne (ne_of_none e hn)];exact e) (λb o e=>?_) ?_⟩
  ·by_cases hb:b=h'.objs.size
   ·rw[hb];exact .inr hn
   ·rw[upd_ne hb]at e;exact .inl e
  ·exact⟨_,_,_,_,_,cc,oc,uc,vs,t,az,rfl,rfl,by rw[upd_ne (ne_of_none k1 hn)];exact k1,k2,k3⟩
 | none =>
  refine W.kla_makeFunction (mg:=X.mg) hcl I.ok.glob hg Pw C hP Y9 hc hgT ⟨bm,ob,b1,b2,b3,ne b4,(I.bs _ _ b4).1,b5⟩ λc' Fs h' tk Py RT dW abq htb=>?_
  obtain⟨ae6,oc,vs,t,e2,YX,hd,hv⟩:=abq;cases e2;have Za:H c'=none:=I.hok.fresh RT;have RU:H h'.objs.size=none:=I.hok.fresh (b0 RT (iP dW));have nfc:h'.objs.size≠c':=n5 dW;have cT:c'≠T:=λz=>by rw[z,hT]at Za;cases Za
  have fT:h'.objs.size≠T:=λz=>by rw[z,hT]at RU;cases RU
  let o1:HO:=.lx oc wJ
  let H1:Hp:=upd H c' o1
  have hn1:H1 h'.objs.size=none:=by show upd H c' o1 _=_;rw[upd_ne nfc];exact RU
  let fo:Obj:=W.kla_obj "<lambda>" (t9 x) params body scope cl ((X.mg "__name__").getD .none) c' Fs
  let H2:Hp:=upd H1 h'.objs.size (.lx fo wJ)
  have Pz:Same H H1:=λb u e=>by show upd H c' o1 b=_;rw[upd_ne (ne_of_none e Za)];exact e
  have s12:Same H1 H2:=λb u e=>by show upd H1 _ _ b=_;rw[upd_ne (ne_of_none e hn1)];exact e
  have keep:∀b o,b≠T->s.heap.get? b=some o->(h'.push fo).get? b=some o:=λb o hb e=>bR _ (Py b o hb e)
  have nT:∀b,H b=none->b≠T:=λb n z=>by rw[z,hT]at n;cases n
  have lt:∀b o,s.heap.get? b=some o->b<s.heap.objs.size:=λb o e=>bK e
  have hf2:∀b o,s.heap.get? b=some o->H b=none->H2 b=none:=λb o e n=>by
   show upd (upd H c' o1) _ _ b=none;have l1:=lt b o e;rw[upd_ne (b9 (cz l1 (b0 RT (iP dW)))),upd_ne (b9 (cz l1 RT))];exact n
  have un:Un X.fs [] H H2 s.heap (h'.push fo):=⟨λb o e n _ _=>keep b o (nT b n) e,λb o e n _ _=>⟨o.slots,keep b o (nT b n) e⟩,λb o e n _=>hf2 b o e n,λb o e _=>by
    by_cases hb:b=T
    ·subst hb;exact⟨_,bR _ htb⟩
    ·exact⟨o,keep b o hb e⟩,λb xs e=>s12 _ _ (Pz _ _ e),λb o u e=>s12 _ _ (Pz _ _ e),λb q e=>s12 _ _ (Pz _ _ e)⟩
  have hok:mF X.prog X.w H2 (h'.push fo):=λb u e=>by
   by_cases PC:b=h'.objs.size
   ·subst PC;have e:upd H1 h'.objs.size (.lx fo wJ) h'.objs.size=some u:=e;rw[az]at e;cases e;exact BS (cW _ rfl)
   ·have e:upd H1 h'.objs.size (.lx fo wJ) b=some u:=e;rw[upd_ne PC]at e;by_cases V0:b=c'
    ·subst V0;have e:upd H b o1 b=some u:=e;rw[az]at e;cases e;exact BS (bR _ YX)
    ·have e:upd H c' o1 b=some u:=e;rw[upd_ne V0]at e;by_cases hbT:b=T
     ·subst hbT;rw[hT]at e;cases e;refine⟨_,bR _ htb,?_,λpos cv z=>?_⟩
      ·simpa using TriplesOk_snoc lp.line lp.col (.ref c') ps.toList Y9
      ·rcases ud (pos:=lp) ps.toList Y9 (by simpa using z)with z | z
       ·obtain⟨cc,oc',uc,RV,t',q1,q2,q3⟩:=Px pos cv z;exact⟨cc,oc',uc,RV,t',q1,s12 _ _ (Pz _ _ q2),q3⟩
       ·exact⟨c',oc,wJ,vs,t,z,s12 _ _ (by show upd H c' o1 c'=_;exact az),hd,hv⟩
     ·refine(I.hok b u e).yQ (λd v t7 q=>keep d v ?_ q) (λd q=>s12 _ _ (Pz _ _ q)) (λd xs q=>s12 _ _ (Pz _ _ q)) λd ob' v q=>s12 _ _ (Pz _ _ q)
      rcases t7 with rfl | t7
      ·exact hbT
      ·rintro rfl
       rw[hT]at t7;cases t7
  refine⟨.ref h'.objs.size,H2,I.un (t':=tk) un hok,rfl,h _ _ RU (Pz.trans s12) (λb o e=>?_) ?_⟩
  ·by_cases PC:b=h'.objs.size
   ·rw[PC];exact .inr RU
   ·have e:upd H1 h'.objs.size (.lx fo wJ) b=some o:=e;rw[upd_ne PC]at e;by_cases V0:b=c'
    ·rw[V0];exact .inr Za
    ·have e:upd H c' o1 b=some o:=e;rw[upd_ne V0]at e;exact .inl e
  ·exact⟨_,_,_,_,_,c',oc,wJ,vs,t,(show upd H1 _ _ _=_ from az),rfl,rfl,s12 _ _ (show upd H c' o1 c'=_ from az),hd,hv⟩
end
theorem V1{CX:Dm}{P:bh}{w:aM}{K:ah}{mg:cZ}{base:Heap}{k:Nat}{f:ab}{x qual:Str}{st:ay}{fd:dk}{N ps:List Str}(Fn:AJ K x qual st f fd)(S:de N ps (aF st))
  {A:bA} {outer:List Env} {s:au} {H:Hp} {args:Args} {us:bW} {vs:List V} {Q:VK} {E:XK} (hr:dg (k+1) A) (e0:Env0 P w K mg base A outer s H) (hb:BindsTo s fd args (ps.zip us)) (r:Vals vs us) (hl:vs.length=ps.length)
  (hbody:∀cU:ag,∃t,PSs (ju CX P w K mg base N qual (aF st) f cU A outer s H E) (bH st) t/\t {nx:=λ_ H'=>Q .cE H',rt:=Q} (start N vs) H) :
  codeAny (model P w) A (.call (.ref f) args) (CR CX outer P w H s Q E) s:=by
 obtain⟨oc,od,kV,doc,pm,an,cU,ct,tZ,rfl,lk,uC⟩:=Fn.ex;have old:∀b o,base.get? b=some o->s.heap.get? b=some o:=λb o e=>(e0.bs b o e).1
 have KX:K.In s.heap:=e0.mod.kin.keeps old;have V2:∀y∈ps.zip us,(aF st).names.lookup y.1=some .local\/((aF st).names.lookup y.1=some .cell/\((cellsFrom (s.heap.objs.size+1) (aF st).names []).lookup y.1).isSome=true):=λy hy=>by
  rcases S.par y.1 (vX (a:=y.1) (b:=y.2) hy).1 with q | q
  ·exact .inl q
  ·exact .inr ⟨q,W.cellsFrom_some _ _ _ (.inl q)⟩
 refine codeAny_call_function hr.depth (KX _ _ lk) rfl S.co S.gen rfl (W.codeRec_of KX uC) (hb _ _ _ _ (Hr S.kind V2 λenv he s1 ic=>?_))
 subst he;refine⟨(e0.mod.nolimit.keeps old).keeps ic.toInCall.keep,codeAny_func ?_⟩;obtain⟨t,ht,hq⟩:=hbody cU;have I:Inv (ju CX P w K mg base N qual (aF st) f cU A outer s H E) [] (start N vs) H s1:=uQ S hr.hd e0 hl r ic;refine lV (ht [] s1 (start N vs) H _ I hq) (λfl s' hs=>?_) λe s' hs=>hs
 have fin:∀{cG:St} {H':Hp} {v:V} {u:ag},Inv (ju CX P w K mg base N qual (aF st) f cU A outer s H E) [] cG H' s'->RelV v u->Q v H'->CE outer P w H s Q u s':=λ{_ H' v _} J rv q=>⟨v,H',J.os,J.bare,J.base,J.hok,rv,q⟩
 cases fl with
 | ret u=>obtain⟨v,cG,H',J,rv,q⟩:=hs;exact fin J rv q
 | next=>obtain⟨cG,H',J,q⟩:=hs;exact fin (v:=V.cE) (u:=Value.none) J rfl q
 | brk=>obtain⟨_,_,_,q⟩:=hs;exact False.elim q
 | cont=>obtain⟨_,_,_,q⟩:=hs;exact False.elim q
end L2
namespace L2.PL
open PySem PySem.Spec PyProof.Rows
section
variable {K:ah} {F F' H H':Hp}
theorem aU(e:Same H H'){a:ab}{xs:List V}(h:gO K H a xs):gO K H' a xs:=by
 rcases h with(h | ⟨o,h⟩) | h
 ·exact .inl (.inl (e _ _ h))
 ·exact .inl (.inr ⟨o,e _ _ h⟩)
 ·exact .inr h
theorem MS(e:Same H H'){a:ab}{u:HO}(h:Rd H a u):Rd H' a u:=h.imp (e _ _) λ⟨o,q⟩=>⟨o,e _ _ q⟩
theorem bN(e:Same H H'){a:ab}{xs:List V}(h:nJ K H a xs):nJ K H' a xs:=h.imp (MS e) id
theorem _root_.L2.nJ.of{a:ab}{xs:List V}(h:H a=some (.aA xs)):nJ K H a xs:=.inl (.inl h)
mutual
theorem cx.mono(e:Same F F'):∀{p:PV} {v:V},cx K F p v->cx K F' p v
 | .cE,_,h=>by simp only[cx]at h ⊢;exact h
 | .bl _,_,h=>by simp only[cx]at h ⊢;exact h
 | .int _,_,h=>by simp only[cx]at h ⊢;exact h
 | .str _,_,h=>by simp only[cx]at h ⊢;exact h
 | .aI ps,_,h=>by
  simp only[cx]at h ⊢;obtain⟨a,vs,rfl,hs,hb⟩:=h;exact⟨a,vs,rfl,aU e hs,aP.mono e hb⟩
 | .aA ps,_,h=>by
  simp only[cx]at h ⊢;obtain⟨a,vs,rfl,hs,hb⟩:=h;exact⟨a,vs,rfl,bN e hs,aP.mono e hb⟩
theorem aP.mono(e:Same F F'):∀{ps:List PV} {vs:List V},aP K F ps vs->aP K F' ps vs
 | [],_,h=>by simp only[aP]at h ⊢;exact h
 | p::ps,_,h=>by
  simp only[aP]at h ⊢;obtain⟨v,r,rfl,h1,h2⟩:=h;exact⟨v,r,rfl,cx.mono e h1,aP.mono e h2⟩
end
theorem aP.b6{p:PV}{ps:List PV}{vs:List V}(h:aP K F (p::ps) vs):∃v r,vs=v::r/\cx K F p v/\aP K F ps r:=by
 simpa only[aP]using h
theorem aP.bX{vs:List V}(h:aP K F [] vs):vs=[]:=by simpa only[aP]using h
theorem aP.length:∀{ps:List PV} {vs:List V},aP K F ps vs->ps.length=vs.length
 | [],_,h=>by rw[h.bX];rfl
 | _::_,_,h=>by
  obtain⟨v,r,rfl,_,t⟩:=h.b6;rw[aW,aW,aP.length t]
theorem aP.append:∀{ps qs:List PV} {vs ws:List V},aP K F ps vs->aP K F qs ws->aP K F (ps++qs) (vs++ws)
 | [],_,_,_,h,h'=>by rw[h.bX];exact h'
 | _::_,_,_,_,h,h'=>by
  obtain⟨v,r,rfl,hv,t⟩:=h.b6;exact .cons hv (aP.append t h')
theorem aP.get:∀{ps:List PV} {vs:List V} {i:Nat} {p:PV},aP K F ps vs->ps[i]?=some p->∃v,vs[i]?=some v/\cx K F p v
 | [],_,_,_,_,e=>by simp at e
 | _::_,_,0,_,h,e=>by
  obtain⟨v,r,rfl,hv,t⟩:=h.b6;simp at e;subst e;exact⟨v,rfl,hv⟩
 | _::_,_,i+1,p,h,e=>by
  obtain⟨v,r,rfl,hv,t⟩:=h.b6;obtain⟨w,h1,h2⟩:=aP.get (i:=i) (p:=p) t (by simpa using e)
  exact⟨w,by simpa using h1,h2⟩
theorem aP.V3:∀{ps:List PV} {vs:List V} {i:Nat} {v:V},aP K F ps vs->vs[i]?=some v->∃p,ps[i]?=some p/\cx K F p v
 | [],_,_,_,h,e=>by rw[h.bX]at e;simp at e
 | p::_,_,0,_,h,e=>by
  obtain⟨v,r,rfl,hv,t⟩:=h.b6;simp at e;subst e;exact⟨p,rfl,hv⟩
 | _::_,_,i+1,w,h,e=>by
  obtain⟨v,r,rfl,hv,t⟩:=h.b6;obtain⟨p,h1,h2⟩:=aP.V3 (i:=i) (v:=w) t (by simpa using e)
  exact⟨p,by simpa using h1,h2⟩
theorem aP.take:∀{ps:List PV} {vs:List V} (n:Nat),aP K F ps vs->aP K F (ps.take n) (vs.take n)
 | _,_,0,_=>by simp only[List.take_zero];exact .nil
 | [],_,_+1,h=>by rw[h.bX];exact .nil
 | _::_,_,n+1,h=>by
  obtain⟨v,r,rfl,hv,t⟩:=h.b6;exact .cons hv (aP.take n t)
theorem aP.drop:∀{ps:List PV} {vs:List V} (n:Nat),aP K F ps vs->aP K F (ps.drop n) (vs.drop n)
 | _,_,0,h=>h
 | [],_,_+1,h=>by rw[h.bX];exact .nil
 | _::_,_,n+1,h=>by
  obtain⟨v,r,rfl,hv,t⟩:=h.b6;exact aP.drop n t
theorem aP.reverse:∀{ps:List PV} {vs:List V},aP K F ps vs->aP K F ps.reverse vs.reverse
 | [],_,h=>by rw[h.bX];exact .nil
 | _::_,_,h=>by
  obtain⟨v,r',rfl,hv,t⟩:=h.b6;rw[vU,vU];exact(aP.reverse t).append (.cons hv .nil)
theorem aV{ps:List PV}{v:V}:cx K F (.aA ps) v↔∃a vs,v=.ref a/\nJ K F a vs/\aP K F ps vs:=by simp only[cx]
end
inductive Dk where
 | t (kvs:List (List b8×PV)) | k (kvs:List (b8×PV)) | l (dR:List (List PV))
def o8(b:ab)(vs:List V):HO:=.ext λh=>vs.length<=sizeLine/\∃(aQ:bW) (n:Nat),Vals vs aQ/\h.get? b=some {cls:=.type "list",data:=.seq aQ.toArray n}
section
variable (K:ah) (F H:Hp)
def rj:List (List b8×PV)->List (List b8×ab×ag)->Prop:=Paired λp q=>p.1=q.1/\gO K F q.2.1 (p.1.map kV)/\∃v,cx K F p.2 v/\RelV v q.2.2
def y9:List (b8×PV)->List (b8×V)->Prop:=Paired λp q=>p.1=q.1/\cx K F p.2 q.2
def iq(N:ab->Prop):List (List PV)->List ab->Prop:=Paired λps b=>N b/\∃vs,H b=some (o8 b vs)/\aP K F ps vs
def iR(N:ab->Prop)(a:ab):Dk->Prop
 | .t kvs=>∃xs,H a=some (.dT xs)/\rj K F kvs xs
 | .k kvs=>∃vs,H a=some (.dK vs)/\y9 K F kvs vs
 | .l dR=>∃bs,H a=some (o8 a (bs.map .ref))/\(a::bs).Nodup/\iq K F H N dR bs
end
def rl:Dk->HO->Bool
 | .t _,.dT _=>true
 | .k _,.dK _=>true
 | .l _,.ext _=>true
 | _,_=>false
def Nw(H₀ F:Hp)(b:ab):Prop:=H₀ b=none/\F b=none
section
variable {K:ah} {F F' H H':Hp} {N N':ab->Prop}
theorem rj.mono(e:Same F F'){kvs:List (List b8×PV)}{xs:List (List b8×ab×ag)}(h:rj K F kvs xs):rj K F' kvs xs:=Paired.HW h λ_ _ ⟨h1,h2,v,h3,h4⟩=>⟨h1,aU e h2,v,h3.mono e,h4⟩
theorem y9.mono(e:Same F F'){kvs:List (b8×PV)}{xs:List (b8×V)}(h:y9 K F kvs xs):y9 K F' kvs xs:=Paired.HW h λ_ _ ⟨h1,h2⟩=>⟨h1,h2.mono e⟩
theorem iR.to{a:ab}{m:Dk}(h:iR K F H N a m)(e:Same F F')(k:∀b o,H b=some o->rl m o=true->b=a\/N b->H' b=some o)(n:∀b o,H b=some o->N b->N' b):iR K F' H' N' a m:=by
 cases m with
 | t kvs=>obtain⟨xs,h1,h2⟩:=h;exact⟨xs,k _ _ h1 rfl (.inl rfl),h2.mono e⟩
 | k kvs=>obtain⟨xs,h1,h2⟩:=h;exact⟨xs,k _ _ h1 rfl (.inl rfl),h2.mono e⟩
 | l dR=>obtain⟨bs,h1,h2,h3⟩:=h;exact⟨bs,k _ _ h1 rfl (.inl rfl),h2,Paired.HW h3 λps b ⟨g1,vs,g2,g3⟩=>⟨n _ _ g2 g1,vs,k _ _ g2 rfl (.inr g1),g3.mono e⟩⟩
theorem iR.toT{a:ab}{m:Dk}(h:iR K F H N a m)(hm:∀dR,m≠.l dR)(e:Same F F')(k:H' a=H a):iR K F' H' N' a m:=by
 cases m with
 | t kvs=>obtain⟨xs,h1,h2⟩:=h;exact⟨xs,k.trans h1,h2.mono e⟩
 | k kvs=>obtain⟨xs,h1,h2⟩:=h;exact⟨xs,k.trans h1,h2.mono e⟩
 | l dR=>exact absurd rfl (hm dR)
theorem iR.obj{a:ab}{m:Dk}(h:iR K F H N a m):∃o,H a=some o/\(∀xs,o≠.aA xs):=by
 cases m with
 | t kvs=>obtain⟨xs,h1,h2⟩:=h;exact⟨_,h1,λ_ z=>nomatch z⟩
 | k kvs=>obtain⟨xs,h1,h2⟩:=h;exact⟨_,h1,λ_ z=>nomatch z⟩
 | l dR=>obtain⟨bs,h1,h2⟩:=h;exact⟨_,h1,λ_ z=>nomatch z⟩
theorem iR.mono{a:ab}{m:Dk}(h:iR K F H N a m)(e:Same F F')(k:Same H H')(n:∀b o,H b=some o->N b->N' b):iR K F' H' N' a m:=h.to e (λb o q _ _=>k b o q) n
end
inductive Fd where
 | pv (p:PV) | dc (es:List (Str×PV))
inductive Ob where
 | IL (fs:List (Str×Fd)) | fn (x:Str) | dct (m:Dk)
section
variable (K:ah) (F:Hp)
def rm:List (Str×PV)->List (b8×V)->Prop
 | [],vs=>vs=[]
 | (k,p)::es,vs=>∃v r,vs=(Sum.inr k,v)::r/\cx K F p v/\rm es r
def pO:Fd->V->Prop
 | .pv p,v=>cx K F p v
 | .dc es,v=>∃d vs,v=.ref d/\F d=some (.dK vs)/\rm K F es vs
def gJ:List (Str×Fd)->List (Str×V)->Prop
 | [],vs=>vs=[]
 | (f,d)::es,vs=>∃v r,vs=(f,v)::r/\pO K F d v/\gJ es r
def ue:Ob->ab->Prop
 | .IL fs,a=>∃C dx vs,Br K C/\(∀f∈fs,d9 K C f.1)/\F a=some (.pK C dx vs)/\gJ K F fs vs
 | .fn x,a=>W.nsIn K mainGlobals x=some (some (.ref a))
 | .dct m,a=>iR K F F (λ_=>True) a m
end
section
variable {K:ah} {F F':Hp}
theorem rm.mono(e:Same F F'):∀{es:List (Str×PV)} {vs:List (b8×V)},rm K F es vs->rm K F' es vs
 | [],_,h=>h
 | (_,_)::_,_,⟨v,r,h1,h2,h3⟩=>⟨v,r,h1,h2.mono e,rm.mono e h3⟩
theorem pO.mono(e:Same F F'):∀{d:Fd} {v:V},pO K F d v->pO K F' d v
 | .pv _,_,h=>cx.mono e h
 | .dc _,_,⟨d,vs,h1,h2,h3⟩=>⟨d,vs,h1,e _ _ h2,h3.mono e⟩
theorem gJ.mono(e:Same F F'):∀{es:List (Str×Fd)} {vs:List (Str×V)},gJ K F es vs->gJ K F' es vs
 | [],_,h=>h
 | (_,_)::_,_,⟨v,r,h1,h2,h3⟩=>⟨v,r,h1,h2.mono e,gJ.mono e h3⟩
theorem ue.mono(e:Same F F'):∀{o:Ob} {a:ab},ue K F o a->ue K F' o a
 | .IL _,_,⟨C,dx,vs,h1,h2,h3,h4⟩=>⟨C,dx,vs,h1,h2,e _ _ h3,h4.mono e⟩
 | .fn _,_,h=>h
 | .dct _,_,h=>iR.mono h e e λ_ _ _ _=>trivial
end
inductive Ent where
 | un | val (p:PV) | own (ps:List PV) | ex (C:Str) | ob (o:Ob) | cq (m:Dk)
abbrev fZ:=Str->List PV->Option Ent
abbrev bG:=List Ent->Option (List PV)
abbrev eG:=PV->List Ent->Option (List Ent)
abbrev eR:=List Ent->Option Bool
abbrev av:=List PV
abbrev aC:=List Ent
abbrev cg:=Option Ent
abbrev bQ:=Option PV
structure cw (K:ah) (H₀ aa F:Hp) (ρ:aC) (σ:St) (H:Hp):Prop where
 sub:Same F H
 keep:Same H₀ H
 base:Same aa F
 fresh:∀a o,F a=some o->aa a=some o\/H₀ a=none
 val:∀(i:Nat) (p:PV),ρ[i]?=some (.val p)->∃v,σ[i]?=some (some v)/\cx K F p v
 own:∀(i:Nat) (ps:av),ρ[i]?=some (.own ps)->∃a vs,σ[i]?=some (some (.ref a))/\H a=some (.aA vs)/\H₀ a=none/\F a=none/\aP K F ps vs
 apart:∀(i j:Nat) (ps qs:av) (a:ab),ρ[i]?=some (.own ps)->ρ[j]?=some (.own qs)->σ[i]?=some (some (.ref a))->σ[j]?=some (some (.ref a))->i=j
 obs:∀(i:Nat) (o:Ob),ρ[i]?=some (.ob o)->∃a,σ[i]?=some (some (.ref a))/\ue K F o a
 cq:∀(i:Nat) (m:Dk),ρ[i]?=some (.cq m)->∃a,σ[i]?=some (some (.ref a))/\iR K F H (Nw H₀ F) a m/\H₀ a=none/\F a=none
 len:ρ.length=σ.length
section
variable {K:ah} {H₀ aa F F' H H':Hp} {ρ:aC} {σ:St}
theorem cw.after(R:cw K H₀ aa F ρ σ H)(h:Same H H')(f:Same F F')(s:Same F' H')(n:∀a o,F' a=some o->F a=some o\/H a=none):cw K H₀ aa F' ρ σ H' where
 sub:=s
 keep:=R.keep.trans h
 base:=R.base.trans f
 fresh:=λa o e=>by
  rcases n a o e with q | q
  ·exact R.fresh a o q
  ·exact .inr (R.keep.free q)
 val:=λi p e=>let ⟨v,h1,h2⟩:=R.val i p e;⟨v,h1,h2.mono f⟩
 own:=λi ps e=>by
  obtain⟨a,vs,h1,h2,h3,h4,h5⟩:=R.own i ps e;refine⟨a,vs,h1,h _ _ h2,h3,?_,h5.mono f⟩;cases q:F' a with
  | none=>rfl
  | some o =>
   rcases n a o q with z | z
   ·rw[h4]at z;cases z
   ·rw[h2]at z;cases z
 apart:=R.apart
 obs:=λi o e=>let ⟨a,h1,h2⟩:=R.obs i o e;⟨a,h1,h2.mono f⟩
 cq:=λi m e=>by
  obtain⟨a,h1,h2,h3,h4⟩:=R.cq i m e;have key:∀b o,H b=some o->F b=none->F' b=none:=λb o e1 e2=>by
   cases q:F' b with
   | none=>rfl
   | some u =>
    rcases n b u q with z | z
    ·rw[e2]at z;cases z
    ·rw[e1]at z;cases z
  obtain⟨ob,h5,_⟩:=h2.obj;exact⟨a,h1,h2.mono f h λb o e1 ⟨e2,e3⟩=>⟨e2,key b o e1 e3⟩,h3,key a ob h5 h4⟩
 len:=R.len
theorem dH{p:ab}{o:HO}(h:H p=none):Same H (upd H p o):=λb u q=>by rw[upd_ne (ne_of_none q h)];exact q
theorem cw.laid(R:cw K H₀ aa F ρ σ H){p:ab}(o:HO)(hp:H p=none):cw K H₀ aa (upd F p o) ρ σ (upd H p o)/\Same F (upd F p o):=by
 have fp:F p=none:=R.sub.free hp;refine⟨R.after (dH hp) (dH fp) (λb u q=>?_) (λb u q=>?_),dH fp⟩
 ·by_cases hb:b=p
  ·subst hb;rw[az]at q ⊢;exact q
  ·rw[upd_ne hb]at q ⊢;exact R.sub _ _ q
 ·by_cases hb:b=p
  ·subst hb;exact .inr hp
  ·rw[upd_ne hb]at q;exact .inl q
theorem cw.DJ(R:cw K H₀ aa F ρ σ H){p:ab}(o:HO)(hp:H p=none):cw K H₀ aa F ρ σ (upd H p o) :=
 R.after (dH hp) (Same.refl F) (R.sub.trans (dH hp)) λ_ _ q=>.inl q
end
abbrev FE:=aC->bQ
def tE(K:ah)(H₀ aa:Hp)(f:FE):TE:=λσ H Q=>∃F ρ p,cw K H₀ aa F ρ σ H/\f ρ=some p/\∀v H' F',cw K H₀ aa F' ρ σ H'->Same F F'->cx K F' p v->Q v H'
def tT(K:ah)(H₀ aa:Hp)(f:eR):TT:=λσ H Q=>∃F ρ b,cw K H₀ aa F ρ σ H/\f ρ=some b/\∀H' F',cw K H₀ aa F' ρ σ H'->Same F F'->Q b H'
def tA(K:ah)(H₀ aa:Hp)(f:bG):TA:=λσ H Q=>∃F ρ ps,cw K H₀ aa F ρ σ H/\f ρ=some ps/\∀vs H' F',cw K H₀ aa F' ρ σ H'->Same F F'->aP K F' ps vs->Q vs H'
def tF(K:ah)(H₀ aa:Hp)(f:bG):TE:=λσ H Q=>∃F ρ ps,cw K H₀ aa F ρ σ H/\f ρ=some ps /\
 ∀a vs H1 F',cw K H₀ aa F' ρ σ H1->Same F F'->aP K F' ps vs->H1 a=none->Q (.ref a) (upd H1 a (.aA vs))
theorem _root_.L2.PE.imp{X:Cx}{e:aj}{t t':TE}(h:PE X e t)(hi:∀σ H Q,t' σ H Q->t σ H Q):PE X e t':=λae s σ H Q I hw=>h ae s σ H Q I (hi _ _ _ hw)
theorem _root_.L2.PT.imp{X:Cx}{e:aj}{t t':TT}(h:PT X e t)(hi:∀σ H Q,t' σ H Q->t σ H Q):PT X e t':=λae s σ H Q I hw=>h ae s σ H Q I (hi _ _ _ hw)
theorem _root_.L2.PA.imp{X:Cx}{e:List aj}{t t':TA}(h:PA X e t)(hi:∀σ H Q,t' σ H Q->t σ H Q):PA X e t':=λpos ae s σ H Q I hw=>h pos ae s σ H Q I (hi _ _ _ hw)
theorem _root_.L2.PS.imp{X:Cx}{st:ay}{t t':TS}(h:PS X st t)(hi:∀D σ H,t' D σ H->t D σ H):PS X st t':=λae s σ H D I hw=>h ae s σ H D I (hi _ _ _ hw)
theorem _root_.L2.PSs.imp{X:Cx}{st:List ay}{t t':TS}(h:PSs X st t)(hi:∀D σ H,t' D σ H->t D σ H):PSs X st t':=λae s σ H D I hw=>h ae s σ H D I (hi _ _ _ hw)
section
variable {X:Cx} {H₀ aa:Hp} {a b e:aj} {fa fb:FE} {pos:Pos}
def cB(f:bG):FE:=λρ=>(f ρ).map .aA
theorem uU{f:bG}{ρ:aC}{p:PV}(h:cB f ρ=some p):∃ps,f ρ=some ps/\p=.aA ps:=by
 unfold cB at h;cases z:f ρ with
 | none=>rw[z]at h;cases h
 | some ps=>rw[z]at h;cases h;exact⟨ps,rfl,rfl⟩
theorem DK{f:bG}(h:PE X e (tF X.K H₀ aa f)):PE X e (tE X.K H₀ aa (cB f)):=h.imp <| by
 rintro σ H Q ⟨F,ρ,p,R,hf,q⟩
 obtain⟨ps,z,rfl⟩:=uU hf;refine⟨F,ρ,ps,R,z,λa vs H1 F1 R1 s1 b1 hn=>?_⟩
 obtain⟨R2,s2⟩:=R1.laid (.aA vs) hn;exact q _ _ _ R2 (s1.trans s2) (aV.mpr ⟨a,vs,rfl,nJ.of az,b1.mono s2⟩)
def rd(i:Nat):FE:=λρ=>match ρ[i]? with | some (.val p)=>some p | _=>none
theorem uV(i:Nat){x:Str}{pos:Pos}(h:PE X (.Name x pos) (gR i)):PE X (.Name x pos) (tE X.K H₀ aa (rd i)):=h.imp <| by
 rintro σ H Q ⟨F,ρ,p,R,hf,q⟩
 unfold rd at hf;split at hf
 ·rename_i z;cases hf;obtain⟨v,h1,h2⟩:=R.val i p z;exact⟨v,h1,q v H F R (Same.refl F) h2⟩
 ·cases hf
theorem za{p:PV}{v:V}(h:PE X e (tC v))(hb:∀F,cx X.K F p v):PE X e (tE X.K H₀ aa λ_=>some p):=h.imp <| by
 rintro σ H Q ⟨F,ρ,p',R,hf,q⟩
 cases hf;exact q v H F R (Same.refl F) (hb F)
theorem PD{i:Int}{j pos}:PE X (.Constant (.int i) j pos) (tE X.K H₀ aa λ_=>some (.int i)):=za wj λ_=>aG.mpr rfl
theorem abt{i:Bool}{j pos}:PE X (.Constant (.bool i) j pos) (tE X.K H₀ aa λ_=>some (.bl i)):=za Pj λ_=>bU.mpr rfl
theorem V4{j pos}:PE X (.Constant .none j pos) (tE X.K H₀ aa λ_=>some .cE):=za Q2 λ_=>cX.mpr rfl
theorem V5{i:Str}{j pos}:PE X (.Constant (.str i) j pos) (tE X.K H₀ aa λ_=>some (.str i)):=za Q3 λ_=>cb.mpr rfl
def MT(K:ah)(r:R2)(g:PV->PV->bQ):Prop:=∀(H₀ aa F:Hp) (ρ:aC) (σ:St) (H:Hp) (pa pb p:PV) (x y:V) (Q:VK),g pa pb=some p->cw K H₀ aa F ρ σ H->cx K F pa x->cx K F pb y ->
 (∀v H' F',cw K H₀ aa F' ρ σ H'->Same F F'->cx K F' p v->Q v H')->r x y H Q
def ak(fa fb:FE)(g:PV->PV->bQ):FE:=λρ=>(fa ρ).bind λx=>(fb ρ).bind λy=>g x y
theorem Fu{fa fb:FE}{g:PV->PV->bQ}{ρ:aC}{p:PV}(h:ak fa fb g ρ=some p):∃x y,fa ρ=some x/\fb ρ=some y/\g x y=some p:=by
 unfold ak at h;cases h1:fa ρ with
 | none=>rw[h1]at h;cases h
 | some x =>
  cases h2:fb ρ with
  | none=>rw[h1,h2]at h;cases h
  | some y=>rw[h1,h2]at h;exact⟨x,y,rfl,rfl,h⟩
theorem qf{K:ah}{r:R2}{g:PV->PV->bQ}(hg:MT K r g){σ:St}{H:Hp}{Q:VK}(h:tE K H₀ aa (ak fa fb g) σ H Q):UL r (tE K H₀ aa fa) (tE K H₀ aa fb) σ H Q:=by
 obtain⟨F,ρ,p,R,hf,q⟩:=h;obtain⟨x,y,h1,h2,h3⟩:=Fu hf;exact⟨F,ρ,x,R,h1,λv H1 F1 R1 s1 b1=>⟨F1,ρ,y,R1,h2,λw H2 F2 R2 s2 b2 =>
  hg H₀ aa F2 ρ σ H2 x y p v w Q h3 R2 (b1.mono s2) b2 λu H3 F3 R3 s3 b3=>q u H3 F3 R3 (s1.trans (s2.trans s3)) b3⟩⟩
theorem V6{op:Operator}{r:R2}{g:PV->PV->bQ}(ho:OpR X (binaryOp op) r)(hg:MT X.K r g)(ha:PE X a (tE X.K H₀ aa fa))(hb:PE X b (tE X.K H₀ aa fb)) :
  PE X (.BinOp a op b pos) (tE X.K H₀ aa (ak fa fb g)):=(Pl ho ha hb).imp λ_ _ _ h=>qf hg h
theorem V7{op:CmpOp}{r:R2}{g:PV->PV->bQ}(ho:OpR X (compareOp op) r)(hg:MT X.K r g)(ha:PE X a (tE X.K H₀ aa fa))(hb:PE X b (tE X.K H₀ aa fb))(hm:behindInMarks op b=false) :
  PE X (.Compare a [op] [b] pos) (tE X.K H₀ aa (ak fa fb g)):=(Mx ho ha hb hm).imp λ_ _ _ h=>qf hg h
def toB(f:FE):eR:=λρ=>(f ρ).bind λp=>match p with | .bl b=>some b | _=>none
theorem toB_some{f:FE}{ρ:aC}{b:Bool}(h:toB f ρ=some b):f ρ=some (.bl b):=by
 unfold toB at h;cases z:f ρ with
 | none=>rw[z]at h;cases h
 | some p =>
  rw[z]at h;cases p<;>first | (cases h;rfl) | cases h
theorem V8{op:CmpOp}{r:R2}{g:PV->PV->bQ}(ho:OpR X (compareOp op) r)(hg:MT X.K r g)(ha:PE X a (tE X.K H₀ aa fa))(hb:PE X b (tE X.K H₀ aa fb))(hm:behindInMarks op b=false) :
  PT X (.Compare a [op] [b] pos) (tT X.K H₀ aa (toB (ak fa fb g))):=(mI ho ha hb hm).imp λσ H Q ⟨F,ρ,p,R,hf,q⟩ =>
 qf hg ⟨F,ρ,.bl p,R,toB_some hf,λv H' F' R' s' b'=>⟨p,bU.mp b',q H' F' R' s'⟩⟩
theorem V9{f:FE}(h:PE X e (tE X.K H₀ aa f))(he:∀iy,isTrue e X.env iy=(do let v <-iy;standAt e.pos;holding [v] (truthy v)):=by intro _;rfl):PT X e (tT X.K H₀ aa (toB f)) :=
 (Q4 h he).imp λσ H Q ⟨F,ρ,p,R,hf,q⟩=>⟨F,ρ,.bl p,R,toB_some hf,λv H' F' R' s' b'=>⟨p,bU.mp b',q H' F' R' s'⟩⟩
def chain(fa fb fc:FE)(g g':PV->PV->bQ):FE:=λρ=>(fa ρ).bind λx=>(fb ρ).bind λy=>(g x y).bind λz=>match z with
 | .bl true=>(fc ρ).bind λw=>g' y w
 | .bl false=>some (.bl false)
 | _=>none
end
section
variable {X:Cx} {ae:List (ab×Obj)} {σ:St} {H:Hp} {s:au}
theorem _root_.L2.Inv.rn{a:ab}{xs:List V}(I:Inv X ae σ H s)(h:nJ X.K H a xs):∃(aQ:bW) (n:Nat),Vals xs aQ/\s.heap.get? a=some {cls:=.type "list",data:=.seq aQ.toArray n}/\xs.length<=sizeLine:=by
 rcases h with h | ⟨aQ,n,e,z,r⟩
 ·obtain⟨z,aQ,n,r,e⟩:=h.ok I.hok;exact⟨aQ,n,r,e,z⟩
 ·exact⟨aQ,n,r,I.oW a _ e,by rw[r.length];exact z⟩
end
section
variable {X:Cx} {H₀ aa:Hp} {a b c e:aj} {es:List aj} {fa fb fc:FE} {ga gb:eR} {ts:bG} {pos:Pos} {rest:List aj}
def wK(f g:eR):eR:=λρ=>(f ρ).bind λx=>if x=true then g ρ else some false
def zb(f g:eR):eR:=λρ=>(f ρ).bind λx=>if x=true then some true else g ρ
def g9(f:eR):eR:=λρ=>(f ρ).map λx=>!x
theorem ao{α β:Type}{o:Option α}{f:α->Option β}{b:β}(h:o.bind f=some b):∃a,o=some a/\f a=some b:=by
 cases o with
 | none=>cases h
 | some a=>exact⟨a,rfl,h⟩
theorem _root_.L2.PW.imp{X:Cx}{e:aj}{t t':TT}(h:PW X e t)(hi:∀σ H Q,t' σ H Q->t σ H Q):PW X e t':=λiy ae s σ H Q I hw=>h iy ae s σ H Q I (hi _ _ _ hw)
theorem RW(ha:PT X a (tT X.K H₀ aa ga)):PW X (.BoolOp .And [a] pos) (tT X.K H₀ aa ga):=Mo ha
theorem Wa(ha:PT X a (tT X.K H₀ aa ga)):PW X (.BoolOp .Or [a] pos) (tT X.K H₀ aa ga):=Q5 ha
theorem Wb(ha:PT X a (tT X.K H₀ aa ga))(hb:PW X (.BoolOp .And (b::rest) pos) (tT X.K H₀ aa gb)):PW X (.BoolOp .And (a::b::rest) pos) (tT X.K H₀ aa (wK ga gb)) :=
 (Q6 ha hb).imp <| by
  rintro σ H Q ⟨F,ρ,p,R,hf,q⟩
  obtain⟨x,h1,h2⟩:=ao hf;refine⟨F,ρ,x,R,h1,λH1 F1 R1 s1=>?_⟩
  cases x with
  | true=>exact⟨F1,ρ,p,R1,h2,λH2 F2 R2 s2=>q H2 F2 R2 (s1.trans s2)⟩
  | false =>
   have e:p=false:=(bo h2).symm;subst e;exact q H1 F1 R1 s1
theorem abu(ha:PT X a (tT X.K H₀ aa ga))(hb:PW X (.BoolOp .Or (b::rest) pos) (tT X.K H₀ aa gb)):PW X (.BoolOp .Or (a::b::rest) pos) (tT X.K H₀ aa (zb ga gb)) :=
 (Vn ha hb).imp <| by
  rintro σ H Q ⟨F,ρ,p,R,hf,q⟩
  obtain⟨x,h1,h2⟩:=ao hf;refine⟨F,ρ,x,R,h1,λH1 F1 R1 s1=>?_⟩
  cases x with
  | false=>exact⟨F1,ρ,p,R1,h2,λH2 F2 R2 s2=>q H2 F2 R2 (s1.trans s2)⟩
  | true =>
   have e:p=true:=(bo h2).symm;subst e;exact q H1 F1 R1 s1
theorem Wc(ha:PT X a (tT X.K H₀ aa ga)):PT X (.UnaryOp .Not a pos) (tT X.K H₀ aa (g9 ga)):=(Q7 ha).imp <| by
 rintro σ H Q ⟨F,ρ,p,R,hf,q⟩
 unfold g9 at hf;cases z:ga ρ with
 | none=>rw[z]at hf;cases hf
 | some x=>rw[z]at hf;cases hf;exact⟨F,ρ,x,R,z,λH1 F1 R1 s1=>q H1 F1 R1 s1⟩
def uf(fa fb:FE):FE:=λρ=>(toB fa ρ).bind λx=>if x=true then fb ρ else some (.bl false)
theorem Wd(ha:PE X a (tE X.K H₀ aa fa))(hb:PE X (.BoolOp .And (b::rest) pos) (tE X.K H₀ aa fb)):PE X (.BoolOp .And (a::b::rest) pos) (tE X.K H₀ aa (uf fa fb)) :=
 (Q9 ha hb).imp <| by
  rintro σ H Q ⟨F,ρ,p,R,hf,q⟩
  obtain⟨x,h1,h2⟩:=ao hf;refine⟨F,ρ,_,R,toB_some h1,λv H1 F1 R1 s1 b1=>⟨x,bU.mp b1,?_⟩⟩
  cases x with
  | true=>exact⟨F1,ρ,p,R1,h2,λv H2 F2 R2 s2 b2=>q v H2 F2 R2 (s1.trans s2) b2⟩
  | false =>
   have e:p=.bl false:=(bo h2).symm;subst e;exact q _ H1 F1 R1 s1 (bU.mpr rfl)
def Fv(fa:FE):FE:=λρ=>(toB fa ρ).map λx=>.bl (!x)
theorem We(ha:PE X a (tE X.K H₀ aa fa)):PE X (.UnaryOp .Not a pos) (tE X.K H₀ aa (Fv fa)):=(Ra ha).imp <| by
 rintro σ H Q ⟨F,ρ,p,R,hf,q⟩
 unfold Fv at hf;cases z:toB fa ρ with
 | none=>rw[z]at hf;cases hf
 | some x =>
  rw[z]at hf;cases hf;exact⟨F,ρ,_,R,toB_some z,λv H1 F1 R1 s1 b1=>⟨x,bU.mp b1,q _ H1 F1 R1 s1 (bU.mpr rfl)⟩⟩
def IM(gc:eR)(fa fb:FE):FE:=λρ=>(gc ρ).bind λx=>if x=true then fa ρ else fb ρ
theorem abv(hc:PT X c (tT X.K H₀ aa ga))(ha:PE X a (tE X.K H₀ aa fa))(hb:PE X b (tE X.K H₀ aa fb)):PE X (.IfExp c a b pos) (tE X.K H₀ aa (IM ga fa fb)) :=
 (HX hc ha hb).imp <| by
  rintro σ H Q ⟨F,ρ,p,R,hf,q⟩
  obtain⟨x,h1,h2⟩:=ao hf;refine⟨F,ρ,x,R,h1,λH1 F1 R1 s1=>?_⟩
  cases x with
  | true=>exact⟨F1,ρ,p,R1,h2,λv H2 F2 R2 s2 b2=>q v H2 F2 R2 (s1.trans s2) b2⟩
  | false=>exact⟨F1,ρ,p,R1,h2,λv H2 F2 R2 s2 b2=>q v H2 F2 R2 (s1.trans s2) b2⟩
theorem MU{op wz:CmpOp}{r r':R2}{g g':PV->PV->bQ}(ho:OpR X (compareOp op) r)(hg:MT X.K r g)(tY:OpR X (compareOp wz) r')(hg':MT X.K r' g')(ha:PE X a (tE X.K H₀ aa fa))(hb:PE X b (tE X.K H₀ aa fb))(hc:PE X c (tE X.K H₀ aa fc))
  (hm:lastMarks [op,wz] [b,c]=false:=by with_unfolding_all rfl):PE X (.Compare a [op,wz] [b,c] pos) (tE X.K H₀ aa (chain fa fb fc g g')):=(Im ho tY ha hb hc hm).imp <| by
 rintro σ H Q ⟨F,ρ,p,R,hf,q⟩
 obtain⟨x,h1,hf⟩:=ao hf;obtain⟨y,h2,hf⟩:=ao hf;obtain⟨z,h3,hf⟩:=ao hf;refine⟨F,ρ,x,R,h1,λv H1 F1 R1 s1 b1=>⟨F1,ρ,y,R1,h2,λw H2 F2 R2 s2 b2=>?_⟩⟩
 refine hg H₀ aa F2 ρ σ H2 x y z v w _ h3 R2 (b1.mono s2) b2 λu H3 F3 R3 s3 b3=>?_
 cases z with
 | bl k =>
  refine⟨k,bU.mp b3,?_⟩;cases k with
  | true =>
   obtain⟨t,h4,h5⟩:=ao hf;refine⟨F3,ρ,t,R3,h4,λo H4 F4 R4 s4 b4=>?_⟩
   exact hg' H₀ aa F4 ρ σ H4 y t p w o _ h5 R4 (b2.mono (s3.trans s4)) b4 λu5 H5 F5 R5 s5 b5=>q u5 H5 F5 R5 (s1.trans (s2.trans (s3.trans (s4.trans s5)))) b5
  | false =>
   have e:p=.bl false:=(bo hf).symm;subst e;exact q _ H3 F3 R3 (s1.trans (s2.trans s3)) (bU.mpr rfl)
 | _=>cases hf
theorem MV{op wz:CmpOp}{r r':R2}{g g':PV->PV->bQ}(ho:OpR X (compareOp op) r)(hg:MT X.K r g)(tY:OpR X (compareOp wz) r')(hg':MT X.K r' g')(ha:PE X a (tE X.K H₀ aa fa))(hb:PE X b (tE X.K H₀ aa fb))(hc:PE X c (tE X.K H₀ aa fc))
  (hm:lastMarks [op,wz] [b,c]=false:=by with_unfolding_all rfl):PT X (.Compare a [op,wz] [b,c] pos) (tT X.K H₀ aa (toB (chain fa fb fc g g'))):=(Io ho tY ha hb hc hm).imp <| by
 rintro σ H Q ⟨F,ρ,p,R,hf,q⟩
 have hf:=toB_some hf;obtain⟨x,h1,hf⟩:=ao hf;obtain⟨y,h2,hf⟩:=ao hf;obtain⟨z,h3,hf⟩:=ao hf;refine⟨F,ρ,x,R,h1,λv H1 F1 R1 s1 b1=>⟨F1,ρ,y,R1,h2,λw H2 F2 R2 s2 b2=>?_⟩⟩
 refine hg H₀ aa F2 ρ σ H2 x y z v w _ h3 R2 (b1.mono s2) b2 λu H3 F3 R3 s3 b3=>?_
 cases z with
 | bl k =>
  refine⟨k,bU.mp b3,?_⟩;cases k with
  | true =>
   obtain⟨t,h4,h5⟩:=ao hf;refine⟨F3,ρ,t,R3,h4,λo H4 F4 R4 s4 b4=>?_⟩
   exact hg' H₀ aa F4 ρ σ H4 y t (.bl p) w o _ h5 R4 (b2.mono (s3.trans s4)) b4 λu5 H5 F5 R5 s5 b5=>⟨p,bU.mp b5,q H5 F5 R5 (s1.trans (s2.trans (s3.trans (s4.trans s5))))⟩
  | false =>
   have e:PV.bl p=.bl false:=(bo hf).symm;cases e;exact⟨false,rfl,q H3 F3 R3 (s1.trans (s2.trans s3))⟩
 | _=>cases hf
def ar:bG:=λ_=>some []
def af(f:FE)(g:bG):bG:=λρ=>(f ρ).bind λx=>(g ρ).map λxs=>x::xs
theorem BU{f:FE}{g:bG}{ρ:aC}{ps:av}(h:af f g ρ=some ps):∃x xs,f ρ=some x/\g ρ=some xs/\ps=x::xs:=by
 obtain⟨x,h1,h2⟩:=ao h;cases z:g ρ with
 | none=>rw[z]at h2;cases h2
 | some xs=>rw[z]at h2;cases h2;exact⟨x,xs,h1,rfl,rfl⟩
theorem uW:PA X [] (tA X.K H₀ aa ar):=gZ.imp <| by
 rintro σ H Q ⟨F,ρ,p,R,hf,q⟩
 cases hf;exact q [] H F R (Same.refl F) .nil
theorem om(ha:PE X e (tE X.K H₀ aa fa))(hr:PA X es (tA X.K H₀ aa ts))(hs:starEach (e::es) X.env=(false,eval e X.env)::starEach es X.env:=by rfl):PA X (e::es) (tA X.K H₀ aa (af fa ts)) :=
 (cL ha hr hs).imp <| by
  rintro σ H Q ⟨F,ρ,p,R,hf,q⟩
  obtain⟨x,xs,h1,h2,rfl⟩:=BU hf;exact⟨F,ρ,x,R,h1,λv H1 F1 R1 s1 b1=>⟨F1,ρ,xs,R1,h2,λvs H2 F2 R2 s2 b2=>q _ H2 F2 R2 (s1.trans s2) (.cons (b1.mono s2) b2)⟩⟩
noncomputable def f6:Nat:=100000
theorem ee{n:Nat}(h:n<=f6):n<=sizeLine:=b0 h (by decide)
def cj(ts:bG):FE:=λρ=>(ts ρ).bind λps=>if ps.length<=f6 then some (.aI ps)else none
def dy(ts:bG):bG:=λρ=>(ts ρ).bind λps=>if ps.length<=f6 then some ps else none
theorem aB{α:Type}{c:Prop} [Decidable c] {x y:α} (h:(if c then some x else none)=some y):c/\x=y:=by
 by_cases hc:c
 ·rw[if_pos hc]at h;exact⟨hc,bo h⟩
 ·rw[if_neg hc]at h;cases h
theorem PF{x1}(h:PA X es (tA X.K H₀ aa ts)):PE X (.Tuple es x1 pos) (tE X.K H₀ aa (cj ts)):=(RD h).imp <| by
 rintro σ H Q ⟨F,ρ,p,R,hf,q⟩
 obtain⟨ps,h1,h2⟩:=ao hf;obtain⟨hl,rfl⟩:=aB h2;refine⟨F,ρ,ps,R,h1,λvs H1 F1 R1 s1 b1=>⟨ee (by rw[<-b1.length];exact hl),λa hn=>?_⟩⟩
 obtain⟨R2,s2⟩:=R1.laid (.aI vs) hn;exact q _ _ _ R2 (s1.trans s2) (bF.mpr ⟨a,vs,rfl,gO.of az,b1.mono s2⟩)
theorem DL(h:PA X es (tA X.K H₀ aa ts)):PE X (.List es pos) (tF X.K H₀ aa (dy ts)):=(Ir h).imp <| by
 rintro σ H Q ⟨F,ρ,p,R,hf,q⟩
 obtain⟨ps,h1,h2⟩:=ao hf;obtain⟨hl,rfl⟩:=aB h2;exact⟨F,ρ,ps,R,h1,λvs H1 F1 R1 s1 b1=>⟨ee (by rw[<-b1.length];exact hl),λa hn=>q a vs H1 F1 R1 s1 b1 hn⟩⟩
end
structure Fw (K:ah) (H₀ aa F H:Hp):Prop where
 sub:Same F H
 keep:Same H₀ H
 base:Same aa F
 fresh:∀a o,F a=some o->aa a=some o\/H₀ a=none
theorem cw.post{K:ah}{H₀ aa F H:Hp}{ρ:aC}{σ:St}(R:cw K H₀ aa F ρ σ H):Fw K H₀ aa F H:=⟨R.sub,R.keep,R.base,R.fresh⟩
def wL(K:ah)(H₀ aa F:Hp)(Q:VK):Ent->Prop
 | .val p=>∀v F' H',Fw K H₀ aa F' H'->Same F F'->cx K F' p v->Q v H'
 | .own ps=>∀a vs F' H',Fw K H₀ aa F' H'->Same F F'->H' a=some (.aA vs)->H₀ a=none->F' a=none->aP K F' ps vs->Q (.ref a) H'
 | .cq m=>∀a F' H',Fw K H₀ aa F' H'->Same F F'->iR K F' H' (Nw H₀ F') a m->H₀ a=none->F' a=none->Q (.ref a) H'
 | .un=>False
 | .ex _=>False
 | .ob _=>False
theorem wL.mono{K:ah}{H₀ aa F F1:Hp}{Q:VK}{e:Ent}(h:wL K H₀ aa F Q e)(s:Same F F1):wL K H₀ aa F1 Q e:=by
 cases e with
 | un=>exact h
 | ex C=>exact h
 | ob _=>exact h
 | cq m=>exact λa F' H' R z=>h a F' H' R (s.trans z)
 | val p=>exact λv F' H' R z=>h v F' H' R (s.trans z)
 | own ps=>exact λa vs F' H' R z=>h a vs F' H' R (s.trans z)
def PH(K:ah)(H F:Hp)(Q:VK)(E:XK):Ent->Prop
 | .ex C=>∀cls F' H',Fw K H F F' H'->Same F F'->ClsAt K C cls->E cls none H'
 | .val p=>wL K H F F Q (.val p)
 | .own ps=>wL K H F F Q (.own ps)
 | .cq m=>wL K H F F Q (.cq m)
 | .ob _=>False
 | .un=>False
def ji(P:bh)(w:aM):Dm:=λouter H s E e s'=>∃a cls a0 B H',e=.ref a/\s'.os=s.os/\AllBare s'.gens/\Un (AK outer) [] H H' s.heap s'.heap/\mF P w H' s'.heap/\Same H H'/\E cls none H' /\
 Heap.FlyingW B outer a cls a0 s'.heap/\(∀b o,H' b=some o->∃ob,B.get? b=some ob)/\∀b ob,s.heap.get? b=some ob->H b=none->b∉AK outer->B.get? b=some ob
theorem jP{X:Cx}{P:bh}{w:aM}:rb (ji P w) X E0:=λ_ _ _ _ _ _ _ ⟨_,_,_,_,_,_,_,_,_,_,_,h,_⟩=>h.elim
def zc(K:ah)(n:Nat)(f:av->cg):Sp:=λvs H Q E=>∃F ps e,Same F H/\aP K F ps vs/\ps.length=n/\f ps=some e/\PH K H F Q E e
section
variable {X:Cx} {H₀ aa:Hp} {e:aj} {es:List aj} {ts:bG} {pos p:Pos} {k n:Nat} {f:ab} {fd:dk} {ps:List Str} {x:Str} {g:av->cg}
noncomputable def l0:Ent->bQ
 | .val p=>some p
 | .own ps=>some (.aA ps)
 | .un=>none
 | .ex _=>none
 | .ob _=>none
 | .cq _=>none
def MW:Ent->Option av
 | .own ps=>some ps
 | _=>none
def aK(g:av->cg)(ts:bG):FE:=λρ=>(ts ρ).bind λas=>(g as).bind l0
def kq(g:av->cg)(ts:bG):bG:=λρ=>(ts ρ).bind λas=>(g as).bind MW
def aX(n:Nat)(g:av->cg):av->cg:=λps=>if ps.length=n then g ps else none
theorem uX{n:Nat}{g:av->cg}{ps:av}{p:Ent}(h:aX n g ps=some p):ps.length=n/\g ps=some p:=by
 unfold aX at h;by_cases hc:ps.length=n
 ·rw[if_pos hc]at h;exact⟨hc,h⟩
 ·rw[if_neg hc]at h;cases h
theorem zd{K:ah}{H F F' H':Hp}{a:ab}{vs:List V}(P:Fw K H F F' H')(ha:H' a=some (.aA vs))(hn:H a=none)(fn:F' a=none) :
  Same F (upd F' a (.aA vs))/\Same F' (upd F' a (.aA vs))/\Same (upd F' a (.aA vs)) H'/\∀b o,upd F' a (.aA vs) b=some o->F b=some o\/H b=none:=by
 refine⟨P.base.trans (dH fn),dH fn,λb o e=>?_,λb o e=>?_⟩
 ·by_cases hb:b=a
  ·subst hb;rw[az]at e;cases e;exact ha
  ·rw[upd_ne hb]at e;exact P.sub _ _ e
 ·by_cases hb:b=a
  ·subst hb;exact .inr hn
  ·rw[upd_ne hb]at e;exact P.fresh _ _ e
theorem ro{σ:St}{H:Hp}{Q:VK}{E:XK}{K:ah}(h:tE K H₀ aa (aK (aX n g) ts) σ H Q):uL (zc K n g) [] E (tA K H₀ aa ts) σ H Q:=by
 obtain⟨F,ρ,p,R,hf,q⟩:=h;obtain⟨as,h1,h2⟩:=ao hf;obtain⟨en,h2,h4⟩:=ao h2;obtain⟨hl,h3⟩:=uX h2;refine⟨F,ρ,as,R,h1,λvs H1 F1 R1 s1 b1=>?_⟩
 show zc K n g (vs++[]) H1 Q E;rw[dE];refine⟨F1,as,en,R1.sub,b1,hl,h3,?_⟩;cases en with
 | un=>cases h4
 | ex C=>cases h4
 | ob _=>cases h4
 | cq _=>cases h4
 | val p' =>
  cases h4;exact λv F2 H2 P ff b2=>q v H2 F2 (R1.after P.keep P.base P.sub P.fresh) (s1.trans ff) b2
 | own ps =>
  cases h4;intro a Wf F2 H2 P ff ha hn fn b2;obtain⟨z1,z2,z3,z4⟩:=zd P ha hn fn;exact q _ H2 _ (R1.after P.keep z1 z3 z4) (s1.trans z1) (aV.mpr ⟨a,Wf,rfl,nJ.of az,b2.mono z2⟩)
def RX(H:Hp)(a:ab):Hp:=λb=>if b=a then none else H b
theorem IP{H:Hp}{a:ab}:RX H a a=none:=by unfold RX;rw[if_pos rfl]
theorem IQ{H:Hp}{a b:ab}(h:b≠a):RX H a b=H b:=by unfold RX;rw[if_neg h]
theorem MX{H:Hp}{a:ab}{o:HO}(h:H a=some o):upd (RX H a) a o=H:=by
 funext b
 by_cases hb:b=a
 ·subst hb;rw[az,h]
 ·rw[upd_ne hb,IQ hb]
theorem zf{F H:Hp}{a:ab}(s:Same F H)(hn:F a=none):Same F (RX H a):=λb o e=>by
 have:b≠a:=λz=>by subst z;rw[hn]at e;cases e
 rw[IQ this];exact s _ _ e
theorem Fx{σ:St}{H:Hp}{Q:VK}{E:XK}{K:ah}(h:tF K H₀ aa (kq (aX n g) ts) σ H Q):uL (zc K n g) [] E (tA K H₀ aa ts) σ H Q:=by
 obtain⟨F,ρ,p,R,hf,q⟩:=h;obtain⟨as,h1,h2⟩:=ao hf;obtain⟨en,h2,h4⟩:=ao h2;obtain⟨hl,h3⟩:=uX h2;refine⟨F,ρ,as,R,h1,λvs H1 F1 R1 s1 b1=>?_⟩
 show zc K n g (vs++[]) H1 Q E;rw[dE];refine⟨F1,as,en,R1.sub,b1,hl,h3,?_⟩;cases en with
 | un=>cases h4
 | ex C=>cases h4
 | ob _=>cases h4
 | cq _=>cases h4
 | val p'=>cases h4
 | own ps =>
  cases h4;intro a Wf F2 H2 P ff ha hn fn b2;have:=q a Wf (RX H2 a) F2 (R1.after (zf P.keep hn) P.base (zf P.sub fn) P.fresh) (s1.trans ff) b2 IP;rw[MX ha]at this;exact this
theorem RY(F:FnOk X.prog X.w X.K X.mg X.base (ji X.prog X.w) k f fd ps (zc X.K n g))(hr:dg k X.A)(hg:Gl X x)(hm:X.mg x=some (.ref f))(hk:W.keepIn X.K (.ref f)=true)(hb:dS X.K fd ps [])
  (ha:PA X (e::es) (tA X.K H₀ aa ts)) (pM:(x==("__debug__":Str))=false:=by decide) (he:starEach (e::es) X.env=(false,eval e X.env)::starEach es X.env:=by rfl) (jt:(backTo pos (starEach es X.env)).any (·.1)=false:=by rfl) :
  PE X (.Call (.Name x p) (e::es) [] pos) (tE X.K H₀ aa (aK (aX n g) ts)):=(kU F hr hg hm hk hb .nil jP ha pM he jt).imp λ_ _ _ h=>ro h
end
inductive pQ where
 | nx (ρ:aC) | rt (p:Ent) | bk (ρ:aC) | ct (ρ:aC) | ex (made:Bool) (C:Str) (ρ:aC)
abbrev FS:=aC->Option pQ
def Fy(X:Cx)(H₀ aa F:Hp)(C:Str)(ρ:aC):Bool->Prop
 | true=>∀F' cG H' ae s h1 a cls vs,cw X.K H₀ aa F' ρ cG H'->Same F F'->Inv X ae cG H' s->ClsAt X.K C cls->Heap.MadeExcOf s.heap h1 a cls vs->X.xe (.ref a) {s with heap:=h1}
 | false=>∀cG ae H1 s1 e s',Inv X ae cG H1 s1->ji X.prog X.w X.stack H1 s1 (λcls _ H2=>ClsAt X.K C cls/\∃F',cw X.K H₀ aa F' ρ cG H2/\Same F F') e s'->X.xe e s'
theorem Fy.mono{X:Cx}{H₀ aa F F1:Hp}{C:Str}{ρ:aC}{m:Bool}(h:Fy X H₀ aa F C ρ m)(s:Same F F1):Fy X H₀ aa F1 C ρ m:=by
 cases m with
 | true=>exact λF' cG H' ae s1 h1 a cls vs R z=>h F' cG H' ae s1 h1 a cls vs R (s.trans z)
 | false =>
  rintro cG ae H1 s1 e s' I ⟨a,cls,a0,B,H',h1,h2,h3,h4,h5,h6,⟨c,F',R,z⟩,h8⟩;exact h cG ae H1 s1 e s' I ⟨a,cls,a0,B,H',h1,h2,h3,h4,h5,h6,⟨c,F',R,s.trans z⟩,h8⟩
def DM(X:Cx)(H₀ aa F:Hp)(D:jS):pQ->Prop
 | .nx ρ=>∀F' cG H',cw X.K H₀ aa F' ρ cG H'->Same F F'->D.nx cG H'
 | .bk ρ=>∀F' cG H',cw X.K H₀ aa F' ρ cG H'->Same F F'->D.bk cG H'
 | .ct ρ=>∀F' cG H',cw X.K H₀ aa F' ρ cG H'->Same F F'->D.ct cG H'
 | .rt p=>wL X.K H₀ aa F D.rt p
 | .ex m C ρ=>Fy X H₀ aa F C ρ m
def tS(X:Cx)(H₀ aa:Hp)(f:FS):TS:=λD σ H=>∃F ρ o,cw X.K H₀ aa F ρ σ H/\f ρ=some o/\DM X H₀ aa F D o
theorem DM.mono{X:Cx}{H₀ aa F F1:Hp}{D:jS}{o:pQ}(h:DM X H₀ aa F D o)(s:Same F F1):DM X H₀ aa F1 D o:=by
 cases o with
 | nx ρ=>exact λF' cG H' R z=>h F' cG H' R (s.trans z)
 | bk ρ=>exact λF' cG H' R z=>h F' cG H' R (s.trans z)
 | ct ρ=>exact λF' cG H' R z=>h F' cG H' R (s.trans z)
 | rt p=>exact wL.mono h s
 | ex m C ρ=>exact Fy.mono h s
section
variable {X:Cx} {H₀ aa:Hp} {a b c e tg iter:aj} {es:List aj} {fe:FE} {gc:eR} {pos:Pos} {st:ay} {IS body:List ay} {f g:FS}
def bq(f g:FS):FS:=λρ=>(f ρ).bind λo=>match o with | .nx eS=>g eS | o=>some o
theorem RZ:PSs X [] (tS X H₀ aa λρ=>some (.nx ρ)):=wm.imp <| by
 rintro D σ H ⟨F,ρ,o,R,hf,q⟩
 cases hf;exact q F σ H R (Same.refl F)
theorem MY(h1:PS X st (tS X H₀ aa f))(h2:PSs X IS (tS X H₀ aa g)):PSs X (st::IS) (tS X H₀ aa (bq f g)):=(fU h1 h2).imp <| by
 rintro D σ H ⟨F,ρ,o,R,hf,q⟩
 obtain⟨o1,e1,e2⟩:=ao hf;refine⟨F,ρ,o1,R,e1,?_⟩;cases o1 with
 | nx d6=>exact λF1 i0 H1 R1 s1=>⟨F1,d6,o,R1,e2,q.mono s1⟩
 | bk d6=>cases e2;exact q
 | ct d6=>cases e2;exact q
 | rt p=>cases e2;exact q
 | ex m C d6=>cases e2;exact q
theorem R6(h1:PS X st (tS X H₀ aa f)):PSs X [st] (tS X H₀ aa f):=kR h1
def cy(fe:FE):FS:=λρ=>(fe ρ).map λp=>.rt (.val p)
theorem PJ(he:PE X e (tE X.K H₀ aa fe)):PS X (.Return (some e) pos) (tS X H₀ aa (cy fe)):=(wo he).imp <| by
 rintro D σ H ⟨F,ρ,o,R,hf,q⟩
 unfold cy at hf;cases z:fe ρ with
 | none=>rw[z]at hf;cases hf
 | some p =>
  rw[z]at hf;cases hf;exact⟨F,ρ,p,R,z,λv H1 F1 R1 s1 b1=>q v F1 H1 R1.post s1 b1⟩
def oo(i:Nat):FS:=λρ=>match ρ[i]? with
 | some (.own ps)=>some (.rt (.own ps))
 | some (.val p)=>some (.rt (.val p))
 | _=>none
theorem Fz(i:Nat){x:Str}{p:Pos}(h:PE X (.Name x p) (gR i)):PS X (.Return (some (.Name x p)) pos) (tS X H₀ aa (oo i)):=(wo h).imp <| by
 rintro D σ H ⟨F,ρ,o,R,hf,q⟩
 unfold oo at hf;split at hf
 ·rename_i ps z;cases hf;obtain⟨a,vs,h1,h2,h3,h4,h5⟩:=R.own i ps z;exact⟨_,h1,q a vs F H R.post (Same.refl F) h2 h3 h4 h5⟩
 ·rename_i p z;cases hf;obtain⟨v,h1,h2⟩:=R.val i p z;exact⟨_,h1,q v F H R.post (Same.refl F) h2⟩
 ·cases hf
theorem R7:PS X (.Return none pos) (tS X H₀ aa λ_=>some (.rt (.val .cE))):=Mp.imp <| by
 rintro D σ H ⟨F,ρ,o,R,hf,q⟩
 cases hf;exact q _ F H R.post (Same.refl F) (cX.mpr rfl)
def jZ(gc:eR)(f g:FS):FS:=λρ=>(gc ρ).bind λx=>if x=true then f ρ else g ρ
theorem abx{p:List ay}{r:List ay}(hc:PT X c (tT X.K H₀ aa gc))(ha:PSs X p (tS X H₀ aa f))(hb:PSs X r (tS X H₀ aa g)):PS X (.If c p r pos) (tS X H₀ aa (jZ gc f g)) :=
 (Pk hc ha hb).imp <| by
  rintro D σ H ⟨F,ρ,o,R,hf,q⟩
  obtain⟨x,h1,h2⟩:=ao hf;refine⟨F,ρ,x,R,h1,λH1 F1 R1 s1=>?_⟩
  cases x with
  | true=>exact⟨F1,ρ,o,R1,h2,q.mono s1⟩
  | false=>exact⟨F1,ρ,o,R1,h2,q.mono s1⟩
def o9(fe:FE):FS:=λρ=>(fe ρ).map λ_=>.nx ρ
theorem R8(he:PE X e (tE X.K H₀ aa fe))(hs:swapsWith e none pos.line X.env=pure false:=by rfl):PS X (.Expr e pos) (tS X H₀ aa (o9 fe)):=(gz he hs).imp <| by
 rintro D σ H ⟨F,ρ,o,R,hf,q⟩
 unfold o9 at hf;cases z:fe ρ with
 | none=>rw[z]at hf;cases hf
 | some p =>
  rw[z]at hf;cases hf;exact⟨F,ρ,p,R,z,λv H1 F1 R1 s1 b1=>q F1 σ H1 R1 s1⟩
def tG(K:ah)(H₀ aa:Hp)(g:eG):TG:=λv σ H Q=>∃F ρ p eS,cw K H₀ aa F ρ σ H/\cx K F p v/\g p ρ=some eS/\∀cG H' F',cw K H₀ aa F' eS cG H'->Same F F'->Q cG H'
def aD(i:Nat)(p:PV)(ρ:aC):Option aC:=if i<ρ.length then some (ρ.set i (.val p))else none
theorem cw.set{K:ah}{F H:Hp}{ρ:aC}{σ:St}(R:cw K H₀ aa F ρ σ H){i:Nat}(hi:i<ρ.length){p:PV}{v:V}(hb:cx K F p v):cw K H₀ aa F (ρ.set i (.val p)) (σ.set i (some v)) H where
 sub:=R.sub
 keep:=R.keep
 base:=R.base
 fresh:=R.fresh
 val:=λj q e=>by
  by_cases h:i=j
  ·subst h;rw[bJ hi]at e;cases e;exact⟨v,bJ (by rw[<-R.len];exact hi),hb⟩
  ·rw[bj h]at e;rw[bj h];exact R.val j q e
 own:=λj ps e=>by
  by_cases h:i=j
  ·subst h;rw[bJ hi]at e;cases e
  ·rw[bj h]at e;rw[bj h];exact R.own j ps e
 apart:=λj k ps qs a h1 h2 h3 h4=>by
  by_cases hj:i=j
  ·subst hj;rw[bJ hi]at h1;cases h1
  ·by_cases hk:i=k
   ·subst hk;rw[bJ hi]at h2;cases h2
   ·rw[bj hj]at h1 h3;rw[bj hk]at h2 h4;exact R.apart j k ps qs a h1 h2 h3 h4
 obs:=λj ps e=>by
  by_cases h:i=j
  ·subst h;rw[bJ hi]at e;cases e
  ·rw[bj h]at e;rw[bj h];exact R.obs j ps e
 cq:=λj ps e=>by
  by_cases h:i=j
  ·subst h;rw[bJ hi]at e;cases e
  ·rw[bj h]at e;rw[bj h];exact R.cq j ps e
 len:=by rw[gk,gk];exact R.len
theorem _root_.L2.PG.imp{X:Cx}{e:aj}{t t':TG}(h:PG X e t)(hi:∀v σ H Q,t' v σ H Q->t v σ H Q):PG X e t':=λae s σ H v u Q I r hw=>h ae s σ H v u Q I r (hi _ _ _ _ hw)
theorem _root_.L2.Ha.imp{X:Cx}{e:List aj}{t t':Mq}(h:Ha X e t)(hi:∀v σ H Q,t' v σ H Q->t v σ H Q):Ha X e t':=λae s σ H v u Q I r hw=>h ae s σ H v u Q I r (hi _ _ _ _ hw)
theorem R9(i:Nat){x:Str}(h:PG X (.Name x pos) (gName i)):PG X (.Name x pos) (tG X.K H₀ aa (aD i)):=h.imp <| by
 rintro v σ H Q ⟨F,ρ,p,eS,R,hb,hf,q⟩
 obtain⟨hi,rfl⟩:=aB hf;exact q _ _ _ (R.set hi hb) (Same.refl F)
def Wg(K:ah)(H₀ aa:Hp)(g:av->aC->Option aC):Mq:=λvs σ H Q=>∃F ρ ps eS,cw K H₀ aa F ρ σ H/\aP K F ps vs/\g ps ρ=some eS/\∀cG H' F',cw K H₀ aa F' eS cG H'->Same F F'->Q cG H'
def eH:av->aC->Option aC:=λps ρ=>match ps with | []=>some ρ | _=>none
def bB(g:eG)(r:av->aC->Option aC):av->aC->Option aC:=λps ρ=>match ps with | p::ps=>(g p ρ).bind λeS=>r ps eS | []=>none
theorem Sa:Ha X [] (Wg X.K H₀ aa eH):=Mr.imp <| by
 rintro vs σ H Q ⟨F,ρ,ps,eS,R,hb,hf,q⟩
 cases ps with
 | nil=>cases hf;exact⟨hb.bX,q _ _ _ R (Same.refl F)⟩
 | cons _ _=>cases hf
theorem MZ{t:eG}{u:av->aC->Option aC}(h1:PG X e (tG X.K H₀ aa t))(h2:Ha X es (Wg X.K H₀ aa u))
  (hs:(assignEach (e::es) X.env).map (·.2)=assign e X.env::(assignEach es X.env).map (·.2):=by rfl):Ha X (e::es) (Wg X.K H₀ aa (bB t u)):=(HZ h1 h2 hs).imp <| by
 rintro vs σ H Q ⟨F,ρ,ps,eS,R,hb,hf,q⟩
 cases ps with
 | nil=>cases hf
 | cons p ps =>
  obtain⟨v,r,rfl,b1,b2⟩:=hb.b6;obtain⟨d6,e1,e2⟩:=ao hf;exact⟨v,r,rfl,F,ρ,p,d6,R,b1,e1,λi0 H1 F1 R1 s1=>⟨F1,d6,ps,eS,R1,b2.mono s1,e2,λAM H2 F2 R2 s2=>q AM H2 F2 R2 (s1.trans s2)⟩⟩
def fD(n:Nat)(t:av->aC->Option aC):eG:=λp ρ=>match p with | .aI ps=>if ps.length=n then t ps ρ else none | _=>none
theorem Wh{k:Nat}{t:av->aC->Option aC}{n:Nat}(hc:X.calm=true)(h:Ha X es (Wg X.K H₀ aa t))
  (hn:(assignEach es X.env).length=n:=by rfl) (wq:(assignEach es X.env).findIdx? (·.1)=none:=by rfl):PG X (.Tuple es k pos) (tG X.K H₀ aa (fD n t)):=(Rc hc h hn wq).imp <| by
 rintro v σ H Q ⟨F,ρ,p,eS,R,hb,hf,q⟩
 cases p with
 | aI ps =>
  have hf:(if ps.length=n then t ps ρ else none)=some eS:=hf
  by_cases hl:ps.length=n
  ·rw[if_pos hl]at hf;obtain⟨a,vs,rfl,hs,zg⟩:=bF.mp hb;exact⟨a,vs,rfl,aU R.sub hs,by rw[<-zg.length];exact hl,F,ρ,ps,eS,R,zg,hf,q⟩
  ·rw[if_neg hl]at hf;cases hf
 | _=>cases hf
def ck(fe:FE)(g:eG):FS:=λρ=>(fe ρ).bind λp=>(g p ρ).map .nx
theorem DN{fe:FE}{g:eG}{D:jS}{σ:St}{H:Hp}(h:tS X H₀ aa (ck fe g) D σ H):lh (tE X.K H₀ aa fe) (tG X.K H₀ aa g) D σ H:=by
 obtain⟨F,ρ,o,R,hf,q⟩:=h;obtain⟨p,h1,h2⟩:=ao hf;cases z:g p ρ with
 | none=>rw[z]at h2;cases h2
 | some eS =>
  rw[z]at h2;cases h2;exact⟨F,ρ,p,R,h1,λv H1 F1 R1 s1 b1=>⟨F1,ρ,p,eS,R1,b1,z,λAM H2 F2 R2 s2=>q F2 AM H2 R2 (s1.trans s2)⟩⟩
theorem Wi{g:eG}(he:PE X e (tE X.K H₀ aa fe))(hg:PG X tg (tG X.K H₀ aa g))(hs:swapsWithSole [tg] e pos.line X.env=pure false:=by rfl)(hw:swappedStores [tg] e X.env=pure none:=by rfl)
  (h1:(assignEach [tg] X.env).map (·.2)=[assign tg X.env]:=by rfl):PS X (.Assign [tg] e pos) (tS X H₀ aa (ck fe g)):=(Rg he hg hs hw h1).imp λ_ _ _ h=>DN h
theorem PK(i:Nat){x:Str}{eY:Pos}(h:PS X (.Assign [.Name x eY] e pos) (lh (tE X.K H₀ aa fe) (gName i))):PS X (.Assign [.Name x eY] e pos) (tS X H₀ aa (ck fe (aD i))):=h.imp λD σ H h=>by
 obtain⟨F,ρ,p,R,h1,q⟩:=DN h;exact⟨F,ρ,p,R,h1,λv H1 F1 R1 s1 b1=>by
  obtain⟨F',eS,p',ae8,R',b',hf,q'⟩:=q v H1 F1 R1 s1 b1;obtain⟨hi,rfl⟩:=aB hf;exact q' _ _ _ (R'.set hi b') (Same.refl F')⟩
def IT(K:ah)(J:It)(F:Hp)(ps:av):Prop:=∀(H₀ aa F':Hp) (ρ:aC) (σ:St) (H:Hp),cw K H₀ aa F' ρ σ H->Same F F'->∀i:Nat,
 (∀p,ps[i]?=some p->J.go i H/\∀x H',J.yld i H x H'->∃F'',cw K H₀ aa F'' ρ σ H'/\Same F' F''/\cx K F'' p x)/\(ps[i]?=none->J.stop i H)
def tI(K:ah)(H₀ aa:Hp)(fi:bG):TI:=λσ H R=>∃F ρ ps,cw K H₀ aa F ρ σ H/\fi ρ=some ps/\∀J H' F',cw K H₀ aa F' ρ σ H'->Same F F'->IT K J F' ps->R J H'
theorem _root_.L2.PI.imp{X:Cx}{tg e:aj}{t t':TI}(h:PI X tg e t)(hi:∀σ H Q,t' σ H Q->t σ H Q):PI X tg e t':=λae s σ H R I hw=>h ae s σ H R I (hi _ _ _ hw)
def eZ(set:eG)(body:FS):av->aC->Option pQ
 | [],ρ=>some (.nx ρ)
 | p::ps,ρ=>(set p ρ).bind λd6=>(body d6).bind λo=>match o with
  | .nx qg=>eZ set body ps qg
  | .ct qg=>eZ set body ps qg
  | .bk qg=>some (.nx qg)
  | .rt p=>some (.rt p)
  | .ex m C qg=>some (.ex m C qg)
def gA(fi:bG)(set:eG)(body:FS):FS:=λρ=>(fi ρ).bind λps=>eZ set body ps ρ
theorem Wj{fi:bG}{g:eG}{fb:FS}(hp:PassesOwn (model X.prog X.w) X.A X.env X.xe)(hc:X.calm=true)(hi:PI X tg iter (tI X.K H₀ aa fi))(hg:PG X tg (tG X.K H₀ aa g))(hb:PSs X body (tS X H₀ aa fb))
  (hs:∀x,foldedSetIterable iter X.env x=pure x:=by intro _;rfl):PS X (.For tg iter body [] pos) (tS X H₀ aa (gA fi g fb)):=(Ig hp hc hi hg hb hs).imp <| by
 rintro D σ H ⟨F,ρ,o,R,hf,q⟩
 obtain⟨ps,h1,h2⟩:=ao hf;refine⟨F,ρ,ps,R,h1,λJ H1 F1 R1 s1 wk=>?_⟩
 refine⟨λi m cG H'=>m=ps.length-i/\i<=ps.length/\∃F' eS,cw X.K H₀ aa F' eS cG H'/\Same F1 F'/\eZ g fb (ps.drop i) eS=some o,⟨ps.length,by simp,dP _,F1,ρ,R1,Same.refl _,h2⟩,?_⟩
 rintro i m cG H' ⟨rfl,hi,F',eS,R',s',hr⟩
 obtain⟨wg,Wk⟩:=wk H₀ aa F' eS cG H' R' s' i;by_cases dW:i<ps.length
 ·have hd:ps.drop i=ps[i]::ps.drop (i+1):=List.drop_eq_getElem_cons dW;obtain⟨go,wy⟩:=wg ps[i] (di dW);rw[hd]at hr;obtain⟨d6,e1,hr⟩:=ao hr;obtain⟨o1,e2,hr⟩:=ao hr;refine .inr ⟨go,λAM H2=>∃F2 qg,cw X.K H₀ aa F2 qg AM H2/\Same F1 F2/\eZ g fb (ps.drop (i+1)) qg=some o,λAM H2 n2=>⟨ps.length-(i+1),by lia,rfl,dW,n2⟩,λx H2 y=>?_⟩
  obtain⟨F2,R2,s2,b2⟩:=wy x H2 y;refine⟨F2,eS,ps[i],d6,R2,b2,e1,λqd H3 F3 R3 s3=>⟨F3,d6,o1,R3,e2,?_⟩⟩
  have up:Same F1 F3:=s'.trans (s2.trans s3);cases o1 with
  | nx qg=>exact λF4 M0 H4 R4 s4=>⟨F4,qg,R4,up.trans s4,hr⟩
  | ct qg=>exact λF4 M0 H4 R4 s4=>⟨F4,qg,R4,up.trans s4,hr⟩
  | bk qg =>
   cases hr;exact λF4 M0 H4 R4 s4=>q F4 M0 H4 R4 (s1.trans (up.trans s4))
  | rt p =>
   cases hr;exact wL.mono q (s1.trans up)
  | ex m C qg =>
   cases hr;exact Fy.mono q (s1.trans up)
 ·have e:i=ps.length:=by lia
  subst e;rw[List.drop_length]at hr;cases hr;exact .inl ⟨Wk (jm (aR _)),q F' cG H' R' (s1.trans s')⟩
theorem FA{K:ah}{F:Hp}{a:ab}{vs:List V}{ps:av}(hs:lg K F a vs)(hb:aP K F ps vs):IT K (UJ K a) F ps:=by
 intro H₀ aa F' ρ σ H R s i;have hq:lg K H a vs:=(s.trans R.sub).seq hs;refine⟨λp e=>?_,λe=>?_⟩
 ·obtain⟨v,e1,b1⟩:=hb.get e;refine⟨⟨vs,v,hq,e1⟩,λx H' ⟨hH,y⟩=>?_⟩
  subst hH;have:=y vs hq;rw[e1]at this;cases this;exact⟨F',R,Same.refl _,b1.mono s⟩
 ·refine⟨vs,hq,?_⟩;rw[<-hb.length];exact qz.mp e
theorem IU{K:ah}{F:Hp}{a:ab}{vs:List V}{ps:av}(hs:gO K F a vs)(hb:aP K F ps vs):IT K (Itt K a) F ps:=by
 intro H₀ aa F' ρ σ H R s i;have hq:gO K H a vs:=aU (s.trans R.sub) hs;refine⟨λp e=>?_,λe=>?_⟩
 ·obtain⟨v,e1,b1⟩:=hb.get e;refine⟨⟨vs,v,hq,e1⟩,λx H' ⟨hH,y⟩=>?_⟩
  subst hH;have:=y vs hq;rw[e1]at this;cases this;exact⟨F',R,Same.refl _,b1.mono s⟩
 ·refine⟨vs,hq,?_⟩;rw[<-hb.length];exact qz.mp e
theorem rA{K:ah}{F:Hp}(lo:Int)(n:Nat):IT K (Vt lo n) F ((List.range n).map fun(i:Nat)=>.int (lo+i)):=by
 intro H₀ aa F' ρ σ H R s i;refine⟨λp e=>?_,λe=>?_⟩
 ·rw[cf]at e;by_cases hi:i<n
  ·rw[nQ hi]at e;cases e;exact⟨hi,λx H' ⟨hH,y⟩=>by subst hH y;exact⟨F',R,Same.refl _,aG.mpr rfl⟩⟩
  ·rw[jm (by simpa using hi)]at e;cases e
 ·rw[cf]at e;by_cases hi:i<n
  ·rw[nQ hi]at e;cases e
  ·exact Bj hi
def dz(fe:FE):bG:=λρ=>(fe ρ).bind λp=>match p with | .aI ps=>some ps | .aA ps=>some ps | _=>none
theorem DO(he:PE X e (tE X.K H₀ aa fe)):PI X tg e (tI X.K H₀ aa (dz fe)):=by
 intro ae s σ H R I h;obtain⟨F,ρ,ps,Rp,hf,q⟩:=h;obtain⟨p,h1,h2⟩:=ao hf;cases p with
 | aI qs =>
  cases h2;refine Ri he ae s σ H R I ⟨F,ρ,_,Rp,h1,λv H1 F1 R1 s1 b1=>?_⟩
  obtain⟨a,vs,rfl,hs,hb⟩:=bF.mp b1;exact⟨a,rfl,⟨vs,aU R1.sub hs⟩,q _ H1 F1 R1 s1 (IU hs hb)⟩
 | aA qs =>
  cases h2;refine DA he ae s σ H R I ⟨F,ρ,_,Rp,h1,λv H1 F1 R1 s1 b1=>?_⟩
  obtain⟨a,vs,rfl,hs,hb⟩:=aV.mp b1;exact⟨a,rfl,⟨vs,(bN R1.sub hs).sq⟩,q _ H1 F1 R1 s1 (FA hs.sq hb)⟩
 | _=>cases h2
def jU(ts:bG):bG:=λρ=>(ts ρ).bind λps=>match ps with | [.int j]=>if -(2^62)<=j/\j<2^62 then some ((List.range j.toNat).map fun(i:Nat)=>.int (0+i))else none | _=>none
theorem M1{p:Pos}{ts:bG}(hg:Gl X "range")(hm:X.mg "range"=none)(ha:PA X [a] (tA X.K H₀ aa ts))(hs:starEach [a] X.env=[(false,eval a X.env)]:=by rfl):PI X tg (.Call (.Name "range" p) [a] [] pos) (tI X.K H₀ aa (jU ts)) :=
 (Fg hg hm ha hs).imp <| by
  rintro σ H Rr ⟨F,ρ,ps,R,hf,q⟩
  obtain⟨as,h1,h2⟩:=ao hf;refine⟨F,ρ,as,R,h1,λvs H1 F1 R1 s1 b1=>?_⟩
  match as,h2 with
  | [.int j],h2 =>
   obtain⟨hj,rfl⟩:=aB h2;obtain⟨v,r,rfl,bv,br⟩:=b1.b6;rw[br.bX,aG.mp bv];exact⟨j,rfl,hj.1,hj.2,q _ H1 F1 R1 s1 (rA 0 j.toNat)⟩
end
section
variable {prog:bh} {w:aM} {A:bA} {R:Result->au->Prop} {s:au}
abbrev nb(prog:bh)(w:aM)(A:bA)(env:Env)(R:Result->au->Prop):cm:=notedBy (model prog w) A env λe s'=>R (.error e) s'
abbrev DP(ifs:List aj)(env:Env):Sem Bool:=forIn ifs true λc r=>if r=true then do let ok <-isTrue c env (eval c env);pure (ForInStep.yield ok)else pure (ForInStep.yield r)
theorem FC{elt tg iter:aj}{ifs:List aj}{scope:Scope}{pos:Pos}{it acc:ag}{env:Env}(I:Nat->au->Prop)
  (BB:∀n s,I n s->wpAny (model prog w) A (pyNext it) (λr s1=>match r with
   | none=>R (.ok .next) s1
   | some v=>wpAny (model prog w) A (letOwnedTupleGo tg it v) (λ_ UN=>wpAny (model prog w) A (assign tg env v) (λ_ s2=>wpAny (model prog w) A (DP ifs env) (λok s3 =>
      if ok=true then wpAny (model prog w) A (eval elt env) (λx s4=>wpAny (model prog w) A (call (.builtin "list.append") [acc,x]) (λ_ s5=>∃m,m<n/\I m s5) (nb prog w A env R) s4) (nb prog w A env R) s3
      else ∃m,m<n/\I m s3) (nb prog w A env R) s2) (nb prog w A env R) UN) (nb prog w A env R) s1) (nb prog w A env R) s)
  (n:Nat) (h:I n s):codeAny (model prog w) A (.compLoop (.ListComp elt [⟨tg,iter,ifs,0⟩] scope pos) 0 it acc env) R s:=by
 refine codeAny_loop rfl I (λn s hI=>?_) n h
 show wpAny _ A ((compTurn (.ListComp elt [⟨tg,iter,ifs,0⟩] scope pos) 0 it acc env).onRaise (λx=>do noteFrame x env;theTreesLotGoes x)) _ _ s
 refine wpAny_noted ?_;rw[compTurn_list];refine ai (wpAny_standAt (ai (thn (BB n s hI) λr s1 h1=>?_)))
 cases r with
 | none=>exact ax h1
 | some v =>
  refine ai (thn h1 λ_ UN Wl=>ai (thn Wl λ_ s2 h2=>ai (thn h2 λok s3 h3=>?_)))
  cases ok with
  | false=>exact ax ⟨rfl,h3⟩
  | true=>exact ai (ai (thn h3 λx s4 h4=>ai (thn h4 λ_ s5 h5=>ax (ax ⟨rfl,h5⟩))))
end
noncomputable def jV(env:Env):List (Str×NameKind)->List (Str×ab)->List (Str×ab)
 | [],cs=>cs
 | (n,k)::r,cs=>jV env r (if k==.free then(match env.cells.lookup n with | some c=>(n,c)::cs | none=>cs)else cs)
theorem rB{env:Env}{scope:Scope}(h:∀y∈scope.names,y.2=.free->∃c,env.cells.lookup y.1=some c):closureFor scope env=pure (jV env scope.names []):=by
 have all:∀(l:List (Str×NameKind)) (cs:List (Str×ab)),(∀y∈l,y.2=.free->∃c,env.cells.lookup y.1=some c) ->
   (forIn l cs λx r=>(match x with | (name,kind)=>if(kind==NameKind.free)=true then do let a <-cellOf env name;pure (ForInStep.yield ((name,a)::r))else pure (ForInStep.yield r):Sem (ForInStep (List (Str×ab)))))=pure (jV env l cs):=by
  intro l;induction l with
  | nil=>intro cs _;rfl
  | cons y l ih =>
   intro cs hl;obtain⟨n,k⟩:=y;rw[List.forIn_cons];by_cases hk:k=.free
   ·subst hk;obtain⟨c,hc⟩:=hl (n,.free) bE rfl;have Dy:env.cells.lookup n=some c:=hc;have e1:cellOf env n=pure c:=by unfold cellOf;rw[Dy]
    simp only[qG,eQ,e1,pure_bind,jV,Dy];exact ih _ λy hy=>hl y (bx _ hy)
   ·have hb:(k==NameKind.free)=false:=by simpa using hk
    simp only[hb,d8,dw,pure_bind,jV];exact ih _ λy hy=>hl y (bx _ hy)
 unfold closureFor;have:=all scope.names [] h;simp only[bind_pure]at this ⊢;exact this
theorem zh{env:Env}:∀(l:List (Str×NameKind)) (cs:List (Str×ab)) (p:Str×ab),p∈jV env l cs->p∈cs\/env.cells.lookup p.1=some p.2
 | [],_,_,h=>.inl h
 | (n,k)::r,cs,p,h=>by
  unfold jV at h;rcases zh r _ p h with q | q
  ·split at q
   ·split at q
    ·rename_i c hc;rcases aZ.mp q with z | z
     ·subst z;exact .inr hc
     ·exact .inl z
    ·exact .inl q
   ·exact .inl q
  ·exact .inr q
theorem cF{env:Env}{l:List (Str×NameKind)}{x:Str}{c:ab}(h:(jV env l []).lookup x=some c):env.cells.lookup x=some c:=by
 rcases zh l [] (x,c) (dC h)with q | q
 ·cases q
 ·exact q
theorem uY{env:Env}{x:Str}:∀(l:List (Str×NameKind)) (cs:List (Str×ab)),(∃c,(x,c)∈cs)->∃c,(x,c)∈jV env l cs
 | [],_,h=>h
 | (n,k)::r,cs,⟨c,h⟩=>by
  unfold jV;refine uY r _ ⟨c,?_⟩;split
  ·split
   ·exact bx _ h
   ·exact h
  ·exact h
theorem kr{env:Env}{x:Str}:∀(l:List (Str×NameKind)) (cs:List (Str×ab)),(x,NameKind.free)∈l->(∃c,env.cells.lookup x=some c)->∃c,(x,c)∈jV env l cs
 | [],_,h,_=>by cases h
 | (n,k)::r,cs,h,hc=>by
  unfold jV;rcases aZ.mp h with z | z
  ·cases z;obtain⟨c,e⟩:=hc;refine uY r _ ⟨c,?_⟩;simp[e]
  ·exact kr r _ z hc
theorem iS{x:Str}{c:ab}:∀{l:List (Str×ab)},(x,c)∈l->∃c',l.lookup x=some c'
 | [],h=>by cases h
 | (n,d)::r,h=>by
  rw[gV];cases hx:x==n with
  | true=>exact⟨d,rfl⟩
  | false =>
   rcases aZ.mp h with z | z
   ·cases z;simp at hx
   ·exact iS z
def cH(X:Cx)(N:List Str)(scope:Scope)(C:ab)(s:au)(H:Hp)(fp:List ab):Cx where
 prog:=X.prog
 w:=X.w
 K:=X.K
 mg:=X.mg
 base:=X.base
 A:=X.A
 N:=N
 s₀:=s
 H₀:=H
 env:=compEnvC scope (jV X.env scope.names []) C X.env
 outer:=X.stack
 stack:=X.stack
 ex:=fp
 fn:=λ_=>false
 calm:=X.calm
 pn:=[]
 xe:=λ_ _=>False
theorem hG{env:Env}:∀(names:List (Str×NameKind)) (x:Str),(names.map fun(n,k)=>if(k==NameKind.free&&env.scope.kind==.function&&env.kindOf n==some .cell)then(n,NameKind.cell)else(n,k)).lookup x =
  (names.lookup x).map λk=>if(k==NameKind.free&&env.scope.kind==.function&&env.kindOf x==some .cell)then NameKind.cell else k
 | [],_=>rfl
 | (n,j)::r,x=>by
  have e:(if(j==NameKind.free&&env.scope.kind==.function&&env.kindOf n==some .cell)=true then(n,NameKind.cell)else(n,j))=(n,if(j==NameKind.free&&env.scope.kind==.function&&env.kindOf n==some .cell)=true then NameKind.cell else j):=by split<;>rfl
  show List.lookup x ((if(j==NameKind.free&&env.scope.kind==.function&&env.kindOf n==some .cell)=true then(n,NameKind.cell)else(n,j))::_)=_
  rw[e,gV,gV];cases hx:x==n with
  | true =>
   have Py:x=n:=bD hx;subst Py;rfl
  | false=>exact hG r x
theorem mK{env:Env}{names:List (Str×NameKind)}{x:Str}{k:NameKind}(h:(names.map fun(n,k)=>if(k==NameKind.free&&env.scope.kind==.function&&env.kindOf n==some .cell)then(n,NameKind.cell)else(n,k)).lookup x=some k) :
  names.lookup x=some k\/(k=.cell/\names.lookup x=some .free):=by
 rw[hG]at h;cases z:names.lookup x with
 | none=>rw[z]at h;cases h
 | some j =>
  rw[z]at h;have h:(if(j==NameKind.free&&env.scope.kind==.function&&env.kindOf x==some .cell)=true then NameKind.cell else j)=k:=bo h
  split at h
  ·rename_i hc;simp only[aE]at hc;have hj:j=.free:=bD hc.1.1;exact .inr ⟨h.symm,by rw[hj]⟩
  ·exact .inl (by rw[h])
theorem wM{env:Env}{names:List (Str×NameKind)}{x:Str}(h:names.lookup x=some .free) :
  (names.map fun(n,k)=>if(k==NameKind.free&&env.scope.kind==.function&&env.kindOf n==some .cell)then(n,NameKind.cell)else(n,k)).lookup x=some .cell \/
  (names.map fun(n,k)=>if(k==NameKind.free&&env.scope.kind==.function&&env.kindOf n==some .cell)then(n,NameKind.cell)else(n,k)).lookup x=some .free:=by
 rw[hG,h];show some (if _ then _ else _)=_\/some (if _ then _ else _)=_
 split
 ·exact .inl rfl
 ·exact .inr rfl
structure gp (X:Cx) (N:List Str) (link:List (Option Nat)) (scope:Scope):Prop where
 kind:scope.kind=.function
 cell:∀y∈scope.names,y.2≠.cell
 names:∀y∈scope.names,y.2=.local->scope.names.lookup y.1=some .local
 free:∀y∈scope.names,y.2=.free->(X.env.kindOf y.1=some .cell\/X.env.kindOf y.1=some .free)
 len:link.length=N.length
 link:∀(i j:Nat) (x:Str),link[i]?=some (some j)->N[i]?=some x->X.N[j]?=some x/\scope.names.lookup x=some .free
def inner(link:List (Option Nat))(σ:St):St:=link.map λo=>o.bind λj=>(σ[j]?).join
section
variable {X:Cx} {ae:List (ab×Obj)} {σ:St} {H:Hp} {s:au}
theorem Inv.adopt{D:ab}{o:HO}(I:Inv X ae σ H s)(hn:H D=none)(h1:X.s₀.heap.objs.size<=D)(h2:D≠X.env.locals)(h3:∀x c,X.env.cells.lookup x=some c->c≠D)(h4:∀p∈X.pn++ae,p.1≠D)
  (ho:dB X.prog X.w (upd H D o) s.heap D o):Inv X ae σ (upd H D o) s:=by
 have ne:∀b u,H b=some u->b≠D:=λb u e z=>by rw[z,hn]at e;cases e
 refine I.step (h':=s.heap) (g':=s.gens) (t':=s.toks) (d':=s.drawn) (ch:=[D]) (λb hb=>?_) (λb u _ _ _ e _=>e) (λb u _ _ _ e _=>⟨u.slots,e⟩) (λb u hc _ n=>?_) (λb u _ e=>⟨u,e⟩)
  (λb xs e=>by rw[upd_ne (ne b _ e)];exact e) (λb u xs e=>by rw[upd_ne (ne b _ e)];exact e) (λb ps e=>by rw[upd_ne (ne b _ e)];exact e) (λm hm=>hm) (λb u e=>?_) I.bare
 ·have e:b=D:=by simpa using hb
  subst e;exact⟨.inr h1,h2,h3,h4⟩
 ·rw[upd_ne (λz=>hc (by simp[z]))];exact n
 ·by_cases hb:b=D
  ·subst hb;rw[az]at e;cases e;exact ho
  ·rw[upd_ne hb]at e;exact(I.hok b u e).yQ (λ_ _ _ q=>q) (λc q=>by rw[upd_ne (ne c _ q)];exact q) (λc xs q=>by rw[upd_ne (ne c _ q)];exact q) λc ob v q=>by rw[upd_ne (ne c _ q)];exact q
theorem BV{N:List Str}{link:List (Option Nat)}{scope:Scope}{fp:List ab}{C:ab}{h:Heap}{tk:Nat}(S:gp X N link scope)(I:Inv X ae σ H s)(Zb:∀b∈fp,wx X ae H b)
  (hC:s.heap.objs.size<=C) (ns:h.Ns C λ_=>none) (hk:∀b o,s.heap.get? b=some o->h.get? b=some o) (hex:∀b∈fp,∃o,s.heap.get? b=some o) :
  Inv (cH X N scope C s H fp) [] (inner link σ) H {s with heap:=h,toks:=tk}:=by
 have qX:∀y∈scope.names,y.2=.free->∃c,X.env.cells.lookup y.1=some c:=λy hy hf=>I.ok.has y.1 (S.free y hy hf)
 have abA:∀x c,X.env.cells.lookup x=some c->c<s.heap.objs.size:=λx c e=>let ⟨v,o,ho,_⟩:=I.cell x c e;bK ho
 refine⟨⟨I.ok.mod,S.kind,I.ok.glob,I.ok.blt,hC,λx y c h1 h2=>I.ok.inj x y c (cF h1) (cF h2),λx hx=>?_,λx c hx=>(by cases hx),I.ok.hd,I.ok.frames,.inl rfl,λb hb=>⟨?_,λx c e=>(Zb b hb).2.2.2.2.1 x c (cF e)⟩,I.bs,b0 I.ok.bsz I.sz,
  λb o e hb=>?_,λb hb z=>?_,I.stack,I.Dw,I.tabs⟩,rfl,I.bare,Un.kept hk,⟨_,ns,λi x v e1 e2 e3=>?_⟩,λx c e=>?_,I.hok.fresh hC,λx c e=>I.freeC x c (cF e),λp hp=>(by cases hp),I.hok.kept hk,by unfold inner;rw[aH];exact S.len⟩
 ·-- Pd cells are there
  have Py:(scope.names.map fun(n,k)=>if(k==NameKind.free&&X.env.scope.kind==.function&&X.env.kindOf n==some .cell)then(n,NameKind.cell)else(n,k)).lookup x=some .cell\/(scope.names.map fun(n,k)=>if(k==NameKind.free&&X.env.scope.kind==.function&&X.env.kindOf n==some .cell)then(n,NameKind.cell)else(n,k)).lookup x=some .free:=hx
  have hf:scope.names.lookup x=some .free:=by
   rcases Py with h1 | h1
   ·rcases mK h1 with q | ⟨_,q⟩
    ·exact absurd rfl (S.cell _ (dC q))
    ·exact q
   ·rcases mK h1 with q | ⟨z,_⟩
    ·exact q
    ·cases z
  have hm:=dC hf;obtain⟨c,hc⟩:=kr scope.names [] hm (qX _ hm rfl);exact iS hc
 ·intro z;obtain⟨o,ho⟩:=hex b hb;exact absurd (cz (bK ho) (b0 hC (lU z.symm))) (gY _)
 ·rcases(Zb b hb).2.2.2.1 with z | z
  ·exact I.ok.noex b o e z
  ·exact absurd (cz (bK e) (b0 I.ok.bsz z)) (gY _)
 ·rcases aZ.mp (I.BA b z)with q | q
  ·exact(Zb b hb).2.1 q
  ·exact(Zb b hb).2.2.1 q
 ·-- a slot: adJ ae9 from Pd abB
  have hi:i<link.length:=by
   have:=(cM.mp e2).1;unfold inner at this
   rwa [aH]at this
  unfold inner at e2;rw[cf,di hi]at e2;have e2:(link[i].bind λj=>(σ[j]?).join)=some v:=bo e2
  cases z:link[i]with
  | none=>rw[z]at e2;cases e2
  | some j =>
   rw[z]at e2;have e2:(σ[j]?).join=some v:=e2;have e4:σ[j]?=some (some v):=by
    cases q:σ[j]? with
    | none=>rw[q]at e2;cases e2
    | some q'=>rw[q]at e2;cases q' with
     | none=>cases e2
     | some v'=>cases e2;rfl
   obtain⟨hX,hf⟩:=S.link i j x (by rw[di hi,z]) e1
   have hm:=dC hf;have Zc:=S.free _ hm rfl;obtain⟨m,hn,hl⟩:=I.loc;obtain⟨u,r,l⟩:=hl j x v hX e4 (by rcases Zc with q | q;exact .inr (.inl q);exact .inr (.inr q))
   refine⟨u,r,.inr ⟨wM hf,?_⟩⟩;obtain⟨c,hc⟩:=kr (env:=X.env) scope.names [] hm (qX _ hm rfl);obtain⟨c',Dy⟩:=iS hc;refine⟨c',Dy,?_⟩;rcases l with⟨lk,_⟩ | ⟨_,d,hd,kl⟩
   ·rcases Zc with q | q<;>(rw[show X.env.kindOf x=some .local from lk]at q;cases q)
   ·have:=cF Dy;rw[hd]at this;cases this;exact kl.keeps hk
 ·obtain⟨v,o,ho,hd⟩:=I.cell x c (cF e);exact⟨v,o,hk _ _ ho,hd⟩
end
abbrev TB:=V->St->Hp->(Option V->St->Hp->Prop)->Prop
def PB(X:Cx)(tg:aj)(ifs:List aj)(elt:aj)(tb:TB):Prop :=
 ∀(ae:List (ab×Obj)) (s:au) (σ:St) (H:Hp) (v:V) (u:ag) (Q:Option V->St->Hp->Prop),Inv X ae σ H s->RelV v u->tb v σ H Q ->
  wpAny (model X.prog X.w) X.A (assign tg X.env u) (λ_ s2=>wpAny (model X.prog X.w) X.A (DP ifs X.env) (λok s3 =>
   if ok=true then wpAny (model X.prog X.w) X.A (eval elt X.env) (λy s4=>∃v' cG H',Inv X ae cG H' s4/\RelV v' y/\Q (some v') cG H') X.xe s3
   else ∃cG H',Inv X ae cG H' s3/\Q none cG H') X.xe s2) X.xe s
theorem rD{X:Cx}{tg elt:aj}{g:TG}{te:TE}(hg:PG X tg g)(he:PE X elt te):PB X tg [] elt (λv σ H Q=>g v σ H λi0 H1=>te i0 H1 λy H2=>Q (some y) i0 H2):=by
 intro ae s σ H v u Q I r h;refine thn (hg ae s σ H v u _ I r h) λ_ s2 ⟨i0,H1,I1,q1⟩=>ax ?_
 rw[if_pos rfl];exact thn (he ae s2 i0 H1 _ I1 q1) λy s4 ⟨v',H2,I2,r2,q2⟩=>⟨v',i0,H2,I2,r2,q2⟩
theorem DQ{X:Cx}{tg elt c:aj}{g:TG}{te:TE}{tc:TT}(hg:PG X tg g)(hc:PT X c tc)(he:PE X elt te) :
  PB X tg [c] elt (λv σ H Q=>g v σ H λi0 H1=>tc i0 H1 λb H2=>if b=true then te i0 H2 λy H3=>Q (some y) i0 H3 else Q none i0 H2):=by
 intro ae s σ H v u Q I r h;refine thn (hg ae s σ H v u _ I r h) λ_ s2 ⟨i0,H1,I1,q1⟩=>?_
 refine wpAny_tests_one (thn (hc ae s2 i0 H1 _ I1 q1) λb s3 ⟨H2,I2,q2⟩=>?_)
 cases b with
 | true =>
  rw[if_pos rfl]at q2 ⊢;exact thn (he ae s3 i0 H2 _ I2 q2) λy s4 ⟨v',H3,I3,r3,q3⟩=>⟨v',i0,H3,I3,r3,q3⟩
 | false =>
  rw[if_neg gI]at q2 ⊢;exact⟨i0,H2,I2,q2⟩
def pd(link:List (Option Nat))(wi:TI)(tb:TB):TE:=λσ H Q=>wi σ H λJ H1=>∃W:Nat->Nat->List V->St->Hp->Prop,(∃m,W 0 m [] (inner link σ) H1)/\∀i m acc cG H',W i m acc cG H' ->
 (J.stop i H'/\acc.length<=sizeLine/\∀D,H' D=none->Q (.ref D) (upd H' D (.aA acc))) \/
 (J.go i H'/\acc.length<sizeLine/\∀x H2,J.yld i H' x H2->tb x cG H2 λo qd H3=>∃m',m'<m/\W (i+1) m' (acc++o.toList) qd H3)
structure abC (X:Cx) (ae:List (ab×Obj)) (H:Hp) (C:ab):Prop where
 free:H C=none
 above:X.s₀.heap.objs.size<=C
 loc:C≠X.env.locals
 cell:∀x c,X.env.cells.lookup x=some c->c≠C
 pin:∀p∈X.pn++ae,p.1≠C
theorem uZ{X:Cx}{N:List Str}{link:List (Option Nat)}{scope:Scope}{tg iter elt:aj}{ifs:List aj}{pos eY:Pos}{wi:TI}{tb:TB}{use:Option (ag->Sem Unit)}{Q':cm}{ae:List (ab×Obj)}{s:au}{σ:St}{H:Hp}{Q:VK}(hc:X.calm=true)(S:gp X N link scope)(hi:PI X tg iter wi)
  (hb:∀(C:ab) (s:au) (H:Hp) (fp:List ab),PB (cH X N scope C s H fp) tg ifs elt tb) (hs:∀x,foldedSetIterable iter X.env x=pure x) (I:Inv X ae σ H s) (h:pd link wi tb σ H Q)
  (M3:∀(s5:au) (D C:ab) (H5:Hp) (m:cZ),Inv X ae σ H5 s5->Q (.ref D) H5->s5.heap.Ns C m->abC X ae H5 C->compPost (model X.prog X.w) X.A X.xe use Q' (.ref D) C (.ok .next) s5) :
  wpAny (model X.prog X.w) X.A (comprehension (.ListComp elt [⟨tg,iter,ifs,0⟩] scope pos) scope X.env eY (newList []) false (eval iter X.env) use) Q' X.xe s:=by
 have qX:∀y∈scope.names,y.2=.free->∃c,X.env.cells.lookup y.1=some c:=λy hy hf=>I.ok.has y.1 (S.free y hy hf)
 refine wpAny_comprehension_free (use:=use) rfl hs (rB qX) S.kind S.names (thn (hi ae s σ H _ I h) λv s1 h1=>thn h1 λitv s2 h2=>?_)
 obtain⟨it,fp,tn,J,H2,rfl,I2,T,UK,f2,W,⟨m0,w0⟩,BB⟩:=h2;refine iJ (wpAny_newFunctionEnv S.cell (by intro y hy;simp at hy) (λFt ns sb=>?_) S.kind)
 dsimp only at ns sb ⊢
 generalize hD:s2.heap.push {cls:=.type "list",dict:=none,data:=.seq ([]:bW).toArray}=HD at ns sb ⊢
 have hC:HD.objs.size=s2.heap.objs.size+1:=by rw[<-hD,gX]
 have Zd:s2.heap.objs.size≠HD.objs.size:=by rw[hC];exact b9 (nV _)
 have IV:s2.heap.objs.size<=HD.objs.size:=by rw[hC];exact n6 _
 have old:∀b o,s2.heap.get? b=some o->Ft.get? b=some o:=λb o e=>by
  have dW:=bK e;exact sb.extBut b o (b9 (cz dW IV)) (bR _ (by rw[<-hD];exact bR _ e))
 have abD:Ft.get? s2.heap.objs.size=some {cls:=.type "list",data:=.seq ([]:bW).toArray} :=
  sb.extBut _ _ Zd (bR _ (by rw[<-hD];exact cW _ rfl))
 generalize eD:s2.heap.objs.size=D at *
 generalize eC:HD.objs.size=C at *
 have exO:∀b∈fp,∃o,s2.heap.get? b=some o:=λb jx=>let ⟨o,e,_⟩:=T.obj _ _ UK b jx;⟨o,e⟩
 have I3:∀tk,Inv (cH X N scope C s2 H2 fp) [] (inner link σ) H2 {s2 with heap:=Ft,toks:=tk}:=λtk =>
  BV S I2 f2 (by rw[eD];exact IV) ns old exO
 have fpD:∀b∈fp,b≠D:=λb jx z=>by
  obtain⟨o,e⟩:=exO b jx;have:=bK e;rw[z,<-eD]at this;exact gY _ this
 have BE:∀{H':Hp} {pl:List (ab×Obj)},(∀b∈fp,H' b=none)->(∀p∈pl,p.1=D)->∀b∈fp,wx (cH X N scope C s2 H2 fp) pl H' b:=λ{H' pl} hn hp b jx=>by
  have K0:=(I3 0).ok.exf b jx;exact⟨hn b jx,K0.1,(I3 0).ok.exfs b jx,.inl jx,K0.2,λp pT z=>fpD b jx (z▸hp p (by simpa[cH]using pT))⟩
 have Wm:∀x c,(cH X N scope C s2 H2 fp).env.cells.lookup x=some c->c≠D:=λx c e z=>by
  obtain⟨v,o,ho,_⟩:=I2.cell x c (cF e);have:=bK ho;rw[z,<-eD]at this;exact gY _ this
 have fsD:D∉(cH X N scope C s2 H2 fp).fs:=λz=>by
  obtain⟨_,o,ho,_⟩:=I2.stack.mem z;have:=bK ho;rw[<-eD]at this;exact gY _ this
 have loop:∀s3:au,s3={s2 with heap:=Ft,toks:=s2.toks+([]:List (Str×ag)).length} ->
   codeAny (model X.prog X.w) X.A (.compLoop (.ListComp elt [⟨tg,iter,ifs,0⟩] scope pos) 0 (.ref it) (.ref D) (cH X N scope C s2 H2 fp).env) (compPost (model X.prog X.w) X.A X.xe use Q' (.ref D) C) s3:=by
  rintro s3 rfl
  refine FC (λn s'=>∃i acc cG H' aQ nn,Inv (cH X N scope C s2 H2 fp) [] cG H' s'/\tn i s'.heap/\(∀b∈fp,H' b=none)/\H' D=none/\s'.heap.get? D=some {cls:=.type "list",data:=.seq (aQ:bW).toArray nn}/\Vals acc aQ/\W i n acc cG H') ?_ m0
   ⟨0,[],_,H2,[],0,I3 _,T.keep _ _ _ UK λb jx o e=>old b o e,λb jx=>(f2 b jx).1,I2.hok.fresh (lU eD),abD,.nil,w0⟩
  rintro n s4 ⟨i,acc,M0,H4,aQ,nn,I4,st4,fr4,hD4,IC,hv,w4⟩
  have Wn:Inv (cH X N scope C s2 H2 fp) [(D,{cls:=.type "list",data:=.seq aQ.toArray nn})] M0 H4 s4:=I4.mG λp hp=>by
   have e:p=(D,{cls:=.type "list",data:=.seq aQ.toArray nn}):=by simpa using hp
   subst e;exact⟨IC,hD4,Zd,fsD,λv=>by simp⟩
  have IW:∀p∈[(D,({cls:=.type "list",data:=.seq aQ.toArray nn}:Obj))],p.1=D:=λp hp=>by
   have e:p=(D,{cls:=.type "list",data:=.seq aQ.toArray nn}):=by simpa using hp
   rw[e]
  rcases BB i n acc M0 H4 w4 with⟨stop,hz,q⟩ | ⟨go,hz,step⟩
  ·refine thn (T.done (cH X N scope C s2 H2 fp) rfl rfl rfl hc i _ s4 M0 H4 _ Wn (BE fr4 IW) st4 stop) λr s5 ⟨hr,I5⟩=>?_
   subst hr;obtain⟨m,hn,_⟩:=I5.loc;have pD:=I5.pin (D,{cls:=.type "list",data:=.seq aQ.toArray nn}) (d7 _ (dt.mpr rfl))
   have Ze:∀b o,s2.heap.get? b=some o->b≠D/\b≠C:=λb o e=>by
    have:=bK e;rw[eD]at this;exact⟨b9 this,b9 (cz this IV)⟩
   have PM:X.env.locals≠D/\X.env.locals≠C:=by
    have:=I2.lt;rw[eD]at this;exact⟨b9 this,b9 (cz this IV)⟩
   have I6:Inv X ae σ H4 s5:=I2.Vm I5.os I5.base I5.hok I5.bare λb jx=>⟨(f2 b jx).2.2.2.1,(f2 b jx).2.1,(f2 b jx).2.2.2.2.1,(f2 b jx).2.2.2.2.2⟩
   have I7:=Inv.adopt (D:=D) (o:=.aA acc) I6 pD.2.1 (b0 I2.sz (lU eD)) (dF PM.1) (λx c e=>let ⟨v,o,ho,_⟩:=I2.cell x c e;(Ze c o ho).1)
    (λp hp=>(Ze p.1 p.2 (I2.pin p hp).1).1) ⟨hz,aQ,nn,hv,pD.1⟩
   exact M3 s5 D C _ m I7 (q D pD.2.1) hn ⟨by rw[upd_ne (dF Zd)];exact I5.free,b0 (b0 I2.sz (lU eD)) IV,dF PM.2,λx c e=>let ⟨v,o,ho,_⟩:=I2.cell x c e;(Ze c o ho).2,λp hp=>(Ze p.1 p.2 (I2.pin p hp).1).2⟩
  ·refine thn (T.item (cH X N scope C s2 H2 fp) rfl rfl rfl hc i _ s4 M0 H4 _ Wn (BE fr4 IW) st4 go) λr s5 ⟨u,hr,h5⟩=>?_
   subst hr;refine thn h5 λ_ s5' ⟨x,H5,I5,r5,y5,Rj,fr5⟩=>?_
   have I5':=I5.pinned (BE fr5 IW) (T.obj _ _ Rj);have fin:∀{o:Option V} {YZ:St} {H6:Hp} {s6:au},Inv (cH X N scope C s2 H2 fp) ([(D,{cls:=.type "list",data:=.seq aQ.toArray nn})]++q0 fp s5'.heap) YZ H6 s6 ->
     tn (i+1) s6.heap/\(∀b∈fp,H6 b=none)/\H6 D=none/\s6.heap.get? D=some {cls:=.type "list",data:=.seq aQ.toArray nn}:=λ{o YZ H6 s6} I6=>by
    have pD:=I6.pin (D,_) (d7 _ (gH _ (dt.mpr rfl)));refine⟨T.keep _ _ _ Rj λb jx o e=>(I6.pin (b,o) (d7 _ (d7 _ (js jx e)))).1,λb jx=>?_,pD.2.1,pD.1⟩
    obtain⟨o,e,d⟩:=T.obj _ _ Rj b jx;exact(I6.pin (b,o) (d7 _ (d7 _ (js jx e)))).2.1
   refine lV (hb C s2 H2 fp _ s5' M0 H5 x u _ I5' r5 (step x H5 y5)) (λ_ s6 h6=>lV h6 (λok s7 h7=>?_) λ_ _ z=>False.elim z) λ_ _ z=>False.elim z
   cases ok with
   | false =>
    rw[if_neg gI]at h7 ⊢;obtain⟨Zf,H8,I8,m',hm',w8⟩:=h7;obtain⟨a1,a2,a3,a4⟩:=fin (o:=none) I8;exact⟨m',hm',i+1,_,Zf,H8,aQ,nn,I8.mG (λp hp=>by cases hp),a1,a2,a3,a4,by simpa using hv,w8⟩
   | true =>
    rw[if_pos rfl]at h7 ⊢;refine lV h7 (λy s8 ⟨v8,Zf,H8,I8,r8,m',hm',w8⟩=>?_) λ_ _ z=>False.elim z
    obtain⟨a1,a2,a3,a4⟩:=fin (o:=some v8) I8;have hl:=hv.length;refine n9 F.slot_list_append ⟨_,a4,rfl⟩ F.entry_list_append (F.args_list_append_2 _ _) (PySem.list_append D aQ.toArray nn y (by rw[bz];lia)) ⟨a4,?_⟩
    have I9:Inv (cH X N scope C s2 H2 fp) [] Zf H8 s8:=I8.mG (λp hp=>by cases hp)
    have qq:=PySem.IsL.update a4 λz=>z.push y
    have hp:aQ.toArray.push y=(aQ++[y]).toArray:=by simp
    rw[hp]at qq;refine⟨m',hm',i+1,_,Zf,H8,aQ++[y],_,I9.turned (it:=D) (λb o hne e=>(A1 _ _ (dF hne)).trans e) a3 Zd (.inr (lU eD)) Wm (λp hp=>by simp[cH]at hp),T.keep _ _ _ a1 λb jx o e=>(A1 _ _ (dF (fpD b jx))).trans e,a2,a3,qq,hv.append (.cons r8 .nil),w8⟩
 exact codeAny_compStart_list (loop _ rfl) (T.self _ 0 _ _ _ (T.keep _ _ _ UK λb jx o e=>old b o e) (loop _ rfl))
theorem wN{X:Cx}{N:List Str}{link:List (Option Nat)}{scope:Scope}{tg iter elt:aj}{ifs:List aj}{pos:Pos}{wi:TI}{tb:TB}(hc:X.calm=true)(S:gp X N link scope)(hi:PI X tg iter wi)
  (hb:∀(C:ab) (s:au) (H:Hp) (fp:List ab),PB (cH X N scope C s H fp) tg ifs elt tb) (hs:∀x,foldedSetIterable iter X.env x=pure x:=by intro _;rfl) :
  PE X (.ListComp elt [⟨tg,iter,ifs,0⟩] scope pos) (pd link wi tb):=by
 intro ae s σ H Q I h;rw[eval_ListComp];refine uZ hc S hi hb hs I h λs5 D C H5 m I5 q hn L=>⟨m,hn,λh' sb=>?_⟩
 exact⟨.ref D,H5,I5.turned (t':=s5.toks) (it:=C) (λb o hne e=>(sb.2 b hne).trans e) L.free L.loc (.inr L.above) L.cell L.pin,rfl,q⟩
theorem wO{X:Cx}{N:List Str}{link:List (Option Nat)}{scope:Scope}{tg iter elt:aj}{ifs:List aj}{pos eY ug:Pos}{wi:TI}{tb:TB}{i:Nat}{x:Str}(hc:X.calm=true)(hN:X.N.Nodup)(hx:X.N[i]?=some x)(hl:X.env.scope.names.lookup x=some .local)(S:gp X N link scope)(hi:PI X tg iter wi)
  (hb:∀(C:ab) (s:au) (H:Hp) (fp:List ab),PB (cH X N scope C s H fp) tg ifs elt tb) (hw:swapsWith (.ListComp elt [⟨tg,iter,ifs,0⟩] scope pos) (some (.Name x eY)) ug.line X.env=pure true) (hs:∀x,foldedSetIterable iter X.env x=pure x:=by intro _;rfl) :
  PS X (.Assign [.Name x eY] (.ListComp elt [⟨tg,iter,ifs,0⟩] scope pos) ug) (lh (pd link wi tb) (gName i)):=by
 intro ae s σ H D I h;rw[exec_Assign_Name_used _ _ _ _ hw];refine ai (wpAny_standAt (ai ?_));show wpAny _ X.A (do let _ <-comprehension (.ListComp elt [⟨tg,iter,ifs,0⟩] scope pos) scope X.env _ (newList []) false (eval iter X.env) (some (assign (.Name x eY) X.env))) _ _ s
 refine ai (thn (uZ (use:=some (assign (.Name x eY) X.env)) (Q':=λ_ s'=>SP X ae D .next s') hc S hi hb hs I h λs5 a C H5 m I5 q hn L=>?_) λ_ s' q=>ax (ax q))
 show wpAny _ X.A (assign (.Name x eY) X.env (.ref a)) _ _ s5;refine wpAny_assign_Name (store_ok2 (v:=.ref a) I5 hN hx (.inl hl) rfl (λs6 I6 k=>?_) (.inr hl))
 refine⟨m,?_,λh' sb=>?_⟩
 ·obtain⟨o,es,ep,ho,r⟩:=hn;obtain⟨b,UO,hor⟩:=k;have ne:C≠b:=λz=>by
   rcases hor with w | w
   ·exact L.loc (z.trans w)
   ·exact L.cell x b w z.symm
  exact⟨o,es,ep,(UO.2 C ne).trans ho,r⟩
 ·exact⟨_,H5,I6.turned (t':=s6.toks) (it:=C) (λb o hne e=>(sb.2 b hne).trans e) L.free L.loc (.inr L.above) L.cell L.pin,q⟩
def ku(bd:PV->Option bQ):av->Option av
 | []=>some []
 | p::ps=>(bd p).bind λo=>(ku bd ps).map λr=>o.toList++r
def kx{α β:Type}(f:α->Option β):List α->Option (List β)
 | []=>some []
 | p::ps=>(f p).bind λo=>(kx f ps).map λr=>o::r
def bM(link:List (Option Nat))(ρ:aC):aC:=link.map λo=>match o with
 | none=>.un
 | some j=>match ρ[j]? with | some (.val p)=>.val p | some (.ob o)=>.ob o | _=>.un
def KG(L:List Nat)(g:eG):Prop:=∀p ρ d6,g p ρ=some d6->d6.length=ρ.length/\∀j:Nat,j∉L->d6[j]?=ρ[j]?
def Wo(L:List Nat)(g:av->aC->Option aC):Prop:=∀p ρ d6,g p ρ=some d6->d6.length=ρ.length/\∀j:Nat,j∉L->d6[j]?=ρ[j]?
theorem M4(i:Nat):KG [i] (aD i):=λp ρ d6 h=>by
 obtain⟨_,rfl⟩:=aB h;exact⟨gk,λj hj=>bj (λz=>hj (by simp[z]))⟩
theorem M5:Wo [] eH:=λp ρ d6 h=>by
 cases p with
 | nil=>cases h;exact⟨rfl,λ_ _=>rfl⟩
 | cons _ _=>cases h
theorem IX{L M:List Nat}{g:eG}{r:av->aC->Option aC}(h1:KG L g)(h2:Wo M r):Wo (L++M) (bB g r):=λp ρ d6 h=>by
 cases p with
 | nil=>cases h
 | cons p ps =>
  obtain⟨qg,e1,e2⟩:=ao h;obtain⟨l1,k1⟩:=h1 p ρ qg e1;obtain⟨l2,k2⟩:=h2 ps qg d6 e2;exact⟨l2.trans l1,λj hj=>(k2 j λz=>hj (d7 _ z)).trans (k1 j λz=>hj (gH _ z))⟩
theorem Sb{L:List Nat}{n:Nat}{r:av->aC->Option aC}(h:Wo L r):KG L (fD n r):=λp ρ d6 e=>by
 cases p with
 | aI ps =>
  have e:(if ps.length=n then r ps ρ else none)=some d6:=e
  by_cases hl:ps.length=n
  ·rw[if_pos hl]at e;exact h ps ρ d6 e
  ·rw[if_neg hl]at e;cases e
 | _=>cases e
section
variable {K:ah} {H₀ aa F H:Hp} {ρ:aC} {σ:St}
theorem cS{link:List (Option Nat)}{i:Nat}{e:Ent}(h:(bM link ρ)[i]?=some e):e=.un\/(∃j p,link[i]?=some (some j)/\ρ[j]?=some (.val p)/\e=.val p)\/∃j o,link[i]?=some (some j)/\ρ[j]?=some (.ob o)/\e=.ob o:=by
 unfold bM at h;rw[cf]at h;cases z:link[i]? with
 | none=>rw[z]at h;cases h
 | some o =>
  rw[z]at h;cases o with
  | none=>cases h;exact .inl rfl
  | some j =>
   have h:(match ρ[j]? with | some (.val p)=>Ent.val p | some (.ob o)=>.ob o | _=>.un)=e:=bo h
   cases q:ρ[j]? with
   | none=>rw[q]at h;exact .inl h.symm
   | some w =>
    rw[q]at h;cases w with
    | val p=>exact .inr (.inl ⟨j,p,rfl,q,h.symm⟩)
    | ob p=>exact .inr (.inr ⟨j,p,rfl,q,h.symm⟩)
    | un=>exact .inl h.symm
    | own _=>exact .inl h.symm
    | ex _=>exact .inl h.symm
    | cq _=>exact .inl h.symm
theorem cw.inner(R:cw K H₀ aa F ρ σ H)(link:List (Option Nat)):cw K H F F (bM link ρ) (inner link σ) H where
 sub:=R.sub
 keep:=Same.refl _
 base:=Same.refl _
 fresh:=λa o e=>.inl e
 val:=λi p e=>by
  rcases cS e with z | ⟨j,q,h1,h2,h3⟩ | ⟨j,q,h1,h2,h3⟩
  ·cases z
  ·cases h3;obtain⟨v,e1,b1⟩:=R.val j _ h2;refine⟨v,?_,b1⟩;unfold L2.PL.inner;rw[cf,h1];show some ((σ[j]?).join)=_;rw[e1];rfl
  ·cases h3
 own:=λi ps e=>by
  rcases cS e with z | ⟨j,q,h1,h2,h3⟩ | ⟨j,q,h1,h2,h3⟩
  ·cases z
  ·cases h3
  ·cases h3
 apart:=λi j ps qs a e=>by
  rcases cS e with z | ⟨j,q,h1,h2,h3⟩ | ⟨j,q,h1,h2,h3⟩
  ·cases z
  ·cases h3
  ·cases h3
 obs:=λi p e=>by
  rcases cS e with z | ⟨j,q,h1,h2,h3⟩ | ⟨j,q,h1,h2,h3⟩
  ·cases z
  ·cases h3
  ·cases h3;obtain⟨v,e1,b1⟩:=R.obs j _ h2;refine⟨v,?_,b1⟩;unfold L2.PL.inner;rw[cf,h1];show some ((σ[j]?).join)=_;rw[e1];rfl
 cq:=λi ps e=>by
  rcases cS e with z | ⟨j,q,h1,h2,h3⟩ | ⟨j,q,h1,h2,h3⟩
  ·cases z
  ·cases h3
  ·cases h3
 len:=by unfold bM L2.PL.inner;rw[aH,aH]
theorem cw.M6{link:List (Option Nat)}{d6:aC}{L:List Nat}(R:cw K H₀ aa F d6 σ H)(hl:d6.length=(bM link ρ).length)(hk:∀j:Nat,j∉L->d6[j]?=(bM link ρ)[j]?)(hL:∀i∈L,link[i]?=some none):cw K H₀ aa F (bM link ρ) σ H where
 sub:=R.sub
 keep:=R.keep
 base:=R.base
 fresh:=R.fresh
 val:=λi p e=>by
  have hi:i∉L:=λz=>by
   rcases cS e with q | ⟨j,q,h1,h2,h3⟩ | ⟨j,q,h1,h2,h3⟩
   ·cases q
   ·rw[hL i z]at h1;cases h1
   ·rw[hL i z]at h1;cases h1
  exact R.val i p ((hk i hi).trans e)
 own:=λi ps e=>by
  rcases cS e with z | ⟨j,q,h1,h2,h3⟩ | ⟨j,q,h1,h2,h3⟩
  ·cases z
  ·cases h3
  ·cases h3
 apart:=λi j ps qs a e=>by
  rcases cS e with z | ⟨j,q,h1,h2,h3⟩ | ⟨j,q,h1,h2,h3⟩
  ·cases z
  ·cases h3
  ·cases h3
 obs:=λi p e=>by
  have hi:i∉L:=λz=>by
   rcases cS e with q | ⟨j,q,h1,h2,h3⟩ | ⟨j,q,h1,h2,h3⟩
   ·cases q
   ·rw[hL i z]at h1;cases h1
   ·rw[hL i z]at h1;cases h1
  exact R.obs i p ((hk i hi).trans e)
 cq:=λi ps e=>by
  rcases cS e with z | ⟨j,q,h1,h2,h3⟩ | ⟨j,q,h1,h2,h3⟩
  ·cases z
  ·cases h3
  ·cases h3
 len:=hl.symm.trans R.len
end
def dI(link:List (Option Nat))(fi:bG)(g:eG)(fe:FE):bG:=λρ=>(fi ρ).bind λps=>if ps.length<=f6 then kx (λp=>(g p (bM link ρ)).bind fe) ps else none
def pe(link:List (Option Nat))(fi:bG)(g:eG)(ft:eR)(fe:FE):bG:=λρ=>(fi ρ).bind λps=>if ps.length<=f6 then
 ku (λp=>(g p (bM link ρ)).bind λd6=>(ft d6).bind λb=>if b=true then(fe d6).map some else some none) ps else none
theorem u0(f:PV->bQ):∀ps,ku (λp=>(f p).map some) ps=kx f ps
 | []=>rfl
 | p::ps=>by
  unfold ku kx;rw[u0 f ps];cases f p<;>rfl
theorem aw{α:Type}{c:Prop} [Decidable c] {x:Option α} {y:α} (h:(if c then x else none)=some y):c/\x=some y:=by
 by_cases hc:c
 ·rw[if_pos hc]at h;exact⟨hc,h⟩
 ·rw[if_neg hc]at h;cases h
section
variable {X:Cx} {H₀ aa:Hp} {N:List Str} {link:List (Option Nat)} {scope:Scope} {tg iter elt c:aj} {pos:Pos} {fi:bG} {g:eG} {fe:FE} {ft:eR} {L:List Nat}
theorem zi{tb:TB}{bd:aC->PV->Option bQ}{σ:St}{H:Hp}{Q:VK}
  (hb:∀(H1 F1 F2:Hp) (ρ:aC) (p:PV) (o:bQ) (x:V) (cG:St) (H2:Hp) (Q':Option V->St->Hp->Prop),bd ρ p=some o->cw X.K H1 F1 F2 (bM link ρ) cG H2->cx X.K F2 p x ->
   (∀o' qd H3 F3,cw X.K H1 F1 F3 (bM link ρ) qd H3->Same F2 F3->aP X.K F3 o.toList (Option.toList o')->Q' o' qd H3)->tb x cG H2 Q')
  (h:tF X.K H₀ aa (λρ=>(fi ρ).bind λps=>if ps.length<=f6 then ku (bd ρ) ps else none) σ H Q):pd link (tI X.K H₀ aa fi) tb σ H Q:=by
 obtain⟨F,ρ,rs,R,hf,q⟩:=h;obtain⟨ps,h1,h2⟩:=ao hf;obtain⟨cD,h3⟩:=aw h2;refine⟨F,ρ,ps,R,h1,λJ H1 F1 R1 s1 wk=>?_⟩
 refine⟨λi m acc cG H'=>m=ps.length-i/\i<=ps.length/\acc.length<=i/\∃F' done rest,cw X.K H1 F1 F' (bM link ρ) cG H'/\ku (bd ρ) (ps.drop i)=some rest/\done++rest=rs/\aP X.K F' done acc,
  ⟨ps.length,rfl,dP _,aR _,F1,[],rs,R1.inner link,h3,rfl,.nil⟩,?_⟩
 rintro i m acc cG H' ⟨rfl,hi,ha,F',done,rest,R',hr,hd,zg⟩
 obtain⟨wg,Wk⟩:=wk H1 F1 F' (bM link ρ) cG H' R' R'.base i;by_cases dW:i<ps.length
 ·have hdr:ps.drop i=ps[i]::ps.drop (i+1):=List.drop_eq_getElem_cons dW;rw[hdr]at hr;obtain⟨o,e1,e2⟩:=ao hr;cases z:ku (bd ρ) (ps.drop (i+1))with
  | none=>rw[z]at e2;cases e2
  | some r2 =>
   rw[z]at e2;cases e2;obtain⟨go,wy⟩:=wg ps[i] (di dW);refine .inr ⟨go,j6 (b0 ha hi) (j6 cD (by decide)),λx H2 y=>?_⟩
   obtain⟨F2,R2,s2,b2⟩:=wy x H2 y;refine hb H1 F1 F2 ρ ps[i] o x cG H2 _ e1 R2 b2 λo' qd H3 F3 R3 s3 b3=>⟨ps.length-(i+1),by lia,rfl,dW,?_,F3,done++o.toList,r2,R3,z,by rw[<-hd,iK],(zg.mono (s2.trans s3)).append b3⟩
   rw[bY];cases o'<;>simp <;> lia
 ·have e:i=ps.length:=by lia
  subst e;rw[List.drop_length]at hr;cases hr;rw[dE]at hd;subst hd;refine .inl ⟨Wk (jm (aR _)),b0 ha (ee cD),λD hn=>?_⟩
  exact q D acc H' F' (R1.after R'.keep R'.base R'.sub R'.fresh) (s1.trans R'.base) zg hn
theorem rE{α:Type}{tb:α->TB}{ifs:List aj}(h:∀b,PB X tg ifs elt (tb b)):PB X tg ifs elt (λv σ H Q=>∃b,tb b v σ H Q):=λae s σ H v u Q I r ⟨b,hw⟩=>h b ae s σ H v u Q I r hw
theorem ky{σ:St}{H:Hp}{Q:VK}(hg:KG L g)(hL:∀i∈L,link[i]?=some none)(h:tF X.K H₀ aa (dI link fi g fe) σ H Q) :
  pd link (tI X.K H₀ aa fi) (λv σ H Q=>∃b:Hp×Hp,tG X.K b.1 b.2 g v σ H λi0 H1=>tE X.K b.1 b.2 fe i0 H1 λy H2=>Q (some y) i0 H2) σ H Q:=by
 refine zi (bd:=λρ p=>((g p (bM link ρ)).bind fe).map some) (λH1 F1 F2 ρ p o x cG H2 Q' e R2 b2 k=>⟨(H1,F1),?_⟩) ?_
 ·cases z:(g p (bM link ρ)).bind fe with
  | none=>rw[z]at e;cases e
  | some r =>
   rw[z]at e;cases e;obtain⟨d6,e1,e2⟩:=ao z;obtain⟨l1,k1⟩:=hg _ _ _ e1;exact⟨F2,bM link ρ,p,d6,R2,b2,e1,λqd H3 F3 R3 s3=>⟨F3,d6,r,R3,e2,λv H4 F4 R4 s4 b4=>k (some v) qd H4 F4 (R4.M6 l1 k1 hL) (s3.trans s4) (.cons b4 .nil)⟩⟩
 ·obtain⟨F,ρ,rs,R,hf,q⟩:=h;refine⟨F,ρ,rs,R,?_,q⟩;rw[<-hf];show((fi ρ).bind λps=>if ps.length<=f6 then ku (λp=>((g p (bM link ρ)).bind fe).map some) ps else none)=(fi ρ).bind λps=>if ps.length<=f6 then kx (λp=>(g p (bM link ρ)).bind fe) ps else none
  simp only[u0]
theorem Sd(hc:X.calm=true)(S:gp X N link scope)(hi:PI X tg iter (tI X.K H₀ aa fi))(hg:KG L g)(hL:∀i∈L,link[i]?=some none)
  (ht:∀(C:ab) (s:au) (H:Hp) (fp:List ab) (H₀ aa:Hp),PG (cH X N scope C s H fp) tg (tG X.K H₀ aa g)) (he:∀(C:ab) (s:au) (H:Hp) (fp:List ab) (H₀ aa:Hp),PE (cH X N scope C s H fp) elt (tE X.K H₀ aa fe))
  (hs:∀x,foldedSetIterable iter X.env x=pure x:=by intro _;rfl):PE X (.ListComp elt [⟨tg,iter,[],0⟩] scope pos) (tF X.K H₀ aa (dI link fi g fe)) :=
 (wN hc S hi (λC s H fp=>rE λb:Hp×Hp=>rD (ht C s H fp b.1 b.2) (he C s H fp b.1 b.2)) hs).imp λσ H Q h=>ky hg hL h
theorem lB{σ:St}{H:Hp}{Q:VK}(hg:KG L g)(hL:∀i∈L,link[i]?=some none)(h:tF X.K H₀ aa (pe link fi g ft fe) σ H Q) :
  pd link (tI X.K H₀ aa fi) (λv σ H Q=>∃b:Hp×Hp,tG X.K b.1 b.2 g v σ H λi0 H1=>tT X.K b.1 b.2 ft i0 H1 λt H2=>if t=true then tE X.K b.1 b.2 fe i0 H2 λy H3=>Q (some y) i0 H3 else Q none i0 H2) σ H Q:=by
 refine zi (bd:=λρ p=>(g p (bM link ρ)).bind λd6=>(ft d6).bind λb=>if b=true then(fe d6).map some else some none) (λH1 F1 F2 ρ p o x cG H2 Q' e R2 b2 k=>⟨(H1,F1),?_⟩) h
 obtain⟨d6,e1,e2⟩:=ao e;obtain⟨b,e3,e4⟩:=ao e2;obtain⟨l1,k1⟩:=hg _ _ _ e1;refine⟨F2,bM link ρ,p,d6,R2,b2,e1,λqd H3 F3 R3 s3=>⟨F3,d6,b,R3,e3,λH4 F4 R4 s4=>?_⟩⟩
 cases b with
 | true =>
  rw[if_pos rfl]at e4 ⊢;cases z:fe d6 with
  | none=>rw[z]at e4;cases e4
  | some r =>
   rw[z]at e4;cases e4;exact⟨F4,d6,r,R4,z,λv H5 F5 R5 s5 b5=>k (some v) qd H5 F5 (R5.M6 l1 k1 hL) (s3.trans (s4.trans s5)) (.cons b5 .nil)⟩
 | false =>
  rw[if_neg gI]at e4 ⊢;cases e4;exact k none qd H4 F4 (R4.M6 l1 k1 hL) (s3.trans s4) .nil
theorem M7(hc:X.calm=true)(S:gp X N link scope)(hi:PI X tg iter (tI X.K H₀ aa fi))(hg:KG L g)(hL:∀i∈L,link[i]?=some none)
  (ht:∀(C:ab) (s:au) (H:Hp) (fp:List ab) (H₀ aa:Hp),PG (cH X N scope C s H fp) tg (tG X.K H₀ aa g)) (hw:∀(C:ab) (s:au) (H:Hp) (fp:List ab) (H₀ aa:Hp),PT (cH X N scope C s H fp) c (tT X.K H₀ aa ft))
  (he:∀(C:ab) (s:au) (H:Hp) (fp:List ab) (H₀ aa:Hp),PE (cH X N scope C s H fp) elt (tE X.K H₀ aa fe))
  (hs:∀x,foldedSetIterable iter X.env x=pure x:=by intro _;rfl):PE X (.ListComp elt [⟨tg,iter,[c],0⟩] scope pos) (tF X.K H₀ aa (pe link fi g ft fe)) :=
 (wN hc S hi (λC s H fp=>rE λb:Hp×Hp=>DQ (ht C s H fp b.1 b.2) (hw C s H fp b.1 b.2) (he C s H fp b.1 b.2)) hs).imp λσ H Q h=>lB hg hL h
theorem rF{t:TE}{f:bG}{i:Nat}{st:ay}(ht:∀σ H Q,tF X.K H₀ aa f σ H Q->t σ H Q)(h:PS X st (lh t (gName i))):PS X st (tS X H₀ aa (ck (cB f) (aD i))):=h.imp λD σ H h=>by
 obtain⟨F,ρ,o,R,hf,q⟩:=h;obtain⟨p,h1,h2⟩:=ao hf;obtain⟨ps,z,rfl⟩:=uU h1;cases w:aD i (.aA ps) ρ with
 | none=>rw[w]at h2;cases h2
 | some eS =>
  rw[w]at h2;cases h2;obtain⟨hi,rfl⟩:=aB w;refine ht _ _ _ ⟨F,ρ,ps,R,z,λa vs H1 F1 R1 s1 b1 hn=>?_⟩
  obtain⟨R2,s2⟩:=R1.laid (.aA vs) hn;exact q _ _ _ (R2.set hi (aV.mpr ⟨a,vs,rfl,nJ.of az,b1.mono s2⟩)) (s1.trans s2)
end
section
variable {K:ah} {H₀ aa F H:Hp} {ρ:aC} {σ:St}
theorem cw.IY(R:cw K H₀ aa F ρ σ H){i:Nat}(hi:i<ρ.length){a:ab}{ps:av}{vs:List V}(hn:H a=none)(hb:aP K F ps vs):cw K H₀ aa F (ρ.set i (.own ps)) (σ.set i (some (.ref a))) (upd H a (.aA vs)) where
 sub:=R.sub.trans (dH hn)
 keep:=R.keep.trans (dH hn)
 base:=R.base
 fresh:=R.fresh
 val:=λj q e=>by
  by_cases h:i=j
  ·subst h;rw[bJ hi]at e;cases e
  ·rw[bj h]at e;rw[bj h];exact R.val j q e
 own:=λj qs e=>by
  by_cases h:i=j
  ·subst h;rw[bJ hi]at e;cases e;exact⟨a,vs,bJ (by rw[<-R.len];exact hi),az,R.keep.free hn,R.sub.free hn,hb⟩
  ·rw[bj h]at e;rw[bj h];obtain⟨b,ws,h1,h2,h3⟩:=R.own j qs e;exact⟨b,ws,h1,by rw[upd_ne (ne_of_none h2 hn)];exact h2,h3⟩
 apart:=λj k qs rs b h1 h2 h3 h4=>by
  have old:∀(m:Nat) (l:av),i≠m->(ρ.set i (.own ps))[m]?=some (.own l)->(σ.set i (some (.ref a)))[m]?=some (some (.ref b))->b≠a:=λm l hm e1 e2=>by
   rw[bj hm]at e1 e2;obtain⟨c,ws,q1,q2,_⟩:=R.own m l e1;rw[e2]at q1;cases q1;exact ne_of_none q2 hn
  have new:∀m:Nat,i=m->(σ.set i (some (.ref a)))[m]?=some (some (.ref b))->b=a:=λm hm e2=>by
   subst hm;rw[bJ (by rw[<-R.len];exact hi)]at e2
   cases e2;rfl
  by_cases hj:i=j
  ·by_cases hk:i=k
   ·exact hj.symm.trans hk
   ·exact absurd (new j hj h3) (old k rs hk h2 h4)
  ·by_cases hk:i=k
   ·exact absurd (new k hk h4) (old j qs hj h1 h3)
   ·rw[bj hj]at h1 h3;rw[bj hk]at h2 h4;exact R.apart j k qs rs b h1 h2 h3 h4
 obs:=λj q e=>by
  by_cases h:i=j
  ·subst h;rw[bJ hi]at e;cases e
  ·rw[bj h]at e;rw[bj h];exact R.obs j q e
 cq:=λj m e=>by
  by_cases h:i=j
  ·subst h;rw[bJ hi]at e;cases e
  ·rw[bj h]at e;rw[bj h];obtain⟨b,h1,h2,h3,h4⟩:=R.cq j m e;exact⟨b,h1,h2.mono (Same.refl F) (dH hn) λ_ _ _ z=>z,h3,h4⟩
 len:=by rw[gk,gk];exact R.len
theorem cw.mut(R:cw K H₀ aa F ρ σ H){i:Nat}{a:ab}{ps qs:av}{ws:List V}(hi:ρ[i]?=some (.own ps))(ha:σ[i]?=some (some (.ref a)))(hb:aP K F qs ws):cw K H₀ aa F (ρ.set i (.own qs)) σ (upd H a (.aA ws)):=by
 obtain⟨a',vs,h1,h2,h3,h4,h5⟩:=R.own i ps hi;rw[ha]at h1;cases h1;have dW:i<ρ.length:=(cM.mp hi).1;have sub:∀{G:Hp},G a=none->Same G H->Same G (upd H a (.aA ws)):=λ{G} hg s b o e=>by
  rw[upd_ne (ne_of_none e hg)];exact s _ _ e
 have oth:∀(m:Nat) (l:av),i≠m->ρ[m]?=some (.own l)->∀b,σ[m]?=some (some (.ref b))->b≠a:=λm l hm e1 b e2 z=>by
  subst z;exact hm (R.apart i m ps l b hi e1 ha e2)
 exact {
  sub:=sub h4 R.sub
  keep:=sub h3 R.keep
  base:=R.base
  fresh:=R.fresh
  val:=λj q e=>by
   by_cases h:i=j
   ·subst h;rw[bJ dW]at e;cases e
   ·rw[bj h]at e;exact R.val j q e
  own:=λj ls e=>by
   by_cases h:i=j
   ·subst h;rw[bJ dW]at e;cases e;exact⟨a,ws,ha,az,h3,h4,hb⟩
   ·rw[bj h]at e;obtain⟨b,us,q1,q2,q3⟩:=R.own j ls e;exact⟨b,us,q1,by rw[upd_ne (oth j ls h e b q1)];exact q2,q3⟩
  apart:=λj k l1 l2 b e1 e2 e3 e4=>by
   have f:∀(m:Nat) (l:av),(ρ.set i (.own qs))[m]?=some (.own l)->∃l',ρ[m]?=some (.own l'):=λm l e=>by
    by_cases h:i=m
    ·subst h;exact⟨_,hi⟩
    ·rw[bj h]at e;exact⟨_,e⟩
   obtain⟨m1,z1⟩:=f j l1 e1;obtain⟨m2,z2⟩:=f k l2 e2;exact R.apart j k m1 m2 b z1 z2 e3 e4
  obs:=λj q e=>by
   by_cases h:i=j
   ·subst h;rw[bJ dW]at e;cases e
   ·rw[bj h]at e;exact R.obs j q e
  cq:=λj m e=>by
   by_cases h:i=j
   ·subst h;rw[bJ dW]at e;cases e
   ·rw[bj h]at e;obtain⟨b,q1,q2,q3,q4⟩:=R.cq j m e;exact⟨b,q1,q2.to (Same.refl F) (λc o e d _=>by rw[upd_ne (oV e h2 (λz=>by subst z;cases m<;>cases d))];exact e) (λ_ _ _ z=>z),q3,q4⟩
  len:=by rw[gk];exact R.len}
noncomputable def dJ(L:Option (List Nat))(i:Nat)(e:Ent):Ent:=match e with
 | .own ps=>(match L with | none=>.val (.aA ps) | some l=>if i∈l then .val (.aA ps)else .own ps)
 | .cq (.l _)=>.un
 | .cq m=>.ob (.dct m)
 | e=>e
def fy(L:Option (List Nat)):Nat->aC->aC
 | _,[]=>[]
 | i,e::r=>dJ L i e::fy L (i+1) r
def fO(L:Option (List Nat))(ρ:aC):aC:=fy L 0 ρ
theorem ph{L:Option (List Nat)}:∀(ρ:aC) (k i:Nat),(fy L k ρ)[i]?=(ρ[i]?).map (dJ L (k+i))
 | [],_,_=>by simp[fy]
 | e::r,k,0=>by simp[fy]
 | e::r,k,i+1=>by
  simp only[fy,vN];rw[ph r (k+1) i]
  congr 2
  lia
theorem IZ{L:Option (List Nat)}{ρ:aC}{i:Nat}:(fO L ρ)[i]?=(ρ[i]?).map (dJ L i):=by
 unfold fO;rw[ph,gn]
theorem pj{L:Option (List Nat)}:∀(ρ:aC) (k:Nat),(fy L k ρ).length=ρ.length
 | [],_=>rfl
 | e::r,k=>by simp only[fy,aW,pj r]
theorem gq{L:Option (List Nat)}{i:Nat}{e:Ent}(h:dJ L i e≠e):(∃ps,e=.own ps/\dJ L i e=.val (.aA ps))\/(∃m,e=.cq m/\(∀dR,m≠.l dR)/\dJ L i e=.ob (.dct m))\/∃dR,e=.cq (.l dR)/\dJ L i e=.un:=by
 cases e with
 | own ps =>
  left
  refine⟨ps,rfl,?_⟩;unfold dJ at h ⊢;cases L with
  | none=>rfl
  | some l =>
   simp only at h ⊢;split
   ·rfl
   ·rename_i z;rw[if_neg z]at h;exact absurd rfl h
 | cq m =>
  cases m with
  | l dR=>exact .inr (.inr ⟨dR,rfl,rfl⟩)
  | t _=>exact .inr (.inl ⟨_,rfl,(λ_ z=>nomatch z),rfl⟩)
  | k _=>exact .inr (.inl ⟨_,rfl,(λ_ z=>nomatch z),rfl⟩)
 | _=>exact absurd rfl h
def oq(K:ah)(H₀ F H:Hp)(L:Option (List Nat))(ρ:aC)(σ:St)(b:ab):Prop:=(∃(i:Nat) (e:Ent),ρ[i]?=some e/\dJ L i e≠e/\σ[i]?=some (some (.ref b))) \/
 ∃(i:Nat) (dR:List av) (bs:List ab),ρ[i]?=some (.cq (.l dR))/\iq K F H (Nw H₀ F) dR bs/\b∈bs
open Classical in
noncomputable def u4 (K:ah) (H₀:Hp) (L:Option (List Nat)) (ρ:aC) (σ:St) (F H:Hp):Hp:=λb=>if oq K H₀ F H L ρ σ b then H b else F b
theorem mM{L:Option (List Nat)}{ρ:aC}{i:Nat}{e:Ent}(h:(fO L ρ)[i]?=some e):∃en,ρ[i]?=some en/\dJ L i en=e:=by
 rw[IZ]at h;cases z:ρ[i]? with
 | none=>rw[z]at h;cases h
 | some en=>rw[z]at h;exact⟨en,rfl,bo h⟩
theorem iq.mem{N:ab->Prop}{dR:List av}{bs:List ab}(h:iq K F H N dR bs){b:ab}(hb:b∈bs):N b/\∃vs,H b=some (o8 b vs):=by
 unfold iq at h;induction h with
 | nil=>cases hb
 | @cons ps c dR bs r t ih =>
  rcases aZ.mp hb with rfl | hb
  ·obtain⟨g1,vs,g2,_⟩:=r;exact⟨g1,vs,g2⟩
  ·exact ih hb
theorem iq.up{N:ab->Prop}{H':Hp}{dR:List av}{bs:List ab}(h:iq K F H N dR bs)(k:∀b∈bs,∀o,H b=some o->H' b=some o):iq K F H' N dR bs:=by
 unfold iq at h ⊢;induction h with
 | nil=>exact .nil
 | @cons ps c dR bs r t ih =>
  obtain⟨q1,vs,q2,q3⟩:=r;exact .cons ⟨q1,vs,k c bE _ q2,q3⟩ (ih λb hb=>k b (bx _ hb))
theorem cw.abG(R:cw K H₀ aa F ρ σ H){L:Option (List Nat)}{b:ab}(h:oq K H₀ F H L ρ σ b):H₀ b=none/\F b=none/\∃o,H b=some o:=by
 rcases h with⟨i,e,h1,h2,h3⟩ | ⟨i,dR,bs,h1,h2,h3⟩
 ·have cq:∀m,e=.cq m->H₀ b=none/\F b=none/\∃o,H b=some o:=λm z=>by
   subst z;obtain⟨a,q1,q2,q3,q4⟩:=R.cq i m h1;rw[h3]at q1;cases q1;obtain⟨o,q5,_⟩:=q2.obj;exact⟨q3,q4,o,q5⟩
  rcases gq h2 with⟨ps,rfl,_⟩ | ⟨m,rfl,_⟩ | ⟨dR,rfl,_⟩
  ·obtain⟨a,vs,q1,q2,q3,q4,_⟩:=R.own i ps h1;rw[h3]at q1;cases q1;exact⟨q3,q4,_,q2⟩
  ·exact cq _ rfl
  ·exact cq _ rfl
 ·obtain⟨⟨g1,g2⟩,vs,g3⟩:=h2.mem h3;exact⟨g1,g2,_,g3⟩
theorem cw.lx(R:cw K H₀ aa F ρ σ H)(L:Option (List Nat)):∃F',cw K H₀ aa F' (fO L ρ) σ H/\Same F F'/\∀(b:ab) (o:HO),oq K H₀ F H L ρ σ b->H b=some o->F' b=some o:=by
 have pos:∀{b:ab},oq K H₀ F H L ρ σ b->u4 K H₀ L ρ σ F H b=H b:=λ{b} h=>by unfold u4;rw[if_pos h]
 have neg:∀{b:ab},¬oq K H₀ F H L ρ σ b->u4 K H₀ L ρ σ F H b=F b:=λ{b} h=>by unfold u4;rw[if_neg h]
 have sm:Same F (u4 K H₀ L ρ σ F H):=λb o e=>by
  by_cases h:oq K H₀ F H L ρ σ b
  ·rw[pos h];exact R.sub _ _ e
  ·rw[neg h];exact e
 refine⟨u4 K H₀ L ρ σ F H,?_,sm,λb o e1 e2=>by rw[pos e1];exact e2⟩
 exact {
  sub:=λb o e=>by
   by_cases h:oq K H₀ F H L ρ σ b
   ·rw[pos h]at e;exact e
   ·rw[neg h]at e;exact R.sub _ _ e
  keep:=R.keep
  base:=R.base.trans sm
  fresh:=λb o e=>by
   by_cases h:oq K H₀ F H L ρ σ b
   ·exact .inr (R.abG h).1
   ·rw[neg h]at e;exact R.fresh _ _ e
  val:=λi p e=>by
   obtain⟨en,z,e⟩:=mM e;by_cases hne:dJ L i en≠en
   ·rcases gq hne with⟨ps,rfl,e2⟩ | ⟨m,rfl,_,e2⟩ | ⟨dR,rfl,e2⟩
    ·rw[e2]at e;cases e;obtain⟨a,vs,q1,q2,q3,q4,q5⟩:=R.own i ps z;refine⟨_,q1,aV.mpr ⟨a,vs,rfl,nJ.of ?_,q5.mono sm⟩⟩;rw[pos (.inl ⟨i,_,z,hne,q1⟩)];exact q2
    ·rw[e2]at e;cases e
    ·rw[e2]at e;cases e
   ·have hne:=qC.mp hne;rw[hne]at e;subst e;obtain⟨v,h1,h2⟩:=R.val i _ z;exact⟨v,h1,h2.mono sm⟩
  own:=λi ps e=>by
   obtain⟨en,z,e⟩:=mM e;by_cases hne:dJ L i en≠en
   ·rcases gq hne with⟨qs,rfl,e2⟩ | ⟨m,rfl,_,e2⟩ | ⟨dR,rfl,e2⟩<;>(rw[e2]at e;cases e)
   ·have hne:=qC.mp hne;rw[hne]at e;subst e;obtain⟨a,vs,q1,q2,q3,q4,q5⟩:=R.own i ps z;refine⟨a,vs,q1,q2,q3,?_,q5.mono sm⟩;rw[neg]
    ·exact q4
    ·have no:∀(j:Nat) (m:Dk),ρ[j]?=some (Ent.cq m)->σ[j]?=some (some (V.ref a))->False:=λj m h1 h3=>by
      obtain⟨b,r1,r2,_⟩:=R.cq j m h1;rw[h3]at r1;cases r1;obtain⟨o,r5,r6⟩:=r2.obj;rw[q2]at r5;exact r6 _ (bo r5).symm
     rintro(⟨j,e',h1,h2,h3⟩ | ⟨j,dR,bs,h1,h2,h3⟩)
     ·rcases gq h2 with⟨rs,rfl,e2⟩ | ⟨m,rfl,_,e2⟩ | ⟨dR,rfl,e2⟩
      ·have:=R.apart i j ps rs a z h1 q1 h3;subst this;rw[z]at h1;cases h1;exact h2 hne
      ·exact no j _ h1 h3
      ·exact no j _ h1 h3
     ·obtain⟨_,ws,g3⟩:=h2.mem h3;rw[q2]at g3;cases g3
  apart:=λj k ps qs a e1 e2=>by
   have old:∀(m:Nat) (l:av),(fO L ρ)[m]?=some (.own l)->∃l',ρ[m]?=some (.own l'):=λm l e=>by
    obtain⟨en,z,e⟩:=mM e;by_cases hne:dJ L m en≠en
    ·rcases gq hne with⟨qs,rfl,e2⟩ | ⟨d,rfl,_,e2⟩ | ⟨dR,rfl,e2⟩
     ·exact⟨qs,z⟩
     ·rw[e2]at e;cases e
     ·rw[e2]at e;cases e
    ·rw[qC.mp hne]at e;subst e;exact⟨l,z⟩
   obtain⟨l1,z1⟩:=old j ps e1;obtain⟨l2,z2⟩:=old k qs e2;exact R.apart j k l1 l2 a z1 z2
  obs:=λi o e=>by
   obtain⟨en,z,e⟩:=mM e;by_cases hne:dJ L i en≠en
   ·rcases gq hne with⟨qs,rfl,e2⟩ | ⟨m,rfl,hm,e2⟩ | ⟨dR,rfl,e2⟩
    ·rw[e2]at e;cases e
    ·rw[e2]at e;cases e;obtain⟨a,q1,q2,_⟩:=R.cq i m z;exact⟨a,q1,q2.toT hm sm (pos (.inl ⟨i,_,z,hne,q1⟩))⟩
    ·rw[e2]at e;cases e
   ·rw[qC.mp hne]at e;subst e;obtain⟨a,h1,h2⟩:=R.obs i _ z;exact⟨a,h1,h2.mono sm⟩
  cq:=λi m e=>by
   obtain⟨en,z,e⟩:=mM e;by_cases hne:dJ L i en≠en
   ·rcases gq hne with⟨qs,rfl,e2⟩ | ⟨m,rfl,_,e2⟩ | ⟨dR,rfl,e2⟩<;>(rw[e2]at e;cases e)
   ·rw[qC.mp hne]at e;subst e;refine absurd (λq=>?_) hne
    cases m<;>cases q
  len:=by unfold fO;rw[pj];exact R.len}
theorem cw.M8{F' H':Hp}(R:cw K H₀ aa F ρ σ H){F1:Hp}(R1:cw K H₀ aa F1 (fO none ρ) σ H)(s1:Same F F1)
  (hf:∀(b:ab) (o:HO),oq K H₀ F H none ρ σ b->H b=some o->F1 b=some o)
  (R2:cw K H₀ aa F' (fO none ρ) σ H') (s2:Same F1 F'):cw K H₀ aa F ρ σ H' where
 sub:=s1.trans (s2.trans R2.sub)
 keep:=R2.keep
 base:=R.base
 fresh:=R.fresh
 val:=R.val
 own:=λi ps e=>by
  obtain⟨a,vs,h1,h2,h3,h4,h5⟩:=R.own i ps e;exact⟨a,vs,h1,R2.sub _ _ (s2 _ _ (hf a _ (.inl ⟨i,_,e,(λz=>by cases z),h1⟩) h2)),h3,h4,h5⟩
 apart:=R.apart
 obs:=R.obs
 cq:=λi m e=>by
  obtain⟨a,h1,h2,h3,h4⟩:=R.cq i m e;have up:∀b o,oq K H₀ F H none ρ σ b->H b=some o->H' b=some o:=λb o q1 q2=>R2.sub _ _ (s2 _ _ (hf b o q1 q2))
  have ha:oq K H₀ F H none ρ σ a:=.inl ⟨i,_,e,(λz=>by cases m<;>cases z),h1⟩
  refine⟨a,h1,?_,h3,h4⟩;cases m with
  | l dR =>
   obtain⟨bs,g1,g2,g3⟩:=h2;have key:∀b∈bs,∀o,H b=some o->H' b=some o:=λb hb o q=>up b o (.inr ⟨i,dR,bs,e,g3,hb⟩) q
   exact⟨bs,up a _ ha g1,g2,g3.up key⟩
  | t _=>exact h2.toT (λ_ z=>nomatch z) (Same.refl F) (by obtain⟨o,h5,_⟩:=h2.obj;rw[up a o ha h5,h5])
  | k _=>exact h2.toT (λ_ z=>nomatch z) (Same.refl F) (by obtain⟨o,h5,_⟩:=h2.obj;rw[up a o ha h5,h5])
 len:=R.len
end
section
variable {X:Cx} {H₀ aa:Hp} {e:aj} {fe:FE} {gc:eR} {pos:Pos} {st:ay} {f:FS}
def mN(gc:eR):eR:=λρ=>gc (fO none ρ)
theorem Wq(h:PT X e (tT X.K H₀ aa gc)):PT X e (tT X.K H₀ aa (mN gc)):=h.imp <| by
 rintro σ H Q ⟨F,ρ,b,R,hf,q⟩
 obtain⟨F1,R1,s1,k1⟩:=R.lx none;exact⟨F1,fO none ρ,b,R1,hf,λH' F' R2 s2=>q H' F (R.M8 R1 s1 k1 R2 s2) (Same.refl F)⟩
def kz:PV->Bool
 | .aI _=>false
 | .aA _=>false
 | _=>true
theorem hJ{K:ah}{F F':Hp}{p:PV}{v:V}(h:kz p=true)(b:cx K F p v):cx K F' p v:=by
 cases p with
 | cE=>exact cX.mpr (cX.mp b)
 | bl _=>exact bU.mpr (bU.mp b)
 | int _=>exact aG.mpr (aG.mp b)
 | str _=>exact cb.mpr (cb.mp b)
 | aI _=>cases h
 | aA _=>cases h
def ot(fe:FE):FE:=λρ=>(fe (fO none ρ)).bind λp=>if kz p=true then some p else none
theorem Ja(h:PE X e (tE X.K H₀ aa fe)):PE X e (tE X.K H₀ aa (ot fe)):=h.imp <| by
 rintro σ H Q ⟨F,ρ,p,R,hf,q⟩
 obtain⟨p',h1,h2⟩:=ao hf;obtain⟨hp,rfl⟩:=aB h2;obtain⟨F1,R1,s1,k1⟩:=R.lx none;exact⟨F1,fO none ρ,p',R1,h1,λv H' F' R2 s2 b2=>q v H' F (R.M8 R1 s1 k1 R2 s2) (Same.refl F) (hJ hp b2)⟩
def zj(L:List Nat)(f:FS):FS:=λρ=>f (fO (some L) ρ)
theorem Wr(L:List Nat)(h:PS X st (tS X H₀ aa f)):PS X st (tS X H₀ aa (zj L f)):=h.imp <| by
 rintro D σ H ⟨F,ρ,o,R,hf,q⟩
 obtain⟨F1,R1,s1,k1⟩:=R.lx (some L);exact⟨F1,_,o,R1,hf,q.mono s1⟩
def l6(i:Nat)(fo:bG):FS:=λρ=>(fo ρ).bind λps=>if i<ρ.length then some (.nx (ρ.set i (.own ps)))else none
theorem rG{i:Nat}{fo:bG}{t:TE}{D:jS}{σ:St}{H:Hp}(ht:∀σ H Q,tF X.K H₀ aa fo σ H Q->t σ H Q)(h:tS X H₀ aa (l6 i fo) D σ H):lh t (gName i) D σ H:=by
 obtain⟨F,ρ,o,R,hf,q⟩:=h;obtain⟨ps,h1,h2⟩:=ao hf;obtain⟨hi,rfl⟩:=aB h2;refine ht _ _ _ ⟨F,ρ,ps,R,h1,λa vs H1 F1 R1 s1 b1 hn=>?_⟩
 exact q F1 _ _ (R1.IY hi hn b1) s1
def gK(i:Nat)(ts:bG)(g:av->av->Option av):FS:=λρ=>match ρ[i]? with
 | some (.own ps)=>(ts ρ).bind λas=>(g ps as).map λqs=>.nx (ρ.set i (.own qs))
 | _=>none
def M9(K:ah)(r:V->List V->Hp->VK->Prop)(g:av->av->Option av):Prop:=∀(H₀ aa F:Hp) (ρ:aC) (σ:St) (H:Hp) (a:ab) (ps as qs:av) (vs ws:List V) (Q:VK),g ps as=some qs->cw K H₀ aa F ρ σ H->H a=some (.aA vs)->aP K F ps vs->aP K F as ws ->
 (∀us,aP K F qs us->Q .cE (upd H a (.aA us)))->r (.ref a) ws H Q
theorem wQ{i:Nat}{ts:bG}{g:av->av->Option av}{r:V->List V->Hp->VK->Prop}{D:jS}{σ:St}{H:Hp}(hg:M9 X.K r g)(h:tS X H₀ aa (gK i ts g) D σ H) :
  tDrop (tBM X.K "list" r (gR i) (tA X.K H₀ aa ts)) D σ H:=by
 obtain⟨F,ρ,o,R,hf,q⟩:=h;unfold gK at hf;split at hf
 ·rename_i ps z;obtain⟨as,h1,h2⟩:=ao hf;cases w:g ps as with
  | none=>rw[w]at h2;cases h2
  | some qs =>
   rw[w]at h2;cases h2;obtain⟨a,vs,e1,e2,_⟩:=R.own i ps z;refine⟨.ref a,e1,.inl ⟨rfl,vs,lg.of e2⟩,F,ρ,as,R,h1,λws H1 F1 R1 s1 b1=>?_⟩
   obtain⟨a',RV,e1',e2',_,_,e5⟩:=R1.own i ps z;rw[e1]at e1';cases e1';refine hg H₀ aa F1 ρ σ H1 a ps as qs RV ws _ w R1 e2' e5 b1 λus bu=>?_
   exact q F1 σ _ (R1.mut z e1 bu) s1
 ·cases hf
def rH:av->av->Option av:=λps as=>match as with | [p]=>if ps.length<f6 then some (ps++[p])else none | _=>none
def l7:av->av->Option av:=λps as=>match as with
 | [.aA qs]=>if ps.length+qs.length<=f6 then some (ps++qs)else none
 | [.aI qs]=>if ps.length+qs.length<=f6 then some (ps++qs)else none
 | _=>none
theorem Na{K:ah}:M9 K DG rH:=by
 intro H₀ aa F ρ σ H a ps as qs vs ws Q hg R ha b1 b2 k;unfold rH at hg;split at hg
 ·rename_i p;obtain⟨hl,rfl⟩:=aB hg;obtain⟨w,r,rfl,bw,br⟩:=b2.b6;rw[br.bX];exact⟨a,vs,w,rfl,rfl,ha,by rw[<-b1.length];exact cz hl (by decide),k _ (b1.append (.cons bw .nil))⟩
 ·cases hg
def PN(K:ah)(r:V->List V->Hp->VK->Prop)(g:av->Option av):Prop:=∀(H₀ aa F:Hp) (ρ:aC) (σ:St) (H:Hp) (a:ab) (ps qs:av) (vs:List V) (Q:VK),g ps=some qs->cw K H₀ aa F ρ σ H->H a=some (.aA vs)->aP K F ps vs ->
 (∀us,aP K F qs us->Q .cE (upd H a (.aA us)))->r (.ref a) [] H Q
def Jb(i:Nat)(g:av->Option av):FS:=λρ=>match ρ[i]? with
 | some (.own ps)=>(g ps).map λqs=>.nx (ρ.set i (.own qs))
 | _=>none
theorem Jc{i:Nat}{g:av->Option av}{r:V->List V->Hp->VK->Prop}{D:jS}{σ:St}{H:Hp}(hg:PN X.K r g)(h:tS X H₀ aa (Jb i g) D σ H) :
  tDrop (VM X.K "list" r (gR i)) D σ H:=by
 obtain⟨F,ρ,o,R,hf,q⟩:=h;unfold Jb at hf;split at hf
 ·rename_i ps z;cases w:g ps with
  | none=>rw[w]at hf;cases hf
  | some qs =>
   rw[w]at hf;cases hf;obtain⟨a,vs,e1,e2,_,_,e5⟩:=R.own i ps z;refine⟨.ref a,e1,.inl ⟨rfl,vs,lg.of e2⟩,?_⟩;exact hg H₀ aa F ρ σ H a ps qs vs _ w R e2 e5 λus bu=>q F σ _ (R.mut z e1 bu) (Same.refl F)
 ·cases hf
def Ws(K:ah):V->List V->Hp->VK->Prop:=λx vs H Q=>∃l b xs zs,x=.ref l/\vs=[.ref b]/\H l=some (.aA xs)/\(nJ K H b zs\/gO K H b zs)/\xs.length+zs.length<=sizeLine/\Q .cE (upd H l (.aA (xs++zs)))
theorem wR(l:ab)(aQ:Array ag)(n:Nat)(b:ab)(more:Array ag)(n2:Nat)(dd:Option ab)(sl:Array lb)(h0:¬(!aQ.isEmpty&&Builtin.List.listTooLong (aQ.size+more.size))=true)(h1:aQ.size<=sizeLine)(h2:aQ.size+more.size<=sizeLine+1) :
  Meets (Builtin.«list.extend» ⟨[.ref l,.ref b],[]⟩) (λ_ R s=>s.heap.get? l=some {cls:=.type "list",dict:=none,data:=.seq aQ n,slots:=#[]}/\s.heap.get? b=some {cls:=.type "tuple",dict:=dd,data:=.seq more n2,slots:=sl} /\
   R (.ok (.ret Value.none)) {s with heap:=s.heap.update l (Obj.mapSeq λx=>x++more),toks:=s.toks}) :=
 .of_wp λprog w A R s h=>by
  obtain⟨hp,g,d,tk,os⟩:=s;obtain⟨hl,hb,h⟩:=h;have f1:=AutoSeq1.idx_int;have f2:=AutoSeq1.sub_tuple_tuple;have f3:=AutoSeq1.sub_list_list;have f4:=AutoSeq1.sub_tuple_list;have f5:=AutoSeq1.sub_list_tuple;have hz':(aQ++more).size<=sizeLine+1:=by rw[Array.size_append];exact h2
  wp_walk using (wpAny_updateSeq hl rfl (hz:=h1) (_hz':=hz')),j2 hl,j2 hb
  exact⟨_,rfl,h⟩
theorem Se{X:Cx}:VN X "list.extend" (Ws X.K):=by
 intro ae s σ H x vs v us Q I rx rv h;obtain⟨l,b,xs,zs,rfl,rfl,hH,hB,hz,q⟩:=h;cases rx;obtain⟨u,rfl,ru⟩:=rv.one;cases ru;obtain⟨z,aQ,n,r,hl,e⟩:=I.MM hH;have go:∀(ip:bW),Vals zs ip->(¬(!aQ.toArray.isEmpty&&Builtin.List.listTooLong (aQ.toArray.size+ip.toArray.size))=true/\aQ.toArray.size<=sizeLine/\aQ.toArray.size+ip.toArray.size<=sizeLine+1) /\
   EP X ae σ Q Value.none {s with heap:=s.heap.update l (Obj.mapSeq λx=>x++ip.toArray),toks:=s.toks}:=λip r2=>by
  have Sf:=r2.length;have hsz:aQ.toArray.size+ip.toArray.size<=sizeLine:=by rw[bz,bz];lia
  refine⟨⟨?_,by rw[bz];lia,by lia⟩,.cE,_,I.ML (its':=aQ++ip) hH e (by simp) (r.append r2) (by rw[bY];lia),rfl,q⟩
  rw[IB hsz,vZ];exact gI
 rcases hB with hB | hB
 ·obtain⟨ip,n2,r2,e2,_⟩:=I.rn hB;obtain⟨⟨g1,g2,g3⟩,g4⟩:=go ip r2;exact n9 F.slot_list_extend ⟨_,e,rfl⟩ F.entry_list_extend (F.args_list_extend_2 _ _) (AutoSeq1.list_extend_list_list_0 l aQ.toArray n b ip.toArray n2 g1 g2 g3) ⟨e,e2,g4⟩
 ·obtain⟨ip,r2,⟨⟨cls,dd,dat,sl⟩,e2,hc,n2,hd⟩,_⟩:=I.tuple hB;simp only at hc hd;subst hc hd;obtain⟨⟨g1,g2,g3⟩,g4⟩:=go ip r2;exact n9 F.slot_list_extend ⟨_,e,rfl⟩ F.entry_list_extend (F.args_list_extend_2 _ _) (wR l aQ.toArray n b ip.toArray n2 dd sl g1 g2 g3) ⟨e,e2,g4⟩
theorem Nb{K:ah}:M9 K (Ws K) l7:=by
 intro H₀ aa F ρ σ H a ps as qs vs ws Q hg R ha b1 b2 k;unfold l7 at hg;split at hg
 ·rename_i rs;obtain⟨hl,rfl⟩:=aB hg;obtain⟨w,r,rfl,bw,br⟩:=b2.b6;rw[br.bX];obtain⟨b,zs,rfl,hs,hb⟩:=aV.mp bw;exact⟨a,b,vs,zs,rfl,rfl,ha,.inl (bN R.sub hs),by rw[<-b1.length,<-hb.length];exact ee hl,k _ (b1.append hb)⟩
 ·rename_i rs;obtain⟨hl,rfl⟩:=aB hg;obtain⟨w,r,rfl,bw,br⟩:=b2.b6;rw[br.bX];obtain⟨b,zs,rfl,hs,hb⟩:=bF.mp bw;exact⟨a,b,vs,zs,rfl,rfl,ha,.inr (aU R.sub hs),by rw[<-b1.length,<-hb.length];exact ee hl,k _ (b1.append hb)⟩
 ·cases hg
end
def rT(K:ah)(g:PV->PV->bQ):R2:=λx y H Q=>∃H₀ aa F ρ τ pa pb p,g pa pb=some p/\cw K H₀ aa F ρ τ H/\cx K F pa x/\cx K F pb y/\∀v H' F',cw K H₀ aa F' ρ τ H'->Same F F'->cx K F' p v->Q v H'
abbrev wU(X:Cx)(f:ag->ag->Sem ag)(g:PV->PV->bQ):Prop:=OpR X f (rT X.K g)
theorem mP{K:ah}{g:PV->PV->bQ}:MT K (rT K g) g:=λH₀ aa F ρ σ H pa pb p x y Q e R ba bb k=>⟨H₀,aa,F,ρ,σ,pa,pb,p,e,R,ba,bb,k⟩
def sizeOk(n:Nat)(p:PV):bQ:=if n<=f6 then some p else none
theorem kA{n:Nat}{p q:PV}(h:sizeOk n p=some q):n<=sizeLine/\p=q:=by
 obtain⟨h1,h2⟩:=aB h;exact⟨ee h1,h2⟩
def cI:PV->PV->bQ
 | .int i,.int j=>some (.int (i+j))
 | .str x,.str y=>sizeOk (x.length+y.length) (.str (x++y))
 | .aI xs,.aI ys=>sizeOk (xs.length+ys.length) (.aI (xs++ys))
 | .aA xs,.aA ys=>sizeOk (xs.length+ys.length) (.aA (xs++ys))
 | _,_=>none
def BW:PV->PV->bQ
 | .int i,.int j=>some (.int (i-j))
 | _,_=>none
def Jd:Int:=18446744073709551616
def gT:PV->PV->bQ
 | .int i,.int j=>if(-Jd<i/\i<Jd)\/(-Jd<j/\j<Jd)then some (.int (i*j))else none
 | _,_=>none
def hV:PV->PV->bQ
 | .int i,.int j=>if 0<j/\j<1073741824 then some (.int (i/j))else none
 | _,_=>none
def fP:PV->PV->bQ
 | .int i,.int j=>if 0<j then some (.int (i%j))else none
 | _,_=>none
def pU:PV->PV->bQ
 | .int i,.int j=>if 0<=j/\j<=1000/\i.natAbs<1000 then some (.int (i^j.toNat))else none
 | _,_=>none
section
variable {X:Cx}
theorem Je{prog:bh}{w:aM}{A:bA}{E:cm}{s:au}{t b:ab}{ws:bW}{Q:cm}(ht:IsTup s.heap t ([]:bW).toArray)(hb:IsTup s.heap b ws.toArray)(h1:Q (.ref b) s):wpAny (model prog w) A (binaryOp .Add (.ref t) (.ref b)) Q E s:=by
 obtain⟨⟨cls,dd,data,sl⟩,ho,hc,n,hd⟩:=id ht;obtain⟨⟨abd,Y2,VF,Y3⟩,RF,VG,n2,VH⟩:=id hb;simp only at hc hd VG VH;subst hc hd VG VH;exact concat_meets ⟨_,ho,rfl⟩ ⟨_,RF,rfl⟩ Bh seq_tuple_add A4 A0 (AX _ _) (tuple_addW0 t b _ ws.toArray n n2 dd Y2 sl Y3 (by simp)) ⟨ho,RF,h1⟩
theorem wV:wU X (binaryOp .Add) cI:=by
 rintro ae s σ H x y v u Q I rx ry ⟨H₀,aa,F,ρ,τ,pa,pb,p,e,R,ba,bb,k⟩;unfold cI at e;split at e
 ·cases e;rw[aG.mp ba]at rx;rw[aG.mp bb]at ry;exact Rn ae s σ H _ _ v u Q I rx ry ⟨_,_,rfl,rfl,k _ H F R (Same.refl F) (aG.mpr rfl)⟩
 ·obtain⟨hz,rfl⟩:=kA e;rw[cb.mp ba]at rx;rw[cb.mp bb]at ry;exact BH ae s σ H _ _ v u Q I rx ry ⟨_,_,rfl,rfl,hz,k _ H F R (Same.refl F) (cb.mpr rfl)⟩
 ·rename_i xs ys;obtain⟨hz,rfl⟩:=kA e;obtain⟨a,vs,rfl,ha,f7⟩:=bF.mp ba;obtain⟨b,ws,rfl,hb,L5⟩:=bF.mp bb;have ha':=aU R.sub ha;have jx:=aU R.sub hb;cases xs with
  | nil =>
   rw[f7.bX]at ha';cases rx;cases ry;obtain⟨aQ,r1,p1,_⟩:=I.tuple ha';obtain⟨ip,r2,p2,_⟩:=I.tuple jx;cases r1;exact Je p1 p2 ⟨.ref b,H,I,rfl,k _ H F R (Same.refl F) (bF.mpr ⟨b,ws,rfl,hb,L5⟩)⟩
  | cons x0 xr =>
   refine MI ae s σ H _ _ v u Q I rx ry ⟨a,b,vs,ws,rfl,rfl,ha',jx,?_,by rw[<-f7.length,<-L5.length];exact hz,λz=>?_,λz q hq=>?_⟩
   ·intro z;have:=f7.length;rw[z]at this;cases this
   ·subst z;have hy:ys=[]:=by
     have:=L5.length;exact Hk this
    subst hy;rw[dE]at k;exact k _ H F R (Same.refl F) (bF.mpr ⟨a,vs,rfl,ha,f7⟩)
   ·obtain⟨R2,s2⟩:=R.laid (.aI (vs++ws)) hq;exact k _ _ _ R2 s2 (bF.mpr ⟨q,_,rfl,gO.of az,(f7.append L5).mono s2⟩)
 ·rename_i xs ys;obtain⟨hz,rfl⟩:=kA e;obtain⟨a,vs,rfl,ha,f7⟩:=aV.mp ba;obtain⟨b,ws,rfl,hb,L5⟩:=aV.mp bb;cases rx;cases ry;obtain⟨aQ,n,r,e1,z1⟩:=I.rn (bN R.sub ha);obtain⟨ip,n2,r2,e2,z2⟩:=I.rn (bN R.sub hb);have hl:=r.length;have Sf:=r2.length;have hz':vs.length+ws.length<=sizeLine:=by rw[<-f7.length,<-L5.length];exact hz
  refine PySem.P.add_list e1 e2 ?_ (by rw[bz,bz];lia)
  have ea:aQ.toArray++ip.toArray=(aQ++ip).toArray:=by simp
  rw[ea];obtain⟨R2,s2⟩:=R.laid (.aA (vs++ws)) I.fresh;exact⟨.ref _,_,I.VO (t':=s.toks) (r.append r2) (by rw[bY];lia),rfl,k _ _ _ R2 s2 (aV.mpr ⟨_,_,rfl,nJ.of az,(f7.append L5).mono s2⟩)⟩
 ·cases e
theorem iz{f:ag->ag->Sem ag}{C:Int->Int->Prop}{h:Int->Int->V}{g:PV->PV->bQ}(ho:OpR X f (rI C h))
  (hg:∀pa pb p,g pa pb=some p->∃i j,pa=.int i/\pb=.int j/\C i j/\∀F,cx X.K F p (h i j)):wU X f g:=by
 rintro ae s σ H x y v u Q I rx ry ⟨H₀,aa,F,ρ,τ,pa,pb,p,e,R,ba,bb,k⟩;obtain⟨i,j,rfl,rfl,hc,hp⟩:=hg pa pb p e;rw[aG.mp ba]at rx;rw[aG.mp bb]at ry;exact ho ae s σ H _ _ v u Q I rx ry ⟨i,j,rfl,rfl,hc,k _ H F R (Same.refl F) (hp F)⟩
theorem zk{f:ag->ag->Sem ag}{h:Int->Int->V}(ho:OpR X f (BF h)):OpR X f (rI (λ_ _=>True) h):=by
 rintro ae s σ H x y v u Q I rx ry ⟨i,j,h1,h2,_,q⟩;exact ho ae s σ H x y v u Q I rx ry ⟨i,j,h1,h2,q⟩
theorem Nc:wU X (binaryOp .Sub) BW:=iz (zk Ro) λpa pb p e=>by
 unfold BW at e;split at e
 ·cases e;exact⟨_,_,rfl,rfl,trivial,λF=>aG.mpr rfl⟩
 ·cases e
theorem Nd:wU X (binaryOp .Mult) gT:=by
 rintro ae s σ H x y v u Q I rx ry ⟨H₀,aa,F,ρ,τ,pa,pb,p,e,R,ba,bb,k⟩;unfold gT at e;split at e
 ·obtain⟨hc,rfl⟩:=aB e;rw[aG.mp ba]at rx;rw[aG.mp bb]at ry;exact Rq ae s σ H _ _ v u Q I rx ry ⟨_,_,rfl,rfl,hc,k _ H F R (Same.refl F) (aG.mpr rfl)⟩
 ·cases e
theorem Jf:wU X (binaryOp .FloorDiv) hV:=iz Mu λpa pb p e=>by
 unfold hV at e;split at e
 ·obtain⟨hc,rfl⟩:=aB e;exact⟨_,_,rfl,rfl,hc,λF=>aG.mpr rfl⟩
 ·cases e
theorem Nf:wU X (binaryOp .Mod) fP:=iz Rt λpa pb p e=>by
 unfold fP at e;split at e
 ·obtain⟨hc,rfl⟩:=aB e;exact⟨_,_,rfl,rfl,hc,λF=>aG.mpr rfl⟩
 ·cases e
theorem Ng:wU X (binaryOp .Pow) pU:=iz Ru λpa pb p e=>by
 unfold pU at e;split at e
 ·obtain⟨⟨h1,h2,h3⟩,rfl⟩:=aB e;exact⟨_,_,rfl,rfl,⟨h1,by lia,Nat.lt_trans h3 (by decide)⟩,λF=>aG.mpr rfl⟩
 ·cases e
end
def Sg:Operator->Option (PV->PV->bQ)
 | .Add=>some cI
 | .Sub=>some BW
 | .Mult=>some gT
 | .FloorDiv=>some hV
 | .Mod=>some fP
 | .Pow=>some pU
 | _=>none
theorem Nh{X:Cx}{op:Operator}{g:PV->PV->bQ}(h:Sg op=some g):wU X (binaryOp op) g:=by
 unfold Sg at h;split at h
 ·cases h;exact wV
 ·cases h;exact Nc
 ·cases h;exact Nd
 ·cases h;exact Jf
 ·cases h;exact Nf
 ·cases h;exact Ng
 ·cases h
mutual
def eqT:PV->PV->Bool
 | .cE,.cE=>true
 | .bl a,.bl b=>a==b
 | .bl a,.int b=>(if a then 1 else 0)==b
 | .int a,.bl b=>a==(if b then 1 else 0)
 | .int a,.int b=>a==b
 | .str a,.str b=>a==b
 | .aI xs,.aI ys=>mQ xs ys
 | .aA xs,.aA ys=>mQ xs ys
 | _,_=>false
def mQ:av->av->Bool
 | [],[]=>true
 | x::xs,y::ys=>eqT x y&&mQ xs ys
 | _,_=>false
end
mutual
def nK:PV->Nat
 | .aI xs=>ll xs+1
 | .aA xs=>ll xs+1
 | _=>0
def ll:av->Nat
 | []=>0
 | x::xs=>max (nK x) (ll xs)
end
mutual
theorem mR:∀p:PV,eqT p p=true
 | .cE=>by simp[eqT]
 | .bl _=>by simp[eqT]
 | .int _=>by simp[eqT]
 | .str _=>by simp[eqT]
 | .aI xs=>by simp only[eqT];exact ou xs
 | .aA xs=>by simp only[eqT];exact ou xs
theorem ou:∀ps:av,mQ ps ps=true
 | []=>by simp[mQ]
 | x::xs=>by simp only[mQ,mR x,ou xs,Bool.and_self]
end
theorem mU:∀{xs ys:av},xs.length≠ys.length->mQ xs ys=false
 | [],[],h=>absurd rfl h
 | [],_::_,_=>by simp[mQ]
 | _::_,[],_=>by simp[mQ]
 | x::xs,y::ys,h=>by
  simp only[mQ,mU (xs:=xs) (ys:=ys) (by simpa using h),vZ]
def kB(xs ys:av)(j:Nat):Bool:=match xs[j]?,ys[j]? with
 | some x,some y=>eqT x y
 | _,_=>true
theorem mV:∀{xs ys:av},xs.length=ys.length->(List.range xs.length).all (kB xs ys)=mQ xs ys
 | [],[],_=>by simp[mQ]
 | [],_::_,h=>by cases h
 | _::_,[],h=>by cases h
 | x::xs,y::ys,h=>by
  have ih:=mV (xs:=xs) (ys:=ys) (by simpa using h)
  rw[aW,List.range_succ_eq_map,fR,List.all_map];have e0:kB (x::xs) (y::ys) 0=eqT x y:=rfl;have e1:(kB (x::xs) (y::ys) ∘ Nat.succ)=kB xs ys:=by
   funext j
   simp[kB,Function.comp]
  rw[e0,e1,ih];simp[mQ]
section
variable {X:Cx} {ae:List (ab×Obj)} {σ:St} {H F:Hp} {s:au}
theorem rJ(I:Inv X ae σ H s)(hs:Same F H){a:ab}{vs ws:List V}(h1:nJ X.K F a vs)(h2:gO X.K F a ws):False:=by
 obtain⟨aQ,n,r,e,_⟩:=I.rn (bN hs h1);obtain⟨ip,r2,p2,_⟩:=I.tuple (aU hs h2);obtain⟨o,e2,hc,_⟩:=p2;rw[e]at e2;cases e2;simp at hc
mutual
theorem cx.inj(I:Inv X ae σ H s)(hs:Same F H):∀{p q:PV} {v:V},cx X.K F p v->cx X.K F q v->p=q
 | .cE,q,v,h,h'=>by
  have e:=cX.mp h;subst e;cases q with
  | cE=>rfl
  | bl _=>have:=bU.mp h';cases this
  | int _=>have:=aG.mp h';cases this
  | str _=>have:=cb.mp h';cases this
  | aI _=>obtain⟨_,_,e,_⟩:=bF.mp h';cases e
  | aA _=>obtain⟨_,_,e,_⟩:=aV.mp h';cases e
 | .bl b,q,v,h,h'=>by
  have e:=bU.mp h;subst e;cases q with
  | cE=>have:=cX.mp h';cases this
  | bl _=>have:=bU.mp h';cases this;rfl
  | int _=>have:=aG.mp h';cases this
  | str _=>have:=cb.mp h';cases this
  | aI _=>obtain⟨_,_,e,_⟩:=bF.mp h';cases e
  | aA _=>obtain⟨_,_,e,_⟩:=aV.mp h';cases e
 | .int b,q,v,h,h'=>by
  have e:=aG.mp h;subst e;cases q with
  | cE=>have:=cX.mp h';cases this
  | bl _=>have:=bU.mp h';cases this
  | int _=>have:=aG.mp h';cases this;rfl
  | str _=>have:=cb.mp h';cases this
  | aI _=>obtain⟨_,_,e,_⟩:=bF.mp h';cases e
  | aA _=>obtain⟨_,_,e,_⟩:=aV.mp h';cases e
 | .str b,q,v,h,h'=>by
  have e:=cb.mp h;subst e;cases q with
  | cE=>have:=cX.mp h';cases this
  | bl _=>have:=bU.mp h';cases this
  | int _=>have:=aG.mp h';cases this
  | str _=>have:=cb.mp h';cases this;rfl
  | aI _=>obtain⟨_,_,e,_⟩:=bF.mp h';cases e
  | aA _=>obtain⟨_,_,e,_⟩:=aV.mp h';cases e
 | .aI xs,q,v,h,h'=>by
  obtain⟨a,vs,rfl,h1,h2⟩:=bF.mp h;cases q with
  | cE=>have:=cX.mp h';cases this
  | bl _=>have:=bU.mp h';cases this
  | int _=>have:=aG.mp h';cases this
  | str _=>have:=cb.mp h';cases this
  | aI ys =>
   obtain⟨b,ws,e,g1,g2⟩:=bF.mp h';cases e;have:=I.og (aU hs h1) (aU hs g1);subst this;rw[aP.inj I hs h2 g2]
  | aA _ =>
   obtain⟨b,ws,e,g1,g2⟩:=aV.mp h';cases e;exact(rJ I hs g1 h1).elim
 | .aA xs,q,v,h,h'=>by
  obtain⟨a,vs,rfl,h1,h2⟩:=aV.mp h;cases q with
  | cE=>have:=cX.mp h';cases this
  | bl _=>have:=bU.mp h';cases this
  | int _=>have:=aG.mp h';cases this
  | str _=>have:=cb.mp h';cases this
  | aA ys =>
   obtain⟨b,ws,e,g1,g2⟩:=aV.mp h';cases e;have:=I.qZ (bN hs h1).sq (bN hs g1).sq;subst this;rw[aP.inj I hs h2 g2]
  | aI _ =>
   obtain⟨b,ws,e,g1,g2⟩:=bF.mp h';cases e;exact(rJ I hs h1 g1).elim
theorem aP.inj(I:Inv X ae σ H s)(hs:Same F H):∀{ps qs:av} {vs:List V},aP X.K F ps vs->aP X.K F qs vs->ps=qs
 | [],[],_,_,_=>rfl
 | [],_::_,vs,h,h'=>by
  rw[h.bX]at h';obtain⟨_,_,e,_⟩:=h'.b6;cases e
 | _::_,[],vs,h,h'=>by
  rw[h'.bX]at h;obtain⟨_,_,e,_⟩:=h.b6;cases e
 | p::ps,q::qs,vs,h,h'=>by
  obtain⟨v,r,rfl,h1,h2⟩:=h.b6;obtain⟨v',r',e,g1,g2⟩:=h'.b6;cases e;rw[cx.inj I hs h1 g1,aP.inj I hs h2 g2]
end
end
section
variable {A:bA} {s:au}
theorem bc{u w:ag}{b c:Bool}(h:b=c)(r:SeqAt.RcAt A s u w b):SeqAt.RcAt A s u w c:=h▸r
theorem aJ{u w:ag}{b c:Bool}(h:b = !c)(r:SeqAt.RcNeAt A s u w b):SeqAt.RcNeAt A s u w (!c):=h▸r
theorem DR{u w:ag}{b:Bool}(hf:∀x t,u≠.float x t)(h:SeqAt.RcAt A s u w b)(hb:u=w->b=true):SeqAt.EqAt A s u w b:=λprog v E Q hq=>by
 unfold eqBool;refine gm ?_;refine Bo (λz=>?_) (λ_=>?_)
 ·rw[hb (bD z)]at hq;exact ai (qK (ax hq))
 ·cases u with
  | float x t=>exact absurd rfl (hf x t)
  | _=>exact ai (h prog v E _ (jr hq))
theorem u6{K:ah}{F:Hp}{p:PV}{x:V}{u:ag}(b:cx K F p x)(r:RelV x u):∀y t,u≠.float y t:=λy t z=>by
 subst z;cases p with
 | cE=>rw[cX.mp b]at r;cases r
 | bl _=>rw[bU.mp b]at r;cases r
 | int _=>rw[aG.mp b]at r;obtain⟨_,r⟩:=r;cases r
 | str _=>rw[cb.mp b]at r;obtain⟨_,r⟩:=r;cases r
 | aI _=>obtain⟨_,_,rfl,_⟩:=bF.mp b;cases r
 | aA _=>obtain⟨_,_,rfl,_⟩:=aV.mp b;cases r
end
theorem DS{xs ys:av}{m n:Nat}(h1:xs.length=m)(h2:ys.length=n):((List.range (min m n)).all (kB xs ys)&&(m==n))=mQ xs ys:=by
 subst h1 h2;by_cases h:xs.length=ys.length
 ·rw[<-h,Nat.min_self,mV h];simp
 ·rw[mU h];simp[h]
section
variable {X:Cx} {ae:List (ab×Obj)} {σ:St} {H F:Hp} {s:au}
inductive KV (K:ah) (F:Hp) (s:au):PV->ag->Prop
 | cE:KV K F s .cE .none
 | bl {b:Bool}:KV K F s (.bl b) (.bool b)
 | int {i:Int} {t:Tok}:KV K F s (.int i) (.int i t)
 | str {x:Str} {t:Tok}:KV K F s (.str x) (.str x t)
 | aI {ps:av} {a:ab} (vs:List V) (aQ:bW) (h:aP K F ps vs) (r:Vals vs aQ) (p:s.heap.IsTuple a aQ.toArray):KV K F s (.aI ps) (.ref a)
 | aA {ps:av} {a:ab} (vs:List V) (aQ:bW) (h:aP K F ps vs) (r:Vals vs aQ) (p:s.heap.IsList a aQ.toArray):KV K F s (.aA ps) (.ref a)
theorem pq(I:Inv X ae σ H s)(hs:Same F H){p:PV}{x:V}{u:ag}(b:cx X.K F p x)(r:RelV x u):KV X.K F s p u:=by
 cases p with
 | cE=>rw[cX.mp b]at r;cases r;exact .cE
 | bl _=>rw[bU.mp b]at r;cases r;exact .bl
 | int _=>rw[aG.mp b]at r;obtain⟨t,rfl⟩:=r;exact .int
 | str _=>rw[cb.mp b]at r;obtain⟨t,rfl⟩:=r;exact .str
 | aI _ =>
  obtain⟨a,vs,rfl,h,l⟩:=bF.mp b;cases r;obtain⟨aQ,rr,p,_⟩:=I.tuple (aU hs h);exact .aI vs aQ l rr p
 | aA _ =>
  obtain⟨a,vs,rfl,h,l⟩:=aV.mp b;cases r;obtain⟨aQ,rr,p,_⟩:=I.list (bN hs h).sq;exact .aA vs aQ l rr p.isList
mutual
theorem BX(I:Inv X ae σ H s)(hs:Same F H):∀(p q:PV) (A:bA) (u w:ag),KV X.K F s p u->KV X.K F s q w->A.units+nK p<cLine->SeqAt.RcAt A s u w (eqT p q)
 | .cE,q,A,u,w,ha,hb,hu=>by
  have gB:A.units<cLine:=by lia
  cases ha;cases hb with
  | cE=>exact bc (by simp[eqT]) (SeqAt.RcAt.none_none)
  | bl=>exact bc (by simp[eqT]) (SeqAt.RcAt.none_bool _)
  | int=>exact bc (by simp[eqT]) (SeqAt.RcAt.none_int _ _)
  | str=>exact bc (by simp[eqT]) (SeqAt.RcAt.none_str _ _)
  | aI ox lq lR rR pR=>exact bc (by simp[eqT]) (SeqAt.RcAt.none_tuple pR gB)
  | aA ox lq lR rR pR=>exact bc (by simp[eqT]) (SeqAt.RcAt.none_list pR gB)
 | .bl k,q,A,u,w,ha,hb,hu=>by
  have gB:A.units<cLine:=by lia
  cases ha;cases hb with
  | cE=>exact bc (by simp[eqT]) (SeqAt.RcAt.bool_none _)
  | bl=>exact bc (by simp[eqT]) (SeqAt.RcAt.bool_bool _ _)
  | int=>exact bc (by simp[eqT]) (SeqAt.RcAt.bool_int _ _ _)
  | str=>exact bc (by simp[eqT]) (SeqAt.RcAt.bool_str _ _ _)
  | aI ox lq lR rR pR=>exact bc (by simp[eqT]) (SeqAt.RcAt.bool_tuple _ pR gB)
  | aA ox lq lR rR pR=>exact bc (by simp[eqT]) (SeqAt.RcAt.bool_list _ pR gB)
 | .int k,q,A,u,w,ha,hb,hu=>by
  have gB:A.units<cLine:=by lia
  cases ha;cases hb with
  | cE=>exact bc (by simp[eqT]) (SeqAt.RcAt.int_none _ _)
  | bl=>exact bc (by simp[eqT]) (SeqAt.RcAt.int_bool _ _ _)
  | int=>exact bc (by simp[eqT]) (SeqAt.RcAt.int_int _ _ _ _)
  | str=>exact bc (by simp[eqT]) (SeqAt.RcAt.int_str _ _ _ _)
  | aI ox lq lR rR pR=>exact bc (by simp[eqT]) (SeqAt.RcAt.int_tuple _ _ pR gB)
  | aA ox lq lR rR pR=>exact bc (by simp[eqT]) (SeqAt.RcAt.int_list _ _ pR gB)
 | .str k,q,A,u,w,ha,hb,hu=>by
  have gB:A.units<cLine:=by lia
  cases ha;cases hb with
  | cE=>exact bc (by simp[eqT]) (SeqAt.RcAt.str_none _ _)
  | bl=>exact bc (by simp[eqT]) (SeqAt.RcAt.str_bool _ _ _)
  | int=>exact bc (by simp[eqT]) (SeqAt.RcAt.str_int _ _ _ _)
  | str=>exact bc (by simp[eqT]) (SeqAt.RcAt.str_str _ _ _ _)
  | aI ox lq lR rR pR=>exact bc (by simp[eqT]) (SeqAt.RcAt.str_tuple _ _ pR gB)
  | aA ox lq lR rR pR=>exact bc (by simp[eqT]) (SeqAt.RcAt.str_list _ _ pR gB)
 | .aI xs,q,A,u,w,ha,hb,hu=>by
  have gB:A.units<cLine:=by lia
  cases ha with
  | aI Si BY lL rL pL =>
  cases hb with
  | cE=>exact bc (by simp[eqT]) (SeqAt.RcAt.tuple_none pL gB)
  | bl=>exact bc (by simp[eqT]) (SeqAt.RcAt.tuple_bool _ pL gB)
  | int=>exact bc (by simp[eqT]) (SeqAt.RcAt.tuple_int _ _ pL gB)
  | str=>exact bc (by simp[eqT]) (SeqAt.RcAt.tuple_str _ _ pL gB)
  | @aI ys _ ox lq lR rR pR =>
   have e1:xs.length=BY.toArray.size:=by rw[bz,<-rL.length,<-lL.length]
   have e2:ys.length=lq.toArray.size:=by rw[bz,<-rR.length,<-lR.length]
   refine bc ?_ (SeqAt.RcAt.tuples (e:=kB xs ys) pL pR gB λj h1 h2=>?_)
   ·rw[DS e1 e2];simp[eqT]
   ·exact mW I hs xs ys A.in1 Si ox BY lq lL lR rL rR (by rw[j7];simp only[nK]at hu;lia) j (by simpa using h1) (by simpa using h2)
  | aA ox lq lR rR pR=>exact bc (by simp[eqT]) (SeqAt.RcAt.tuple_list pL pR gB)
 | .aA xs,q,A,u,w,ha,hb,hu=>by
  have gB:A.units<cLine:=by lia
  cases ha with
  | aA Si BY lL rL pL =>
  cases hb with
  | cE=>exact bc (by simp[eqT]) (SeqAt.RcAt.list_none pL gB)
  | bl=>exact bc (by simp[eqT]) (SeqAt.RcAt.list_bool _ pL gB)
  | int=>exact bc (by simp[eqT]) (SeqAt.RcAt.list_int _ _ pL gB)
  | str=>exact bc (by simp[eqT]) (SeqAt.RcAt.list_str _ _ pL gB)
  | aI ox lq lR rR pR=>exact bc (by simp[eqT]) (SeqAt.RcAt.list_tuple pL pR gB)
  | @aA ys _ ox lq lR rR pR =>
   by_cases hl:xs.length=ys.length
   ·have sz:BY.toArray.size=lq.toArray.size:=by rw[bz,bz,<-rL.length,<-rR.length,<-lL.length,<-lR.length];exact hl
    have e0:BY.toArray.size=xs.length:=by rw[bz,<-rL.length,<-lL.length]
    refine bc ?_ (SeqAt.RcAt.lists (e:=kB xs ys) pL pR sz gB λj h1 h2=>?_)
    ·rw[e0,mV hl];simp[eqT]
    ·exact mW I hs xs ys A.in1 Si ox BY lq lL lR rL rR (by rw[j7];simp only[nK]at hu;lia) j (by simpa using h1) (by simpa using h2)
   ·have sz:(BY.toArray.size != lq.toArray.size)=true:=by rw[bz,bz,<-rL.length,<-rR.length,<-lL.length,<-lR.length];simpa using hl
    exact bc (by simp[eqT,mU hl]) (SeqAt.RcAt.lists_lengths pL pR sz gB)
theorem mW(I:Inv X ae σ H s)(hs:Same F H):∀(ps qs:av) (A:bA) (vs ws:List V) (us zs:bW),aP X.K F ps vs->aP X.K F qs ws->Vals vs us->Vals ws zs->A.units+ll ps<cLine ->
  ∀(j:Nat) (h1:j<us.length) (h2:j<zs.length),SeqAt.EqAt A s us[j] zs[j] (kB ps qs j)
 | [],qs,A,vs,ws,us,zs,b1,b2,r1,r2,hu=>λj h1 h2=>by
  rw[b1.bX]at r1;cases r1;cases h1
 | p::ps,qs,A,vs,ws,us,zs,b1,b2,r1,r2,hu=>λj h1 h2=>by
  obtain⟨v,vr,rfl,c1,d1⟩:=b1.b6;cases qs with
  | nil =>
   rw[b2.bX]at r2;cases r2;cases h2
  | cons q qs =>
   obtain⟨w,wr,rfl,c2,d2⟩:=b2.b6;cases r1 with
   | cons ra rr =>
    cases r2 with
    | cons sa sr =>
     have hm:A.units+nK p<cLine/\A.units+ll ps<cLine:=by
      simp only[ll]at hu
      lia
     cases j with
     | zero =>
      refine DR (u6 c1 ra) (BX I hs p q A _ _ (pq I hs c1 ra) (pq I hs c2 sa) hm.1) λz=>?_
      simp only[List.getElem_cons_zero]at z;rw[<-z]at sa;have e:=ra.inj sa;subst e;rw[cx.inj I hs c1 c2];exact mR q
     | succ j =>
      exact mW I hs ps qs A _ _ _ _ d1 d2 rr sr hm.2 j (by simpa using h1) (by simpa using h2)
end
theorem Sj(I:Inv X ae σ H s)(hs:Same F H){p q:PV}{A:bA}{x y:V}{u w:ag}(b1:cx X.K F p x)(b2:cx X.K F q y)(r1:RelV x u)(r2:RelV y w)(hu:A.units+nK p<cLine):SeqAt.EqAt A s u w (eqT p q):=by
 refine DR (u6 b1 r1) (BX I hs p q A _ _ (pq I hs b1 r1) (pq I hs b2 r2) hu) λz=>?_
 rw[<-z]at r2;have e:=r1.inj r2;subst e;rw[cx.inj I hs b1 b2];exact mR q
theorem Sk(I:Inv X ae σ H s)(hs:Same F H):∀(p q:PV) (A:bA) (u w:ag),KV X.K F s p u->KV X.K F s q w->A.units+nK p<cLine->SeqAt.RcNeAt A s u w (!(eqT p q))
 | .cE,q,A,u,w,ha,hb,hu=>by
  have gB:A.units<cLine:=by lia
  cases ha;cases hb with
  | cE=>exact aJ (by simp[eqT]) (SeqAt.RcNeAt.none_none)
  | bl=>exact aJ (by simp[eqT]) (SeqAt.RcNeAt.none_bool _)
  | int=>exact aJ (by simp[eqT]) (SeqAt.RcNeAt.none_int _ _)
  | str=>exact aJ (by simp[eqT]) (SeqAt.RcNeAt.none_str _ _)
  | aI ox lq lR rR pR=>exact aJ (by simp[eqT]) (SeqAt.RcNeAt.none_tuple pR gB)
  | aA ox lq lR rR pR=>exact aJ (by simp[eqT]) (SeqAt.RcNeAt.none_list pR gB)
 | .bl k,q,A,u,w,ha,hb,hu=>by
  have gB:A.units<cLine:=by lia
  cases ha;cases hb with
  | cE=>exact aJ (by simp[eqT]) (SeqAt.RcNeAt.bool_none _)
  | bl=>exact aJ (by simp[eqT]) (SeqAt.RcNeAt.bool_bool _ _)
  | int=>exact aJ (by simp[eqT]) (SeqAt.RcNeAt.bool_int _ _ _)
  | str=>exact aJ (by simp[eqT]) (SeqAt.RcNeAt.bool_str _ _ _)
  | aI ox lq lR rR pR=>exact aJ (by simp[eqT]) (SeqAt.RcNeAt.bool_tuple _ pR gB)
  | aA ox lq lR rR pR=>exact aJ (by simp[eqT]) (SeqAt.RcNeAt.bool_list _ pR gB)
 | .int k,q,A,u,w,ha,hb,hu=>by
  have gB:A.units<cLine:=by lia
  cases ha;cases hb with
  | cE=>exact aJ (by simp[eqT]) (SeqAt.RcNeAt.int_none _ _)
  | bl=>exact aJ (by simp[eqT]) (SeqAt.RcNeAt.int_bool _ _ _)
  | int=>exact aJ (by simp[eqT]) (SeqAt.RcNeAt.int_int _ _ _ _)
  | str=>exact aJ (by simp[eqT]) (SeqAt.RcNeAt.int_str _ _ _ _)
  | aI ox lq lR rR pR=>exact aJ (by simp[eqT]) (SeqAt.RcNeAt.int_tuple _ _ pR gB)
  | aA ox lq lR rR pR=>exact aJ (by simp[eqT]) (SeqAt.RcNeAt.int_list _ _ pR gB)
 | .str k,q,A,u,w,ha,hb,hu=>by
  have gB:A.units<cLine:=by lia
  cases ha;cases hb with
  | cE=>exact aJ (by simp[eqT]) (SeqAt.RcNeAt.str_none _ _)
  | bl=>exact aJ (by simp[eqT]) (SeqAt.RcNeAt.str_bool _ _ _)
  | int=>exact aJ (by simp[eqT]) (SeqAt.RcNeAt.str_int _ _ _ _)
  | str=>exact aJ (by simp[eqT]) (SeqAt.RcNeAt.str_str _ _ _ _)
  | aI ox lq lR rR pR=>exact aJ (by simp[eqT]) (SeqAt.RcNeAt.str_tuple _ _ pR gB)
  | aA ox lq lR rR pR=>exact aJ (by simp[eqT]) (SeqAt.RcNeAt.str_list _ _ pR gB)
 | .aI xs,q,A,u,w,ha,hb,hu=>by
  have gB:A.units<cLine:=by lia
  cases ha with
  | aI Si BY lL rL pL =>
  cases hb with
  | cE=>exact aJ (by simp[eqT]) (SeqAt.RcNeAt.tuple_none pL gB)
  | bl=>exact aJ (by simp[eqT]) (SeqAt.RcNeAt.tuple_bool _ pL gB)
  | int=>exact aJ (by simp[eqT]) (SeqAt.RcNeAt.tuple_int _ _ pL gB)
  | str=>exact aJ (by simp[eqT]) (SeqAt.RcNeAt.tuple_str _ _ pL gB)
  | @aI ys _ ox lq lR rR pR =>
   have e1:xs.length=BY.toArray.size:=by rw[bz,<-rL.length,<-lL.length]
   have e2:ys.length=lq.toArray.size:=by rw[bz,<-rR.length,<-lR.length]
   refine aJ ?_ (SeqAt.RcNeAt.tuples (e:=kB xs ys) pL pR gB λj h1 h2=>?_)
   ·rw[DS e1 e2];simp[eqT]
   ·exact mW I hs xs ys A.in1 Si ox BY lq lL lR rL rR (by rw[j7];simp only[nK]at hu;lia) j (by simpa using h1) (by simpa using h2)
  | aA ox lq lR rR pR=>exact aJ (by simp[eqT]) (SeqAt.RcNeAt.tuple_list pL pR gB)
 | .aA xs,q,A,u,w,ha,hb,hu=>by
  have gB:A.units<cLine:=by lia
  cases ha with
  | aA Si BY lL rL pL =>
  cases hb with
  | cE=>exact aJ (by simp[eqT]) (SeqAt.RcNeAt.list_none pL gB)
  | bl=>exact aJ (by simp[eqT]) (SeqAt.RcNeAt.list_bool _ pL gB)
  | int=>exact aJ (by simp[eqT]) (SeqAt.RcNeAt.list_int _ _ pL gB)
  | str=>exact aJ (by simp[eqT]) (SeqAt.RcNeAt.list_str _ _ pL gB)
  | aI ox lq lR rR pR=>exact aJ (by simp[eqT]) (SeqAt.RcNeAt.list_tuple pL pR gB)
  | @aA ys _ ox lq lR rR pR =>
   by_cases hl:xs.length=ys.length
   ·have sz:BY.toArray.size=lq.toArray.size:=by rw[bz,bz,<-rL.length,<-rR.length,<-lL.length,<-lR.length];exact hl
    have e0:BY.toArray.size=xs.length:=by rw[bz,<-rL.length,<-lL.length]
    refine aJ ?_ (SeqAt.RcNeAt.lists (e:=kB xs ys) pL pR sz gB λj h1 h2=>?_)
    ·rw[e0,mV hl];simp[eqT]
    ·exact mW I hs xs ys A.in1 Si ox BY lq lL lR rL rR (by rw[j7];simp only[nK]at hu;lia) j (by simpa using h1) (by simpa using h2)
   ·have sz:(BY.toArray.size != lq.toArray.size)=true:=by rw[bz,bz,<-rL.length,<-rR.length,<-lL.length,<-lR.length];simpa using hl
    exact aJ (by simp[eqT,mU hl]) (SeqAt.RcNeAt.lists_lengths pL pR sz gB)
end
noncomputable def i8:Nat:=1000
def mq(p q:PV):bQ:=if nK p<=i8 then some (.bl (eqT p q))else none
def BZ(p q:PV):bQ:=if nK p<=i8 then some (.bl (!eqT p q))else none
section
variable {X:Cx}
theorem Sl(hu:X.A.units+1150<cLine):wU X (compareOp .Eq) mq:=by
 rintro ae s σ H x y v u Q I rx ry ⟨H₀,aa,F,ρ,τ,pa,pb,p,e,R,ba,bb,k⟩;obtain⟨hd,rfl⟩:=aB e;have t7:nK pa<=1000:=hd;exact BX I R.sub pa pb X.A v u (pq I R.sub ba rx) (pq I R.sub bb ry) (by lia) X.prog X.w X.xe _ ⟨.bl _,H,I,rfl,k _ H F R (Same.refl F) (bU.mpr rfl)⟩
theorem Sm(hu:X.A.units+1150<cLine):wU X (compareOp .NotEq) BZ:=by
 rintro ae s σ H x y v u Q I rx ry ⟨H₀,aa,F,ρ,τ,pa,pb,p,e,R,ba,bb,k⟩;obtain⟨hd,rfl⟩:=aB e;have t7:nK pa<=1000:=hd;exact Sk I R.sub pa pb X.A v u (pq I R.sub ba rx) (pq I R.sub bb ry) (by lia) X.prog X.w X.xe _ ⟨.bl _,H,I,rfl,k _ H F R (Same.refl F) (bU.mpr rfl)⟩
def FD:PV->PV->bQ
 | .int i,.int j=>some (.bl (decide (i<j)))
 | _,_=>none
def L6:PV->PV->bQ
 | .int i,.int j=>some (.bl (decide (i<=j)))
 | _,_=>none
def Zg:PV->PV->bQ
 | .int i,.int j=>some (.bl (decide (j<i)))
 | _,_=>none
def Wt:PV->PV->bQ
 | .int i,.int j=>some (.bl (decide (j<=i)))
 | _,_=>none
theorem Sn:wU X (compareOp .Lt) FD:=iz (zk Pn) λpa pb p e=>by
 unfold FD at e;split at e
 ·cases e;exact⟨_,_,rfl,rfl,trivial,λF=>bU.mpr rfl⟩
 ·cases e
theorem So:wU X (compareOp .LtE) L6:=iz (zk Vx) λpa pb p e=>by
 unfold L6 at e;split at e
 ·cases e;exact⟨_,_,rfl,rfl,trivial,λF=>bU.mpr rfl⟩
 ·cases e
theorem Sq:wU X (compareOp .Gt) Zg:=iz (zk Vy) λpa pb p e=>by
 unfold Zg at e;split at e
 ·cases e;exact⟨_,_,rfl,rfl,trivial,λF=>bU.mpr rfl⟩
 ·cases e
theorem Sr:wU X (compareOp .GtE) Wt:=iz (zk Vz) λpa pb p e=>by
 unfold Wt at e;split at e
 ·cases e;exact⟨_,_,rfl,rfl,trivial,λF=>bU.mpr rfl⟩
 ·cases e
def Jg:PV->Bool
 | .cE=>true
 | _=>false
def Zh:PV->PV->bQ
 | p,.cE=>some (.bl (Jg p))
 | _,_=>none
def Ss:PV->PV->bQ
 | p,.cE=>some (.bl (!Jg p))
 | _,_=>none
theorem DT{K:ah}{F:Hp}{p:PV}{x:V}(b:cx K F p x):decide (x=.cE)=Jg p:=by
 cases p with
 | cE=>rw[cX.mp b];rfl
 | bl _=>rw[bU.mp b];rfl
 | int _=>rw[aG.mp b];rfl
 | str _=>rw[cb.mp b];rfl
 | aI _=>obtain⟨_,_,rfl,_⟩:=bF.mp b;rfl
 | aA _=>obtain⟨_,_,rfl,_⟩:=aV.mp b;rfl
theorem Su:wU X (compareOp .Is) Zh:=by
 rintro ae s σ H x y v u Q I rx ry ⟨H₀,aa,F,ρ,τ,pa,pb,p,e,R,ba,bb,k⟩;unfold Zh at e;split at e
 ·cases e;refine Rv ae s σ H x y v u Q I rx ry ⟨cX.mp bb,k _ H F R (Same.refl F) (bU.mpr ?_)⟩;rw[DT ba]
 ·cases e
theorem Ni:wU X (compareOp .IsNot) Ss:=by
 rintro ae s σ H x y v u Q I rx ry ⟨H₀,aa,F,ρ,τ,pa,pb,p,e,R,ba,bb,k⟩;unfold Ss at e;split at e
 ·rename_i pa';cases e;refine Mw ae s σ H x y v u Q I rx ry ⟨cX.mp bb,k _ H F R (Same.refl F) (bU.mpr ?_)⟩;rw[DT ba]
 ·cases e
def Sv(p:PV)(ps:av):Bool:=ps.any λq=>eqT q p
def FF(neg:Bool):PV->PV->bQ
 | p,.aA ps=>if ll ps<=i8 then some (.bl (if neg then !Sv p ps else Sv p ps))else none
 | p,.aI ps=>if ll ps<=i8 then some (.bl (if neg then !Sv p ps else Sv p ps))else none
 | _,_=>none
open Classical in
noncomputable def lr (K:ah) (F:Hp) (p:PV) (u:ag):Bool:=if h:∃q x,cx K F q x/\RelV x u then eqT h.choose p else false
theorem DU{ae:List (ab×Obj)}{σ:St}{H F:Hp}{s:au}(I:Inv X ae σ H s)(hs:Same F H){p q:PV}{x:V}{u:ag}(b:cx X.K F q x)(r:RelV x u):lr X.K F p u=eqT q p:=by
 have h:∃q x,cx X.K F q x/\RelV x u:=⟨q,x,b,r⟩
 unfold lr;rw[dif_pos h];obtain⟨y,b',r'⟩:=h.choose_spec;have e:=r.inj r';subst e;rw[cx.inj I hs b' b]
theorem mY{ae:List (ab×Obj)}{σ:St}{H F:Hp}{s:au}(I:Inv X ae σ H s)(hs:Same F H){p:PV}:∀{ps:av} {vs:List V} {us:bW},aP X.K F ps vs->Vals vs us->us.any (lr X.K F p)=Sv p ps
 | [],_,_,b,r=>by
  rw[b.bX]at r;cases r;rfl
 | q::ps,_,_,b,r=>by
  obtain⟨v,vr,rfl,c1,d1⟩:=b.b6;cases r with
  | cons ra rr =>
   rw[v7,DU I hs c1 ra,mY I hs d1 rr];rfl
theorem mZ{ae:List (ab×Obj)}{σ:St}{H F:Hp}{s:au}{A:bA}(I:Inv X ae σ H s)(hs:Same F H){p:PV}{y:V}{w:ag}(bp:cx X.K F p y)(rp:RelV y w) :
  ∀{ps:av} {vs:List V} {us:bW},aP X.K F ps vs->Vals vs us->A.units+ll ps<cLine->∀u∈us,SeqAt.EqAt A s u w (lr X.K F p u)
 | [],_,_,b,r,_=>λu hu=>by
  rw[b.bX]at r;cases r;cases hu
 | q::ps,_,_,b,r,hz=>λu hu=>by
  obtain⟨v,vr,rfl,c1,d1⟩:=b.b6;simp only[ll]at hz;cases r with
  | cons ra rr =>
   rcases aZ.mp hu with rfl | hu
   ·rw[DU I hs c1 ra];exact Sj I hs c1 bp ra rp (by lia)
   ·exact mZ I hs bp rp d1 rr (by lia) u hu
theorem Sw(hu:X.A.units+1150<cLine):wU X (compareOp .In) (FF false):=by
 rintro ae s σ H x y v u Q I rx ry ⟨H₀,aa,F,ρ,τ,pa,pb,p,e,R,ba,bb,k⟩;unfold FF at e;split at e
 ·obtain⟨hd,rfl⟩:=aB e;have t7:ll _<=1000:=hd;obtain⟨a,vs,rfl,ha,f7⟩:=aV.mp bb;cases ry;obtain⟨aQ,r,pl,_⟩:=I.list ((bN R.sub ha).sq);refine SeqAt.in_listAt (lr X.K F pa) pl.isList (λw hw=>mZ I R.sub ba rx f7 r (by rw[j7];lia) w (by simpa using hw)) ⟨.bl _,H,I,rfl,k _ H F R (Same.refl F) (bU.mpr ?_)⟩
  rw[show aQ.toArray.any (lr X.K F pa)=aQ.any (lr X.K F pa) by simp,mY I R.sub f7 r]
  rfl
 ·obtain⟨hd,rfl⟩:=aB e;have t7:ll _<=1000:=hd;obtain⟨a,vs,rfl,ha,f7⟩:=bF.mp bb;cases ry;obtain⟨aQ,r,pl,_⟩:=I.tuple (aU R.sub ha);refine SeqAt.in_tupleAt (lr X.K F pa) pl (λw hw=>mZ I R.sub ba rx f7 r (by rw[j7];lia) w (by simpa using hw)) ⟨.bl _,H,I,rfl,k _ H F R (Same.refl F) (bU.mpr ?_)⟩
  rw[show aQ.toArray.any (lr X.K F pa)=aQ.any (lr X.K F pa) by simp,mY I R.sub f7 r]
  rfl
 ·cases e
theorem FG(hu:X.A.units+1150<cLine):wU X (compareOp .NotIn) (FF true):=by
 rintro ae s σ H x y v u Q I rx ry ⟨H₀,aa,F,ρ,τ,pa,pb,p,e,R,ba,bb,k⟩;unfold FF at e;split at e
 ·obtain⟨hd,rfl⟩:=aB e;have t7:ll _<=1000:=hd;obtain⟨a,vs,rfl,ha,f7⟩:=aV.mp bb;cases ry;obtain⟨aQ,r,pl,_⟩:=I.list ((bN R.sub ha).sq);refine SeqAt.notIn_listAt (lr X.K F pa) pl.isList (λw hw=>mZ I R.sub ba rx f7 r (by rw[j7];lia) w (by simpa using hw)) ⟨.bl _,H,I,rfl,k _ H F R (Same.refl F) (bU.mpr ?_)⟩
  rw[show aQ.toArray.any (lr X.K F pa)=aQ.any (lr X.K F pa) by simp,mY I R.sub f7 r]
  rfl
 ·obtain⟨hd,rfl⟩:=aB e;have t7:ll _<=1000:=hd;obtain⟨a,vs,rfl,ha,f7⟩:=bF.mp bb;cases ry;obtain⟨aQ,r,pl,_⟩:=I.tuple (aU R.sub ha);refine SeqAt.notIn_tupleAt (lr X.K F pa) pl (λw hw=>mZ I R.sub ba rx f7 r (by rw[j7];lia) w (by simpa using hw)) ⟨.bl _,H,I,rfl,k _ H F R (Same.refl F) (bU.mpr ?_)⟩
  rw[show aQ.toArray.any (lr X.K F pa)=aQ.any (lr X.K F pa) by simp,mY I R.sub f7 r]
  rfl
 ·cases e
end
def B6:CmpOp->Option (PV->PV->bQ)
 | .Eq=>some mq
 | .NotEq=>some BZ
 | .Lt=>some FD
 | .LtE=>some L6
 | .Gt=>some Zg
 | .GtE=>some Wt
 | .Is=>some Zh
 | .IsNot=>some Ss
 | .In=>some (FF false)
 | .NotIn=>some (FF true)
theorem kW{X:Cx}(hu:X.A.units+1150<cLine){op:CmpOp}{g:PV->PV->bQ}(h:B6 op=some g):wU X (compareOp op) g:=by
 cases op<;>cases h
 ·exact Sl hu
 ·exact Sm hu
 ·exact Sn
 ·exact So
 ·exact Sq
 ·exact Sr
 ·exact Su
 ·exact Ni
 ·exact Sw hu
 ·exact FG hu
section
variable {K:ah} {F:Hp}
theorem aP.atI{ps:av}{vs:List V}{i:Int}{p:PV}(h:aP K F ps vs)(e:L2.atI ps i=some p):∃v,L2.atI vs i=some v/\cx K F p v:=by
 unfold L2.atI at e ⊢;rw[<-h.length];cases z:Iz ps.length i with
 | none=>rw[z]at e;cases e
 | some j =>
  rw[z]at e;exact h.get e
end
def bL:PV->PV->bQ
 | .aI xs,.int i=>atI xs i
 | .aA xs,.int i=>atI xs i
 | .str z,.int i=>if z.length<=f6 then(atI z.cps.toList i).map λc=>.str ⟨#[c]⟩else none
 | _,_=>none
section
variable {X:Cx} {H₀ aa:Hp} {a b e:aj} {fa fb:FE} {pos p2:Pos} {lo hi:Option aj}
theorem ixT:MK X (rT X.K bL):=by
 rintro value slice ae s σ H x y v u Q I rx ry ⟨H₀,aa,F,ρ,τ,pa,pb,p,e,R,ba,bb,k⟩ hs;unfold bL at e;split at e
 ·obtain⟨a,vs,rfl,ha,f7⟩:=bF.mp ba;rw[aG.mp bb]at ry;obtain⟨w,hw,bw⟩:=f7.atI e;exact RK value slice ae s σ H _ _ v u Q I rx ry ⟨a,vs,_,w,rfl,rfl,aU R.sub ha,hw,k _ H F R (Same.refl F) bw⟩ hs
 ·obtain⟨a,vs,rfl,ha,f7⟩:=aV.mp ba;rw[aG.mp bb]at ry;obtain⟨w,hw,bw⟩:=f7.atI e;exact wG value slice ae s σ H _ _ v u Q I rx ry ⟨a,vs,_,w,rfl,rfl,(bN R.sub ha).sq,hw,k _ H F R (Same.refl F) bw⟩ hs
 ·rename_i z i;obtain⟨hz,e⟩:=aw e;rw[cb.mp ba]at rx;rw[aG.mp bb]at ry;cases w:atI z.cps.toList i with
  | none=>rw[w]at e;cases e
  | some c =>
   rw[w]at e;cases e;exact RL value slice ae s σ H _ _ v u Q I rx ry ⟨z,i,c,rfl,rfl,ee hz,w,k _ H F R (Same.refl F) (cb.mpr rfl)⟩ hs
 ·cases e
theorem Wu(ha:PE X a (tE X.K H₀ aa fa))(hb:PE X b (tE X.K H₀ aa fb))(hs:gS b):PE X (.Subscript a b pos) (tE X.K H₀ aa (ak fa fb bL)):=(o7 ixT ha hb hs).imp λ_ _ _ h=>qf mP h
def jW(xs:av)(lo hi:Option Int):av:=(xs.drop (HT.eB xs.length 0 lo)).take (HT.eB xs.length xs.length hi-HT.eB xs.length 0 lo)
theorem aP.cut{K:ah}{F:Hp}{ps:av}{vs:List V}(h:aP K F ps vs)(lo hi:Option Int):aP K F (jW ps lo hi) (ua vs lo hi):=by
 unfold jW ua;rw[h.length];exact(h.drop _).take _
theorem m4{prog:bh}{w:aM}{A:bA}{E:cm}{s:au}{t sl:ab}{aQ:Array ag}{vl vu:ag}{lo hi:Option Int}{Q:cm}(ht:IsTup s.heap t aQ)(hs:s.heap.IsSliceOf sl vl vu .none)(pl:IsPart vl lo)(pu:IsPart vu hi)
  (h0:HT.eB aQ.size 0 lo=0) (h1:HT.eB aQ.size aQ.size hi=aQ.size) (h:Q (.ref t) s):wpAny (model prog w) A (getItem (.ref t) (.ref sl)) Q E s:=by
 obtain⟨os,RH,hcs,VI⟩:=id hs;have hT:s.TypeIs (.ref sl) "slice":=⟨os,RH,hcs⟩;unfold getItem
 try with_reducible refine gm ?_
 first | refine ai (ax ?_) | skip
 refine ai (wpAny_sequenceKey ht.typeIs (by decide) ?_)
 refine ai (j3 (name:=Str.ofString "__getitem__") ht.typeIs nM (iM nM ht.typeIs entry_tuple_getitem ?_ (args_tuple_getitem _ _)));show wpAny _ _ (Builtin.Tuple.tupleItemsOf (.ref t) >>= _) _ _ s;refine ai (tupleItemsOf_ ht (ai (qJ hT ?_)));rw[if_pos (by decide)]
 refine ai (HT.i7 hs pl pu ?_);have hc:(((HT.eB aQ.size 0 lo:Nat):Int)==0&&(1:Int)==1&&(HT.eB aQ.size aQ.size hi-HT.eB aQ.size 0 lo)==aQ.size)=true:=by
  rw[h0,h1];simp
 show wpAny _ _ (if(((HT.eB aQ.size 0 lo:Nat):Int)==0&&(1:Int)==1&&(HT.eB aQ.size aQ.size hi-HT.eB aQ.size 0 lo)==aQ.size)=true then _ else _) _ _ s
 rw[if_pos hc];unfold Builtin.Tuple.tupleIsExact;refine ai (ai (qJ ht.typeIs (ax ?_)));rw[if_pos (by decide)]
 exact ai (qK (ax ⟨_,rfl,ax h⟩))
def PQ(lo hi:Option Int):PV->bQ
 | .aA ps=>some (.aA (jW ps lo hi))
 | .aI ps=>some (.aI (jW ps lo hi))
 | _=>none
def rSl(K:ah):V->Option Int->Option Int->Hp->VK->Prop:=λx lo hi H Q=>∃H₀ aa F ρ τ pa p,PQ lo hi pa=some p/\cw K H₀ aa F ρ τ H/\cx K F pa x/\∀v H' F',cw K H₀ aa F' ρ τ H'->Same F F'->cx K F' p v->Q v H'
theorem slT:Y4 X (rSl X.K):=by
 rintro ae s σ H x v vl vu lo hi sl Q I rx hs pl pu ⟨H₀,aa,F,ρ,τ,pa,p,e,R,ba,k⟩;unfold PQ at e;split at e
 ·cases e;obtain⟨a,vs,rfl,ha,f7⟩:=aV.mp ba;refine DF ae s σ H _ v vl vu lo hi sl Q I rx hs pl pu ⟨a,vs,rfl,(bN R.sub ha).sq,λq hq=>?_⟩
  obtain⟨R2,s2⟩:=R.laid (.aA (ua vs lo hi)) hq;exact k _ _ _ R2 s2 (aV.mpr ⟨q,_,rfl,nJ.of az,(f7.cut lo hi).mono s2⟩)
 ·rename_i ps;cases e;obtain⟨a,vs,rfl,ha,f7⟩:=bF.mp ba;by_cases hw:HT.eB vs.length 0 lo=0/\HT.eB vs.length vs.length hi=vs.length
  ·cases rx;obtain⟨aQ,r,ht,hz⟩:=I.tuple (aU R.sub ha);have cD:aQ.toArray.size=vs.length:=by rw[bz];exact r.length.symm
   refine⟨"tuple",_,nM.lookup,ht.typeIs,?_⟩;refine m4 ht hs pl pu (by rw[cD];exact hw.1) (by rw[cD];exact hw.2) ⟨.ref a,H,I,rfl,k _ H F R (Same.refl F) ?_⟩
   have hc:jW ps lo hi=ps:=by
    unfold jW;rw[f7.length,hw.1,hw.2,List.drop_zero,Nat.sub_zero,<-f7.length,List.take_length]
   rw[hc];exact ba
  ·refine RI ae s σ H _ v vl vu lo hi sl Q I rx hs pl pu ⟨a,vs,rfl,aU R.sub ha,hw,λq hq=>?_⟩
   obtain⟨R2,s2⟩:=R.laid (.aI (ua vs lo hi)) hq;exact k _ _ _ R2 s2 (bF.mpr ⟨q,_,rfl,gO.of az,(f7.cut lo hi).mono s2⟩)
 ·cases e
abbrev FO:=aC->Option (Option Int)
def zl(K:ah)(H₀ aa:Hp)(f:FO):TO:=λσ H Q=>∃F ρ o,cw K H₀ aa F ρ σ H/\f ρ=some o/\∀H' F',cw K H₀ aa F' ρ σ H'->Same F F'->Q o H'
theorem _root_.L2.PO.imp{X:Cx}{e:Option aj}{t t':TO}(h:PO X e t)(hi:∀σ H Q,t' σ H Q->t σ H Q):PO X e t':=λae s σ H Q I hw=>h ae s σ H Q I (hi _ _ _ hw)
def Hb:FO:=λ_=>some none
def e9(fe:FE):FO:=λρ=>(fe ρ).bind λp=>match p with | .int i=>some (some i) | _=>none
theorem Jh:PO X none (zl X.K H₀ aa Hb):=MG.imp <| by
 rintro σ H Q ⟨F,ρ,o,R,hf,q⟩
 cases hf;exact q H F R (Same.refl F)
theorem Ji(h:PE X e (tE X.K H₀ aa fa)):PO X (some e) (zl X.K H₀ aa (e9 fa)):=(MH h).imp <| by
 rintro σ H Q ⟨F,ρ,o,R,hf,q⟩
 obtain⟨p,h1,h2⟩:=ao hf;cases p with
 | int i =>
  cases h2;exact⟨F,ρ,_,R,h1,λv H1 F1 R1 s1 b1=>⟨i,aG.mp b1,q H1 F1 R1 s1⟩⟩
 | _=>cases h2
def cutE(fa:FE)(fl fh:FO):FE:=λρ=>(fa ρ).bind λp=>(fl ρ).bind λl=>(fh ρ).bind λh=>PQ l h p
theorem PR{fl fh:FO}(ha:PE X e (tE X.K H₀ aa fa))(hl:PO X lo (zl X.K H₀ aa fl))(hh:PO X hi (zl X.K H₀ aa fh)):PE X (.Subscript e (.Slice lo hi none p2) pos) (tE X.K H₀ aa (cutE fa fl fh)):=(yW slT ha hl hh).imp <| by
 rintro σ H Q ⟨F,ρ,p,R,hf,q⟩
 obtain⟨pa,h1,hf⟩:=ao hf;obtain⟨l,h2,hf⟩:=ao hf;obtain⟨h,h3,h4⟩:=ao hf;exact⟨F,ρ,pa,R,h1,λv H1 F1 R1 s1 b1=>⟨F1,ρ,l,R1,h2,λH2 F2 R2 s2=>⟨F2,ρ,h,R2,h3,λH3 F3 R3 s3 =>
  ⟨H₀,aa,F3,ρ,σ,pa,p,h4,R3,b1.mono (s2.trans s3),λw H4 F4 R4 s4 b4=>q w H4 F4 R4 (s1.trans (s2.trans (s3.trans s4))) b4⟩⟩⟩⟩
end
def rC(K:ah)(g:av->bQ):List V->Hp->VK->Prop:=λxs H Q=>∃H₀ aa F ρ τ ps p,g ps=some p/\cw K H₀ aa F ρ τ H/\aP K F ps xs/\∀v H' F',cw K H₀ aa F' ρ τ H'->Same F F'->cx K F' p v->Q v H'
abbrev B7(X:Cx)(f:ag)(g:av->bQ):Prop:=km X f (rC X.K g)
def dq(g:av->bQ)(ts:bG):FE:=λρ=>(ts ρ).bind g
theorem jy{H₀ aa:Hp}{K:ah}{g:av->bQ}{ts:bG}{σ:St}{H:Hp}{Q:VK}(h:tE K H₀ aa (dq g ts) σ H Q):tCB (rC K g) (tA K H₀ aa ts) σ H Q:=by
 obtain⟨F,ρ,p,R,hf,q⟩:=h;obtain⟨ps,h1,h2⟩:=ao hf;exact⟨F,ρ,ps,R,h1,λvs H1 F1 R1 s1 b1=>⟨H₀,aa,F1,ρ,σ,ps,p,h2,R1,b1,λv H' F' R' s' b'=>q v H' F' R' (s1.trans s') b'⟩⟩
def eF:av->bQ
 | [.aI ps]=>some (.int ps.length)
 | [.aA ps]=>some (.int ps.length)
 | [.str z]=>if z.length<=f6 then some (.int z.length)else none
 | _=>none
def rK:av->bQ
 | [.aA ps]=>some (.aI ps)
 | [.aI ps]=>some (.aI ps)
 | _=>none
def Jj:av->bQ
 | [.aA ps]=>some (.aA ps)
 | [.aI ps]=>some (.aA ps)
 | _=>none
def B8:av->bQ
 | [.int i]=>some (.int i)
 | [.bl b]=>some (.int (if b then 1 else 0))
 | _=>none
noncomputable def gM:av->Option (List Int)
 | []=>some []
 | .int i::r=>(gM r).map λns=>i::ns
 | _::_=>none
def B9:av->bQ
 | [.aA ps]=>(gM ps).map λns=>.int ns.sum
 | _=>none
theorem m5{K:ah}{F:Hp}:∀{ps:av} {ns:List Int} {vs:List V},gM ps=some ns->aP K F ps vs->vs=ns.map V.int
 | [],ns,vs,h,b=>by cases h;exact b.bX
 | .int i::r,ns,vs,h,b=>by
  unfold gM at h;cases z:gM r with
  | none=>rw[z]at h;cases h
  | some ms =>
   rw[z]at h;cases h;obtain⟨v,vr,rfl,c,d⟩:=b.b6;rw[aG.mp c,m5 z d];rfl
 | .cE::_,_,_,h,_=>by cases h
 | .bl _::_,_,_,h,_=>by cases h
 | .str _::_,_,_,h,_=>by cases h
 | .aI _::_,_,_,h,_=>by cases h
 | .aA _::_,_,_,h,_=>by cases h
section
variable {X:Cx}
theorem dQ{K:ah}{F:Hp}{p:PV}{vs:List V}(b:aP K F [p] vs):∃v,vs=[v]/\cx K F p v:=by
 obtain⟨v,r,rfl,c,d⟩:=b.b6;rw[d.bX];exact⟨v,rfl,c⟩
theorem DV{K:ah}{F:Hp}{p q:PV}{vs:List V}(b:aP K F [p,q] vs):∃v w,vs=[v,w]/\cx K F p v/\cx K F q w:=by
 obtain⟨v,r,rfl,c,d⟩:=b.b6;obtain⟨w,rfl,e⟩:=dQ d;exact⟨v,w,rfl,c,e⟩
theorem FH:B7 X (.builtin "len") eF:=by
 rintro ae s σ H xs us Q I rs ⟨H₀,aa,F,ρ,τ,ps,p,e,R,bs,k⟩;unfold eF at e;split at e
 ·cases e;obtain⟨v,rfl,b⟩:=dQ bs;obtain⟨a,vs,rfl,ha,f7⟩:=bF.mp b;exact jv ae s σ H _ us Q I rs ⟨a,vs,rfl,.inr (aU R.sub ha),k _ H F R (Same.refl F) (aG.mpr (by rw[f7.length]))⟩
 ·cases e;obtain⟨v,rfl,b⟩:=dQ bs;obtain⟨a,vs,rfl,ha,f7⟩:=aV.mp b;exact jv ae s σ H _ us Q I rs ⟨a,vs,rfl,.inl (bN R.sub ha).sq,k _ H F R (Same.refl F) (aG.mpr (by rw[f7.length]))⟩
 ·obtain⟨hz,rfl⟩:=aB e;obtain⟨v,rfl,b⟩:=dQ bs;rw[cb.mp b]at rs;exact wI ae s σ H _ us Q I rs ⟨_,rfl,ee hz,k _ H F R (Same.refl F) (aG.mpr rfl)⟩
 ·cases e
theorem FI:B7 X (.type "tuple") rK:=by
 rintro ae s σ H xs us Q I rs ⟨H₀,aa,F,ρ,τ,ps,p,e,R,bs,k⟩;unfold rK at e;split at e
 ·cases e;obtain⟨v,rfl,b⟩:=dQ bs;obtain⟨a,vs,rfl,ha,f7⟩:=aV.mp b;refine lA ae s σ H _ us Q I rs ⟨a,vs,rfl,.inl ⟨(bN R.sub ha).sq,λq hq=>?_⟩⟩
  obtain⟨R2,s2⟩:=R.laid (.aI vs) hq;exact k _ _ _ R2 s2 (bF.mpr ⟨q,_,rfl,gO.of az,f7.mono s2⟩)
 ·cases e;obtain⟨v,rfl,b⟩:=dQ bs;obtain⟨a,vs,rfl,ha,f7⟩:=bF.mp b;exact lA ae s σ H _ us Q I rs ⟨a,vs,rfl,.inr ⟨aU R.sub ha,k _ H F R (Same.refl F) b⟩⟩
 ·cases e
theorem FJ:B7 X (.type "list") Jj:=by
 rintro ae s σ H xs us Q I rs ⟨H₀,aa,F,ρ,τ,ps,p,e,R,bs,k⟩;unfold Jj at e;split at e
 ·cases e;obtain⟨v,rfl,b⟩:=dQ bs;obtain⟨a,vs,rfl,ha,f7⟩:=aV.mp b;refine jw ae s σ H _ us Q I rs ⟨a,vs,rfl,.inl (bN R.sub ha).sq,λq hq=>?_⟩
  obtain⟨R2,s2⟩:=R.laid (.aA vs) hq;exact k _ _ _ R2 s2 (aV.mpr ⟨q,_,rfl,nJ.of az,f7.mono s2⟩)
 ·cases e;obtain⟨v,rfl,b⟩:=dQ bs;obtain⟨a,vs,rfl,ha,f7⟩:=bF.mp b;refine jw ae s σ H _ us Q I rs ⟨a,vs,rfl,.inr (aU R.sub ha),λq hq=>?_⟩
  obtain⟨R2,s2⟩:=R.laid (.aA vs) hq;exact k _ _ _ R2 s2 (aV.mpr ⟨q,_,rfl,nJ.of az,f7.mono s2⟩)
 ·cases e
theorem FK:B7 X (.type "int") B8:=by
 rintro ae s σ H xs us Q I rs ⟨H₀,aa,F,ρ,τ,ps,p,e,R,bs,k⟩;unfold B8 at e;split at e
 ·cases e;obtain⟨v,rfl,b⟩:=dQ bs;rw[aG.mp b]at rs;exact uK ae s σ H _ us Q I rs (.inl ⟨_,rfl,k _ H F R (Same.refl F) (aG.mpr rfl)⟩)
 ·cases e;obtain⟨v,rfl,b⟩:=dQ bs;rw[bU.mp b]at rs;exact uK ae s σ H _ us Q I rs (.inr ⟨_,rfl,k _ H F R (Same.refl F) (aG.mpr rfl)⟩)
 ·cases e
theorem Nj{ae:List (ab×Obj)}{σ:St}{H F:Hp}{s:au}(I:Inv X ae σ H s)(hs:Same F H){ps:av}{ns:List Int}{v:V}(hn:gM ps=some ns)(b:cx X.K F (.aA ps) v) :
  ∃a,v=.ref a/\∃xs:Array (Int×Tok),s.heap.IsList a (intItems xs)/\ns=xs.toList.map (·.1):=by
 obtain⟨a,vs,rfl,ha,f7⟩:=aV.mp b;obtain⟨aQ,r,pl,_⟩:=I.list (bN hs ha).sq;have ev:=m5 hn f7;subst ev;have hi:=lZ r;obtain⟨xs,ex⟩:=hi.allInts.items;refine⟨a,rfl,xs,?_,?_⟩
 ·rw[<-ex];exact pl.isList
 ·rw[<-hi.numsOf,<-nums_intItems,<-ex]
theorem FL(hc:X.A.handled=none):B7 X (.builtin "sum") B9:=by
 rintro ae s σ H xs us Q I rs ⟨H₀,aa,F,ρ,τ,ps,p,e,R,bs,k⟩;unfold B9 at e;split at e
 ·rename_i ps;cases z:gM ps with
  | none=>rw[z]at e;cases e
  | some ns =>
   rw[z]at e;cases e;obtain⟨v,rfl,b⟩:=dQ bs;obtain⟨a,rfl,xs,hl,hn⟩:=Nj I R.sub z b;obtain⟨u,rfl,ru⟩:=i4 rs;cases ru;refine sum_intListG hc hl λh' tk t' hk=>⟨.int ns.sum,H,I.kept (t':=tk) hk,⟨t',?_⟩,k _ H F R (Same.refl F) (aG.mpr rfl)⟩
   rw[preSum_eq,qA (by simp),hn]
 ·cases e
end
def Jk(fa:FE):FE:=λρ=>(fa ρ).bind λp=>match p with | .int i=>some (.int (-i)) | _=>none
theorem PU{X:Cx}{H₀ aa:Hp}{a:aj}{fa:FE}{pos:Pos}(ha:PE X a (tE X.K H₀ aa fa)):PE X (.UnaryOp .USub a pos) (tE X.K H₀ aa (Jk fa)):=(Pm Ij ha).imp <| by
 rintro σ H Q ⟨F,ρ,p,R,hf,q⟩
 obtain⟨x,h1,h2⟩:=ao hf;cases x with
 | int i =>
  cases h2;exact⟨F,ρ,_,R,h1,λv H1 F1 R1 s1 b1=>⟨i,aG.mp b1,q _ H1 F1 R1 s1 (aG.mpr rfl)⟩⟩
 | _=>cases h2
inductive Ty where
 | int | str | bool | tuple | list
def Ty.nm:Ty->String
 | .int=>"int" | .str=>"str" | .bool=>"bool" | .tuple=>"tuple" | .list=>"list"
def f9:Ty->PV->Bool
 | .int,.int _=>true
 | .int,.bl _=>true
 | .bool,.bl _=>true
 | .str,.str _=>true
 | .tuple,.aI _=>true
 | .list,.aA _=>true
 | _,_=>false
def DW(x:Str):Option Ty :=
 if x==("int":Str)then some .int
 else if x==("str":Str)then some .str
 else if x==("bool":Str)then some .bool
 else if x==("tuple":Str)then some .tuple
 else if x==("list":Str)then some .list
 else none
def DX(t:Ty)(fa:FE):FE:=λρ=>(fa ρ).map λp=>.bl (f9 t p)
def abK:PV->String
 | .cE=>"NoneType" | .bl _=>"bool" | .int _=>"int" | .str _=>"str" | .aI _=>"tuple" | .aA _=>"list"
section
variable {K:ah}
theorem Nk(p:PV)(t:Ty):W.kitOne K (.type (abK p)) (.type t.nm)=some (f9 t p):=by
 cases p<;>cases t<;>kernel_rfl
end
section
variable {X:Cx} {H₀ aa:Hp} {a:aj} {fa:FE} {pos p1 p2:Pos}
def rIs(K:ah)(t:Ty):List V->Hp->VK->Prop:=λxs H Q=>∃H₀ aa F ρ τ p x,xs=[x,.ty t.nm]/\cw K H₀ aa F ρ τ H/\cx K F p x/\Q (.bl (f9 t p)) H
theorem Nl(t:Ty):km X (.builtin "isinstance") (rIs X.K t):=by
 rintro ae s σ H xs us Q I rs ⟨H₀,aa,F,ρ,τ,p,x,ex,R,b,q⟩;subst ex;obtain⟨u,w,rfl,ru,RJ⟩:=Ip rs;cases RJ;have e:=Nk (K:=X.K) p t;have fin:∀tk,EP X ae σ Q (.bool (f9 t p)) {s with toks:=tk}:=λtk=>⟨.bl _,H,I.tok tk,rfl,q⟩
 cases p with
 | cE =>
  rw[cX.mp b]at ru;cases ru;exact W.kia_one W.kitx_none I.oW True.intro e (λz=>nomatch z) fin
 | bl y =>
  rw[bU.mp b]at ru;cases ru;exact W.kia_one W.kitx_bool I.oW True.intro e (λz=>nomatch z) fin
 | int i =>
  rw[aG.mp b]at ru;obtain⟨tk,rfl⟩:=ru;exact W.kia_one W.kitx_int I.oW True.intro e (λz=>nomatch z) fin
 | str y =>
  rw[cb.mp b]at ru;obtain⟨tk,rfl⟩:=ru;exact W.kia_one W.kitx_str I.oW True.intro e (λz=>nomatch z) fin
 | aI ps =>
  obtain⟨ad,vs,rfl,ha,_⟩:=bF.mp b;cases ru;obtain⟨aQ,_,⟨o,h1,h2,_⟩,_⟩:=I.tuple (aU R.sub ha);exact W.kia_one W.kitx_tuple I.oW ⟨o,h1,h2⟩ e (λz=>nomatch z) fin
 | aA ps =>
  obtain⟨ad,vs,rfl,ha,_⟩:=aV.mp b;cases ru;obtain⟨aQ,n,_,h1,_⟩:=I.rn (bN R.sub ha);exact W.kia_one W.kitx_list I.oW ⟨_,h1,rfl⟩ e (λz=>nomatch z) fin
theorem pV:bootBuiltins "isinstance"=some (.builtin "isinstance"):=by kernel_rfl
theorem jz(t:Ty):bootBuiltins (Str.ofString t.nm)=some (.type t.nm):=by cases t<;>kernel_rfl
theorem Jl{x:Str}{t:Ty}(h:DW x=some t):x=Str.ofString t.nm:=by
 unfold DW at h;split at h
 ·rename_i e;cases h;exact bD e
 ·split at h
  ·rename_i e;cases h;exact bD e
  ·split at h
   ·rename_i e;cases h;exact bD e
   ·split at h
    ·rename_i e;cases h;exact bD e
    ·split at h
     ·rename_i e;cases h;exact bD e
     ·cases h
theorem abL{x:Str}{t:Ty}(ht:DW x=some t)(hg:Gl X "isinstance")(hm:X.mg "isinstance"=none)(hg2:Gl X x)(hm2:X.mg x=none)(ha:PE X a (tE X.K H₀ aa fa))(hs:∀es,starEach (a::es) X.env=(false,eval a X.env)::starEach es X.env) :
  PE X (.Call (.Name "isinstance" p1) [a,.Name x p2] [] pos) (tE X.K H₀ aa (DX t fa)):=by
 have hx:=Jl ht;subst hx;have hn:(Str.ofString t.nm)≠"__name__":=by cases t<;>decide
 have pM:((Str.ofString t.nm)==("__debug__":Str))=false:=by cases t<;>decide
 refine(i5 (Nl t) hg hm pV (cL ha (cL (Mn (v:=.ty t.nm) hg2 hm2 (jz t) rfl hn pM) gZ rfl) (hs _)) (by decide) (by decide) (hs _)).imp λσ H Q ⟨F,ρ,p,R,hf,q⟩=>?_
 unfold DX at hf;cases z:fa ρ with
 | none=>rw[z]at hf;cases hf
 | some p' =>
  rw[z]at hf;cases hf;exact⟨F,ρ,p',R,z,λv H1 F1 R1 s1 b1=>⟨H₀,aa,F1,ρ,σ,p',v,rfl,R1,b1,q _ H1 F1 R1 s1 (bU.mpr rfl)⟩⟩
end
def SI(h:Heap)(it l:ab)(k:Nat)(xs:Array ag):Prop:=(h.IsListIter it l k/\h.IsList l xs)\/(h.IsTupleIter it l k/\h.IsTuple l xs)
theorem SI.at{h h':Heap}{it l:ab}{k:Nat}{xs:Array ag}(x:SI h it l k xs)(h1:∀o,h.get? it=some o->h'.get? it=some o)(h2:∀o,h.get? l=some o->h'.get? l=some o):SI h' it l k xs:=by
 rcases x with⟨⟨o,e,r⟩,⟨o',e',r'⟩⟩ | ⟨⟨o,e,r⟩,⟨o',e',r'⟩⟩
 ·exact .inl ⟨⟨o,h1 o e,r⟩,⟨o',h2 o' e',r'⟩⟩
 ·exact .inr ⟨⟨o,h1 o e,r⟩,⟨o',h2 o' e',r'⟩⟩
theorem SI.PX{h:Heap}{it l:ab}{k:Nat}{xs:Array ag}(x:SI h it l k xs):∃o,h.get? it=some o/\∃vs,o.data=.fields vs:=by
 rcases x with⟨⟨o,e,_,d⟩,_⟩ | ⟨⟨o,e,_,d⟩,_⟩
 ·exact⟨o,e,_,d⟩
 ·exact⟨o,e,_,d⟩
theorem SI.sq{h:Heap}{it l:ab}{k:Nat}{xs:Array ag}(x:SI h it l k xs):∃o n,h.get? l=some o/\o.data=.seq xs n:=by
 rcases x with⟨_,⟨o,e,_,n,d⟩⟩ | ⟨_,⟨o,e,_,n,d⟩⟩
 ·exact⟨o,n,e,d⟩
 ·exact⟨o,n,e,d⟩
theorem SI.ne{h:Heap}{it l:ab}{k:Nat}{xs:Array ag}(x:SI h it l k xs):l≠it:=λz=>by
 obtain⟨o,e,vs,d⟩:=x.PX;obtain⟨o',n,e',d'⟩:=x.sq;subst z;rw[e]at e';cases e';rw[d]at d';cases d'
section
variable {prog:bh} {w:aM} {A:bA} {E:cm} {s:au}
theorem Cb{it t:ab}{i:Nat}{aQ:Array ag}{x:ag}{Q:cm}(uh:s.heap.IsTupleIter it t i)(ht:s.heap.IsTuple t aQ)(hx:aQ[i]?=some x)
  (hQ:∀h',h'.IsTupleIter it t (i+1)->Heap.SameBut it s.heap h'->Q x {s with heap:=h'}):wpAny (model prog w) A (Builtin.SmallTypes.nextOf (.ref it)) Q E s:=by
 obtain⟨o,ho,hc,hd⟩:=id uh;obtain⟨ol,DY,_,nl,zm⟩:=ht;unfold Builtin.SmallTypes.nextOf;refine ai (j3 (name:=Str.ofString "__next__") uh.typeIs vL (iM vL uh.typeIs Hn (by
  show wpAny _ _ (field (.ref it) 0 >>= _) _ _ s;refine ai (kc ho hd (x:=.ref t) rfl ?_);show wpAny _ _ (if(Value.ref t==Value.none)=true then _ else _) _ _ s
  rw[if_neg (show ¬((Value.ref t==Value.none)=true)from gI)]
  show wpAny _ _ (field (.ref it) 1 >>= _) _ _ s;refine ai (kc ho hd (x:=.int i 0) rfl ?_);show wpAny _ _ (seqItems? (.ref t) >>= _) _ _ s;refine ai (v5 DY zm ?_);simp only[eM,hx];refine ai (qH ho hd (by simp) (ax ⟨x,rfl,ax (hQ _ ⟨_,vQ _ ho (A6 (nR hd _)),(Bc ..).trans hc,by rw[nR hd];simp[rawInt]⟩ (jn ..))⟩))) (Hm _)))
theorem Cc{it t:ab}{i:Nat}{aQ:Array ag}{Q:cm}(hh:A.handled=none)(uh:s.heap.IsTupleIter it t i)(ht:s.heap.IsTuple t aQ)(hx:aQ[i]?=none)
  (hE:∀h' e,Heap.ExtBut it s.heap h'->(∃o,h'.get? e=some o/\o.cls=.type "StopIteration")->E (.ref e) {s with heap:=h'}):wpAny (model prog w) A (Builtin.SmallTypes.nextOf (.ref it)) Q E s:=by
 obtain⟨o,ho,hc,hd⟩:=id uh;obtain⟨ol,DY,_,nl,zm⟩:=ht;unfold Builtin.SmallTypes.nextOf;refine ai (j3 (name:=Str.ofString "__next__") uh.typeIs vL (iM vL uh.typeIs Hn (by
  show wpAny _ _ (field (.ref it) 0 >>= _) _ _ s;refine ai (kc ho hd (x:=.ref t) rfl ?_);show wpAny _ _ (if(Value.ref t==Value.none)=true then _ else _) _ _ s
  rw[if_neg (show ¬((Value.ref t==Value.none)=true)from gI)]
  show wpAny _ _ (field (.ref it) 1 >>= _) _ _ s;refine ai (kc ho hd (x:=.int i 0) rfl ?_);show wpAny _ _ (seqItems? (.ref t) >>= _) _ _ s;refine ai (v5 DY zm ?_);simp only[eM,hx];refine ai (qK (ai (qH ho hd (by simp) ?_)))
  show wpAny _ _ (newExc (.type "StopIteration") [] >>= _) _ _ _;refine ai ?_;simp only[newExc,newTuple];refine ai (iJ ?_ (by size_fits))
  refine ai (m:=firstArgMember _ _) (wpAny_of_eq (a:=Value.none) (by first | rfl | (simp only[firstArgMember];rfl)) ?_)
  refine iJ ?_ (by size_fits)
  simp only[raiseNew];refine ai (wpAny_handled ?_)
  first | rw[show A.in1.handled=none from hh] | rw[hh]
  exact ai (ax (wpAny_throw (hE _ _ (((jn ..).extBut.push _).push _) ⟨_,cW _ rfl,rfl⟩)))) (Hm _)))
theorem SI.next{it l:ab}{k:Nat}{xs:Array ag}{x:ag}{Q:cm}(hi:SI s.heap it l k xs)(hx:xs[k]?=some x)(hQ:∀h',SI h' it l (k+1) xs->Heap.SameBut it s.heap h'->Q x {s with heap:=h'}) :
  wpAny (model prog w) A (Builtin.SmallTypes.nextOf (.ref it)) Q E s:=by
 have ne:=hi.ne;rcases hi with⟨h1,h2⟩ | ⟨h1,h2⟩
 ·exact wpAny_nextOf_list_item h1 h2 hx λh' a b=>hQ h' (.inl ⟨a,h2.extBut b.extBut ne⟩) b
 ·exact Cb h1 h2 hx λh' a b=>hQ h' (.inr ⟨a,h2.extBut b.extBut ne⟩) b
theorem SI.stop{it l:ab}{k:Nat}{xs:Array ag}{Q:cm}(hh:A.handled=none)(hi:SI s.heap it l k xs)(hx:xs[k]?=none)
  (hE:∀h' e,Heap.ExtBut it s.heap h'->(∃o,h'.get? e=some o/\o.cls=.type "StopIteration")->E (.ref e) {s with heap:=h'}):wpAny (model prog w) A (Builtin.SmallTypes.nextOf (.ref it)) Q E s:=by
 rcases hi with⟨h1,h2⟩ | ⟨h1,h2⟩
 ·exact wpAny_nextOf_list_end hh h1 h2 hx hE
 ·exact Cc hh h1 h2 hx hE
end
section
variable {prog:bh} {w:aM} {A:bA} {E:cm} {s:au} {z TI TO i1 i2 l1 l2:Nat} {k:Nat} {xs ys:Array ag}
def u7(h:Heap)(l:ab)(xs:Array ag)(c:String):Prop:=(c="list_iterator"/\h.IsList l xs)\/(c="tuple_iterator"/\h.IsTuple l xs)
theorem qh{l:ab}{xs:Array ag}{c:String}{Q:cm}(h:u7 s.heap l xs c)(hQ:Q (.ref s.heap.objs.size) {s with heap:=s.heap.push {cls:=.type c,data:=.fields #[.ref l,.int 0 0]}}):wpAny (model prog w) A (pyIter (.ref l)) Q E s:=by
 rcases h with⟨rfl,h⟩ | ⟨rfl,h⟩
 ·exact vT h hQ
 ·exact wpAny_pyIter_tuple h hQ
end
def DZ(K:ah)(H:Hp)(c:Bool)(l:ab)(vs:List V):Prop:=if c=true then lg K H l vs else gO K H l vs
def Hc(h:Heap)(c:Bool)(it l:ab)(k:Nat):Prop:=if c=true then h.IsListIter it l k else h.IsTupleIter it l k
def FN(c:Bool):String:=if c=true then "list_iterator" else "tuple_iterator"
section
variable {X:Cx} {ae:List (ab×Obj)} {σ:St} {H:Hp} {s:au}
theorem DZ.get(I:Inv X ae σ H s){c:Bool}{l:ab}{vs:List V}(h:DZ X.K H c l vs):∃aQ:bW,Vals vs aQ/\u7 s.heap l aQ.toArray (FN c):=by
 unfold DZ at h;unfold FN;cases c with
 | true =>
  obtain⟨aQ,r,pl,_⟩:=I.list (show lg X.K H l vs from h)
  exact⟨aQ,r,.inl ⟨rfl,pl.isList⟩⟩
 | false =>
  obtain⟨aQ,r,pl,_⟩:=I.tuple (show gO X.K H l vs from h)
  exact⟨aQ,r,.inr ⟨rfl,pl⟩⟩
theorem DZ.inj(I:Inv X ae σ H s){c:Bool}{l:ab}{vs ws:List V}(h:DZ X.K H c l vs)(h':DZ X.K H c l ws):vs=ws:=by
 unfold DZ at h h';cases c with
 | true=>exact I.qZ h h'
 | false=>exact I.og h h'
theorem PY{h:Heap}{c:Bool}{it l:ab}{k:Nat}{xs:Array ag}(h1:Hc h c it l k)(h2:u7 h l xs (FN c)):SI h it l k xs:=by
 unfold Hc at h1;cases c with
 | true =>
  rcases h2 with⟨_,q⟩ | ⟨q,_⟩
  ·exact .inl ⟨h1,q⟩
  ·exact absurd q (by decide)
 | false =>
  rcases h2 with⟨q,_⟩ | ⟨_,q⟩
  ·exact absurd q (by decide)
  ·exact .inr ⟨h1,q⟩
theorem Nm{h:Heap}{c:Bool}{it l:ab}{k k':Nat}{xs:Array ag}{h0:Heap}(h1:SI h it l k xs)(h2:u7 h0 l xs (FN c))(kp:∀o,h0.get? l=some o->h.get? l=some o):Hc h c it l k:=by
 unfold Hc;cases c with
 | true =>
  rcases h2 with⟨_,⟨o,e,hc,_⟩⟩ | ⟨q,_⟩
  ·rcases h1 with⟨a,_⟩ | ⟨_,⟨o',e',Dy,_⟩⟩
   ·exact a
   ·have e2:=kp o e;rw[e']at e2;cases e2;rw[hc]at Dy;simp at Dy
  ·exact absurd q (by decide)
 | false =>
  rcases h2 with⟨q,_⟩ | ⟨_,⟨o,e,hc,_⟩⟩
  ·exact absurd q (by decide)
  ·rcases h1 with⟨_,⟨o',e',Dy,_⟩⟩ | ⟨a,_⟩
   ·have e2:=kp o e;rw[e']at e2;cases e2;rw[hc]at Dy;simp at Dy
   ·exact a
theorem Inv.turns{t':Nat}{h':Heap}{ch:List ab}(I:Inv X ae σ H s)(hf:∀b∈ch,wx X ae H b)(kp:∀b o,b∉ch->s.heap.get? b=some o->h'.get? b=some o):Inv X ae σ H {s with heap:=h',toks:=t'}:=by
 have Vj:∀b u,H b=some u->b∉ch:=λb u e z=>by rw[(hf b z).1]at e;cases e
 refine I.step (g':=s.gens) (d':=s.drawn) (ch:=ch) (λb hb=>⟨(hf b hb).2.2.2.1,(hf b hb).2.1,(hf b hb).2.2.2.2.1,(hf b hb).2.2.2.2.2⟩) (λb o _ _ hc e _=>kp b o hc e) (λb o _ _ hc e _=>⟨o.slots,kp b o hc e⟩) (λ_ _ _ _ n=>n)
  (λb o hc e=>⟨o,kp b o hc e⟩) (λ_ _ e=>e) (λ_ _ _ e=>e) (λ_ _ e=>e) (λm hm=>?_) (λb u e=>?_) I.bare
 ·obtain⟨o,es,ep,ho,r⟩:=hm;exact⟨o,es,ep,kp _ o (λz=>(hf _ z).2.1 rfl) ho,r⟩
 ·refine(I.hok b u e).yQ (λc v hc q=>kp c v ?_ q) (λ_ q=>q) (λ_ _ q=>q) λ_ _ _ q=>q
  rcases hc with z | z
  ·rw[z];exact Vj b u e
  ·exact Vj c _ z
end
theorem Hc.at{h h':Heap}{c:Bool}{it l:ab}{k:Nat}(x:Hc h c it l k)(h1:∀o,h.get? it=some o->h'.get? it=some o):Hc h' c it l k:=by
 cases c with
 | true =>
  obtain⟨o,e,r⟩:=(show h.IsListIter it l k from x)
  exact(show h'.IsListIter it l k from⟨o,h1 o e,r⟩)
 | false =>
  obtain⟨o,e,r⟩:=(show h.IsTupleIter it l k from x)
  exact(show h'.IsTupleIter it l k from⟨o,h1 o e,r⟩)
theorem Hc.obj{h:Heap}{c:Bool}{it l:ab}{k:Nat}(x:Hc h c it l k):∃o,h.get? it=some o/\∀v,o.data≠.cell v:=by
 unfold Hc at x;split at x
 ·obtain⟨o,e,_,d⟩:=x;exact⟨o,e,λv=>by rw[d];simp⟩
 ·obtain⟨o,e,_,d⟩:=x;exact⟨o,e,λv=>by rw[d];simp⟩
def PZ:aj->Bool
 | .Tuple _ _ _=>true
 | _=>false
def Jm:PV->Option av
 | .aI ps=>some ps
 | .aA ps=>some ps
 | _=>none
def Jn(p q:PV):PV:=.aI [p,q]
theorem Jo{K:ah}{F:Hp}{p:PV}{ps:av}{x:V}(h:Jm p=some ps)(b:cx K F p x):∃c l vs,x=.ref l/\DZ K F c l vs/\aP K F ps vs/\∀F',Same F F'->DZ K F' c l vs:=by
 cases p with
 | aI qs =>
  cases h;obtain⟨l,vs,rfl,h1,h2⟩:=bF.mp b;exact⟨false,l,vs,rfl,h1,h2,λF' s=>aU s h1⟩
 | aA qs =>
  cases h;obtain⟨l,vs,rfl,h1,h2⟩:=aV.mp b;exact⟨true,l,vs,rfl,h1.sq,h2,λF' s=>(bN s h1).sq⟩
 | _=>cases h
theorem Jp{prog:bh}{w:aM}{A:bA}{it l:ab}{xs:Array ag}(hh:A.handled=none):Draws prog w A it [it,l] xs.size (λi x=>xs[i]?=some x) (λi h=>SI h it l i xs) where
 live:=λi h st=>by
  obtain⟨o,e,_⟩:=st.PX;exact⟨o,e⟩
 frame:=λi h h' st k=>st.at (λo e=>k it (by simp) o e) (λo e=>k l (by simp) o e)
 item:=λi s Q E hi st hQ=>SI.next st (qy hi) λh' a b=>hQ _ h' s.toks (qy hi) a b
 done:=λs Q E st hE=>SI.stop hh st (A5 (aR _)) hE
set_option maxHeartbeats 2000000 in
theorem Jq(l:ab)(xs:Array ag)(c:String)(part:Obj) :
  Meets (Builtin.«enumerate.__new__» ⟨[.type "enumerate",.ref l],[]⟩) (λ_ R s=>u7 s.heap l xs c/\s.heap.get? l=some part /\
   ∀h1 h2:Heap,h1=s.heap.push {cls:=.type c,data:=.fields #[.ref l,.int 0 0]}->h2=h1.push {cls:=.type "enumerate",data:=.fields #[.none,.bool false,.ref s.heap.objs.size,rawInt 0,.none,.none]}->R (.ok (.ret (.ref h1.objs.size))) {s with heap:=h2}) :=
 .of_wp λprog w A R s h=>by
  obtain⟨hp,g,d,tk,os⟩:=s;obtain⟨hl,hpt,h⟩:=h;have hL:u7 (Shared.heap ⟨hp,g,d,tk,os⟩) l xs c:=hl;have wW:=sub_enumerate;rcases hl with⟨rfl,⟨o,e,hc,n,hd⟩⟩ | ⟨rfl,⟨o,e,hc,n,hd⟩⟩
  ·obtain⟨oc,od,odt,RE⟩:=o;replace hc:oc=.type "list":=hc;replace hd:odt=.seq xs n:=hd;subst hc hd
   wp_walk using j2 e
   refine wpAny_stack_any λst=>ax ?_
   split
   ·rename_i c' _ _ _ _ _;cases(c'==Value.type "enumerate")<;>(wp_walk using j2 e,qh hL)<;>exact⟨_,rfl,h _ _ rfl rfl⟩
   ·wp_walk using j2 e,qh hL
    exact⟨_,rfl,h _ _ rfl rfl⟩
  ·obtain⟨oc,od,odt,RE⟩:=o;replace hc:oc=.type "tuple":=hc;replace hd:odt=.seq xs n:=hd;subst hc hd
   wp_walk using j2 e
   refine wpAny_stack_any λst=>ax ?_
   split
   ·rename_i c' _ _ _ _ _;cases(c'==Value.type "enumerate")<;>(wp_walk using j2 e,qh hL)<;>exact⟨_,rfl,h _ _ rfl rfl⟩
   ·wp_walk using j2 e,qh hL
    exact⟨_,rfl,h _ _ rfl rfl⟩
theorem Nn{prog:bh}{w:aM}{A:bA}{E:cm}{s:au}{e it l:ab}{k:Nat}{i:Int}{xs:Array ag}{old:ag}{Q:lb->au->Prop}(hh:A.handled=none)(a1:IsEnum s.heap e it i old)(st:SI s.heap it l k xs)(hx:xs[k]?=none)(hQ:∀h',Heap.ExtBut it s.heap h'->Q none {s with heap:=h'}):wpAny (model prog w) A (pyNext (.ref e)) Q E s:=by
 have ty:s.TypeIs (.ref e) "enumerate":=⟨_,a1,rfl⟩;unfold pyNext;refine ai (wpAny_attempt (j3 (name:=Str.ofString "__next__") ty F.slot_enumerate_next (iM F.slot_enumerate_next ty F.entry_enumerate_next (by
  show wpAny _ _ (field (.ref e) 2 >>= _) _ _ _;refine ai (kc a1 rfl (x:=.ref it) rfl (ai (SI.stop hh st hx λh' y sb ⟨o,ho,hc⟩=>?_)))
  exact ai (Bn (T:="StopIteration") (b:=true) ⟨o,ho,hc⟩ isSubtype_stop (ax (hQ _ sb)))) (F.args_enumerate_next_1 _))))
def Ien(K:ah)(c:Bool)(l:ab):It where
 go:=λi H=>∃vs v,DZ K H c l vs/\vs[i]?=some v
 yld:=λi H x H'=>∃T v,H T=none/\x=.ref T/\H'=upd H T (.aI [.int i,v])/\∀vs,DZ K H c l vs->vs[i]?=some v
 stop:=λi H=>∃vs,DZ K H c l vs/\vs.length<=i
def eTn(e it l:Nat)(c:Bool)(i:Nat)(h:Heap):Prop:=(∃old,IsEnum h e it i old)/\Hc h c it l i
theorem Np{P:bh}{w:aM}{K:ah}{elts:List aj}{x1:Nat}{RA:Pos}{e it l:Nat}{c:Bool}(ord:it<e)(o1:l<it) :
  Turn P w K (.Tuple elts x1 RA) (Ien K c l) [e,it] e (eTn e it l c) where
 mem:=bE
 obj:=by
  rintro i h ⟨⟨_,a1⟩,a2⟩ b hb
  simp only[aZ,dX,dZ]at hb;rcases hb with rfl | rfl
  ·exact⟨_,a1,λv=>by simp⟩
  ·exact a2.obj
 keep:=λi h h' ⟨⟨old,a1⟩,a2⟩ k=>⟨⟨old,k e (by simp) _ a1⟩,a2.at λo x=>k it (by simp) o x⟩
 item:=by
  rintro X hP hw hK hc i ae s σ H E I hf ⟨⟨old,a1⟩,a2⟩ ⟨vs,v,hv,ev⟩
  subst hP hw hK;obtain⟨aQ,r1,k1⟩:=hv.get I;obtain⟨x,ex,rx⟩:=r1.get ev;have dW:i<aQ.toArray.size:=by
   have:=(cM.mp ex).1;simpa using this
  have ne:e≠it:=n5 ord;have nel:e≠l:=n5 (Nat.lt_trans o1 ord);have zm:X.A.in1.handled=none:=I.ok.hd hc;refine wpAny_pyNext_enum_itemD (Jp (xs:=aQ.toArray) (l:=l) zm) a1 (PY a2 k1) dW ne (by simp[ne,nel]) λx' h' tk Py hO st hT P5 kp=>⟨_,rfl,?_⟩
  have xe:x'=x:=by
   have e1:aQ.toArray[i]?=some x:=by simpa using ex
   rw[e1]at Py;cases Py;rfl
  subst xe;refine wpAny_letOwnedTupleGo_enum hO λZi abN sb=>?_
  have big:∀b∈[e,it],b<s.heap.objs.size:=λb hb=>by
   simp only[aZ,dX,dZ]at hb;have h1:e<s.heap.objs.size:=bK a1;rcases hb with rfl | rfl<;>lia
  have eT:e≠s.heap.objs.size:=b9 (big e (by simp))
  have kp2:∀b o,b∉[e,it]->s.heap.get? b=some o->Zi.get? b=some o:=λb o hb z=>by
   simp only[aZ,dX,dZ,not_or]at hb;exact sb.extBut _ _ hb.1 (kp b o hb.1 hb.2 z)
  have I1:Inv X ae σ H {s with heap:=Zi,toks:=tk+1}:=Inv.turns I hf kp2
  have hn:H s.heap.objs.size=none:=I.fresh;have Zj:=I.Ib (H':=H) (aR _) hn;have pr:Zi.get? s.heap.objs.size=some {cls:=.type "tuple",data:=.seq #[.int i tk,x']}:=sb.extBut _ _ (dF eT) hT
  have I2:=Inv.adopt (D:=s.heap.objs.size) (o:=.aI [.int i,v]) I1 hn (by
    rcases Zj.2.2.2.1 with q | q
    ·exact I.sz
    ·exact q) Zj.2.1 Zj.2.2.2.2.1 Zj.2.2.2.2.2 ⟨(by show 2<=sizeLine;decide),[.int i tk,x'],.cons ⟨tk,rfl⟩ (.cons rx .nil),⟨_,pr,rfl,0,rfl⟩⟩
  refine⟨.ref s.heap.objs.size,_,I2,rfl,⟨s.heap.objs.size,v,hn,rfl,rfl,λRV h1=>?_⟩,⟨⟨_,abN⟩,?_⟩,λb hb=>?_⟩
  ·rw[<-DZ.inj I hv h1];exact ev
  ·have nli:l≠it:=b9 o1;have q:=Nm (k':=i) st k1 λo z=>kp l o (dF nel) nli z
   exact q.at λo z=>sb.extBut _ _ (dF ne) z
  ·rw[upd_ne (b9 (big b hb))];exact(hf b hb).1
 done:=by
  rintro X hP hw hK hc i ae s σ H E I hf ⟨⟨old,a1⟩,a2⟩ ⟨vs,hv,he⟩
  subst hP hw hK;obtain⟨aQ,r1,k1⟩:=hv.get I;have hz:aQ.toArray[i]?=none:=A5 (by rw[bz,<-r1.length];exact he)
  refine Nn (I.ok.hd hc) a1 (PY a2 k1) hz λh' sb=>⟨rfl,?_⟩
  exact Inv.turns (t':=s.toks) I hf λb o hb z=>by
   simp only[aZ,dX,dZ,not_or]at hb;exact sb b o hb.2 z
 self:=λA i s Q E ⟨⟨_,a1⟩,_⟩ q=>wpAny_pyIter_enum a1 q
def fg:Nat->av->av
 | _,[]=>[]
 | k,p::r=>Jn (.int k) p::fg (k+1) r
theorem oy:∀(ps:av) (k i:Nat),(fg k ps)[i]?=ps[i]?.map λp=>Jn (.int ((k+i:Nat):Int)) p
 | [],k,i=>by simp[fg]
 | p::r,k,0=>by simp[fg]
 | p::r,k,i+1=>by
  simp only[fg,vN];rw[oy r (k+1) i,show k+1+i=k+(i+1) by lia]
def iA(fa:FE):bG:=λρ=>(fa ρ).bind λp=>(Jm p).map λps=>fg 0 ps
theorem Nq{K:ah}{F:Hp}{c:Bool}{l:ab}{ps:av}{vs:List V}(k1:∀F',Same F F'->DZ K F' c l vs)(b1:aP K F ps vs):IT K (Ien K c l) F (fg 0 ps):=by
 intro H₀ aa F' ρ σ H R s i;have h1:=k1 H (s.trans R.sub);refine⟨λp e=>?_,λe=>?_⟩
 ·rw[oy]at e;cases z1:ps[i]? with
  | none=>rw[z1]at e;cases e
  | some p1 =>
   rw[z1]at e;cases e;obtain⟨v,e1,c1'⟩:=b1.get z1;refine⟨⟨vs,v,h1,e1⟩,λx H' ⟨T,v',hn,hx,hH,hall⟩=>?_⟩
   have g1:=hall vs h1;rw[e1]at g1;cases g1;subst hx hH;obtain⟨R2,s2⟩:=R.laid (.aI [.int i,v]) hn;refine⟨_,R2,s2,bF.mpr ⟨T,[.int i,v],rfl,gO.of az,.cons ?_ (.cons (c1'.mono (s.trans s2)) .nil)⟩⟩;rw[gn];exact aG.mpr rfl
 ·refine⟨vs,h1,?_⟩;rw[oy]at e;cases z1:ps[i]? with
  | none =>
   have:=qz.mp z1;rw[b1.length]at this;exact this
  | some p1=>rw[z1]at e;cases e
section
variable {X:Cx} {H₀ aa:Hp} {a tg:aj} {fa:FE} {pos p:Pos}
theorem abO(ht:PZ tg=true)(hg:Gl X "enumerate")(hm:X.mg "enumerate"=none)(ha:PE X a (tE X.K H₀ aa fa))(hs:starEach [a] X.env=[(false,eval a X.env)]) :
  PI X tg (.Call (.Name "enumerate" p) [a] [] pos) (tI X.K H₀ aa (iA fa)):=by
 rintro ae s σ H R I ⟨F,ρ,zs,Rp,hf,q⟩;obtain⟨pa,f1,hf⟩:=ao hf;cases f3:Jm pa with
 | none=>rw[f3]at hf;cases hf
 | some ps =>
  rw[f3]at hf;cases hf;have hA:=cL ha gZ hs pos ae s σ H (λvs H'=>∃F' x,vs=[x]/\cw X.K H₀ aa F' ρ σ H'/\Same F F'/\cx X.K F' pa x) I
   ⟨F,ρ,pa,Rp,f1,λv H1 F1 R1 s1 b1=>⟨F1,v,rfl,R1,s1,b1⟩⟩
  refine Call_ (ld_blt I hg hm boot_enumerate (j1 (thn hA λus s1 ⟨vs,H1,I1,r1,F1,x,ev,R1,UN,b1⟩=>?_) hs rfl))
  subst ev;obtain⟨u1,rfl,Wv⟩:=i4 r1;obtain⟨c1,l1,vs1,rfl,q1,bl1,k1⟩:=Jo f3 b1;cases Wv;obtain⟨aQ,v1,kk1⟩:=(k1 H1 R1.sub).get I1;obtain⟨part,P6⟩:∃o,s1.heap.get? l1=some o:=by
   rcases kk1 with⟨_,⟨o,e,_⟩⟩ | ⟨_,⟨o,e,_⟩⟩
   ·exact⟨o,e⟩
   ·exact⟨o,e⟩
  have lt1:l1<s1.heap.objs.size:=bK P6;refine callType_new PySem.F.called_enumerate (by decide) (PySem.F.typeCall_enumerate_1 _) (PySem.F.newCall_enumerate_1 _) (λobj=>PySem.F.args_object_init_2 obj _) PySem.F.entry_enumerate_new (Jq l1 aQ.toArray (FN c1) part) ⟨kk1,P6,λh1 h2 e1 e2=>?_⟩
  have z1:h1.objs.size=s1.heap.objs.size+1:=by rw[e1];exact gX ..
  have p1:∀b o,s1.heap.get? b=some o->h1.get? b=some o:=λb o e=>by rw[e1];exact bR _ e
  have p2:∀b o,h1.get? b=some o->h2.get? b=some o:=λb o e=>by rw[e2];exact bR _ e
  have g2:IsEnum h2 h1.objs.size s1.heap.objs.size 0 .none:=by rw[e2];exact cW _ rfl
  have g1:h2.get? s1.heap.objs.size=some {cls:=.type (FN c1),data:=.fields #[.ref l1,.int 0 0]}:=p2 _ _ (by rw[e1];exact cW _ rfl)
  have itc:Hc h2 c1 s1.heap.objs.size l1 0:=by
   cases c1 with
   | true=>exact(show h2.IsListIter s1.heap.objs.size l1 0 from⟨_,g1,rfl,rfl⟩)
   | false=>exact(show h2.IsTupleIter s1.heap.objs.size l1 0 from⟨_,g1,rfl,rfl⟩)
  have I2:Inv X ae σ H1 {s1 with heap:=h2,toks:=s1.toks}:=I1.kept λb o e=>p2 _ _ (p1 _ _ e)
  have AK:∀b,s1.heap.objs.size<=b->H1 b=none:=λb hb=>I1.hok.fresh hb
  refine⟨⟨_,g2,rfl⟩,?_⟩;show wpAny _ _ (pyIter (.ref h1.objs.size)) _ _ {s1 with heap:=h2,toks:=s1.toks}
  refine wpAny_pyIter_enum g2 ?_;cases tg with
  | Tuple elts x1 RA =>
   refine⟨h1.objs.size,[h1.objs.size,s1.heap.objs.size],_,_,H1,rfl,I2,Np (it:=s1.heap.objs.size) (l:=l1) (c:=c1) (by lia) lt1,⟨⟨_,g2⟩,itc⟩,λb hb=>?_,q _ H1 F1 R1 UN (Nq k1 bl1)⟩
   simp only[aZ,dX,dZ]at hb;have RT:s1.heap.objs.size<=b:=by rcases hb with rfl | rfl<;>lia
   exact I1.Ib (H':=H1) RT (AK b RT)
  | _=>cases ht
end
theorem D3{P:bh}{w:aM}{K:ah}{mg:cZ}{base:Heap}{x qual:Str}{st:ay}{f:ab}{fd:dk}{N ps:List Str}{k:Nat}{sp:Sp}(F:AJ K x qual st f fd)(S:de N ps (aF st))(len:∀vs H Q E,sp vs H Q E->vs.length=ps.length)
  (hbody:∀(cU:ag) (A:bA) (outer:List Env) (s:au) (H:Hp) (vs:List V) (Q:VK) (E:XK),dg k (A.deeper (envOfC qual (aF st) s.heap.objs.size f cU))->sp vs H Q E ->
   ∃t,PSs (ju (ji P w) P w K mg base N qual (aF st) f cU A outer s H E) (bH st) t/\t {nx:=λ_ H'=>Q .cE H',rt:=Q} (start N vs) H):FnOk P w K mg base (ji P w) (k+1) f fd ps sp:=by
 obtain⟨oc,od,kV,doc,pm,an,cU,ct,tZ,rfl,lk,uC⟩:=F.ex;exact Pq lk uC S len λA outer s H vs Q E hr lz=>hbody cU A outer s H vs Q E hr lz
def Nr(mg:cZ)(D:Str)(dv:ag):Prop:=mg D=some dv\/(mg D=none/\bootBuiltins D=some dv/\D≠"__name__")
def Jr(K:ah)(mg:cZ)(C D:Str)(b:Bool):Prop:=∃cls dv,ClsAt K C cls/\Nr mg D dv/\((∃Da,dv=.ref Da)\/∃T,dv=.type T)/\W.exmOne K cls dv=some b/\W.kitOne K cls dv=some b
def u9(K:ah)(mg:cZ)(P:Params)(T:Str)(rows:List (Str×Str)):Prop :=
 ∃a es n,mg T=some (.ref a)/\K.lookup a=some ⟨.type "dict",none,.dict es n,#[]⟩/\W.KeysLit P es.toList/\∀k fn,rows.lookup k=some fn->∃f,W.nsIn K a k=some (some (.ref f))/\mg fn=some (.ref f)/\W.nsIn K mainGlobals fn=some (some (.ref f))
section
variable {X:Cx} {H₀ aa:Hp} {e ke:aj} {es:List aj} {fk:FE} {ts:bG} {pos p sp:Pos}
def abQ(K:ah)(a:ab):R2:=λx y H Q=>∃k f,x=.ref a/\y=.str k/\W.nsIn K a k=some (some (.ref f))/\Q (.ref f) H
theorem Cd{a:ab}{es:Array DictEntry}{n:Nat}(hl:X.K.lookup a=some ⟨.type "dict",none,.dict es n,#[]⟩)(hk:W.KeysLit X.w.params es.toList):MK X (abQ X.K a):=by
 rintro value slice ae s σ H x y v u Q I rx ry ⟨k,f,ex,ey,e,q⟩ hs;subst ex ey;cases rx;obtain⟨t,rfl⟩:=ry;have hm:=W.mapOf_K (prog:=X.prog) I.oW hl hk;exact tail_any hm.typeIs slot_dict_getitem.lookup (Bm (strKind_is X.prog X.w k t) hm (W.find_K hl e) ⟨.ref f,H,I.tok _,rfl,q⟩) hs
theorem m6(v k:aj)(sp:Pos)(args:List aj)(pos:Pos)(env:Env):eval (.Call (.Subscript v k sp) args [] pos) env=(do callWith pos (<-eval (.Subscript v k sp) env) [] (backTo pos (starEach args env)) (backToKw pos (keywordEach [] env))):=rfl
def Sx(rows:List (Str×Str))(fns:List (Str×Nat))(call:fZ)(ts:bG)(ρ:aC):PV->bQ
 | .str k=>(rows.lookup k).bind λfn=>(fns.lookup fn).bind λm=>aK (aX m (call fn)) ts ρ
 | _=>none
def FP(rows:List (Str×Str))(fns:List (Str×Nat))(call:fZ)(fk:FE)(ts:bG):FE:=λρ=>(fk ρ).bind (Sx rows fns call ts ρ)
theorem Ww{T:Str}{rows:List (Str×Str)}{fns:List (Str×Nat)}{call:fZ}(ht:u9 X.K X.mg X.w.params T rows)
  (Mm:∀x n,fns.lookup x=some n->∃k f fd ps,FnOk X.prog X.w X.K X.mg X.base (ji X.prog X.w) k f fd ps (zc X.K n (call x))/\dg k X.A/\X.mg x=some (.ref f)/\W.keepIn X.K (.ref f)=true/\dS X.K fd ps [])
  (hg:Gl X T) (hk:PE X ke (tE X.K H₀ aa fk)) (hs:gS ke) (ha:PA X (e::es) (tA X.K H₀ aa ts)) (pM:(T==("__debug__":Str))=false) (he:starEach (e::es) X.env=(false,eval e X.env)::starEach es X.env) (jt:(backTo pos (starEach es X.env)).any (·.1)=false) :
  PE X (.Call (.Subscript (.Name T p) ke sp) (e::es) [] pos) (tE X.K H₀ aa (FP rows fns call fk ts)):=by
 rintro ae s σ H Q I ⟨F,ρ,pr,R,hf,q⟩;obtain⟨pk,h1,h2⟩:=ao hf;cases pk with
 | str k =>
  obtain⟨fn,h3,h2⟩:=ao (show(rows.lookup k).bind (λfn=>(fns.lookup fn).bind λm=>aK (aX m (call fn)) ts ρ)=some pr from h2)
  obtain⟨m,h4,h2⟩:=ao h2;obtain⟨a,AL,n,t1,t2,t3,t4⟩:=ht;obtain⟨f,n1,n2,_⟩:=t4 k fn h3;obtain⟨j,f',fd,ps,G,hr,m1,m2,m3⟩:=Mm fn m h4;have:=bo (n2.symm.trans m1);cases this;rw[m6];refine ai (thn (o7 (Cd t2 t3) (mH (v:=.ref a) hg t1 rfl pM) hk hs ae s σ H (λv H1=>v=.ref f/\∃F1,cw X.K H₀ aa F1 ρ σ H1/\Same F F1) I ?_) λu s1 ⟨x,H1,I1,rx,ex,F1,R1,Wx⟩=>?_)
  ·exact⟨F,ρ,_,R,h1,λv H1 F1 R1 s1 b1=>⟨k,f,rfl,cb.mp b1,n1,rfl,F1,R1,s1⟩⟩
  ·subst ex;cases rx;refine W.callWith_K (h₀:=X.base) I.ok.mod.kin m2 (thn (ha pos ae s1 σ H1 _ I1 (ro (n:=m) (g:=call fn) (E:=E0) (Q:=Q) ⟨F1,ρ,pr,R1,h2,λv H2 F2 R2 s2 b2=>q v H2 F2 R2 (Wx.trans s2) b2⟩)) λus s2 ⟨vs,H2,I2,r,q2⟩=>⟨I2.oW,?_⟩) he jt
   exact wB G hr m3 .nil jP I2 r q2
 | _=>cases h2
end
section
variable {X:Cx} {H₀ aa:Hp} {a b e:aj} {es:List aj} {fa fb:FE} {ts:bG} {pos p:Pos} {k n:Nat} {f:ab} {fd:dk} {ps:List Str} {x:Str} {g:av->cg}
def Wy(K:ah)(H₀ aa F:Hp)(ρ:aC)(σ:St)(Q:VK):Ent->Prop
 | .val p=>∀v H' F',cw K H₀ aa F' ρ σ H'->Same F F'->cx K F' p v->Q v H'
 | .own ps=>∀a vs H1 F',cw K H₀ aa F' ρ σ H1->Same F F'->aP K F' ps vs->H1 a=none->Q (.ref a) (upd H1 a (.aA vs))
 | _=>False
def tR(K:ah)(H₀ aa:Hp)(f:aC->cg):TE:=λσ H Q=>∃F ρ e,cw K H₀ aa F ρ σ H/\f ρ=some e/\Wy K H₀ aa F ρ σ Q e
def Ce(f:FE):aC->cg:=λρ=>(f ρ).map .val
theorem Wz(h:PE X e (tE X.K H₀ aa fa)):PE X e (tR X.K H₀ aa (Ce fa)):=h.imp <| by
 rintro σ H Q ⟨F,ρ,en,R,hf,q⟩
 cases z:fa ρ with
 | none=>unfold Ce at hf;rw[z]at hf;cases hf
 | some p =>
  unfold Ce at hf;rw[z]at hf;cases hf;exact⟨F,ρ,p,R,z,q⟩
def zo(g:av->cg)(ts:bG):aC->cg:=λρ=>(ts ρ).bind g
theorem FQ{σ:St}{H:Hp}{Q:VK}{E:XK}{K:ah}(h:tR K H₀ aa (zo (aX n g) ts) σ H Q):uL (zc K n g) [] E (tA K H₀ aa ts) σ H Q:=by
 obtain⟨F,ρ,en,R,hf,q⟩:=h;obtain⟨as,h1,h2⟩:=ao hf;cases en with
 | un=>exact q.elim
 | ex C=>exact q.elim
 | ob _=>exact q.elim
 | cq _=>exact q.elim
 | val p=>exact ro ⟨F,ρ,p,R,by unfold aK;rw[h1];show(aX n g as).bind l0=_;rw[h2];rfl,q⟩
 | own ps=>exact Fx ⟨F,ρ,ps,R,by unfold kq;rw[h1];show(aX n g as).bind MW=_;rw[h2];rfl,q⟩
theorem Sy(F:FnOk X.prog X.w X.K X.mg X.base (ji X.prog X.w) k f fd ps (zc X.K n g))(hr:dg k X.A)(hg:Gl X x)(hm:X.mg x=some (.ref f))(hk:W.keepIn X.K (.ref f)=true)(hb:dS X.K fd ps [])
  (ha:PA X (e::es) (tA X.K H₀ aa ts)) (pM:(x==("__debug__":Str))=false:=by decide) (he:starEach (e::es) X.env=(false,eval e X.env)::starEach es X.env:=by rfl) (jt:(backTo pos (starEach es X.env)).any (·.1)=false:=by rfl) :
  PE X (.Call (.Name x p) (e::es) [] pos) (tR X.K H₀ aa (zo (aX n g) ts)):=(kU F hr hg hm hk hb .nil jP ha pM he jt).imp λ_ _ _ h=>FQ h
def FU:PV->PV->cg
 | .aA xs,.aA ys=>if xs.length+ys.length<=f6 then some (.own (xs++ys))else none
 | x,y=>(cI x y).map .val
def Nt(fa fb:FE):aC->cg:=λρ=>(fa ρ).bind λx=>(fb ρ).bind λy=>FU x y
def WA(K:ah):R2:=λx y H Q=>∃H₀ aa F ρ τ pa pb en,FU pa pb=some en/\cw K H₀ aa F ρ τ H/\cx K F pa x/\cx K F pb y/\Wy K H₀ aa F ρ τ Q en
theorem zq{pa pb:PV}{en:Ent}(h:FU pa pb=some en):(∃xs ys,pa=.aA xs/\pb=.aA ys/\xs.length+ys.length<=f6/\en=.own (xs++ys))\/∃p,cI pa pb=some p/\en=.val p:=by
 unfold FU at h;split at h
 ·obtain⟨h1,h2⟩:=aB h;exact .inl ⟨_,_,rfl,rfl,h1,h2.symm⟩
 ·cases z:cI pa pb with
  | none=>rw[z]at h;cases h
  | some p=>rw[z]at h;cases h;exact .inr ⟨p,rfl,rfl⟩
theorem Nu:OpR X (binaryOp .Add) (WA X.K):=by
 rintro ae s σ H x y v u Q I rx ry ⟨H₀,aa,F,ρ,τ,pa,pb,en,e,R,ba,bb,k⟩;rcases zq e with⟨xs,ys,rfl,rfl,hz,rfl⟩ | ⟨p,hp,rfl⟩
 ·obtain⟨a,vs,rfl,ha,f7⟩:=aV.mp ba;obtain⟨b,ws,rfl,hb,L5⟩:=aV.mp bb;cases rx;cases ry;obtain⟨aQ,n,r,e1,z1⟩:=I.rn (bN R.sub ha);obtain⟨ip,n2,r2,e2,z2⟩:=I.rn (bN R.sub hb);have hl:=r.length;have Sf:=r2.length;have hz':vs.length+ws.length<=sizeLine:=by rw[<-f7.length,<-L5.length];exact ee hz
  refine PySem.P.add_list e1 e2 ?_ (by rw[bz,bz];lia)
  have ea:aQ.toArray++ip.toArray=(aQ++ip).toArray:=by simp
  rw[ea];exact⟨.ref _,_,I.VO (t':=s.toks) (r.append r2) (by rw[bY];lia),rfl,k _ _ _ _ R (Same.refl F) (f7.append L5) I.fresh⟩
 ·exact wV ae s σ H x y v u Q I rx ry ⟨H₀,aa,F,ρ,τ,pa,pb,p,hp,R,ba,bb,k⟩
theorem WB(ha:PE X a (tE X.K H₀ aa fa))(hb:PE X b (tE X.K H₀ aa fb)):PE X (.BinOp a .Add b pos) (tR X.K H₀ aa (Nt fa fb)):=(Pl Nu ha hb).imp <| by
 rintro σ H Q ⟨F,ρ,en,R,hf,q⟩
 obtain⟨x,h1,hf⟩:=ao hf;obtain⟨y,h2,hf⟩:=ao hf;refine⟨F,ρ,x,R,h1,λv H1 F1 R1 s1 b1=>⟨F1,ρ,y,R1,h2,λw H2 F2 R2 s2 b2=>⟨H₀,aa,F2,ρ,σ,x,y,en,hf,R2,b1.mono s2,b2,?_⟩⟩⟩
 cases en with
 | un=>exact q.elim
 | ex C=>exact q.elim
 | ob _=>exact q.elim
 | cq _=>exact q.elim
 | val p=>exact λv H' F' R' s' b'=>q v H' F' R' (s1.trans (s2.trans s')) b'
 | own ps=>exact λa vs H' F' R' s' b' hn=>q a vs H' F' R' (s1.trans (s2.trans s')) b' hn
def Js(i:Nat)(f:aC->cg):FS:=λρ=>(f ρ).bind λe=>if i<ρ.length then some (.nx (ρ.set i e))else none
theorem Jt{i:Nat}{f:aC->cg}{t:TE}{D:jS}{σ:St}{H:Hp}(hv:∀ρ e,f ρ=some e->(∃p,e=.val p)\/∃ps,e=.own ps)(ht:∀σ H Q,tR X.K H₀ aa f σ H Q->t σ H Q)(h:tS X H₀ aa (Js i f) D σ H):lh t (gName i) D σ H:=by
 obtain⟨F,ρ,o,R,hf,q⟩:=h;obtain⟨en,h1,h2⟩:=ao hf;obtain⟨hi,rfl⟩:=aB h2;refine ht _ _ _ ⟨F,ρ,en,R,h1,?_⟩;rcases hv ρ en h1 with⟨p,rfl⟩ | ⟨ps,rfl⟩
 ·exact λv H1 F1 R1 s1 b1=>q F1 _ _ (R1.set hi b1) s1
 ·exact λa vs H1 F1 R1 s1 b1 hn=>q F1 _ _ (R1.IY hi hn b1) s1
theorem Nv(f:FE)(ρ:aC)(e:Ent)(h:Ce f ρ=some e):(∃p,e=.val p)\/∃ps,e=.own ps:=by
 unfold Ce at h;cases z:f ρ with
 | none=>rw[z]at h;cases h
 | some p=>rw[z]at h;cases h;exact .inl ⟨p,rfl⟩
theorem Nx(fa fb:FE)(ρ:aC)(e:Ent)(h:Nt fa fb ρ=some e):(∃p,e=.val p)\/∃ps,e=.own ps:=by
 obtain⟨x,h1,h⟩:=ao h;obtain⟨y,h2,h⟩:=ao h;rcases zq h with⟨xs,ys,_,_,_,rfl⟩ | ⟨p,_,rfl⟩
 ·exact .inr ⟨_,rfl⟩
 ·exact .inl ⟨_,rfl⟩
def zr:Ent->cg
 | .val p=>some (.val p)
 | .own ps=>some (.own ps)
 | _=>none
def rM(g:av->cg)(ts:bG):aC->cg:=λρ=>(ts ρ).bind λas=>(g as).bind zr
theorem vb{e e':Ent}(h:zr e=some e'):e'=e/\((∃p,e=.val p)\/∃ps,e=.own ps):=by
 unfold zr at h;split at h
 ·cases h;exact⟨rfl,.inl ⟨_,rfl⟩⟩
 ·cases h;exact⟨rfl,.inr ⟨_,rfl⟩⟩
 ·cases h
theorem Ju(g:av->cg)(ts:bG)(ρ:aC)(e:Ent)(h:rM g ts ρ=some e):(∃p,e=.val p)\/∃ps,e=.own ps:=by
 obtain⟨as,h1,h⟩:=ao h;obtain⟨en,h2,h⟩:=ao h;obtain⟨rfl,h3⟩:=vb h;exact h3
theorem Ny{g:av->cg}{ts:bG}{ρ:aC}{e:Ent}(h:rM g ts ρ=some e):zo g ts ρ=some e:=by
 obtain⟨as,h1,h⟩:=ao h;obtain⟨en,h2,h⟩:=ao h;obtain⟨rfl,h3⟩:=vb h;unfold zo;rw[h1];exact h2
theorem Nz{e:aj}{g:av->cg}{ts:bG}(h:PE X e (tR X.K H₀ aa (zo g ts))):PE X e (tR X.K H₀ aa (rM g ts)):=h.imp λσ H Q ⟨F,ρ,en,R,hf,q⟩=>⟨F,ρ,en,R,Ny hf,q⟩
end
def Jv:av->bQ
 | [.int i]=>if 0<=i/\i<1000 then some (.str (toString i))else none
 | _=>none
theorem FV{X:Cx}:B7 X (.type "str") Jv:=by
 rintro ae s σ H xs us Q I rs ⟨H₀,aa,F,ρ,τ,ps,p,e,R,bs,k⟩;unfold Jv at e;split at e
 ·rename_i i;obtain⟨⟨h0,h1⟩,rfl⟩:=aB e;obtain⟨v,rfl,b⟩:=dQ bs;rw[aG.mp b]at rs;have hz:i.natAbs.log2<1920:=by
   by_cases h:i.natAbs=0
   ·rw[h];decide
   ·exact j6 (Nat.log2_le_self _) (by lia)
  exact wA ae s σ H _ us Q I rs ⟨i,rfl,hz,k _ H F R (Same.refl F) (cb.mpr rfl)⟩
 ·cases e
def FW(w:bQ):PV->bQ
 | .bl b=>if b=true then some (.bl true)else w
 | .aA ps=>if ps.isEmpty=true then w else some (.aA ps)
 | .aI ps=>if ps.isEmpty=true then w else some (.aI ps)
 | _=>none
def WC(fa fb:FE):FE:=λρ=>(fa ρ).bind (FW (fb ρ))
theorem Jw{K:ah}{w:bQ}{x p:PV}{F H:Hp}{v:V}(h:FW w x=some p)(b:cx K F x v)(s:Same F H):∃k,VA K v H k/\(if k=true then p=x else w=some p):=by
 cases x with
 | bl c =>
  rw[bU.mp b];refine⟨c,rfl,?_⟩;cases c with
  | true=>exact(bo h).symm
  | false=>exact h
 | aA ps =>
  obtain⟨a,vs,rfl,h1,h2⟩:=aV.mp b;refine⟨!vs.isEmpty,.inl ⟨vs,(bN s h1).sq,rfl⟩,?_⟩;cases ps with
  | nil=>rw[h2.bX];exact h
  | cons q r =>
   obtain⟨v0,vr,rfl,_,_⟩:=h2.b6;exact(bo h).symm
 | aI ps =>
  obtain⟨a,vs,rfl,h1,h2⟩:=bF.mp b;refine⟨!vs.isEmpty,.inr (.inl ⟨vs,aU s h1,rfl⟩),?_⟩;cases ps with
  | nil=>rw[h2.bX];exact h
  | cons q r =>
   obtain⟨v0,vr,rfl,_,_⟩:=h2.b6;exact(bo h).symm
 | _=>cases h
theorem WD{X:Cx}{H₀ aa:Hp}{a b:aj}{rest:List aj}{fa fb:FE}{pos:Pos}(ha:PE X a (tE X.K H₀ aa fa))(hb:PE X (.BoolOp .Or (b::rest) pos) (tE X.K H₀ aa fb)):PE X (.BoolOp .Or (a::b::rest) pos) (tE X.K H₀ aa (WC fa fb)):=by
 rintro ae s σ H Q I ⟨F,ρ,p,R,hf,q⟩;obtain⟨x,h1,h2⟩:=ao hf;refine BoolOp_or (thn (ha ae s σ H (λv H1=>∃F1,cw X.K H₀ aa F1 ρ σ H1/\Same F F1/\cx X.K F1 x v) I ⟨F,ρ,x,R,h1,λv H1 F1 R1 s1 b1=>⟨F1,R1,s1,b1⟩⟩) λv s1 ⟨xv,H1,I1,r1,F1,R1,m1,b1⟩=>?_)
 obtain⟨k,ht,hk⟩:=Jw h2 b1 R1.sub;refine thn (Rx ae s1 σ H1 xv v (λk' H'=>k'=k/\H'=H1) I1 r1 ⟨k,ht,rfl,rfl⟩) λc s2 ⟨H2,I2,ec,eh⟩=>?_
 subst ec eh;cases c with
 | false=>exact hb ae s2 σ H2 Q I2 ⟨F1,ρ,p,R1,hk,λv' H3 F3 R3 s3 b3=>q v' H3 F3 R3 (m1.trans s3) b3⟩
 | true =>
  have hk:p=x:=hk;subst hk;exact⟨xv,H2,I2,r1,q xv H2 F1 R1 m1 b1⟩
section
variable {X:Cx} {H₀ aa:Hp} {a b:aj} {fa fb:FE} {pos p rN zp:Pos}
theorem zt{e:aj}{X:Cx}(h:starEach [e] X.env=(false,eval e X.env)::starEach [] X.env){pos:Pos}{Q:bW->au->Prop}{E:cm}{s:au}{M:Model}{A:bA}(hq:wpAny M A (eval e X.env) (λv s1=>Q [v] s1) E s):wpAny M A (spliced (backTo pos (starEach [e] X.env))) Q E s:=by
 rw[h];show wpAny _ _ (spliced ((false,eval e X.env)::backTo pos (starEach [] X.env))) _ _ s;exact Calls.spliced_cons (thn hq λv s1 q=>Calls.spliced_nil q)
end
def insI(x:Int):List Int->List Int
 | []=>[x]
 | y::r=>if x<=y then x::y::r else y::insI x r
def gh:List Int->List Int
 | []=>[]
 | x::r=>insI x (gh r)
theorem oz(x:Int):∀l:List Int,(insI x l).Perm (x::l)
 | []=>.refl _
 | y::r=>by
  unfold insI;split
  ·exact .refl _
  ·exact((oz x r).cons y).trans (.swap x y r)
theorem gr:∀l:List Int,(gh l).Perm l
 | []=>.refl _
 | x::r=>(oz x (gh r)).trans ((gr r).cons x)
theorem D4(x:Int):∀l:List Int,l.Pairwise (· <= ·)->(insI x l).Pairwise (· <= ·)
 | [],_=>List.pairwise_singleton _ _
 | y::r,h=>by
  obtain⟨h1,h2⟩:=Bb.mp h;unfold insI;split
  ·rename_i hx;refine Bb.mpr ⟨λz hz=>?_,h⟩
   rcases aZ.mp hz with rfl | hz
   ·exact hx
   ·exact Int.le_trans hx (h1 z hz)
  ·rename_i hx;refine Bb.mpr ⟨λz hz=>?_,D4 x r h2⟩
   rcases aZ.mp ((oz x r).mem_iff.mp hz)with rfl | hz
   ·lia
   ·exact h1 z hz
theorem rO:∀l:List Int,(gh l).Pairwise (· <= ·)
 | []=>.nil
 | x::r=>D4 x _ (rO r)
def D5:av->bQ
 | [.aA ps]=>(gM ps).bind λns=>if ns.length<64 then some (.aA ((gh ns).map .int))else none
 | _=>none
theorem rP:∀{us:bW} {ns:List Int},IntsAre us ns->Vals (ns.map V.int) us:=by
 intro us ns h;induction h with
 | nil=>exact .nil
 | cons a t _ ih=>exact .cons ⟨t,rfl⟩ ih
theorem kX{K:ah}{F:Hp}:∀ns:List Int,aP K F (ns.map .int) (ns.map V.int)
 | []=>.nil
 | n::r=>.cons (aG.mpr rfl) (kX r)
theorem Cf{X:Cx}:B7 X (.builtin "sorted") D5:=by
 rintro ae s σ H xs us Q I rs ⟨H₀,aa,F,ρ,τ,ps,p,e,R,bs,k⟩;unfold D5 at e;split at e
 ·rename_i ps;obtain⟨ns,z,e⟩:=ao e;obtain⟨h64,rfl⟩:=aB e;obtain⟨v,rfl,b⟩:=dQ bs;obtain⟨a,vs,rfl,ha,f7⟩:=aV.mp b;obtain⟨aQ,r,pl,_⟩:=I.list (bN R.sub ha).sq;have ev:=m5 z f7;subst ev;have hi:=lZ r;have cD:aQ.length=ns.length:=by rw[<-r.length,aH]
  obtain⟨u,rfl,ru⟩:=i4 rs;cases ru;refine sorted_ints pl.isList hi (by lia) λout NA hI hp hu=>?_
  have e1:NA=gh ns:=W.ksm_same (hp.trans (gr ns).symm) hu (rO ns);subst e1;obtain⟨ep,rQ⟩:=sortedAll_at s.heap aQ out;have hz:H (s.heap.objs.size+1)=none:=I.hok.fresh (n6 _);obtain⟨R2,s2⟩:=R.laid (.aA ((gh ns).map V.int)) hz;refine⟨.ref (s.heap.objs.size+1),upd H (s.heap.objs.size+1) (.aA ((gh ns).map V.int)),I.laid (t':=s.toks) (λb u e=>sortedAll_old e) (n6 _) ⟨?_,out.toList,ep,rP hI,rQ⟩,rfl,k _ _ _ R2 s2 (aV.mpr ⟨_,_,rfl,nJ.of az,kX _⟩)⟩
  rw[aH,(gr ns).length_eq];exact b0 (iP h64) (by decide)
 ·cases e
section
variable {X:Cx} {H₀ aa:Hp} {e:aj} {lo hi:Option aj} {fa:FE} {fl fh:FO} {pos p2:Pos}
def Sz:PV->Option av
 | .aA xs=>some xs
 | _=>none
def NB(fa:FE)(fl fh:FO):aC->cg:=λρ=>(fa ρ).bind λp=>(fl ρ).bind λl=>(fh ρ).bind λh=>(Sz p).map λxs=>.own (jW xs l h)
theorem WE(ha:PE X e (tE X.K H₀ aa fa))(hl:PO X lo (zl X.K H₀ aa fl))(hh:PO X hi (zl X.K H₀ aa fh)):PE X (.Subscript e (.Slice lo hi none p2) pos) (tR X.K H₀ aa (NB fa fl fh)):=(yW DF ha hl hh).imp <| by
 rintro σ H Q ⟨F,ρ,en,R,hf,q⟩
 obtain⟨pa,h1,hf⟩:=ao hf;obtain⟨l,h2,hf⟩:=ao hf;obtain⟨h,h3,h4⟩:=ao hf;cases pa with
 | aA xs =>
  cases h4;refine⟨F,ρ,_,R,h1,λv H1 F1 R1 s1 b1=>⟨F1,ρ,l,R1,h2,λH2 F2 R2 s2=>⟨F2,ρ,h,R2,h3,λH3 F3 R3 s3=>?_⟩⟩⟩
  obtain⟨a,vs,rfl,ha,f7⟩:=aV.mp (b1.mono (s2.trans s3));exact⟨a,vs,rfl,(bN R3.sub ha).sq,λq' hq=>q q' _ H3 F3 R3 (s1.trans (s2.trans s3)) (f7.cut l h) hq⟩
 | _=>cases h4
theorem NC(fa:FE)(fl fh:FO)(ρ:aC)(e:Ent)(h:NB fa fl fh ρ=some e):(∃p,e=.val p)\/∃ps,e=.own ps:=by
 obtain⟨pa,h1,hf⟩:=ao h;obtain⟨l,h2,hf⟩:=ao hf;obtain⟨k,h3,h4⟩:=ao hf;cases pa with
 | aA xs=>cases h4;exact .inr ⟨_,rfl⟩
 | _=>cases h4
end
theorem WG{α β:Type}{o:Option α}{f:α->β}{b:β}(h:o.map f=some b):∃a,o=some a/\f a=b:=by
 cases o with
 | none=>cases h
 | some a=>exact⟨a,rfl,bo h⟩
section
variable {X:Cx} {H₀ aa:Hp} {e:aj} {fa:FE} {pos p:Pos} {x:Str}
def WH:PV->Option av
 | .aA xs=>some xs
 | .aI xs=>some xs
 | _=>none
def SA(fa:FE):aC->cg:=λρ=>(fa ρ).bind λp=>(WH p).map λxs=>.own xs
theorem WI(hg:Gl X "list")(hm:X.mg "list"=none)(ha:PE X e (tE X.K H₀ aa fa))(he:starEach [e] X.env=(false,eval e X.env)::starEach [] X.env):PE X (.Call (.Name "list" p) [e] [] pos) (tR X.K H₀ aa (SA fa)) :=
 (i6 (T:="list") jw hg hm (jz .list) (om ha uW he) (by decide) (by decide) he rfl).imp <| by
  rintro σ H Q ⟨F,ρ,en,R,hf,q⟩
  obtain⟨pa,h1,hf⟩:=ao hf;refine⟨F,ρ,[pa],R,?_,λvs H1 F1 R1 s1 b1=>?_⟩
  ·show(fa ρ).bind _=_;rw[h1];rfl
  ·obtain⟨w,rfl,bw⟩:=dQ b1;cases pa with
   | aA xs =>
    cases hf;obtain⟨a,us,rfl,ha,f7⟩:=aV.mp bw;exact⟨a,us,rfl,.inl (bN R1.sub ha).sq,λl hl=>q l us H1 F1 R1 s1 f7 hl⟩
   | aI xs =>
    cases hf;obtain⟨a,us,rfl,ha,f7⟩:=bF.mp bw;exact⟨a,us,rfl,.inr (aU R1.sub ha),λl hl=>q l us H1 F1 R1 s1 f7 hl⟩
   | _=>cases hf
theorem ND(fa:FE)(ρ:aC)(e:Ent)(h:SA fa ρ=some e):(∃p,e=.val p)\/∃ps,e=.own ps:=by
 obtain⟨pa,h1,h2⟩:=ao h;cases z:WH pa with
 | none=>rw[z]at h2;cases h2
 | some xs=>rw[z]at h2;cases h2;exact .inr ⟨_,rfl⟩
end
section
variable {X:Cx} {H₀ aa:Hp}
def P7(fo:bG):bG:=λρ=>(fo (fO none ρ)).bind λps=>if ps.all kz=true then some ps else none
theorem vc{K:ah}{F F':Hp}:∀{ps:av} {vs:List V},ps.all kz=true->aP K F ps vs->aP K F' ps vs
 | [],_,_,b=>by rw[b.bX];exact .nil
 | p::ps,_,h,b=>by
  rw[fR,aE]at h;obtain⟨v,vr,rfl,b1,b2⟩:=b.b6;exact .cons (hJ h.1 b1) (vc h.2 b2)
theorem zu{K:ah}{fo:bG}{σ:St}{H:Hp}{Q:VK}(h:tF K H₀ aa (P7 fo) σ H Q):tF K H₀ aa fo σ H Q:=by
 obtain⟨F,ρ,ps,R,hf,q⟩:=h;obtain⟨ps',h1,h2⟩:=ao hf;obtain⟨hp,rfl⟩:=aB h2;obtain⟨F1,R1,s1,k1⟩:=R.lx none;exact⟨F1,fO none ρ,ps',R1,h1,λa vs H1 F' R2 s2 b2 hn=>q a vs H1 F (R.M8 R1 s1 k1 R2 s2) (Same.refl F) (vc hp b2) hn⟩
end
end L2.PL
namespace PySem
open Sem (wp)
theorem pW:entryFor table "set.__iter__"=some Builtin.«frozenset.__iter__» := entryFor_alias (id':="frozenset.__iter__") (by kernel_rfl) rfl (by decide +kernel) (by kernel_rfl)
theorem eI:Slot "set_iterator" "__next__" "set_iterator.__next__" :=
 .of (owner:="set_iterator") (n:="__next__") (by rw[typeLookup_type,builtinLookup_eq_fast];kernel_rfl) (by decide +kernel) (by decide +kernel) (by decide +kernel)
  (by first | exact .inl (by decide +kernel) | exact .inr (by decide +kernel)) (by rw[isSubtype_type];kernel_rfl)
theorem lC:entryFor table "set_iterator.__next__"=some Builtin.«set_iterator.__next__» := entryFor_of_tree (by kernel_rfl)
theorem m7(a:ag):argsOk "set_iterator.__next__" ⟨[a],[]⟩:=by unfold argsOk;kernel_rfl
theorem m8:Slot "set_iterator" "__iter__" "set_iterator.__iter__" :=
 .of (owner:="set_iterator") (n:="__iter__") (by rw[typeLookup_type,builtinLookup_eq_fast];kernel_rfl) (by decide +kernel) (by decide +kernel) (by decide +kernel)
  (by first | exact .inl (by decide +kernel) | exact .inr (by decide +kernel)) (by rw[isSubtype_type];kernel_rfl)
theorem ui:entryFor table "set_iterator.__iter__"=some Builtin.«dict_keyiterator.__iter__» := entryFor_alias (id':="dict_keyiterator.__iter__") (by kernel_rfl) rfl (by decide +kernel) (by kernel_rfl)
theorem wX(a:ag):argsOk "set_iterator.__iter__" ⟨[a],[]⟩:=by unfold argsOk;kernel_rfl
def cJ(es:Array (Int×ag))(ep:Nat)(t:SetTable):Obj:={cls:=.type "set",dict:=none,data:=.set es ep t,slots:=#[]}
abbrev BT(w:aM):Bool:=w.params.followText "set-order"
section
variable {prog:bh} {w:aM} {A:bA} {E:cm} {s:au} {a:ab} {es:Array (Int×ag)} {ep:Nat} {t:SetTable}
theorem l8{Q:Bool->au->Prop}(h:Q (BT w) s):wpAny (model prog w) A setsByText Q E s:=by
 unfold setsByText;exact ai (Bg (ax h))
theorem wY{Q:Bool->au->Prop}(hS:s.heap.get? a=some (cJ es ep t))(hf:t.fits es.size=true)(hg:BT w=true\/t.plain=true)(h:Q false s):wpAny (model prog w) A (setDrawn a) Q E s:=by
 unfold setDrawn;refine ai (gj hS rfl hf ?_);refine ai (l8 ?_);refine ax ?_;have e:(!BT w&&(!t.plain&&decide (es.size>1)))=false:=by
  rcases hg with g | g
  ·rw[g];rfl
  ·rw[g];cases BT w<;>rfl
 show Q (!BT w&&(!t.plain&&decide (es.size>1))) s;rw[e];exact h
theorem Cg{Q:cm}(hS:s.heap.get? a=some (cJ es ep t))(hf:t.fits es.size=true)(hg:BT w=true\/t.plain=true)
  (hQ:Q (.ref s.heap.objs.size) {s with heap:=s.heap.push {cls:=.type "set_iterator",data:=.fields #[.int 0 0,.int 0 0,.ref a,.int es.size 0,.int ep 0]}}):wpAny (model prog w) A (pyIter (.ref a)) Q E s:=by
 have hT:s.TypeIs (.ref a) "set":=⟨_,hS,rfl⟩;refine wpAny_pyIter_slot hT F.slot_set_iter (iM F.slot_set_iter hT pW ?_ (F.args_set_iter_1 _));unfold Builtin.«frozenset.__iter__» Builtin.Frozenset.slot0;refine ai (ai (m:=slotArgs "__iter__" 0 _) (ax ?_));show wpAny _ _ (pure a) _ _ s;refine ax ?_;unfold Builtin.Frozenset.sizeOf setEntries;refine ai (ai (ai (gj hS rfl hf (ax (ax ?_)))));refine ai (wY hS hf hg ?_);rw[if_neg gI];refine ai (ax ?_);refine ai (wpAny_setEpoch_of hS rfl hf ?_);unfold newFields;refine ai (iJ (ax ⟨_,rfl,"set_iterator",_,⟨_,cW _ rfl,rfl⟩,eI.lookup,?_⟩));simpa[rawInt]using hQ
end
section
variable {prog:bh} {w:aM} {A:bA} {E:cm} {s:au} {a:ab} {es:Array (Int×ag)} {ep:Nat} {t:SetTable}
def D6(t:SetTable):Nat->Nat
 | 0=>0
 | i+1=>t.place.getD i 0+1
def ef(w:aM)(t:SetTable)(i:Nat):Nat:=if BT w=true then 0 else D6 t i
def kC(w:aM)(a:ab)(ep:Nat)(es:Array (Int×ag)):Array (Int×ag):=if BT w=true then pickOrder (w.params.setOrder a ep) es else es
structure fW (w:aM) (a:ab) (ep:Nat) (es:Array (Int×ag)) (t:SetTable):Prop where
 fits:t.fits es.size=true
 size:(kC w a ep es).size=es.size
 led:BT w=false->t.led=true/\t.plain=true/\∀i,i<=es.size->SetTable.below t.place (D6 t i)=i
theorem fW.ok(g:fW w a ep es t):BT w=true\/t.plain=true:=by
 cases h:BT w with
 | true=>exact .inl rfl
 | false=>exact .inr (g.led h).2.1
theorem fW.place(g:fW w a ep es t):t.place.size=es.size:=by
 have:=g.fits;simp only[SetTable.fits,aE,lW]at this;exact this.1
theorem zw(hS:s.heap.get? a=some (cJ es ep t))(g:fW w a ep es t)(i:Nat)(hi:i<=es.size){Q:Option (ag×Nat)->au->Prop}
  (h:Q (((kC w a ep es)[i]?).map λe=>(e.2,ef w t (i+1))) s):wpAny (model prog w) A (setNext a (ef w t i) i ep) Q E s:=by
 unfold setNext;refine ai (gj hS rfl g.fits ?_);refine ai (l8 ?_);cases hb:BT w with
 | true =>
  rw[if_pos rfl];dsimp only
  rw[if_neg (by simp)]
  unfold setWalk;refine ai (ai (gj hS rfl g.fits ?_));refine ai (l8 ?_);rw[hb,if_pos rfl];refine ai (Bg ?_);refine ax (ax ?_);unfold kC ef at h;rw[hb]at h;simp only[eQ]at h;unfold ef;rw[hb];exact h
 | false =>
  obtain⟨hl,hp,hw⟩:=g.led hb;rw[if_neg gI];refine ai (ax ?_);show wpAny _ _ (if(!t.plain&&decide (es.size>1))=true then _ else _) _ _ s
  rw[hp];rw[if_neg (by simp)]
  refine ai ?_;show wpAny _ _ (if(!t.led&&!es.isEmpty)=true then _ else _) _ _ s
  rw[hl,if_neg (by simp)]
  refine ax ?_;refine ax ?_;unfold kC ef at h;rw[hb]at h;simp only[d8,dw]at h;have e:SetTable.below t.place (ef w t i)=i:=by unfold ef;rw[hb,if_neg gI];exact hw i hi
  rw[e];have jt:=g.place;by_cases dW:i<es.size
  ·have h1:es[i]?=some es[i]:=by simp[dW]
   have h2:t.place[i]?=some (t.place[i]'(by lia)):=by simp[show i<t.place.size by lia]
   rw[h1,h2];rw[h1]at h;have h3:D6 t (i+1)=t.place[i]'(by lia)+1:=by
    show t.place.getD i 0+1=_;simp[Array.getD,show i<t.place.size by lia]
   rw[h3]at h;exact h
  ·have h1:es[i]?=none:=by simp;lia
   rw[h1];rw[h1]at h;exact h
end
section
variable {prog:bh} {w:aM} {A:bA} {E:cm} {s:au} {a it:ab} {es:Array (Int×ag)} {ep:Nat} {t:SetTable}
def fI(h:Heap)(it a:ab)(sl i n ep:Nat):Prop:=∃o,h.get? it=some o/\o.cls=.type "set_iterator"/\o.data=.fields #[.int sl 0,.int i 0,.ref a,.int n 0,.int ep 0]
theorem fI.typeIs{sl i n:Nat}(x:fI s.heap it a sl i n ep):s.TypeIs (.ref it) "set_iterator":=let ⟨o,ho,hc,_⟩:=x;⟨o,ho,hc⟩
theorem Jx(uh:fI s.heap it a (ef w t i) i es.size ep)(hS:s.heap.get? a=some (cJ es ep t))(g:fW w a ep es t)(hi:i<es.size){Q:lb->au->Prop}
  (hQ:∀v h',(∃e,(kC w a ep es)[i]?=some e/\v=e.2)->fI h' it a (ef w t (i+1)) (i+1) es.size ep->Heap.SameBut it s.heap h'->Q (some v) {s with heap:=h'}):wpAny (model prog w) A (pyNext (.ref it)) Q E s:=by
 obtain⟨o,ho,hc,hd⟩:=id uh;unfold pyNext;refine ai (wpAny_attempt (j3 (name:=Str.ofString "__next__") uh.typeIs eI (iM eI uh.typeIs lC ?_ (m7 _))));unfold Builtin.«set_iterator.__next__»;refine ai (m:=slotArgs "__next__" 0 _) (ax ?_);refine ai (wpAny_fieldsOf ho hd ?_);dsimp only
 unfold setEntries;refine ai (ai (gj hS rfl g.fits (ax ?_)));dsimp only
 rw[if_neg (by simp)]
 have h1:(kC w a ep es)[i]?=some ((kC w a ep es)[i]'(by rw[g.size];exact hi)):=by simp[g.size,hi]
 refine ai ?_;rw[show((ef w t i:Nat):Int).toNat=ef w t i from eM _,show((i:Nat):Int).toNat=i from eM _,show((ep:Nat):Int).toNat=ep from eM _]
 refine zw hS g i (iP hi) ?_;rw[h1];dsimp only[Option.map]
 show wpAny _ _ (setField (.ref it) 0 (rawInt (ef w t (i+1):Nat)) >>= _) _ _ s;refine ai (qH ho hd (by simp) ?_)
 obtain⟨o1,g1,c1,d1⟩:∃o1,(s.heap.update it (Obj.mapFields (·.setIfInBounds 0 (rawInt (ef w t (i+1):Nat))))).get? it=some o1/\o1.cls=.type "set_iterator"/\o1.data=.fields #[.int (ef w t (i+1):Nat) 0,.int i 0,.ref a,.int es.size 0,.int ep 0] :=
  ⟨_,vQ _ ho (A6 (nR hd _)),(Bc ..).trans hc,by rw[nR hd];simp[rawInt]⟩
 have b1:Heap.SameBut it s.heap (s.heap.update it (Obj.mapFields (·.setIfInBounds 0 (rawInt (ef w t (i+1):Nat))))):=jn ..
 generalize (s.heap.update it (Obj.mapFields (·.setIfInBounds 0 (rawInt (ef w t (i+1):Nat)))))=H1 at g1 b1 ⊢
 refine ai (qH (s:={s with heap:=H1}) g1 d1 (by simp) ?_)
 have SD:fI (H1.update it (Obj.mapFields (·.setIfInBounds 1 (rawInt ((i:Int)+1))))) it a (ef w t (i+1)) (i+1) es.size ep :=
  ⟨_,vQ _ g1 (A6 (nR d1 _)),(Bc ..).trans c1,by rw[nR d1];simp[rawInt]⟩
 exact ax ⟨_,rfl,ax (hQ _ _ ⟨_,h1,rfl⟩ SD (b1.trans (jn ..)))⟩
theorem NF(hh:A.handled=none)(uh:fI s.heap it a (ef w t es.size) es.size es.size ep)(hS:s.heap.get? a=some (cJ es ep t))(g:fW w a ep es t){Q:lb->au->Prop}
  (hQ:∀h',Heap.ExtBut it s.heap h'->Q none {s with heap:=h'}):wpAny (model prog w) A (pyNext (.ref it)) Q E s:=by
 obtain⟨o,ho,hc,hd⟩:=id uh;unfold pyNext;refine ai (wpAny_attempt (j3 (name:=Str.ofString "__next__") uh.typeIs eI (iM eI uh.typeIs lC ?_ (m7 _))));unfold Builtin.«set_iterator.__next__»;refine ai (m:=slotArgs "__next__" 0 _) (ax ?_);refine ai (wpAny_fieldsOf ho hd ?_);dsimp only
 unfold setEntries;refine ai (ai (gj hS rfl g.fits (ax ?_)));dsimp only
 rw[if_neg (by simp)]
 have h1:(kC w a ep es)[es.size]?=none:=by simp[g.size]
 refine ai ?_;rw[show((ef w t es.size:Nat):Int).toNat=ef w t es.size from eM _,show((es.size:Nat):Int).toNat=es.size from eM _,show((ep:Nat):Int).toNat=ep from eM _]
 refine zw hS g es.size (aR _) ?_;rw[h1];dsimp only[Option.map]
 show wpAny _ _ (setField (.ref it) 2 .none >>= _) _ _ s;refine ai (qH ho hd (by simp) ?_)
 show wpAny _ _ (newExc (.type "StopIteration") [] >>= _) _ _ _;refine ai ?_;simp only[newExc,newTuple];refine ai (iJ ?_ (by size_fits))
 refine ai (m:=firstArgMember _ _) (wpAny_of_eq (a:=Value.none) (by first | rfl | (simp only[firstArgMember];rfl)) ?_)
 refine iJ ?_ (by size_fits)
 simp only[raiseNew];refine ai (wpAny_handled ?_);rw[show A.in1.handled=none from hh]
 refine ai (ax (wpAny_throw ?_));refine ai (Bn (T:="StopIteration") (b:=true) ⟨_,cW _ rfl,rfl⟩ isSubtype_stop ?_);exact ax (hQ _ (((jn ..).extBut.push _).push _))
theorem Jy{sl i n:Nat}{Q:cm}(uh:fI s.heap it a sl i n ep)(h:Q (.ref it) s):wpAny (model prog w) A (pyIter (.ref it)) Q E s:=by
 refine wpAny_pyIter_slot uh.typeIs m8 (iM m8 uh.typeIs ui ?_ (wX _));show wpAny _ _ (ret (.ref it)) _ _ s;exact ax ⟨_,rfl,"set_iterator",_,uh.typeIs,eI.lookup,h⟩
theorem Walks.abR(hh:A.handled=none)(I a:ab)(hne:a≠I)(g:fW w a ep es t) :
  Walks prog w A I [I,a] [I] es.size (λi v=>∃e,(kC w a ep es)[i]?=some e/\v=e.2) (λi h=>fI h I a (ef w t i) i es.size ep/\h.get? a=some (cJ es ep t)) where
 sub:=λb hb=>by simp at hb;simp[hb]
 frame:=λ_ _ _ st hk=>⟨let ⟨o,ho,r⟩:=st.1;⟨o,hk I (by simp) o ho,r⟩,hk a (by simp) _ st.2⟩
 item:=λi s Q E hi st hQ=>Jx st.1 st.2 g hi λv h' hv SD P5=>hQ v h' s.toks hv ⟨SD,P5.extBut a _ hne st.2⟩ λb o hb e=>P5.extBut b o (λh=>hb (by simp[h])) e
 done:=λs Q E st hQ=>NF hh st.1 st.2 g λh' Zk=>hQ h' s.toks λb o hb e=>Zk b o (λh=>hb (by simp[h])) e
 self:=λ_ _ _ _ st hQ=>Jy st.1 hQ
theorem Jz{r:ab}{Q:Bool->au->Prop}(hT:s.TypeIs (.ref r) "set")(h:Q false s):wpAny (model prog w) A (Builtin.List.listLengthHint (.ref r)) Q E s:=by
 unfold Builtin.List.listLengthHint;refine ai (wpAny_specialOf hT F.slot_set_len.lookup ?_)
 generalize hid:("set.__len__":String)=id0
 wp_delta
 rw[show splitId id0=some ("set","__len__")from by subst hid;decide +kernel]
 subst hid;refine ai (Bn (T:="set") (b:=true) hT (by rw[isSubtype_type];kernel_rfl) ?_)
 refine Bo (λhab=>absurd hab (by decide)) (λ_=>?_)
 refine Bo (λ_=>?_) (λhab=>absurd (by decide +kernel) hab)
 refine ai (qJ hT ?_);exact ax h
theorem NG(g:fW w a ep es t):W.KdlSrc prog w "set" a a es.size (λi v=>∃e,(kC w a ep es)[i]?=some e/\v=e.2) (λh=>h.get? a=some (cJ es ep t)) where
 type:=λ_ hm=>⟨_,hm,rfl⟩
 there:=λ_ hm=>⟨bK hm,bK hm⟩
 keep:=λ_ _ hm hk=>hk a (.inl rfl) _ hm
 notList:=by decide
 notTuple:=by decide
 hint:=λ_ _ _ _ hm hq=>Jz ⟨_,hm,rfl⟩ hq
 iter:=λA s hh hm=>⟨_,_,(λ_ _ hq=>Cg hm g.fits g.ok hq),Walks.abR hh _ a (b9 (bK hm)) g,⟨⟨_,cW _ rfl,rfl,by
  have:ef w t 0=0:=by unfold ef D6;split<;>rfl
  rw[this];rfl⟩,bR _ hm⟩⟩
end
section
open PyProof.Rows
theorem rV{α:Type}:∀(l:List α) (i:Nat) (h:i<l.length),([l[i]]++l.eraseIdx i).Perm l
 | [],i,h=>absurd h (by simp)
 | x::l,0,_=>.refl _
 | x::l,i+1,h=>by
  have h':i<l.length:=by simpa using h
  have ih:=rV l i h';rw[List.getElem_cons_succ,List.eraseIdx_cons_succ];exact(List.Perm.swap x l[i] (l.eraseIdx i)).trans (ih.cons x)
theorem D7{α:Type}(nx:Nat->Nat):∀(gu k:Nat) (left:List α) (out:Array α),gu=left.length->(pickOrder.go nx gu k left out).toList.Perm (out.toList++left)
 | 0,k,left,out,h=>by
  have:left=[]:=Hk h.symm;subst this;rw[dE];exact .refl _
 | gu+1,k,left,out,h=>by
  have hl:nx k%left.length<left.length:=kh _ (by lia)
  unfold pickOrder.go;rw[di hl];refine(D7 nx gu (k+1) (left.eraseIdx (nx k%left.length)) (out.push left[nx k%left.length]) (by rw[List.length_eraseIdx_of_lt hl];lia)).trans ?_
  rw[Array.toList_push,iK];refine List.Perm.append_left _ ?_;exact rV left _ hl
theorem FX{α:Type}(nx:Nat->Nat)(xs:Array α):(pickOrder nx xs).toList.Perm xs.toList:=by
 unfold pickOrder;have:=D7 nx xs.size 0 xs.toList #[] (by simp)
 simpa using this
theorem zx(w:aM)(a:ab)(ep:Nat)(es:Array (Int×ag)):(kC w a ep es).toList.Perm es.toList:=by
 unfold kC;split
 ·exact FX _ _
 ·exact .refl _
theorem JA(w:aM)(a:ab)(ep:Nat)(es:Array (Int×ag)):(kC w a ep es).size=es.size:=by
 have:=(zx w a ep es).length_eq;simpa using this
def intOf:ag->Int
 | .int n _=>n
 | _=>0
theorem zy:∀(l:List (Int×ag)),(∀e∈l,∃n t,e.2=.int n t)->IntsAre (l.map (·.2)) (l.map λe=>intOf e.2)
 | [],_=>.nil
 | e::l,h=>by
  obtain⟨n,t,q⟩:=h e bE;have ih:=zy l λx hx=>h x (bx _ hx)
  rw[bC,bC,q];exact .cons n t ih
def i9(place:Array Nat)(led:Bool):SetTable:={mask:=7,place:=place,dummies:=#[],finger:=0,led:=led,moves:=0,plain:=true}
theorem Ci:∀k:_root_.Fin 64,hashInt ((k:Nat):Int)=((k:Nat):Int):=by decide +kernel
theorem SE:∀(k:_root_.Fin 64) (led:Bool),(i9 #[] led).freeSlot ((k:Nat):Int)=some ((k:Nat)%8,false):=by decide +kernel
theorem SF:∀(p:_root_.Fin 8) (k:_root_.Fin 64) (led:Bool),∃q:_root_.Fin 8,(i9 #[(p:Nat)] led).freeSlot ((k:Nat):Int)=some ((q:Nat),false)/\q≠p:=by decide +kernel
theorem NH:∀p:_root_.Fin 8,SetTable.below #[(p:Nat)] 0=0/\SetTable.below #[(p:Nat)] ((p:Nat)+1)=1:=by decide +kernel
theorem NI:∀p q:_root_.Fin 8,p<q->SetTable.below #[(p:Nat),(q:Nat)] 0=0/\SetTable.below #[(p:Nat),(q:Nat)] ((p:Nat)+1)=1/\SetTable.below #[(p:Nat),(q:Nat)] ((q:Nat)+1)=2:=by decide +kernel
theorem NJ:∀p q:_root_.Fin 8,q≠p->SetTable.below #[(p:Nat)] (q:Nat)=if p<q then 1 else 0:=by decide +kernel
theorem WJ(k:_root_.Fin 64)(led:Bool)(h:Int)(x:ag)(hh:h=((k:Nat):Int)):layNew (i9 #[] led) #[] h x=(#[(h,x)],i9 #[(k:Nat)%8] led,false,false):=by
 subst hh;unfold layNew;rw[SE k led];rfl
theorem WK(p:_root_.Fin 8)(k:_root_.Fin 64)(led:Bool)(h:Int)(x:ag)(hh:h=((k:Nat):Int))(e:Int×ag) :
  ∃q:_root_.Fin 8,q≠p/\layNew (i9 #[(p:Nat)] led) #[e] h x=if p<q then(#[e,(h,x)],i9 #[(p:Nat),(q:Nat)] led,false,false)else(#[(h,x),e],i9 #[(q:Nat),(p:Nat)] led,false,false):=by
 subst hh;obtain⟨q,hq,hne⟩:=SF p k led;refine⟨q,hne,?_⟩;have hb:=NJ p q hne;unfold layNew;rw[hq];dsimp only
 unfold SetTable.put;show _=_;have jx:SetTable.below (i9 #[(p:Nat)] led).place (q:Nat)=if p<q then 1 else 0:=hb
 rw[jx];by_cases dW:p<q
 ·rw[if_pos dW,if_pos dW];rfl
 ·rw[if_neg dW,if_neg dW];rfl
end
section
open PyProof.Rows
section
variable {prog:bh} {w:aM} {A:bA} {E:cm} {s:au} {a:ab} {es qi:Array (Int×ag)} {ep:Nat} {t t1:SetTable}
theorem zA(h:∀e∈es.toList,∃k tk,e.2=.int k tk/\e.1=hashInt k):ElemsOf (intKind prog w) es.toList:=λe he=>by
 obtain⟨k,tk,h1,h2⟩:=h e he;exact⟨⟨k,by rw[h1];exact intKind_is _ _ _ _,h2⟩,by rw[h1];rfl⟩
theorem wZ(hS:s.heap.get? a=some (cJ es ep t))(qi:Array (Int×ag))(t1:SetTable):(s.heap.update a (Obj.putSet qi t1)).get? a=some (cJ qi (ep+1) t1):=by
 have:=vQ (Obj.putSet qi t1) hS (by rw[putSet_of qi t1 (show(cJ es ep t).data=_ from rfl)];rfl)
 rw[putSet_of qi t1 (show(cJ es ep t).data=_ from rfl)]at this
 exact this
theorem Cj{k:Int}{tk:Tok}{Q:Bool->au->Prop}(hS:s.heap.get? a=some (cJ es ep t))(hf:t.fits es.size=true)(AN:∀e∈es.toList,∃k tk,e.2=.int k tk/\e.1=hashInt k)(hb:es.size+1<scanBound)
  (SG:es.toList.findIdx? (λe=>(intKind prog w).is k e.2)=none) (hL:layNew t es (hashInt k) (.int k tk)=(qi,t1,false,false)) (hp:t1.plain=true) (RU:t1.tooFull=false) (hz:qi.size<=sizeLine)
  (h:Q true {s with heap:=s.heap.update a (Obj.putSet qi t1)}):wpAny (model prog w) A (setAddHashed a (.int k tk) (hashInt k)) Q E s:=by
 have hE:=zA (prog:=prog) (w:=w) AN;unfold setAddHashed setAddHashedIn;refine gm (ai (gj hS rfl hf ?_));dsimp only
 rw[byScan_of (x:=.int k tk) rfl (by lia) hE]
 simp only[↓reduceIte];unfold setAddByScan;refine ai ?_;refine ai (qK ?_);refine ai (wpAny_setScan_of (knd:=intKind prog w) (k:=k) (intKind_is _ _ _ _) hS rfl hf hE ?_);rw[SG];dsimp only
 rw[hL];dsimp only
 refine ai ?_;show wpAny _ _ (pure ()) _ _ s;refine ax ?_;rw[hp,if_pos rfl];refine ai ?_;rw[hashByValue_scannable 8 (x:=.int k tk) rfl];refine ax ?_;have e:(if plainKind (Value.int k tk)=true then t1 else {t1 with plain:=false})=t1:=if_pos rfl
 rw[e];refine ai (Bf hS rfl ?_ hz);rw[RU,if_neg (by simp)]
 exact ax (ax h)
theorem Ck{k:Int}{tk:Tok}{j:Nat}{Q:Bool->au->Prop}(hS:s.heap.get? a=some (cJ es ep t))(hf:t.fits es.size=true)(AN:∀e∈es.toList,∃k tk,e.2=.int k tk/\e.1=hashInt k)(hb:es.size+1<scanBound)
  (hj:es.toList.findIdx? (λe=>(intKind prog w).is k e.2)=some j) (h:Q false s):wpAny (model prog w) A (setAddHashed a (.int k tk) (hashInt k)) Q E s:=by
 have hE:=zA (prog:=prog) (w:=w) AN;unfold setAddHashed setAddHashedIn;refine gm (ai (gj hS rfl hf ?_));dsimp only
 rw[byScan_of (x:=.int k tk) rfl (by lia) hE]
 simp only[↓reduceIte];unfold setAddByScan;refine ai ?_;refine ai (qK ?_);refine ai (wpAny_setScan_of (knd:=intKind prog w) (k:=k) (intKind_is _ _ _ _) hS rfl hf hE ?_);rw[hj];dsimp only
 exact ax (ax h)
end
def fE(led:Bool)(xs:List Int)(es:Array (Int×ag))(t:SetTable):Prop :=
 (∀e∈es.toList,∃k tk,e.2=.int k tk/\e.1=hashInt k)/\(es.toList.map λe=>intOf e.2).Perm xs /\
 ((xs=[]/\es=#[]/\t=i9 #[] led)\/(∃(p:_root_.Fin 8) (x:Int),xs=[x]/\t=i9 #[(p:Nat)] led)\/∃(p q:_root_.Fin 8) (x y:Int),xs=[x,y]/\p<q/\t=i9 #[(p:Nat),(q:Nat)] led)
theorem fE.fits{led:Bool}{xs:List Int}{es:Array (Int×ag)}{t:SetTable}(h:fE led xs es t):t.fits es.size=true/\es.size=xs.length/\es.size<=2:=by
 obtain⟨_,hp,hc⟩:=h;have hl:=hp.length_eq;simp at hl;rcases hc with⟨rfl,rfl,rfl⟩ | ⟨p,x,rfl,rfl⟩ | ⟨p,q,x,y,rfl,_,rfl⟩
 ·exact⟨rfl,hl,by decide⟩
 ·simp at hl;exact⟨by rw[hl];rfl,hl,by lia⟩
 ·simp at hl;exact⟨by rw[hl];rfl,hl,by lia⟩
theorem fE.abS{w:aM}{a:ab}{ep:Nat}{xs:List Int}{es:Array (Int×ag)}{t:SetTable}(h:fE (!BT w) xs es t):fW w a ep es t:=by
 obtain⟨f1,f2,f3⟩:=h.fits;refine⟨f1,JA w a ep es,λhb=>?_⟩
 obtain⟨_,hp,hc⟩:=h;rw[hb]at hc;rcases hc with⟨rfl,rfl,rfl⟩ | ⟨p,x,rfl,rfl⟩ | ⟨p,q,x,y,rfl,dW,rfl⟩
 ·refine⟨rfl,rfl,λi hi=>?_⟩
  have:i=0:=by simpa using hi
  subst this;rfl
 ·obtain⟨b1,b2⟩:=NH p;refine⟨rfl,rfl,λi hi=>?_⟩
  have:es.size=1:=f2;have:i=0\/i=1:=by lia
  rcases this with rfl | rfl
  ·exact b1
  ·exact b2
 ·obtain⟨b1,b2,b3⟩:=NI p q dW;refine⟨rfl,rfl,λi hi=>?_⟩
  have:es.size=2:=f2;have:i=0\/i=1\/i=2:=by lia
  rcases this with rfl | rfl | rfl
  ·exact b1
  ·exact b2
  ·exact b3
section
variable {prog:bh} {w:aM} {A:bA} {E:cm} {s:au} {a:ab} {es:Array (Int×ag)} {ep:Nat} {t:SetTable}
def rW(xs:List Int)(k:Int):List Int:=if k∈xs then xs else xs++[k]
theorem Cm{led:Bool}{xs:List Int}{k:Int}{tk:Tok}{Q:Bool->au->Prop}(hS:s.heap.get? a=some (cJ es ep t))(h2:fE led xs es t)(hk:0<=k/\k<64)(hx:xs.length<=1)
  (h:∀b h' qi WL t1,Heap.SameBut a s.heap h'->h'.get? a=some (cJ qi WL t1)->fE led (rW xs k) qi t1->Q b {s with heap:=h'}):wpAny (model prog w) A (setAddHashed a (.int k tk) (hashInt k)) Q E s:=by
 obtain⟨f1,f2,f3⟩:=h2.fits;obtain⟨AN,hp,hc⟩:=id h2;have hb:es.size+1<scanBound:=by
  have:scanBound=4096:=rfl
  lia
 have pX:∀e∈es.toList,(intKind prog w).is k e.2=true↔intOf e.2=k:=λe he=>by
  obtain⟨n,NK,q,_⟩:=AN e he;rw[q];show Value.isInt k (.int n NK)=true↔n=k;simp[Value.isInt]
 cases hr:es.toList.findIdx? (λe=>(intKind prog w).is k e.2)with
 | some j =>
  obtain⟨hj,hpj,_⟩:=Hi.mp hr;have hin:k∈xs:=by
   have h1:=(pX _ (vV hj)).mp hpj;exact hp.mem_iff.mp (bt.mpr ⟨_,vV hj,h1⟩)
  refine Ck hS f1 AN hb hr ?_;have:=h false s.heap es ep t (Heap.SameBut.refl a s.heap) hS (by unfold rW;rw[if_pos hin];exact h2)
  exact this
 | none =>
  have SG:k∉xs:=λhin=>by
   obtain⟨e,he,q⟩:=bt.mp (hp.mem_iff.mpr hin);have:=List.findIdx?_eq_none_iff.mp hr e he;rw[(pX e he).mpr q]at this;cases this
  have SH:hashInt k=k:=by
   have:=Ci ⟨k.toNat,by lia⟩
   rw[show(((⟨k.toNat,by lia⟩:_root_.Fin 64):Nat):Int)=k from vR hk.1]at this
   exact this
  have hkc:hashInt k=(((⟨k.toNat,by lia⟩:_root_.Fin 64):Nat):Int):=by
   rw[SH];exact(vR hk.1).symm
  have fin:∀qi t1,layNew t es (hashInt k) (.int k tk)=(qi,t1,false,false)->t1.plain=true->t1.tooFull=false->qi.size<=2->fE led (rW xs k) qi t1->wpAny (model prog w) A (setAddHashed a (.int k tk) (hashInt k)) Q E s:=λqi t1 hL q1 q2 q3 q4 =>
   Cj hS f1 AN hb hr hL q1 q2 (b0 q3 (by decide)) (h true _ qi (ep+1) t1 (jn ..) (wZ hS qi t1) q4)
  have SJ:rW xs k=xs++[k]:=by unfold rW;rw[if_neg SG]
  rcases hc with⟨rfl,rfl,rfl⟩ | ⟨p,x,rfl,rfl⟩ | ⟨p,q,x,y,rfl,dW,rfl⟩
  ·refine fin _ _ (WJ ⟨k.toNat,by lia⟩ led _ _ hkc) rfl rfl (by simp) ?_
   rw[SJ];refine⟨λe he=>?_,.refl _,.inr (.inl ⟨⟨(⟨k.toNat,by lia⟩:_root_.Fin 64).val%8,kh _ (by decide)⟩,k,rfl,rfl⟩)⟩
   have he:e∈[(hashInt k,Value.int k tk)]:=he;have he:=dt.mp he;subst he;exact⟨k,tk,rfl,rfl⟩
  ·have SK:es.size=1:=f2;obtain⟨e0,rfl⟩:∃e0,es=#[e0]:=Array.size_eq_one_iff.mp SK
   obtain⟨q,hne,hL⟩:=WK p ⟨k.toNat,by lia⟩ led (hashInt k) (.int k tk) hkc e0
   have hq:(intOf e0.2)=x:=by
    have hm:intOf e0.2∈[x]:=hp.mem_iff.mp (bt.mpr ⟨e0,by simp,rfl⟩)
    simpa using hm
   have h0:=AN e0 (by simp)
   by_cases dW:p<q
   ·rw[if_pos dW]at hL;refine fin _ _ hL rfl rfl (by simp) ?_
    rw[SJ];refine⟨λe he=>?_,?_,.inr (.inr ⟨p,q,x,k,rfl,dW,rfl⟩)⟩
    ·have he:e∈[e0,(hashInt k,Value.int k tk)]:=he;simp only[aZ,dX,dZ]at he;rcases he with rfl | rfl
     ·exact h0
     ·exact⟨k,tk,rfl,rfl⟩
    ·show [intOf e0.2,k].Perm ([x]++[k]);rw[hq];exact .refl _
   ·rw[if_neg dW]at hL;refine fin _ _ hL rfl rfl (by simp) ?_
    rw[SJ];refine⟨λe he=>?_,?_,.inr (.inr ⟨q,p,x,k,rfl,?_,rfl⟩)⟩
    ·have he:e∈[(hashInt k,Value.int k tk),e0]:=he;simp only[aZ,dX,dZ]at he;rcases he with rfl | rfl
     ·exact⟨k,tk,rfl,rfl⟩
     ·exact h0
    ·show [k,intOf e0.2].Perm ([x]++[k]);rw[hq];exact .swap x k []
    ·have h3:(q:Nat)≠(p:Nat):=λe=>hne (_root_.Fin.ext e)
     have h4:¬(p:Nat)<(q:Nat):=dW;show(q:Nat)<(p:Nat)
     lia
  ·simp at hx
end
end
end PySem
namespace PySem
open PyProof.Rows
def rX(val:Nat->Int):Nat->List Int
 | 0=>[]
 | i+1=>rW (rX val i) (val i)
theorem rY(val:Nat->Int):∀i,(rX val i).length<=i
 | 0=>aR _
 | i+1=>by
  have:=rY val i;unfold rX rW;split
  ·lia
  ·simp;lia
section
variable {prog:bh} {w:aM} {A:bA} {R:Result->au->Prop} {I:ab} {fp wr:List ab} {G:Array GenState->Array GenState->Prop} {n:Nat} {P:Nat->ag->Prop} {St:Nat->au->Prop}
theorem zB(W:WalksS prog w A.in1 I fp wr G n P St)(S:ab)(hSf:S∉fp)(val:Nat->Int)(Cn:∀i v,P i v->∃t,v=.int (val i) t)(SM:∀i,i<n->0<=val i/\val i<64)(hn:n<=2)(led:Bool) :
  ∀(k i:Nat) (s:au),n-i=k->i<=n->St i s->(∃es ep t,s.heap.get? S=some (cJ es ep t)/\fE led (rX val i) es t) ->
   (∀s',Moved (S::wr) G s s'->(∃es ep t,s'.heap.get? S=some (cJ es ep t)/\fE led (rX val n) es t)->R (.ok (.ret .none)) s') ->
   codeAny (model prog w) A (.builtin "set.update.loop" ⟨[.ref S,.ref I],[]⟩) R s:=by
 have WM:S∉wr:=λh=>hSf (W.sub _ h)
 have wW:∀b∈wr,b∈S::wr:=λb hb=>bx _ hb
 intro k;induction k with
 | zero =>
  intro i s hk hi wq hS hR;have hin:i=n:=by lia
  subst hin;refine lQ vP ?_;rw[qB nN _];show wpAny _ A.in1 (pyNext (.ref I) >>= _) _ _ s;refine ai (W.done s _ _ wq λs' hm=>?_)
  show wpAny _ A.in1 (ret Value.none) _ _ s';exact ax (hR s' (hm.mono wW) (by
   obtain⟨es,ep,t,ho,rest⟩:=hS;exact⟨es,ep,t,hm.heap S _ WM ho,rest⟩))
 | succ k ih =>
  intro i s hk hi wq hS hR;have dW:i<n:=by lia
  refine lQ vP ?_;rw[qB nN _];show wpAny _ A.in1 (pyNext (.ref I) >>= _) _ _ s;refine ai (W.item i s _ _ dW wq λv s' hP SN hm=>?_)
  obtain⟨t,rfl⟩:=Cn i v hP;obtain⟨es,ep,tb,ho,h2⟩:=hS;have tY:=hm.heap S _ WM ho;show wpAny _ A.in1 (holding [Value.int (val i) t] (setAdd S (.int (val i) t)) >>= _) _ _ s';refine ai (gm ?_);unfold setAdd;refine gm ?_;refine ai ((intKind prog w).pyHash (k:=val i) (intKind_is _ _ _ _) ?_);have P8:=rY val i;refine Cm (s:={s' with toks:=s'.toks+1}) tY h2 (SM i dW) (by lia) λb h' qi WL t1 hsb hS2 WN=>?_
  refine ax ⟨plainId_quiet nN _,ih (i+1) _ (by lia) dW (W.frame _ s' _ _ SN (n6 _) λb hb o e=>?_) ⟨qi,WL,t1,hS2,WN⟩ λIv SO SQ=>?_⟩
  ·rw[hsb.2 b (λh:b=S=>hSf (by rw[<-h];exact hb))];exact e
  ·refine hR Iv (Moved.trans W.gtrans ((hm.mono wW).then_heap (n6 _) λb o hb e=>?_) SO) SQ
   rw[hsb.2 b (λh:b=S=>hb (by rw[h];exact bE))];exact e
end
section
variable {prog:bh} {w:aM} {A:bA} {E:cm} {s:au}
theorem lD(a:ag){Q₁:cm}
  (h:Q₁ (.ref s.heap.objs.size) {s with heap:=s.heap.push {cls:=.type "set",dict:=none,data:=.set #[] 0 (.fresh 0 0 (!BT w))}}) :
  codeAny (model prog w) A (.call (.builtin "set.__new__") ⟨[.type "set",a],[]⟩) (wants Q₁ E) s:=by
 refine Bp ?_;show wpAny _ A.in1 (do checkBuiltinCall "set.__new__" ⟨[.type "set",a],[]⟩;again (.builtin "set.__new__" ⟨[.type "set",a],[]⟩)) _ _ s
 refine ai (wpAny_of_eq (F.newCall_set_1 a) (ax ⟨plainId_quiet F.plain_set_new _,lQ F.entry_set_new ?_⟩));rw[qB F.plain_set_new _];unfold Builtin.«set.__new__» Builtin.Frozenset.newClass;have wW:=sub_set_self;obtain⟨hp,g,d,tk,os⟩:=s;dsimp only
 wp_walk
 refine Bg (ax ?_);dsimp only
 simp only[newObj];refine ai (wpAny_alloc (ax ?_));exact ax h
end
theorem fE.nil(led:Bool):fE led [] #[] (i9 #[] led):=by
 refine⟨λe he=>?_,List.Perm.refl _,.inl ⟨rfl,rfl,rfl⟩⟩
 cases he
section
variable {prog:bh} {w:aM} {A:bA} {E:cm} {s:au}
set_option maxHeartbeats 3200000 in
theorem zC{l:ab}{items:Array ag}{ns:List Int}{Q:cm}(hh:A.handled=none)(hl:s.heap.IsList l items)(hi:IntsAre items.toList ns)(hb:items.size<=2)(SM:∀i,i<items.size->0<=ns.getD i 0/\ns.getD i 0<64)
  (h:∀(h':Heap) (tk:Nat) es ep t,h'.get? s.heap.objs.size=some (cJ es ep t)->fE (!BT w) (rX (λi=>ns.getD i 0) items.size) es t->(∀b o,b<s.heap.objs.size->s.heap.get? b=some o->h'.get? b=some o)->Q (.ref s.heap.objs.size) {s with heap:=h',toks:=tk}) :
  wpAny (model prog w) A (call (.type "set") [.ref l]) Q E s:=by
 obtain⟨c,tl,abU⟩:=F.called_set.mro;have WO:=F.called_set.made;have wW:=F.called_set.sub;refine n8 (Bp ?_);show wpAny _ _ (callAny (.type "set") _) _ _ _;refine ax ⟨Code.quiet_builtin _ (by decide +kernel),lQ F.entry_type_call ?_⟩
 rw[Around.under_plain (weight_type_call_type "set" [.ref l] []) rfl];have h1:=F.called_set.notType;have h2:=F.called_set.canCreate;have hct:=F.typeCall_set_1 (.ref l)
 repeat (any_goals (first | assumption | wp_step))
 refine iO (lD (.ref l) (E:=E) (Q₁:=λobj s₁=>obj=.ref s.heap.objs.size/\s₁={s with heap:=s.heap.push {cls:=.type "set",dict:=none,data:=.set #[] 0 (.fresh 0 0 (!BT w))}}) ⟨rfl,rfl⟩) λr s₁ hr=>?_
 cases r with
 | error e=>exact hr
 | ok fl =>
  cases fl with
  | ret obj =>
   obtain⟨rfl,rfl⟩:=hr;obtain⟨led,Co⟩:∃led,led = !BT w:=⟨_,rfl⟩
   rw[<-Co];have hS:(s.heap.push {cls:=.type "set",dict:=none,data:=.set #[] 0 (.fresh 0 0 led)}).get? s.heap.objs.size=some {cls:=.type "set",dict:=none,data:=.set #[] 0 (.fresh 0 0 led)}:=cW _ rfl
   have hT:Shared.TypeIs {s with heap:=s.heap.push {cls:=.type "set",dict:=none,data:=.set #[] 0 (.fresh 0 0 led)}} (.ref s.heap.objs.size) "set":=⟨_,hS,rfl⟩
   have hli:=F.called_set.init.lookup;have hbi:=F.called_set.init.bind (.ref s.heap.objs.size)
   repeat (any_goals (first | assumption | wp_step))
   refine iO (codeAny_call_builtin (R:=wants (λr wu=>r=.none/\∃h' tk,wu={s with heap:=h',toks:=tk} /\
     (∃es ep t,h'.get? s.heap.objs.size=some (cJ es ep t)/\fE led (rX (λi=>ns.getD i 0) items.size) es t) /\
     (∀b o,b<s.heap.objs.size->s.heap.get? b=some o->h'.get? b=some o)) E) F.called_set.init.plain F.entry_set_init (check_set_init_1 hT ?_)) λSR wu rZ=>?_
   ·obtain⟨ol,DY,hcl,nl,zm⟩:=hl;obtain⟨abV,JB,WQ,Cp⟩:=ol;simp only at hcl zm;subst hcl;subst zm;have SS:(s.heap.push {cls:=.type "set",dict:=none,data:=.set #[] 0 (.fresh 0 0 led)}).get? l=some {cls:=.type "list",dict:=JB,data:=.seq items nl,slots:=Cp}:=bR _ DY
    have abW:=F.sub_list_set;have abX:=F.sub_list_frozenset;have hne:(Value.type "list"==Value.type "dict")=false:=by decide
    have P8:(s.heap.push {cls:=.type "set",dict:=none,data:=.set #[] 0 (.fresh 0 0 led)}).IsList l items:=⟨_,SS,rfl,nl,rfl⟩
    unfold Builtin.«set.__init__» noKeywords Builtin.Frozenset.updateFrom
    generalize hPI:pyIter=PI
    wp_walk
    subst hPI;refine vT P8 ?_;refine ai (wpAny_runValue ?_);have WR:l<s.heap.objs.size:=bK DY;have hh3:A.in1.in1.in1.handled=none:=by simp[hh]
    have SU:l≠(s.heap.push {cls:=.type "set",dict:=none,data:=.set #[] 0 (.fresh 0 0 led)}).objs.size:=by
     rw[gX];exact b9 (nU WR)
    have hSf:s.heap.objs.size∉[(s.heap.push {cls:=.type "set",dict:=none,data:=.set #[] 0 (.fresh 0 0 led)}).objs.size,l]:=by
     rw[gX];simp only[aZ,dt,dX,dZ,not_or];exact⟨b9 (nV _),n5 WR⟩
    have Cn:∀(i:Nat) (v:ag),items[i]?=some v->∃t,v=.int ((λi=>ns.getD i 0) i) t:=λi v hv =>
     PyProof.Rows.IntsAre.int_at hi i v (by rw[gG];exact hv)
    refine zB ((Walks.list hh3 _ l SU items).toS) s.heap.objs.size hSf (λi=>ns.getD i 0) Cn SM hb led (items.size-0) 0 _ (by lia) (dP _)
     ⟨⟨_,cW _ rfl,rfl,rfl⟩,(P8.push _)⟩ ?hS0 ?hR
    case hS0 =>
     exact⟨#[],0,i9 #[] led,bR _ hS,fE.nil led⟩
    case hR =>
     intro s' hm SV;obtain⟨h',g',d',NK,RE⟩:=s';have eg:g'=s.gens:=hm.gens;have ed:d'=s.drawn:=hm.drawn;have eo:RE=s.os:=hm.os;subst eg;subst ed;subst eo;show wpAny _ _ _ _ _ _;refine ax ?_;show wpAny _ _ (ret Value.none) _ _ _;refine ax ⟨rfl,h',NK,rfl,SV,λb o hb e=>?_⟩
     have hb1:b≠s.heap.objs.size:=b9 hb;have hb2:b≠(s.heap.push {cls:=.type "set",dict:=none,data:=.set #[] 0 (.fresh 0 0 led)}).objs.size:=by
      rw[gX];exact b9 (nU hb)
     exact hm.heap b o (by simp only[aZ,dt,dX,dZ,not_or];exact⟨hb1,hb2⟩) (bR _ (bR _ e))
   ·cases SR with
    | error e=>exact rZ
    | ok JC =>
     cases JC with
     | ret r =>
      obtain⟨rfl,h',tk,rfl,⟨es,ep,t,SV,WN⟩,SH⟩:=rZ
      repeat (any_goals (first | assumption | wp_step))
      exact h _ _ es ep t SV (by rw[<-Co];exact WN) SH
     | _=>exact rZ.elim
  | _=>exact hr.elim
end
section
variable {prog:bh} {w:aM} {A:bA} {E:cm} {s:au} {a:ab} {es:Array (Int×ag)} {ep:Nat} {t:SetTable}
theorem uj{xs:List Int}{Q:cm}(hh:A.handled=none)(hS:s.heap.get? a=some (cJ es ep t))(h2:fE (!BT w) xs es t)
  (h:∀(h1 h':Heap) (tk:Nat) (D:ab) (out:Array ag) (NA:List Int) (e:Nat),(∀b o,s.heap.get? b=some o->h1.get? b=some o)->(∀b o,h1.get? b=some o->h'.get? b=some o)->h1.objs.size<=D->h'.get? D=some (seqObj "list" out e)->IntsAre out.toList NA->NA.Perm xs->NA.Pairwise (· <= ·)->Q (.ref D) {s with heap:=h',toks:=tk}) :
  wpAny (model prog w) A (call (.builtin "sorted") [.ref a]) Q E s:=by
 have g:fW w a ep es t:=h2.abS;obtain⟨f1,f2,f3⟩:=h2.fits;refine Calls.call_function_entry kind_sorted plain_sorted entry_sorted (args_sorted1 _) ?_;unfold Builtin.«sorted»;refine ai (m:=checkCount "sorted" 1 1 _) (ax ?_);refine ai (W.kdu_collect (A:=A.in1) (NG (prog:=prog) g) (by simp[hh]) hS (b0 f3 (by decide)) λh' tk acc hk FY=>?_)
 have ab3:acc.toList=(kC w a ep es).toList.map (·.2):=by
  refine List.ext_getElem? λj=>?_
  rw[cf,gG,gG];by_cases hj:j<es.size
  ·have h1:j<acc.size:=by rw[FY.1];exact hj
   obtain⟨e,he,hv⟩:=FY.2 j acc[j] (by simp[h1])
   rw[he];simp[h1,hv]
  ·have h1:acc[j]?=none:=by
    have:=FY.1;simp;lia
   have h2:(kC w a ep es)[j]?=none:=by
    have:=g.size;simp;lia
   rw[h1,h2];rfl
 have hop:=zx w a ep es;have hI:IntsAre acc.toList ((kC w a ep es).toList.map λe=>intOf e.2):=by
  rw[ab3];exact zy _ λe he=>by
   obtain⟨k,tk,q,_⟩:=h2.1 e (hop.mem_iff.mp he);exact⟨k,tk,q⟩
 have WS:((kC w a ep es).toList.map λe=>intOf e.2).Perm xs:=(hop.map _).trans h2.2.1
 have cD:acc.toList.length<=2:=by
  rw[fB,FY.1];exact f3
 refine ai (wpAny_newList ?_ (b0 cD (by decide)))
 have Vl:(h'.push (seqObj "list" acc.toList.toArray 0)).get? h'.objs.size=some (seqObj "list" acc.toList.toArray 0):=cW _ rfl;show wpAny _ _ _ _ _ {s with heap:=h'.push (seqObj "list" acc.toList.toArray 0),toks:=tk}
 refine ai (gm (iM slot_list_sort ⟨_,Vl,rfl⟩ entry_list_sort (list_sort_tree (s:={s with heap:=h'.push (seqObj "list" acc.toList.toArray 0),toks:=tk}) Vl hI (by lia) λout NA a1 a2 a3=>⟨_,rfl,?_⟩) (args_list_sort _)))
 obtain⟨e,rQ⟩:=sortedHeap_at (out:=out) (vs:=acc.toList) Vl;refine ax ⟨_,rfl,h h' _ tk h'.objs.size out NA e hk (λb o hb=>?_) (aR _) rQ a1 (a2.trans WS) a3⟩
 have dW:b<h'.objs.size:=bK hb;rw[sortedHeap_old (b9 dW) (by rw[size_push'];exact nU dW)]
 exact bR _ hb
end
end PySem
namespace L2.PL
open PySem PySem.Spec PyProof.Rows
def SW(ts:bG):FE:=λρ=>(ts ρ).bind λps=>(gM ps).bind λns=>if(ns.length<=2/\ns.all (λn=>decide (0<=n/\n<64))=true)then some (.aA ((gh (rX (λi=>ns.getD i 0) ns.length)).map .int))else none
section
variable {X:Cx} {H₀ aa:Hp} {es:List aj} {ts:bG} {pos p rN zp lp:Pos}
theorem SX(hh:X.A.handled=none)(WT:Gl X "sorted")(WU:X.mg "sorted"=none)(hg:Gl X "set")(hm:X.mg "set"=none)(ha:PA X es (tA X.K H₀ aa ts)) :
  PE X (.Call (.Name "sorted" p) [.Call (.Name "set" zp) [.List es lp] [] rN] [] pos) (tE X.K H₀ aa (SW ts)):=by
 rintro ae s σ H Q I ⟨F,ρ,z,Rp,hf,q⟩;obtain⟨ps,f1,hf⟩:=ao hf;obtain⟨ns,f2,hf⟩:=ao hf;obtain⟨⟨Sf,hal⟩,e0⟩:=aB hf;clear hf;subst e0;have jt:ps.length<=2:=by
  have:∀{l:av} {m:List Int},gM l=some m->l.length=m.length:=λ{l}=>by
   induction l with
   | nil=>intro m h;cases h;rfl
   | cons a l ih =>
    intro m h;cases a with
    | int i =>
     obtain⟨m',h1,h2⟩:=WG (show(gM l).map (λns=>i::ns)=some m from h)
     subst h2;rw[aW,aW,ih h1]
    | _=>cases h
  rw[this f2];exact Sf
 refine jo (ld_blt I WT WU boot_sorted ?_ (by decide) (by decide))
 refine AU (zt rfl ?_) rfl rfl;have hA:=DL (pos:=lp) ha ae s σ H (λv H'=>∃F' l vs,v=.ref l/\cw X.K H₀ aa F' ρ σ H'/\Same F F'/\H' l=some (.aA vs)/\aP X.K F' ps vs) I
  ⟨F,ρ,ps,Rp,(by show(ts ρ).bind _=_;rw[f1];exact if_pos (b0 jt (by decide))),λa vs H1 F' R1 s1 b1 hn=>⟨F',a,vs,rfl,R1.DJ (.aA vs) hn,s1,az,b1⟩⟩
 refine Call_ (ld_blt I hg hm boot_set (j1 (zt rfl (thn hA λu s1 ⟨v,H1,I1,r1,F1,l,vs,ev,R1,WV,hl,b1⟩=>?_)) rfl rfl))
 subst ev;cases r1;obtain⟨aQ,r,pl,_⟩:=I1.list (lg.of hl);have ev:=m5 f2 b1;subst ev;have hi:=lZ r;have cD:aQ.length=ns.length:=by rw[<-r.length,aH]
 have hsz:aQ.toArray.size=ns.length:=by rw[bz];exact cD
 refine zC (items:=aQ.toArray) (ns:=ns) hh pl.isList hi (by lia) (λi hi'=>?_) λh' tk AL ep t hS h2 hk=>?_
 ·have hin:i<ns.length:=by lia
  have:=dj.mp hal _ (vV hin);rw[AV,di hin];exact nS this
 ·rw[hsz]at h2;have I2:Inv X ae σ H1 {s1 with heap:=h',toks:=tk}:=I1.kept λb o e=>hk b o (bK e) e
  refine uj (s:={s1 with heap:=h',toks:=tk}) hh hS h2 λh1 Zi NK D out NA e k1 k2 hD rQ hI hp hu=>?_
  have I3:Inv X ae σ H1 {s1 with heap:=h1,toks:=NK}:=I2.kept (t':=NK) k1
  have e1:NA=gh (rX (λi=>ns.getD i 0) ns.length):=W.ksm_same (hp.trans (gr _).symm) hu (rO _)
  subst e1;have hz:H1 D=none:=I3.hok.fresh hD;obtain⟨R2,s2⟩:=R1.laid (.aA ((gh (rX (λi=>ns.getD i 0) ns.length)).map V.int)) hz
  refine⟨.ref D,upd H1 D (.aA ((gh (rX (λi=>ns.getD i 0) ns.length)).map V.int)),I3.laid (t':=NK) k2 hD ⟨?_,out.toList,e,rP hI,rQ⟩,rfl,q _ _ _ R2 (WV.trans s2) (aV.mpr ⟨_,_,rfl,nJ.of az,kX _⟩)⟩
  rw[aH,(gr _).length_eq];have:=rY (λi=>ns.getD i 0) ns.length
  exact b0 this (b0 Sf (by decide))
end
noncomputable def WW:av->Option (List Int)
 | [.int n]=>if 0<=n/\n<=1000 then some (rangeInts 0 1 n.toNat)else none
 | [.int a,.int b]=>if 0<=a/\a<=b/\b<=1000 then some (rangeInts a 1 (b-a).toNat)else none
 | [.int a,.int b,.int c]=>if(-1000<=a/\a<=1000 /\ -1000<=b/\b<=a/\c = -1)then some (rangeInts a (-1) (a-b).toNat)else none
 | _=>none
def lrg(ts:bG):bG:=λρ=>(ts ρ).bind λps=>(WW ps).map λl=>l.map .int
section
variable {X:Cx} {H₀ aa:Hp} {e:aj} {es:List aj} {ts:bG} {pos p rN zp:Pos}
theorem Cq{a c:Int}{n:Nat}{acc:Array ag}(h:ItemsOf (fun(i:Nat) (v:ag)=>∃t:Tok,v=Value.int (a+i*c) t) acc n):Vals ((rangeInts a c n).map V.int) acc.toList:=by
 have:∀(l:bW) (k:Nat),(∀(j:Nat) (v:ag),l[j]?=some v->∃t:Tok,v=Value.int (a+((k+j:Nat):Int)*c) t)->Vals (((List.range' k l.length).map fun(i:Nat)=>a+(i:Int)*c).map V.int) l:=by
  intro l;induction l with
  | nil=>intro k _;exact .nil
  | cons x l ih =>
   intro k hx;obtain⟨t,ht⟩:=hx 0 x rfl;rw[aW,List.range'_succ,bC,bC];refine .cons ⟨t,by rw[ht];rfl⟩ (ih (k+1) λj v hv=>?_)
   have:=hx (j+1) v (by simpa using hv)
   rw[show k+(j+1)=k+1+j by lia]at this
   exact this
 have h2:=this acc.toList 0 λj v hv=>by
  rw[gn];exact h.2 j v (by rw[<-gG];exact hv)
 rw[fB,h.1,<-List.range_eq_range']at h2;exact h2
theorem WX(hh:X.A.handled=none)(WT:Gl X "list")(WU:X.mg "list"=none)(hg:Gl X "range")(hm:X.mg "range"=none)(ha:PA X (e::es) (tA X.K H₀ aa ts))(hs:starEach (e::es) X.env=(false,eval e X.env)::starEach es X.env)(Ie:(backTo rN (starEach es X.env)).any (·.1)=false) :
  PE X (.Call (.Name "list" p) [.Call (.Name "range" zp) (e::es) [] rN] [] pos) (tF X.K H₀ aa (lrg ts)):=by
 rintro ae s σ H Q I ⟨F,ρ,zs,Rp,hf,q⟩;obtain⟨ps,f1,hf⟩:=ao hf;obtain⟨ns,f2,e0⟩:=WG hf;clear hf;subst e0;refine jo (ld_blt I WT WU (jz .list) ?_ (by decide) (by decide))
 refine j1 (zt rfl ?_) rfl rfl;have hA:=ha rN ae s σ H (λvs H'=>∃F',cw X.K H₀ aa F' ρ σ H'/\Same F F'/\aP X.K F' ps vs) I ⟨F,ρ,ps,Rp,f1,λvs H1 F1 R1 s1 b1=>⟨F1,R1,s1,b1⟩⟩
 refine Call_ (ld_blt I hg hm boot_range (j1 (thn hA λus s1 ⟨vs,H1,I1,r1,F1,R1,WV,b1⟩=>?_) hs Ie))
 have fin:∀(r:ab) (h1:Heap) (WY:Nat) (a b c:Int) (t u v:Tok) (n:Nat),(∀b o,s1.heap.get? b=some o->h1.get? b=some o)->IsRange h1 r a b c t u v->Builtin.Range.small a b c=true->Builtin.Range.rangeSize a b c=n->n<=3000->ns=rangeInts a c n ->
   wpAny (model X.prog X.w) X.A (call (.type "list") [.ref r]) (EP X ae σ Q) X.xe {s1 with heap:=h1,toks:=WY}:=λr h1 WY a b c t u v n hk hr SM hn SY IE=>by
  refine call_list_range (s:={s1 with heap:=h1,toks:=WY}) hh hr SM hn (by lia) λh' tk acc c' Zc hS FY=>?_
  have I2:Inv X ae σ H1 {s1 with heap:=h1,toks:=WY}:=I1.kept (t':=WY) hk
  have hz:H1 h1.objs.size=none:=I2.hok.fresh (aR _);have hv:=Cq FY;rw[<-IE]at hv;refine⟨.ref h1.objs.size,upd H1 h1.objs.size (.aA (ns.map V.int)),I2.laid (t':=tk) Zc (aR _) ⟨?_,acc.toList,c',hv,hS⟩,rfl,q _ _ H1 F1 R1 WV (kX ns) hz⟩;rw[aH,IE,rangeInts_length];exact b0 SY (by decide)
 unfold WW at f2;split at f2
 ·rename_i n _;obtain⟨⟨h0,h1⟩,e1⟩:=aB f2;obtain⟨v,rfl,bv⟩:=dQ b1;rw[aG.mp bv]at r1;obtain⟨u,rfl,ru⟩:=i4 r1;obtain⟨tk0,rfl⟩:=ru;refine call_range_1 ?_;refine fin _ _ _ 0 n 1 _ _ _ n.toNat (λb o e=>bR _ e) (wa ..) ?_ ?_ (by lia) e1.symm
  ·exact small_one (by decide) (by decide) (by lia) (by lia)
  ·unfold Builtin.Range.rangeSize;rw[if_pos (by decide)]
   split<;>lia
 ·rename_i a b _;obtain⟨⟨h0,h1,h2⟩,e1⟩:=aB f2;obtain⟨v1,v2,rfl,bv1,bv2⟩:=DV b1;rw[aG.mp bv1,aG.mp bv2]at r1;obtain⟨u1,u2,rfl,Wv,ru2⟩:=Ip r1;obtain⟨k1,rfl⟩:=Wv;obtain⟨k2,rfl⟩:=ru2;refine call_range_2 ?_;refine fin _ _ _ a b 1 _ _ _ (b-a).toNat (λb o e=>bR _ e) (wa ..) (small_one (by lia) (by lia) (by lia) (by lia)) (rangeSize_nat a b) (by lia) e1.symm
 ·rename_i a b c _;obtain⟨⟨h0,h1,h2,h3,rfl⟩,e1⟩:=aB f2;obtain⟨v1,r,rfl,bv1,b1'⟩:=b1.b6;obtain⟨v2,v3,rfl,bv2,bv3⟩:=DV b1';rw[aG.mp bv1,aG.mp bv2,aG.mp bv3]at r1;cases r1 with
  | cons Wv r1 =>
   obtain⟨u2,u3,rfl,ru2,ru3⟩:=Ip r1;obtain⟨k1,rfl⟩:=Wv;obtain⟨k2,rfl⟩:=ru2;obtain⟨k3,rfl⟩:=ru3;refine call_range_3 (by decide) ?_ (Or.inl (PyProof.noPylong_small (by lia)))
   refine fin _ _ _ a b (-1) _ _ _ (a-b).toNat (λb o e=>bR _ e) (wa ..) (W.small_down (by lia) (by lia) (by lia) (by lia)) (W.rangeSize_downNat a b) (by lia) e1.symm
 ·cases f2
end
section
variable {K:ah} {F:Hp}
theorem gJ.get:∀{fs:List (Str×Fd)} {vs:List (Str×V)} {f:Str} {d:Fd},gJ K F fs vs->fs.lookup f=some d->∃v,vs.lookup f=some v/\pO K F d v
 | [],_,_,_,_,h=>by cases h
 | (k,d')::es,vs,f,d,⟨v,r,h0,h1,h2⟩,hl=>by
  subst h0;rw[gV]at hl ⊢;cases z:f==k with
  | true=>rw[z]at hl;cases hl;exact⟨v,rfl,h1⟩
  | false=>rw[z]at hl;exact gJ.get h2 hl
theorem gJ.snoc{f:Str}{d:Fd}{v:V}(hd:pO K F d v):∀{fs:List (Str×Fd)} {vs:List (Str×V)},gJ K F fs vs->gJ K F (fs++[(f,d)]) (vs++[(f,v)])
 | [],_,h=>by
  have h:_=[]:=h;subst h;exact⟨v,[],rfl,hd,rfl⟩
 | (k,d')::es,vs,⟨w,r,h0,h1,h2⟩=>⟨w,r++[(f,v)],by rw[h0];rfl,h1,gJ.snoc hd h2⟩
theorem gJ.keys:∀{fs:List (Str×Fd)} {vs:List (Str×V)},gJ K F fs vs->vs.map (·.1)=fs.map (·.1)
 | [],_,h=>by
  have h:_=[]:=h;subst h;rfl
 | (k,d')::es,vs,⟨w,r,h0,h1,h2⟩=>by rw[h0,bC,bC,gJ.keys h2]
theorem zD{f:Str}{v:V}:∀{vs:List (Str×V)},f∉vs.map (·.1)->jT f v vs=vs++[(f,v)]
 | [],_=>rfl
 | (k,u)::r,h=>by
  have hk:¬k=f:=λz=>h (by simp[z])
  show(if k=f then _ else(k,u)::jT f v r)=_
  rw[if_neg hk,zD λz=>h (by rw[bC];exact bx _ z)]
  rfl
section
variable {x C dx:ab} {ws:List (Str×V)} {o:HO} (hx:F x=some (.pK C dx ws))
include hx
mutual
theorem cx.zE:∀{p:PV} {v:V},cx K F p v->cx K (upd F x o) p v
 | .cE,_,h=>by simp only[cx]at h ⊢;exact h
 | .bl _,_,h=>by simp only[cx]at h ⊢;exact h
 | .int _,_,h=>by simp only[cx]at h ⊢;exact h
 | .str _,_,h=>by simp only[cx]at h ⊢;exact h
 | .aI ps,_,h=>by
  simp only[cx]at h ⊢;obtain⟨a,vs,rfl,hs,hb⟩:=h;refine⟨a,vs,rfl,?_,aP.zE hb⟩;rcases hs with(h | ⟨o',h⟩) | h
  ·exact .inl (.inl (by rw[upd_ne (oV h hx (by intro z;cases z))];exact h))
  ·exact .inl (.inr ⟨o',by rw[upd_ne (oV h hx (by intro z;cases z))];exact h⟩)
  ·exact .inr h
 | .aA ps,_,h=>by
  simp only[cx]at h ⊢;obtain⟨a,vs,rfl,hs,hb⟩:=h;refine⟨a,vs,rfl,?_,aP.zE hb⟩;rcases hs with(h | ⟨o',h⟩) | h
  ·exact .inl (.inl (by rw[upd_ne (oV h hx (by intro z;cases z))];exact h))
  ·exact .inl (.inr ⟨o',by rw[upd_ne (oV h hx (by intro z;cases z))];exact h⟩)
  ·exact .inr h
theorem aP.zE:∀{ps:av} {vs:List V},aP K F ps vs->aP K (upd F x o) ps vs
 | [],_,h=>by simp only[aP]at h ⊢;exact h
 | p::ps,_,h=>by
  simp only[aP]at h ⊢;obtain⟨v,r,rfl,h1,h2⟩:=h;exact⟨v,r,rfl,cx.zE h1,aP.zE h2⟩
end
theorem rm.zE:∀{es:List (Str×PV)} {vs:List (b8×V)},rm K F es vs->rm K (upd F x o) es vs
 | [],_,h=>h
 | (_,_)::_,_,⟨v,r,h1,h2,h3⟩=>⟨v,r,h1,cx.zE hx h2,rm.zE h3⟩
theorem pO.zE:∀{d:Fd} {v:V},pO K F d v->pO K (upd F x o) d v
 | .pv _,_,h=>cx.zE hx h
 | .dc _,_,⟨d,vs,h1,h2,h3⟩=>⟨d,vs,h1,by rw[upd_ne (oV h2 hx (by intro z;cases z))];exact h2,rm.zE hx h3⟩
theorem gJ.zE:∀{es:List (Str×Fd)} {vs:List (Str×V)},gJ K F es vs->gJ K (upd F x o) es vs
 | [],_,h=>h
 | (_,_)::_,_,⟨v,r,h1,h2,h3⟩=>⟨v,r,h1,pO.zE hx h2,gJ.zE h3⟩
end
end
abbrev Cr:=aC->Option Ob
def tO(K:ah)(H₀ aa:Hp)(f:Cr):TE:=λσ H Q=>∃F ρ o,cw K H₀ aa F ρ σ H/\f ρ=some o/\∀a H' F',cw K H₀ aa F' ρ σ H'->Same F F'->ue K F' o a->Q (.ref a) H'
def tD(K:ah)(H₀ aa:Hp)(f:aC->Option Fd):TE:=λσ H Q=>∃F ρ d,cw K H₀ aa F ρ σ H/\f ρ=some d/\∀v H' F',cw K H₀ aa F' ρ σ H'->Same F F'->pO K F' d v->Q v H'
section
variable {X:Cx} {H₀ aa:Hp} {e ke:aj} {es:List aj} {fo:Cr} {fe fk:FE} {ts:bG} {pos p sp:Pos} {x:Str} {k n:Nat} {f:ab} {fd:dk} {ps:List Str} {g:Ob->av->cg}
def uk(i:Nat):Cr:=λρ=>match ρ[i]? with | some (.ob o)=>some o | _=>none
theorem P9(i:Nat)(h:PE X (.Name x pos) (gR i)):PE X (.Name x pos) (tO X.K H₀ aa (uk i)):=h.imp <| by
 rintro σ H Q ⟨F,ρ,o,R,hf,q⟩
 unfold uk at hf;split at hf
 ·rename_i z;cases hf;obtain⟨a,h1,h2⟩:=R.obs i _ z;exact⟨_,h1,q a H F R (Same.refl F) h2⟩
 ·cases hf
def JD(f:Str):Ob->bQ
 | .IL fs=>(match fs.lookup f with | some (.pv p)=>some p | _=>none)
 | .fn _=>none
 | .dct _=>none
def r9(fo:Cr)(f:Str):FE:=λρ=>(fo ρ).bind (JD f)
theorem WZ{f:Str}(he:PE X e (tO X.K H₀ aa fo))(hb:attributeBase e f X.env (eval e X.env)=eval e X.env):PE X (.Attribute e f pos) (tE X.K H₀ aa (r9 fo f)):=(RB he hb).imp <| by
 rintro σ H Q ⟨F,ρ,p,R,hf,q⟩
 obtain⟨o,h1,h2⟩:=ao hf;cases o with
 | fn x=>cases h2
 | dct _=>cases h2
 | IL fs =>
  have h2:(match fs.lookup f with | some (.pv p)=>some p | _=>none)=some p:=h2
  split at h2
  ·rename_i p' hl;cases h2;refine⟨F,ρ,_,R,h1,λa H1 F1 R1 s1 ob=>?_⟩
   obtain⟨C,dx,vs,c,na,fa,ab8⟩:=ob;obtain⟨v,l1,d1⟩:=ab8.get hl;exact⟨a,C,dx,vs,v,rfl,R1.sub _ _ fa,c,na _ (dC hl),l1,q v H1 F1 R1 s1 d1⟩
  ·cases h2
def Qa(K:ah)(n:Nat)(g:Ob->av->cg):Sp:=λvs H Q E=>∃F o ps e a us,vs=.ref a::us/\Same F H/\ue K F o a/\aP K F ps us/\ps.length=n/\g o ps=some e/\PH K H F Q E e
def jX(n:Nat)(g:Ob->av->cg):Ob->av->cg:=λo ps=>if ps.length=n then g o ps else none
def ei(g:Ob->av->cg)(fo:Cr)(ts:bG):FE:=λρ=>(fo ρ).bind λo=>(ts ρ).bind λas=>(g o as).bind l0
theorem l9{σ:St}{H:Hp}{Q:VK}{E:XK}{K:ah}(h:tE K H₀ aa (ei (jX n g) fo ts) σ H Q):uL (Qa K n g) [] E (Pp (tO K H₀ aa fo) (tA K H₀ aa ts)) σ H Q:=by
 obtain⟨F,ρ,p,R,hf,q⟩:=h;obtain⟨o,h0,hf⟩:=ao hf;obtain⟨as,h1,h2⟩:=ao hf;obtain⟨en,h2,h4⟩:=ao h2;obtain⟨hl,h3⟩:=aw (show(if as.length=n then g o as else none)=some en from h2)
 refine⟨F,ρ,o,R,h0,λa H1 F1 R1 s1 ob=>⟨F1,ρ,as,R1,h1,λvs H2 F2 R2 s2 b2=>?_⟩⟩
 show Qa K n g ((V.ref a::vs)++[]) H2 Q E;rw[dE];refine⟨F2,o,as,en,a,vs,rfl,R2.sub,ob.mono s2,b2,hl,h3,?_⟩;cases en with
 | un=>cases h4
 | ex C=>cases h4
 | ob _=>cases h4
 | cq _=>cases h4
 | val p' =>
  cases h4;exact λv F3 H3 P ff b3=>q v H3 F3 (R2.after P.keep P.base P.sub P.fresh) (s1.trans (s2.trans ff)) b3
 | own ps =>
  cases h4;intro a' Wf F3 H3 P ff ha hn fn b3;obtain⟨z1,z2,z3,z4⟩:=zd P ha hn fn;exact q _ H3 _ (R2.after P.keep z1 z3 z4) (s1.trans (s2.trans z1)) (aV.mpr ⟨a',Wf,rfl,nJ.of az,b3.mono z2⟩)
theorem JE(F:FnOk X.prog X.w X.K X.mg X.base (ji X.prog X.w) k f fd ps (Qa X.K n g))(hr:dg k X.A)(hg:Gl X x)(hm:X.mg x=some (.ref f))(hk:W.keepIn X.K (.ref f)=true)(hb:dS X.K fd ps [])
  (ho:PE X e (tO X.K H₀ aa fo)) (ha:PA X es (tA X.K H₀ aa ts)) (pM:(x==("__debug__":Str))=false) (he:starEach (e::es) X.env=(false,eval e X.env)::starEach es X.env) (jt:(backTo pos (starEach es X.env)).any (·.1)=false) :
  PE X (.Call (.Name x p) (e::es) [] pos) (tE X.K H₀ aa (ei (jX n g) fo ts)):=(kU F hr hg hm hk hb .nil jP (cL ho ha he) pM he jt).imp λ_ _ _ h=>l9 h
abbrev S0(X:Cx)(fns:List (Str×Nat))(call:Str->Ob->av->cg):Prop:=∀x n,fns.lookup x=some n->∃k f fd ps,FnOk X.prog X.w X.K X.mg X.base (ji X.prog X.w) k f fd ps (Qa X.K n (call x))/\dg k X.A/\X.mg x=some (.ref f)/\W.keepIn X.K (.ref f)=true/\dS X.K fd ps []
def W0(rows:List (Str×Str))(fns:List (Str×Nat))(call:Str->Ob->av->cg)(fo:Cr)(ts:bG)(ρ:aC):PV->bQ
 | .str k=>(rows.lookup k).bind λfn=>(fns.lookup fn).bind λm=>ei (jX m (call fn)) fo ts ρ
 | _=>none
def Qb(rows:List (Str×Str))(fns:List (Str×Nat))(call:Str->Ob->av->cg)(fk:FE)(fo:Cr)(ts:bG):FE:=λρ=>(fk ρ).bind (W0 rows fns call fo ts ρ)
theorem S2{T:Str}{rows:List (Str×Str)}{fns:List (Str×Nat)}{call:Str->Ob->av->cg}(ht:u9 X.K X.mg X.w.params T rows)(Mm:S0 X fns call)
  (hg:Gl X T) (hk:PE X ke (tE X.K H₀ aa fk)) (hs:gS ke) (ho:PE X e (tO X.K H₀ aa fo)) (ha:PA X es (tA X.K H₀ aa ts)) (pM:(T==("__debug__":Str))=false) (he:starEach (e::es) X.env=(false,eval e X.env)::starEach es X.env) (jt:(backTo pos (starEach es X.env)).any (·.1)=false) :
  PE X (.Call (.Subscript (.Name T p) ke sp) (e::es) [] pos) (tE X.K H₀ aa (Qb rows fns call fk fo ts)):=by
 rintro ae s σ H Q I ⟨F,ρ,pr,R,hf,q⟩;obtain⟨pk,h1,h2⟩:=ao hf;cases pk with
 | str k =>
  obtain⟨fn,h3,h2⟩:=ao (show(rows.lookup k).bind (λfn=>(fns.lookup fn).bind λm=>ei (jX m (call fn)) fo ts ρ)=some pr from h2)
  obtain⟨m,h4,h2⟩:=ao h2;obtain⟨a,AL,n,t1,t2,t3,t4⟩:=ht;obtain⟨f,n1,n2,_⟩:=t4 k fn h3;obtain⟨j,f',fd,ps,G,hr,m1,m2,m3⟩:=Mm fn m h4;have:=bo (n2.symm.trans m1);cases this;rw[m6];refine ai (thn (o7 (Cd t2 t3) (mH (v:=.ref a) hg t1 rfl pM) hk hs ae s σ H (λv H1=>v=.ref f/\∃F1,cw X.K H₀ aa F1 ρ σ H1/\Same F F1) I ?_) λu s1 ⟨x,H1,I1,rx,ex,F1,R1,Wx⟩=>?_)
  ·exact⟨F,ρ,_,R,h1,λv H1 F1 R1 s1 b1=>⟨k,f,rfl,cb.mp b1,n1,rfl,F1,R1,s1⟩⟩
  ·subst ex;cases rx;refine W.callWith_K (h₀:=X.base) I.ok.mod.kin m2 (thn ((cL ho ha he) pos ae s1 σ H1 _ I1 (l9 (n:=m) (g:=call fn) (E:=E0) (Q:=Q) ⟨F1,ρ,pr,R1,h2,λv H2 F2 R2 s2 b2=>q v H2 F2 R2 (Wx.trans s2) b2⟩)) λus s2 ⟨vs,H2,I2,r,q2⟩=>⟨I2.oW,?_⟩) he jt
   exact wB G hr m3 .nil jP I2 r q2
 | _=>cases h2
def w9(K:ah)(mg:cZ)(P:Params)(T:Str)(rows:List (Str×PV)):Prop :=
 ∃a es n,mg T=some (.ref a)/\K.lookup a=some ⟨.type "dict",none,.dict es n,#[]⟩/\W.KeysLit P es.toList/\∀k p,rows.lookup k=some p->∃u v,W.nsIn K a k=some (some u)/\RelV v u/\∀F,cx K F p v
def ab9(K:ah)(a:ab):R2:=λx y H Q=>∃k u v,x=.ref a/\y=.str k/\W.nsIn K a k=some (some u)/\RelV v u/\Q v H
theorem S3{a:ab}{es:Array DictEntry}{n:Nat}(hl:X.K.lookup a=some ⟨.type "dict",none,.dict es n,#[]⟩)(hk:W.KeysLit X.w.params es.toList):MK X (ab9 X.K a):=by
 rintro value slice ae s σ H x y v w Q I rx ry ⟨k,u,z,ex,ey,e,rz,q⟩ hs;subst ex ey;cases rx;obtain⟨t,rfl⟩:=ry;have hm:=W.mapOf_K (prog:=X.prog) I.oW hl hk;exact tail_any hm.typeIs slot_dict_getitem.lookup (Bm (strKind_is X.prog X.w k t) hm (W.find_K hl e) ⟨z,H,I.tok _,rz,q⟩) hs
def aca(rows:List (Str×PV)):PV->bQ
 | .str k=>rows.lookup k
 | _=>none
def W2(rows:List (Str×PV))(fk:FE):FE:=λρ=>(fk ρ).bind (aca rows)
theorem W3{T:Str}{rows:List (Str×PV)}(ht:w9 X.K X.mg X.w.params T rows)(hg:Gl X T)(hk:PE X ke (tE X.K H₀ aa fk))(hs:gS ke)(pM:(T==("__debug__":Str))=false):PE X (.Subscript (.Name T p) ke sp) (tE X.K H₀ aa (W2 rows fk)):=by
 rintro ae s σ H Q I ⟨F,ρ,pr,R,hf,q⟩;obtain⟨pk,h1,h2⟩:=ao hf;cases pk with
 | str k =>
  obtain⟨a,AL,n,t1,t2,t3,t4⟩:=ht;obtain⟨u,v,n1,n2,n3⟩:=t4 k pr h2;exact o7 (S3 t2 t3) (mH (v:=.ref a) hg t1 rfl pM) hk hs ae s σ H Q I ⟨F,ρ,_,R,h1,λw H1 F1 R1 s1 b1=>⟨k,u,v,rfl,cb.mp b1,n1,n2,q v H1 F1 R1 s1 (n3 F1)⟩⟩
 | _=>cases h2
def W4(rows:List (Str×Str))(fk:FE):Cr:=λρ=>(fk ρ).bind λq=>match q with | .str k=>(rows.lookup k).map Ob.fn | _=>none
theorem W5{T:Str}{rows:List (Str×Str)}(ht:u9 X.K X.mg X.w.params T rows)(hg:Gl X T)(hk:PE X ke (tE X.K H₀ aa fk))(hs:gS ke)(pM:(T==("__debug__":Str))=false):PE X (.Subscript (.Name T p) ke sp) (tO X.K H₀ aa (W4 rows fk)):=by
 rintro ae s σ H Q I ⟨F,ρ,o,R,hf,q⟩;obtain⟨pk,h1,h2⟩:=ao hf;cases pk with
 | str k =>
  have h2:(rows.lookup k).map Ob.fn=some o:=h2;cases h3:rows.lookup k with
  | none=>rw[h3]at h2;cases h2
  | some fn =>
   rw[h3]at h2;cases h2;obtain⟨a,AL,n,t1,t2,t3,t4⟩:=ht;obtain⟨f,n1,n2,n3⟩:=t4 k fn h3;exact o7 (Cd t2 t3) (mH (v:=.ref a) hg t1 rfl pM) hk hs ae s σ H _ I ⟨F,ρ,_,R,h1,λv H1 F1 R1 s1 b1=>⟨k,f,rfl,cb.mp b1,n1,q f H1 F1 R1 s1 n3⟩⟩
 | _=>cases h2
def S4(fns:List (Str×Nat))(call:Str->Ob->av->cg)(fo:Cr)(ts:bG)(ρ:aC):Ob->bQ
 | .fn x=>(fns.lookup x).bind λm=>ei (jX m (call x)) fo ts ρ
 | _=>none
def JF(fns:List (Str×Nat))(call:Str->Ob->av->cg)(i:Nat)(fo:Cr)(ts:bG):FE:=λρ=>(uk i ρ).bind (S4 fns call fo ts ρ)
theorem NL{fns:List (Str×Nat)}{call:Str->Ob->av->cg}(i:Nat)(hx:PE X (.Name x p) (gR i))(Mm:S0 X fns call)(IE:∀x a,W.nsIn X.K mainGlobals x=some (some (.ref a))->X.mg x=some (.ref a))
  (ho:PE X e (tO X.K H₀ aa fo)) (ha:PA X es (tA X.K H₀ aa ts)) (he:starEach (e::es) X.env=(false,eval e X.env)::starEach es X.env) (jt:(backTo pos (starEach es X.env)).any (·.1)=false) :
  PE X (.Call (.Name x p) (e::es) [] pos) (tE X.K H₀ aa (JF fns call i fo ts)):=by
 rintro ae s σ H Q I ⟨F,ρ,pr,R,hf,q⟩;obtain⟨o,h1,h2⟩:=ao hf;cases o with
 | IL _=>cases h2
 | dct _=>cases h2
 | fn y =>
  obtain⟨m,h4,h2⟩:=ao (show(fns.lookup y).bind (λm=>ei (jX m (call y)) fo ts ρ)=some pr from h2)
  obtain⟨j,f',fd,ps,G,hr,m1,m2,m3⟩:=Mm y m h4;refine jo (thn (P9 (H₀:=H₀) (aa:=aa) i hx ae s σ H (λv H1=>v=.ref f'/\∃F1,cw X.K H₀ aa F1 ρ σ H1/\Same F F1) I ⟨F,ρ,_,R,h1,λa H1 F1 R1 s1 ob=>?_⟩) λu s1 ⟨z,H1,I1,rx,ex,F1,R1,Wx⟩=>?_)
  ·have:=IE y a ob;rw[m1]at this;cases this;exact⟨rfl,F1,R1,s1⟩
  ·subst ex;cases rx;refine W.callWith_K (h₀:=X.base) I.ok.mod.kin m2 (thn ((cL ho ha he) pos ae s1 σ H1 _ I1 (l9 (n:=m) (g:=call y) (E:=E0) (Q:=Q) ⟨F1,ρ,pr,R1,h2,λv H2 F2 R2 s2 b2=>q v H2 F2 R2 (Wx.trans s2) b2⟩)) λus s2 ⟨vs,H2,I2,r,q2⟩=>⟨I2.oW,?_⟩) he jt
   exact wB G hr m3 .nil jP I2 r q2
def NO(i:Nat)(ρ:aC)(k:PV):bQ:=match ρ[i]? with
 | some (.own ps)=>(match k with | .int n=>atI ps n | _=>none)
 | some (.val p)=>bL p k
 | _=>none
def W6(i:Nat)(fk:FE):FE:=λρ=>(fk ρ).bind (NO i ρ)
theorem JG{i:Nat}(hx:PE X (.Name x p) (gR i))(hk:PE X ke (tE X.K H₀ aa fk))(hs:gS ke):PE X (.Subscript (.Name x p) ke sp) (tE X.K H₀ aa (W6 i fk)):=by
 rintro ae s σ H Q I ⟨F,ρ,pr,R,hf,q⟩;obtain⟨k,h1,h2⟩:=ao hf;unfold NO at h2;split at h2
 ·rename_i ps hp;split at h2
  ·rename_i n;obtain⟨a,vs,e1,e2,e3,e4,e5⟩:=R.own i ps hp;refine o7 wG hx hk hs ae s σ H Q I ⟨.ref a,e1,F,ρ,.int n,R,h1,λw H1 F1 R1 s1 b1=>?_⟩
   obtain⟨a',RV,g1,g2,g3,g4,g5⟩:=R1.own i ps hp;rw[e1]at g1;cases g1;obtain⟨v,hv,bv⟩:=g5.atI h2;exact⟨a,RV,n,v,rfl,aG.mp b1,lg.of g2,hv,q v H1 F1 R1 s1 bv⟩
  ·cases h2
 ·rename_i p' hp;refine Wu (uV (H₀:=H₀) (aa:=aa) i hx) hk hs ae s σ H Q I ⟨F,ρ,pr,R,?_,q⟩;have hr:rd i ρ=some p':=by unfold rd;rw[hp]
  show(rd i ρ).bind (λa=>(fk ρ).bind λb=>bL a b)=_
  rw[hr,aY,h1];exact h2
 ·cases h2
theorem cw.W7{K:ah}{F H:Hp}{ρ:aC}{σ:St}(R:cw K H₀ aa F ρ σ H){i:Nat}(hi:i<ρ.length){o:Ob}{a:ab}(hb:ue K F o a):cw K H₀ aa F (ρ.set i (.ob o)) (σ.set i (some (.ref a))) H where
 sub:=R.sub
 keep:=R.keep
 base:=R.base
 fresh:=R.fresh
 val:=λj q e=>by
  by_cases h:i=j
  ·subst h;rw[bJ hi]at e;cases e
  ·rw[bj h]at e ⊢;exact R.val j q e
 own:=λj q e=>by
  by_cases h:i=j
  ·subst h;rw[bJ hi]at e;cases e
  ·rw[bj h]at e ⊢;exact R.own j q e
 apart:=λj k ps qs a h1 h2 h3 h4=>by
  by_cases hj:i=j
  ·subst hj;rw[bJ hi]at h1;cases h1
  ·by_cases hk:i=k
   ·subst hk;rw[bJ hi]at h2;cases h2
   ·rw[bj hj]at h1 h3;rw[bj hk]at h2 h4;exact R.apart j k ps qs a h1 h2 h3 h4
 obs:=λj q e=>by
  by_cases h:i=j
  ·subst h;rw[bJ hi]at e;cases e;exact⟨a,bJ (by rw[<-R.len];exact hi),hb⟩
  ·rw[bj h]at e ⊢;exact R.obs j q e
 cq:=λj q e=>by
  by_cases h:i=j
  ·subst h;rw[bJ hi]at e;cases e
  ·rw[bj h]at e ⊢;exact R.cq j q e
 len:=by rw[gk,gk];exact R.len
def JH(i:Nat)(fo:Cr):FS:=λρ=>(fo ρ).bind λo=>if i<ρ.length then some (.nx (ρ.set i (.ob o)))else none
theorem NP(i:Nat){eY:Pos}(h:PS X (.Assign [.Name x eY] e pos) (lh (tO X.K H₀ aa fo) (gName i))):PS X (.Assign [.Name x eY] e pos) (tS X H₀ aa (JH i fo)):=h.imp <| by
 rintro D σ H ⟨F,ρ,o,R,hf,q⟩
 obtain⟨ob,h1,h2⟩:=ao hf;obtain⟨hi,rfl⟩:=aB h2;exact⟨F,ρ,ob,R,h1,λa H1 F1 R1 s1 b1=>q F1 _ H1 (R1.W7 hi b1) s1⟩
def W8(K:ah)(n:Nat)(mk:av->Option (List (Str×Fd))):Sp:=λvs H Q _=>∃F C dx x us ps fs,vs=.ref x::us/\H x=some (.pK C dx [])/\Br K C/\F x=none/\Same F H/\aP K F ps us/\ps.length=n/\mk ps=some fs/\(∀f∈fs,d9 K C f.1)/\fs.length<=900 /\
 ∀F' H',(∃ws,F' x=some (.pK C dx ws)/\gJ K F' fs ws)->Same F' H'->Same F F'->(∀b o,H b=some o->b≠x->H' b=some o)->(∀b o,F' b=some o->b≠x->F b=some o\/H b=none)->Q .cE H'
def W9(flds:List Str)(n:Nat)(mk:av->Option (List (Str×Fd)))(ts:bG):Cr:=λρ=>(ts ρ).bind λps=>if ps.length=n then(mk ps).bind λfs=>if(fs.all (λf=>flds.contains f.1)&&decide (fs.length<=900))=true then some (.IL fs)else none else none
theorem S5{C:ab}{flds:List Str}{mk:av->Option (List (Str×Fd))}(M:Mk X.K C f)(c:Br X.K C)(hno:∀f,flds.contains f=true->d9 X.K C f)(F:FnOk X.prog X.w X.K X.mg X.base (ji X.prog X.w) k f fd ps (W8 X.K n mk))(hr:dg (k+1) X.A)(hg:Gl X x)(hm:X.mg x=some (.ref C))(hb:dS X.K fd ps [])
  (ha:PA X (e::es) (tA X.K H₀ aa ts)) (pM:(x==("__debug__":Str))=false) (he:starEach (e::es) X.env=(false,eval e X.env)::starEach es X.env) (jt:(backTo pos (starEach es X.env)).any (·.1)=false) :
  PE X (.Call (.Name x p) (e::es) [] pos) (tO X.K H₀ aa (W9 flds n mk ts)):=(MD (E:=E0) M F hr hg hm hb .nil jP ha pM he jt).imp <| by
 rintro σ H Q ⟨F,ρ,o,R,hf,q⟩
 obtain⟨as,h1,h2⟩:=ao hf;obtain⟨hl,h2⟩:=aw h2;obtain⟨fs,h3,h2⟩:=ao h2;obtain⟨NQ,rfl⟩:=aB h2;rw[aE]at NQ;refine⟨F,ρ,as,R,h1,λvs H1 F1 R1 s1 b1 y dx hy hdx hne=>?_⟩
 rw[dE];have up:∀b o,H1 b=some o->upd (upd H1 dx (.own y)) y (.pK C dx []) b=some o:=λb o e=>by
  rw[upd_ne (ne_of_none e hy),upd_ne (ne_of_none e hdx)];exact e
 have na:∀f∈fs,d9 X.K C f.1:=λf hf=>hno _ (dj.mp NQ.1 f hf)
 refine⟨F1,C,dx,y,vs,as,fs,rfl,az,c,R1.sub.free hy,λb o e=>up b o (R1.sub _ _ e),b1,hl,h3,na,nS NQ.2,λF' H' ⟨ws,hx,Hd⟩ sub base keep fresh=>⟨rfl,?_⟩⟩
 refine q y H' F' (R1.after (λb o e=>keep b o (up b o e) (ne_of_none e hy)) base sub λb o e=>?_) (s1.trans base) ⟨C,dx,ws,c,na,hx,Hd⟩
 by_cases hb:b=y
 ·subst hb;exact .inr hy
 ·rcases fresh b o e hb with z | z
  ·exact .inl z
  ·refine .inr ?_;cases w:H1 b with
   | none=>rfl
   | some o'=>rw[up b o' w]at z;cases z
abbrev NR:=List (Str×(aC->Option Fd))
def sd:NR->List (Str×Fd)->aC->Option (List (Str×Fd))
 | [],fs,_=>some fs
 | (f,g)::r,fs,ρ=>(g (.ob (.IL fs)::ρ)).bind λd=>if f∈fs.map (·.1)then none else sd r (fs++[(f,d)]) ρ
theorem zF:∀{l:NR} {fs out:List (Str×Fd)} {ρ:aC},sd l fs ρ=some out->(∀q∈fs,q∈out)/\fs.length<=out.length
 | [],fs,out,ρ,h=>by cases h;exact⟨λ_ z=>z,aR _⟩
 | (f,g)::r,fs,out,ρ,h=>by
  obtain⟨d,h1,h2⟩:=ao h;by_cases hf:f∈fs.map (·.1)
  ·rw[if_pos hf]at h2;cases h2
  ·rw[if_neg hf]at h2;obtain⟨a,b⟩:=zF h2;rw[bY]at b;exact⟨λq hq=>a q (gH _ hq),by lia⟩
def NS(fe:FE):aC->Option Fd:=λρ=>(fe ρ).map .pv
theorem acb(h:PE X e (tE X.K H₀ aa fe)):PE X e (tD X.K H₀ aa (NS fe)):=h.imp <| by
 rintro σ H Q ⟨F,ρ,d,R,hf,q⟩
 unfold NS at hf;cases z:fe ρ with
 | none=>rw[z]at hf;cases hf
 | some p =>
  rw[z]at hf;cases hf;exact⟨F,ρ,p,R,z,q⟩
theorem se{K:ah}{F H:Hp}{o:Ob}{a:ab}{ps:av}{vs:List V}{N:List Str}(hs:Same F H)(ho:ue K F o a)(hb:aP K F ps vs):cw K H F F (.ob o::ps.map .val++List.replicate (N.length-(ps.length+1)) .un) (start N (.ref a::vs)) H:=by
 have hl:=hb.length;have no:∀(i:Nat) (e:Ent),(Ent.ob o::ps.map Ent.val++List.replicate (N.length-(ps.length+1)) Ent.un)[i]?=some e->(i=0/\e=.ob o)\/(∃j p,i=j+1/\ps[j]?=some p/\e=.val p)\/e=.un:=λi e h=>by
  cases i with
  | zero=>cases h;exact .inl ⟨rfl,rfl⟩
  | succ j =>
   rw[Bi,vN]at h;by_cases hj:j<ps.length
   ·rw[gi (by simpa using hj),cf]at h
    cases z:ps[j]? with
    | none=>rw[z]at h;cases h
    | some q=>rw[z]at h;cases h;exact .inr (.inl ⟨j,q,rfl,z,rfl⟩)
   ·rw[jk (by simpa using hj),j4]at h
    split at h
    ·cases h;exact .inr (.inr rfl)
    ·cases h
 refine⟨hs,Same.refl H,Same.refl F,λ_ _ e=>.inl e,λi p e=>?_,λi qs e=>?_,λi j qs rs b e=>?_,λi q e=>?_,λi m e=>?_,?_⟩
 ·rcases no i _ e with⟨_,z⟩ | ⟨j,q,rfl,h1,z⟩ | z
  ·cases z
  ·cases z;obtain⟨v,g1,g2⟩:=hb.get h1;refine⟨v,?_,g2⟩;have hj:j<vs.length:=by
    rw[<-hl];exact(cM.mp h1).1
   unfold start;rw[bC,Bi,vN,gi (by rw[aH];exact hj),cf,g1]
   rfl
  ·cases z
 ·rcases no i _ e with⟨_,z⟩ | ⟨j,q,_,_,z⟩ | z<;>cases z
 ·rcases no i _ e with⟨_,z⟩ | ⟨j,q,_,_,z⟩ | z<;>cases z
 ·rcases no i _ e with⟨rfl,z⟩ | ⟨j,q,_,_,z⟩ | z
  ·cases z;exact⟨a,rfl,ho⟩
  ·cases z
  ·cases z
 ·rcases no i _ e with⟨_,z⟩ | ⟨j,q,_,_,z⟩ | z<;>cases z
 ·unfold start;simp only[aW,bY,aH,j5,hl]
def Xa(X:Cx)(l:NR):TS:=λD σ H=>∃(F:Hp) (x C dx:ab) (ws:List (Str×V)) (fs out:List (Str×Fd)) (ps:av) (us:List V),σ=start X.N (.ref x::us)/\Same F H/\F x=some (.pK C dx ws)/\gJ X.K F fs ws/\Br X.K C/\aP X.K F ps us /\
 sd l fs (ps.map .val++List.replicate (X.N.length-(ps.length+1)) .un)=some out/\(∀f∈out,d9 X.K C f.1)/\out.length<=900 /\
 ∀F' H',(∃Zl,F' x=some (.pK C dx Zl)/\gJ X.K F' out Zl)->Same F' H'->(∀b o,F b=some o->b≠x->F' b=some o)->(∀b o,H b=some o->b≠x->H' b=some o)->(∀b o,F' b=some o->b≠x->F b=some o\/H b=none)->D.nx σ H'
theorem S6:PSs X [] (Xa X []):=wm.imp <| by
 rintro D σ H ⟨F,x,C,dx,ws,fs,out,ps,us,hσ,sub,hx,Hd,c,hb,hf,na,hz,q⟩
 cases hf;exact q F H ⟨ws,hx,Hd⟩ sub (λ_ _ e _=>e) (λ_ _ e _=>e) λ_ _ e _=>.inl e
theorem NT{l:NR}{fl self:Str}{fd:aC->Option Fd}{p1 p2:Pos}{IS:List ay}(vd:PE X (.Name self p1) (gR 0))(he:∀H₀ aa,PE X e (tD X.K H₀ aa fd)) (hs:swapsWith e (some (.Attribute (.Name self p1) fl p2)) pos.line X.env=pure false) (hr:PSs X IS (Xa X l)) :
  PSs X (.Assign [.Attribute (.Name self p1) fl p2] e pos::IS) (Xa X ((fl,fd)::l)):=by
 have hv:PE X e (λσ H Q=>∃H₀ aa,tD X.K H₀ aa fd σ H Q):=λae s σ H Q I ⟨H₀,aa,h⟩=>he H₀ aa ae s σ H Q I h
 refine(fU (RC vd hv hs) hr).imp λD σ H ⟨F,x,C,dx,ws,fs,out,ps,us,hσ,sub,hx,Hd,c,hb,hf,na,hz,q⟩=>?_
 subst hσ;obtain⟨d,h1,h2⟩:=ao hf;by_cases hm:fl∈fs.map (·.1)
 ·rw[if_pos hm]at h2;cases h2
 rw[if_neg hm]at h2;obtain⟨sb,sl⟩:=zF h2;have hk:=Hd.keys;have MO:ws.length=fs.length:=by
  have:=c9 List.length hk;simpa using this
 rw[bY]at sl;have naf:∀f∈fs,d9 X.K C f.1:=λf hf=>na f (sb f (gH _ hf))
 refine⟨H,F,F,_,d,se (o:=.IL fs) sub ⟨C,dx,ws,c,naf,hx,Hd⟩ hb,h1,λv H1 F1 R1 s1 b1=>⟨.ref x,rfl,x,C,dx,ws,rfl,R1.sub _ _ (s1 _ _ hx),c,na (fl,d) (sb _ (d7 _ (dt.mpr rfl))),by lia,?_⟩⟩
 have hx1:=s1 _ _ hx;rw[zD (by rw[hk];exact hm)]
 have off:∀{G:Hp} {b:ab} {o o':HO},G b=some o->b≠x->upd G x o' b=some o:=λ{G b o o'} e hb=>by rw[upd_ne hb];exact e
 refine⟨upd F1 x (.pK C dx (ws++[(fl,v)])),x,C,dx,ws++[(fl,v)],fs++[(fl,d)],out,ps,us,rfl,λb o e=>?_,az,gJ.snoc (pO.zE hx1 b1) (gJ.zE hx1 (Hd.mono s1)),c,aP.zE hx1 (hb.mono s1),h2,na,hz,λF' H' hw ace k1 k2 k3=>?_⟩
 ·by_cases hb:b=x
  ·subst hb;rw[az]at e ⊢;exact e
  ·rw[upd_ne hb]at e ⊢;exact R1.sub _ _ e
 ·refine q F' H' hw ace (λb o e hb=>k1 b o (off (s1 _ _ e) hb) hb) (λb o e hb=>k2 b o (off (R1.keep _ _ e) hb) hb) λb o e hb=>?_
  rcases k3 b o e hb with z | z
  ·rw[upd_ne hb]at z;exact R1.fresh _ _ z
  ·rw[upd_ne hb]at z;refine .inr ?_;cases w:H b with
   | none=>rfl
   | some o'=>rw[R1.keep _ _ w]at z;cases z
end
def ma:b8->PV
 | .inl i=>.int i
 | .inr x=>.str x
noncomputable def FZ:PV->Option b8
 | .int i=>some (.inl i)
 | .str x=>some (.inr x)
 | _=>none
def F6:av->Option (List b8)
 | []=>some []
 | p::r=>(FZ p).bind λk=>(F6 r).map λks=>k::ks
def jQ:PV->Option (List b8)
 | .aI ps=>if ps.length<1000 then F6 ps else none
 | _=>none
def fG(ks:List b8):PV:=.aI (ks.map ma)
def factsOf:av->Option (List (List b8))
 | []=>some []
 | p::r=>(jQ p).bind λk=>(factsOf r).map λks=>k::ks
theorem xb{p:PV}{k:b8}(h:FZ p=some k):p=ma k:=by
 cases p<;>first | (cases h;rfl) | cases h
theorem D8:∀{ps:av} {ks:List b8},F6 ps=some ks->ps=ks.map ma
 | [],_,h=>by cases h;rfl
 | p::r,ks,h=>by
  obtain⟨k,h1,h⟩:=ao h;obtain⟨l,h2,rfl⟩:=jl.mp h;rw[xb h1,D8 h2];rfl
theorem zG{p:PV}{ks:List b8}(h:jQ p=some ks):p=fG ks/\ks.length<1000:=by
 cases p with
 | aI ps =>
  obtain⟨hl,h⟩:=aw (show(if ps.length<1000 then F6 ps else none)=some ks from h)
  have e:=D8 h;subst e;rw[aH]at hl;exact⟨rfl,hl⟩
 | _=>cases h
theorem md:∀{ps:av} {ks:List (List b8)},factsOf ps=some ks->ps=ks.map fG/\∀k∈ks,k.length<1000
 | [],_,h=>by cases h;exact⟨rfl,λ_ z=>nomatch z⟩
 | p::r,ks,h=>by
  obtain⟨k,h1,h⟩:=ao h;obtain⟨l,h2,rfl⟩:=jl.mp h;obtain⟨e1,l1⟩:=zG h1;obtain⟨e2,l2⟩:=md h2;rw[e1,e2];exact⟨rfl,λz hz=>(aZ.mp hz).elim (λq=>q▸l1) (l2 z)⟩
section
variable {K:ah} {F F' H H':Hp}
theorem sh{k:b8}{v:V}:cx K F (ma k) v↔v=kV k:=by
 cases k with
 | inl i=>exact aG
 | inr x=>exact cb
theorem oA:∀{ks:List b8} {vs:List V},aP K F (ks.map ma) vs->vs=ks.map kV
 | [],_,h=>h.bX
 | k::ks,_,h=>by
  obtain⟨v,r,rfl,h1,h2⟩:=h.b6;rw[sh.mp h1,oA h2];rfl
theorem D9{ks:List b8}{v:V}(h:cx K F (fG ks) v):∃a,v=.ref a/\gO K F a (ks.map kV):=by
 obtain⟨a,vs,rfl,h1,h2⟩:=bF.mp h;rw[oA h2]at h1;exact⟨a,rfl,h1⟩
end
abbrev eU:=List (List b8×Int)
def JI(ks:List (List b8))(k:List b8):Bool:=ks.any λj=>decide (j=k)
def eL(told:eU)(c:Int)(f:List b8):eU:=if JI (told.map (·.1)) f=true then told else told++[(f,c)]
def cQ(told:eU)(c:Int):List (List b8)->eU
 | []=>told
 | f::r=>cQ (eL told c f) c r
theorem ve(c:Int)(f:List b8):∀(l:List (List b8)) (told:eU),cQ told c (l++[f])=eL (cQ told c l) c f
 | [],_=>rfl
 | g::l,told=>ve c f l (eL told c g)
theorem F7(told:eU)(c:Int)(f:List b8):(eL told c f).length<=told.length+1:=by
 unfold eL;split
 ·lia
 ·rw[bY];exact aR _
theorem kY(c:Int):∀(l:List (List b8)) (told:eU),(cQ told c l).length<=told.length+l.length
 | [],_=>aR _
 | g::l,told=>by
  have h1:=kY c l (eL told c g);have h2:=F7 told c g;show(cQ (eL told c g) c l).length<=_;rw[aW]
  lia
def toldP(t:List b8×Int):PV:=.aI (t.1.map ma++[.int t.2])
def fz(out:List b8->Option (List (List b8))):Nat->Nat->eU->Option eU
 | 0,_,_=>none
 | n+1,k,told=>match told[k]? with
  | none=>some told
  | some t=>(out t.1).bind λfs=>if told.length+fs.length<f6 then fz out n (k+1) (cQ told k fs)else none
theorem qj{K:ah}{F H:Hp}{ρ:aC}{σ:St}(hs:Same F H)(hn:∀e∈ρ,(∀ps,e≠.own ps)/\∀m,e≠.cq m)(hv:∀(i:Nat) (p:PV),ρ[i]?=some (.val p)->∃v,σ[i]?=some (some v)/\cx K F p v)
  (ho:∀(i:Nat) (o:Ob),ρ[i]?=some (.ob o)->∃a,σ[i]?=some (some (.ref a))/\ue K F o a) (hl:ρ.length=σ.length):cw K H F F ρ σ H where
 sub:=hs
 keep:=Same.refl H
 base:=Same.refl F
 fresh:=λ_ _ e=>.inl e
 val:=hv
 own:=λi ps e=>absurd rfl ((hn _ (cP e)).1 ps)
 apart:=λi j ps qs a e=>absurd rfl ((hn _ (cP e)).1 ps)
 obs:=ho
 cq:=λi m e=>absurd rfl ((hn _ (cP e)).2 m)
 len:=hl
def tEx(K:ah)(f:FE):TE:=λσ H Q=>∃H₀ aa,tE K H₀ aa f σ H Q
theorem Xb{X:Cx}{e:aj}{f:FE}(h:∀H₀ aa,PE X e (tE X.K H₀ aa f)):PE X e (tEx X.K f):=λae s σ H Q I ⟨H₀,aa,q⟩=>h H₀ aa ae s σ H Q I q
section
variable {X:Cx}
def rKn(K:ah):R2:=λx y H Q=>∃b d xs k,x=.ref b/\y=.ref d/\Rd H d (.dT xs)/\iQ K H xs/\gO K H b (k.map kV)/\Q (.bl (!(atKey xs k).isSome)) H
theorem Qc(hu:X.A.units+1<cLine):OpR X (compareOp .NotIn) (rKn X.K):=by
 rintro ae s σ H x y v u Q I rx ry ⟨b,d,xs,k,ex,ey,h1,h2,h3,q⟩;subst ex ey;cases rx;cases ry;exact VX hu I h1 h2 h3 λs' I'=>⟨.bl (!(atKey xs k).isSome),H,I',rfl,q⟩
def Qd(K:ah)(td ty tv:TE):TS:=λD σ H=>tv σ H λv H1=>td σ H1 λx H2=>ty σ H2 λy H3=>∃a b xs k,x=.ref a/\y=.ref b/\H3 a=some (.dT xs)/\iQ K H3 xs/\gO K H3 b (k.map kV)/\xs.length<sizeLine /\
 ∀r,RelV v r->D.nx σ (upd H3 a (.dT (storedH xs k b r)))
theorem Ea{o i value:aj}{td ty tv:TE}{pos eY:Pos}(hu:X.A.units+1<cLine)(ho:PE X o td)(hi:PE X i ty)(hv:PE X value tv)(hs:swapsWith value (some (.Subscript o i eY)) pos.line X.env=pure false) :
  PS X (.Assign [.Subscript o i eY] value pos) (Qd X.K td ty tv):=by
 intro ae s σ H D I h;refine wpAny_Assign_Subscript (thn (hv ae s σ H _ I h) λr s1 ⟨v,H1,I1,rv,q1⟩=>thn (ho ae s1 σ H1 _ I1 q1) λu s2 ⟨x,H2,I2,rx,q2⟩=>thn (hi ae s2 σ H2 _ I2 q2) λiv s3 ⟨y,H3,I3,ry,a,b,xs,k,ex,ey,e1,e2,e3,e4,q3⟩=>?_) hs
 subst ex ey;cases rx;cases ry;exact RP hu I3 e1 e2 e3 e4 λs4 I4=>⟨σ,_,I4,q3 r rv⟩
end
noncomputable def si(p:Nat->Pos):ay :=
 .FunctionDef (name:="tell_new")
  (args:={posonlyargs:=[],args:=[{arg:="told",annotation:=none,pos:=p 0},{arg:="known",annotation:=none,pos:=p 1},{arg:="facts",annotation:=none,pos:=p 2},{arg:="came",annotation:=none,pos:=p 3}],vararg:=none,kwonlyargs:=[],kw_defaults:=[],kwarg:=none,defaults:=[]})
  (body:=[.For (.Name "fact" (p 4)) (.Name "facts" (p 5)) [.If (.Compare (.Name "fact" (p 6)) [.NotIn] [.Name "known" (p 7)] (p 8))
   [.Assign [.Subscript (.Name "known" (p 9)) (.Name "fact" (p 10)) (p 11)] (.Constant (.bool true) 0 (p 12)) (p 13),
   .Expr (.Call (.Attribute (.Name "told" (p 14)) "append" (p 15)) [.BinOp (.Name "fact" (p 16)) .Add (.Tuple [.Name "came" (p 17)] 0 (p 18)) (p 19)] [] (p 20)) (p 21)] [] (p 22)] [] (p 23)])
  (decorator_list:=[]) (returns:=none) (type_params:=[])
  (scope:={kind:=.function,names:=[(Str.ofString "told",.local),(Str.ofString "known",.local),(Str.ofString "facts",.local),(Str.ofString "came",.local),(Str.ofString "fact",.local)],isGenerator:=false,isCoroutine:=false,more:=[]})
  (tscope:=none) (bind:="tell_new") (pos:=p 24)
noncomputable def hW(p:Nat->Pos):ay :=
 .FunctionDef (name:="spread")
  (args:={posonlyargs:=[],args:=[{arg:="firsts",annotation:=none,pos:=p 0},{arg:="outcomes",annotation:=none,pos:=p 1}],vararg:=none,kwonlyargs:=[],kw_defaults:=[],kwarg:=none,defaults:=[]})
  (body:=[.Assign [.Name "told" (p 2)] (.List [] (p 3)) (p 4),.Assign [.Name "known" (p 5)] (.Dict [] [] (p 6)) (p 7),
   .Expr (.Call (.Name "tell_new" (p 8)) [.Name "told" (p 9),.Name "known" (p 10),.Name "firsts" (p 11),.UnaryOp .USub (.Constant (.int 1) 0 (p 12)) (p 13)] [] (p 14)) (p 15),
   .Assign [.Name "k" (p 16)] (.Constant (.int 0) 0 (p 17)) (p 18),
   .While (.Compare (.Name "k" (p 19)) [.Lt] [.Call (.Name "len" (p 20)) [.Name "told" (p 21)] [] (p 22)] (p 23))
    [.Expr (.Call (.Name "tell_new" (p 24)) [.Name "told" (p 25),.Name "known" (p 26),.Call (.Name "outcomes" (p 27)) [.Subscript (.Subscript (.Name "told" (p 28)) (.Name "k" (p 29)) (p 30)) (.Slice none (some (.UnaryOp .USub (.Constant (.int 1) 0 (p 31)) (p 32))) none (p 33)) (p 34)] [] (p 35),.Name "k" (p 36)] [] (p 37)) (p 38),
    .AugAssign (.Name "k" (p 39)) .Add (.Constant (.int 1) 0 (p 40)) (p 41)] [] (p 42),
   .Return (some (.Name "told" (p 43))) (p 44)])
  (decorator_list:=[]) (returns:=none) (type_params:=[])
  (scope:={kind:=.function,names:=[(Str.ofString "firsts",.local),(Str.ofString "outcomes",.local),(Str.ofString "told",.local),(Str.ofString "known",.local),(Str.ofString "k",.local),(Str.ofString "tell_new",.globalImplicit),(Str.ofString "len",.globalImplicit)],isGenerator:=false,isCoroutine:=false,more:=[]})
  (tscope:=none) (bind:="spread") (pos:=p 45)
abbrev Qe:List Str:=["told","known","facts","came","fact"]
abbrev ql:List Str:=["firsts","outcomes","told","known","k"]
structure zH (K:ah) (F H:Hp) (l d:ab) (told:eU) (ws:List V) (xs:List (List b8×ab×ag)):Prop where
 hl:H l=some (.aA ws)
 b:aP K F (told.map toldP) ws
 hd:H d=some (.dT xs)
 ks:xs.map (·.1)=told.map (·.1)
 at_:iQ K F xs
 fl:F l=none
 fd:F d=none
theorem zH.to{K:ah}{F H F' H':Hp}{l d:ab}{told:eU}{ws:List V}{xs:List (List b8×ab×ag)}(B:zH K F H l d told ws xs)(f:Same F F')(h:Same H H')(n:∀b o,F' b=some o->F b=some o\/H b=none):zH K F' H' l d told ws xs where
 hl:=h _ _ B.hl
 b:=B.b.mono f
 hd:=h _ _ B.hd
 ks:=B.ks
 at_:=λx hx=>aU f (B.at_ x hx)
 fl:=by
  cases q:F' l with
  | none=>rfl
  | some o =>
   rcases n l o q with z | z
   ·rw[B.fl]at z;cases z
   ·rw[B.hl]at z;cases z
 fd:=by
  cases q:F' d with
  | none=>rfl
  | some o =>
   rcases n d o q with z | z
   ·rw[B.fd]at z;cases z
   ·rw[B.hd]at z;cases z
structure kE (aa H₀ F H:Hp) (l d:ab):Prop where
 f:Same aa F
 s:Same F H
 k:∀b o,b≠l->b≠d->H₀ b=some o->H b=some o
 n:∀b o,F b=some o->aa b=some o\/H₀ b=none
def F8(K:ah):Sp:=λvs H Q _=>∃F l d va c told fk ws xs,vs=[.ref l,.ref d,va,.int c]/\Same F H/\zH K F H l d told ws xs/\cx K F (.aA (fk.map fG)) va/\(∀k∈fk,k.length<1000)/\told.length+fk.length<f6 /\
 ∀F' H' Zl xs',kE F H F' H' l d->zH K F' H' l d (cQ told c fk) Zl xs'->Q .cE H'
theorem kE.refl{F H:Hp}{l d:ab}(h:Same F H):kE F H F H l d:=⟨Same.refl F,h,λ_ _ _ _ e=>e,λ_ _ e=>.inl e⟩
section
variable {prog:bh} {w:aM} {K:ah} {mg:cZ} {base:Heap} {p:Nat->Pos} {f:ab} {fd:dk}
set_option maxHeartbeats 1000000 in
theorem NU(Fn:AJ K "tell_new" "tell_new" (si p) f fd)(S:de Qe ["told","known","facts","came"] (aF (si p)))(hp:((p 15).endLine==(p 20).line)=true)(k:Nat):FnOk prog w K mg base (ji prog w) (k+1) f fd ["told","known","facts","came"] (F8 K):=by
 refine D3 Fn S (λvs H Q E ⟨F,l,d,va,c,told,fk,ws,xs,e,_⟩=>by rw[e];rfl) λcU A outer s H vs Q E hr lz=>?_
 obtain⟨F0,l,d,va,c,told,fk,ws,xs,rfl,hs,B0,hfa,hsz,IF,hq⟩:=lz;have hu:=VS hr;refine⟨_,kR (Ig Be rfl (DA (pv 2)) (Dz (i:=4) S.nd rfl (Or.inl rfl)) (kR (Pk (mI (Qc hu) (pv 4) (pv 1) rfl)
  (fU (Ea hu (pv 1) (pv 4) Pj rfl) (kR (gz (yY nO AZ AY oj (pv 0)
   (cL (Xb λH₀ aa=>V6 wV mP (uV 4 (pv 4)) (PF (om (uV 3 (pv 3)) uW rfl))) gZ rfl) rfl rfl hp rfl rfl)))) wm))),?_⟩
 obtain⟨a,vs,rfl,ha,f7⟩:=aV.mp hfa;refine⟨_,rfl,a,rfl,⟨vs,(bN hs ha).sq⟩,Ii (K:=K) (xs:=vs) (λi σ H1=>∃F x ws xs,σ=[some (.ref l),some (.ref d),some (.ref a),some (.int c),x]/\kE F0 H F H1 l d/\zH K F H1 l d (cQ told c (fk.take i)) ws xs) ?_ ?_ ?_ ?_⟩
 ·exact⟨F0,none,ws,xs,rfl,kE.refl hs,B0⟩
 ·rintro i σ H1 hi ⟨F,x,L7,Cs,_,Pa,B⟩;exact(bN Pa.s (bN Pa.f ha)).sq
 ·rintro i x σ H1 hx ⟨F,y,L7,Cs,e,Pa,B⟩;subst e;obtain⟨pf,hpf,PC⟩:=f7.V3 hx;rw[cf]at hpf;obtain⟨fc,hf,rfl⟩:=jl.mp hpf;obtain⟨b,rfl,hb⟩:=D9 PC;have tk:cQ told c (fk.take (i+1))=eL (cQ told c (fk.take i)) c fc:=by
   rw[List.take_add_one,hf];exact ve c fc _ _
  have hbF:gO K F b (fc.map kV):=aU Pa.f hb;refine⟨.ref b,rfl,.ref d,rfl,b,d,Cs,fc,rfl,rfl,.inl B.hd,λz hz=>aU Pa.s (B.at_ z hz),aU Pa.s hbF,_,rfl,?_⟩
  have hks:=uT Cs fc;rw[B.ks]at hks;by_cases hm:JI ((cQ told c (fk.take i)).map (·.1)) fc=true
  ·have SK:(atKey Cs fc).isSome=true:=hks.trans hm;rw[SK];refine VT ⟨F,some (.ref b),L7,Cs,rfl,Pa,?_⟩;rw[tk,eL,if_pos hm];exact B
  ·have SK:(atKey Cs fc).isSome=false:=by
    rw[hks];exact Bool.eq_false_iff.mpr hm
   rw[SK];have hno:atKey Cs fc=none:=by
    cases z:atKey Cs fc with
    | none=>rfl
    | some q=>rw[z]at SK;cases SK
   have cD:(cQ told c (fk.take i)).length<=told.length+fk.length:=b0 (kY c _ told) (by rw[iL];lia)
   have hxl:Cs.length<sizeLine:=by
    have e1:Cs.length=(cQ told c (fk.take i)).length:=by rw[<-aH (f:=(·.1)),B.ks,aH]
    rw[e1];exact cz (j6 cD IF) (ee (aR _))
   refine VU ⟨.ref d,rfl,.ref b,rfl,d,b,Cs,fc,rfl,rfl,B.hd,λz hz=>aU Pa.s (B.at_ z hz),aU Pa.s hbF,hxl,λr Zm=>?_⟩
   rw[storedH_new hno];have zm:l≠d:=oV B.hl B.hd (λz=>nomatch z)
   have sF:Same F (upd H1 d (.dT (Cs++[(fc,b,r)]))):=λz o e=>by
    rw[upd_ne (ne_of_none e B.fd)];exact Pa.s _ _ e
   refine⟨.ref l,rfl,.inl ⟨rfl,L7,lg.of ((upd_ne zm).trans B.hl)⟩,_,F,F,[.un,.un,.un,.val (.int c),.val (fG fc)],.aI (fc.map ma++[.int c]),qj sF (λe he=>?_) (λj q e=>?_) (λj o e=>?_) rfl,?_,λv H2 F2 R2 s2 b2=>?_⟩
   ·simp only[aZ,dX,dZ]at he;rcases he with rfl | rfl | rfl | rfl | rfl<;>exact⟨(λ_ z=>by cases z),(λ_ z=>by cases z)⟩
   ·match j,e with
    | 3,e=>cases e;exact⟨_,rfl,aG.mpr rfl⟩
    | 4,e=>cases e;exact⟨_,rfl,PC.mono Pa.f⟩
   ·exact absurd (cP e) (by simp)
   ·have NQ:=hsz fc (cP hf);have h1:cI (fG fc) (.aI [.int c])=some (.aI (fc.map ma++[.int c])):=by
     show sizeOk ((fc.map ma).length+1) _=_;unfold sizeOk;rw[if_pos (by rw[aH];exact b0 NQ (by decide))]
    show(if(1:Nat)<=f6 then some (PV.aI [.int c])else none).bind (λy=>cI (fG fc) y)=_
    rw[if_pos (by decide)]
    exact h1
   ·have nl:F2 l=none:=by
     cases q:F2 l with
     | none=>rfl
     | some o =>
      rcases R2.fresh l o q with z | z
      ·rw[B.fl]at z;cases z
      ·rw[upd_ne zm,B.hl]at z;cases z
    have nd:F2 d=none:=by
     cases q:F2 d with
     | none=>rfl
     | some o =>
      rcases R2.fresh d o q with z | z
      ·rw[B.fd]at z;cases z
      ·rw[az]at z;cases z
    have Sf:H2 l=some (.aA L7):=R2.keep _ _ ((upd_ne zm).trans B.hl);have MO:L7.length<sizeLine:=by
     have e1:L7.length=(cQ told c (fk.take i)).length:=by rw[<-B.b.length,aH]
     rw[e1];exact cz (j6 cD IF) (ee (aR _))
    refine⟨l,L7,v,rfl,rfl,Sf,MO,F2,some (.ref b),L7++[v],Cs++[(fc,b,r)],rfl,⟨Pa.f.trans R2.base,λz o e=>?_,λz o h1 h2 e=>?_,λz o e=>?_⟩,?_⟩
    ·rw[upd_ne (ne_of_none e nl)];exact R2.sub _ _ e
    ·rw[upd_ne h1];exact R2.keep _ _ (by rw[upd_ne h2];exact Pa.k z o h1 h2 e)
    ·rcases R2.fresh z o e with q | q
     ·exact Pa.n z o q
     ·refine .inr ?_;cases hz:H z with
      | none=>rfl
      | some o' =>
       have h1:z≠l:=λy=>by rw[y,nl]at e;cases e
       have h2:z≠d:=λy=>by rw[y,nd]at e;cases e
       rw[upd_ne h2,Pa.k z o' h1 h2 hz]at q;cases q
    ·rw[tk,eL,if_neg hm];refine⟨az,?_,?_,?_,λz hz=>?_,nl,nd⟩
     ·rw[dO];exact(B.b.mono R2.base).append (.cons b2 .nil)
     ·rw[upd_ne (dF zm)];exact R2.keep _ _ az
     ·rw[dO,dO,B.ks];rfl
     ·rcases dD.mp hz with hz | hz
      ·exact aU R2.base (B.at_ z hz)
      ·obtain rfl:z=(fc,b,r):=by simpa using hz
       exact aU R2.base hbF
 ·rintro σ H1 ⟨F,x,L7,Cs,_,Pa,B⟩;refine hq F H1 L7 Cs Pa ?_;have e1:vs.length=fk.length:=by rw[<-f7.length,aH]
  rw[e1,List.take_length]at B;exact B
end
def JJ(X:Cx)(fj:Hp)(fa:ab)(out:List b8->Option (List (List b8))):Prop:=∀(ae:List (ab×Obj)) (s:au) (σ:St) (H F:Hp) (b:ab) (f:List b8) (fk:List (List b8)) (Q:VK),Inv X ae σ H s->Same fj F->Same F H->cx X.K F (fG f) (.ref b)->out f=some fk ->
 (∀v H' F',Same H H'->Same F F'->Same F' H'->(∀a o,F' a=some o->F a=some o\/H a=none)->cx X.K F' (.aA (fk.map fG)) v->Q v H')->wpAny (model X.prog X.w) X.A (call (.ref fa) [.ref b]) (EP X ae σ Q) X.xe s
def Xc(K:ah)(fj:Hp)(out:List b8->Option (List (List b8)))(Q:VK):List V->Hp->Prop
 | [v],H1=>∃F b f fk,v=.ref b/\Same fj F/\Same F H1/\cx K F (fG f) (.ref b)/\out f=some fk /\
  ∀v' H' F',Same H1 H'->Same F F'->Same F' H'->(∀a o,F' a=some o->F a=some o\/H1 a=none)->cx K F' (.aA (fk.map fG)) v'->Q v' H'
 | _,_=>False
def ach(K:ah)(fj:Hp)(fa:ab)(out:List b8->Option (List (List b8)))(i:Nat)(te:TE):TE:=λσ H Q=>σ[i]?=some (some (.ref fa))/\te σ H λv H1=>Xc K fj out Q [v] H1
theorem S7{X:Cx}{fj:Hp}{fa:ab}{out:List b8->Option (List (List b8))}{i:Nat}{y:Str}{p pos:Pos}{e:aj}{te:TE}{o:Obj}{u:HO}{S8:dk}(hy:PE X (.Name y p) (gR i))(ha:PE X e te)(UP:X.H₀ fa=some (.lx o u))(hfd:o.data=.func S8)(L:JJ X fj fa out)
  (he:starEach [e] X.env=(false,eval e X.env)::starEach [] X.env:=by rfl):PE X (.Call (.Name y p) [e] [] pos) (ach X.K fj fa out i te):=by
 rintro ae s σ H Q I ⟨e1,h⟩;refine jo (thn (hy ae s σ H (λv H1=>v=.ref fa/\H1=H) I ⟨_,e1,rfl,rfl⟩) λv s1 ⟨z,H1,I1,rx,ex,eh⟩=>?_)
 subst ex eh;cases rx;have hP:∀{cG:St} {H':Hp} {s':au},Inv X ae cG H' s'->s'.heap.get? fa=some o:=λ{cG H' s'} J=>(J.hok fa _ (J.base.frzs fa o u UP)).1
 have hk:∀h:Heap,h.get? fa=some o->∃k,(k=Keeper.frame\/k=Keeper.machine\/k=Keeper.boundFrame)/\W.Looks (model X.prog X.w) h (keeperOf (.ref fa)) k:=λh ho=>by
  obtain⟨c1,c2,c3,c4⟩:=o;cases hfd;exact⟨.frame,.inl rfl,(W.Looks.ld (part:=none) ho).andThen .now⟩
 have Qf:wpAny (model X.prog X.w) X.A (spliced (backTo pos (starEach [e] X.env))) (λus s2=>s2.heap.get? fa=some o/\wpAny (model X.prog X.w) X.A (call (.ref fa) ([]++us)) (EP X ae σ Q) X.xe s2) X.xe s1 :=
  thn ((cL ha gZ he) pos ae s1 σ H1 (Xc X.K fj out Q) I1 h) λus s2 ⟨vs,H2,I2,r,q⟩=>⟨hP I2,by
   match vs,r,q with
   | [v],r,⟨F,b,f,fk,ev,q1,q2,q3,q4,q5⟩ =>
    subst ev;obtain⟨u2,rfl,ru⟩:=i4 r;cases ru;exact L ae s2 σ H2 F b f fk Q I2 q1 q2 q3 q4 q5⟩
 rw[he]at Qf ⊢;exact W.callWith_of (P:=λh=>h.get? fa=some o) rfl hk (PySem.Calls.evalArgs_plain Qf)
theorem kE.trans{F0 H0 F H F' H':Hp}{l d:ab}(P1:kE F0 H0 F H l d)(P2:kE F H F' H' l d)(nl:F' l=none)(nd:F' d=none):kE F0 H0 F' H' l d:=by
 refine⟨P1.f.trans P2.f,P2.s,λb o h1 h2 e=>P2.k b o h1 h2 (P1.k b o h1 h2 e),λb o e=>?_⟩
 rcases P2.n b o e with q | q
 ·exact P1.n b o q
 ·refine .inr ?_;cases hz:H0 b with
  | none=>rfl
  | some o' =>
   have h1:b≠l:=λy=>by rw[y,nl]at e;cases e
   have h2:b≠d:=λy=>by rw[y,nd]at e;cases e
   rw[P1.k b o' h1 h2 hz]at q;cases q
theorem kE.of{F H F' H':Hp}{l d:ab}(h1:Same H H')(h2:Same F F')(h3:Same F' H')(h4:∀b o,F' b=some o->F b=some o\/H b=none):kE F H F' H' l d:=⟨h2,h3,λb o _ _ e=>h1 b o e,h4⟩
def NV(H:Hp)(l:ab):Hp:=λb=>if b=l then none else H b
theorem xc{H:Hp}{l:ab}:NV H l l=none:=if_pos rfl
theorem iB{H:Hp}{l b:ab}(h:b≠l):NV H l b=H b:=if_neg h
theorem JK(ps:av)(c:PV):jW (ps++[c]) none (some (-1))=ps:=by
 have h0:HT.eB (ps++[c]).length 0 none=0:=by simp[HT.eB]
 have h1:HT.eB (ps++[c]).length (ps++[c]).length (some (-1))=ps.length:=by
  show(if(-1:Int)<0 then((-1:Int)+(((ps++[c]).length:Nat):Int)).toNat else min (-1:Int).toNat (ps++[c]).length)=_
  rw[if_pos (by decide),bY]
  show(-1+((ps.length+1:Nat):Int)).toNat=_
  lia
 unfold jW;rw[h0,h1,List.drop_zero,Nat.sub_zero,List.take_left]
section
variable {prog:bh} {w:aM} {K:ah} {mg:cZ} {base:Heap} {p:Nat->Pos} {f fT fa:ab} {Eb:dk} {cU:ag} {A:bA} {outer:List Env} {s:au} {H:Hp} {E:XK} {k:Nat} {o:Obj} {u:HO} {S8:dk} {fj:Hp} {out:List b8->Option (List (List b8))}
abbrev cxS(prog:bh)(w:aM)(K:ah)(mg:cZ)(base:Heap)(p:Nat->Pos)(f:ab)(cU:ag)(A:bA)(outer:List Env)(s:au)(H:Hp)(E:XK):Cx:=ju (ji prog w) prog w K mg base ql "spread" (aF (hW p)) f cU A outer s H E
set_option maxHeartbeats 1000000 in
theorem zI(S:de ql ["firsts","outcomes"] (aF (hW p)))(FT:FnOk prog w K mg base (ji prog w) k fT Eb ["told","known","facts","came"] (F8 K)) (hr:dg k (A.deeper (envOfC "spread" (aF (hW p)) s.heap.objs.size f cU))) (mT:mg "tell_new"=some (.ref fT)) (kT:W.keepIn K (.ref fT)=true)
  (bT:dS K Eb ["told","known","facts","came"] []) (mL:mg "len"=none) (UP:H fa=some (.lx o u)) (hfd:o.data=.func S8) (L:JJ (cxS prog w K mg base p f cU A outer s H E) fj fa out) (hsz:∀f fk,out f=some fk->∀x∈fk,x.length<1000)
  {va:V} {S9:List (List b8)} {n:Nat} {res:eU} {Q:VK} (h1:Same fj H) (h2:cx K fj (.aA (S9.map fG)) va) (h3:∀x∈S9,x.length<1000) (h4:S9.length<f6) (h5:fz out n 0 (cQ [] (-1) S9)=some res)
  (hq:∀l ws F' H',Same H H'->Same fj F'->Same F' H'->(∀b o,F' b=some o->fj b=some o\/H b=none)->H l=none->F' l=none->H' l=some (.aA ws)->aP K F' (res.map toldP) ws->Q (.ref l) H') :
  ∃t,PSs (cxS prog w K mg base p f cU A outer s H E) (bH (hW p)) t/\t {nx:=λ_ H'=>Q .cE H',rt:=Q} (start ql [va,.ref fa]) H:=by
 refine⟨_,fU (wt (i:=2) S.nd rfl (Or.inl rfl) (Ir gZ)) (fU (wt (i:=3) S.nd rfl (Or.inl rfl) DI)
  (fU (gz (kU FT hr rfl mT kT bT .nil jP (cL (pv 2) (cL (pv 3) (cL (pv 0) (cL (Pm Ij wj) gZ))))))
  (fU (wt (i:=4) S.nd rfl (Or.inl rfl) wj)
  (fU (Ia Be (mI Pn (pv 4) (i5 jv rfl mL vY (cL (pv 2) gZ)) rfl)
   (fU (gz (kU FT hr rfl mT kT bT .nil jP (cL (pv 2) (cL (pv 3) (cL (S7 (i:=1) (pv 1) (Xb λH₀ aa=>PR (JG (i:=2) (pv 2) (uV 4 (pv 4)) (λ_ _=>rfl)) Jh (Ji (PU PD))) UP hfd L) (cL (pv 4) gZ))))))
    (kR (H9 (i:=4) (ti:=BF λi j=>.int (i+j)) S.nd rfl (Or.inl rfl) wj (λae s σ H x y v u Q I r1 r2 t=>iop_add ae s σ H x y v u Q I r1 r2 t)))))
  (kR (wo (pv 2))))))),?_⟩
 refine⟨dP _,λl hl=>?_⟩
 intro d hd;have Zn:l≠d:=λz=>by rw[z,az]at hd;cases hd
 have hHd:H d=none:=by rw[upd_ne (dF Zn)]at hd;exact hd
 have sH2:Same H (upd (upd H l (.aA [])) d (.dT [])):=λb ob e=>by rw[upd_ne (ne_of_none e hHd),upd_ne (ne_of_none e hl)];exact e
 have fl:fj l=none:=h1.free hl;have fdn:fj d=none:=h1.free hHd;refine⟨_,rfl,_,rfl,_,rfl,1,rfl,fj,l,d,va,-1,[],S9,[],[],rfl,h1.trans sH2,⟨?_,.nil,az,rfl,(λ_ z=>by cases z),fl,fdn⟩,h2,h3,by rw[j9,gn];exact h4,λF2 H2 ws2 xs2 Zo B2=>?_⟩
 ·rw[upd_ne Zn,az]
 have P0:kE fj H F2 H2 l d:=⟨Zo.f,Zo.s,λb ob e1 e2 e=>Zo.k b ob e1 e2 (sH2 _ _ e),λb ob e=>by
  rcases Zo.n b ob e with q | q
  ·exact .inl q
  ·exact .inr (sH2.free q)⟩
 have hl0:(cQ [] (-1) S9).length<f6:=j6 (kY (-1) S9 []) (by rw[j9,gn];exact h4)
 refine⟨λm σ H1=>∃(j:Nat) (told:eU) (F:Hp) (ws:List V) (xs:List (List b8×ab×ag)),σ=[some va,some (.ref fa),some (.ref l),some (.ref d),some (.int j)]/\fz out m j told=some res/\kE fj H F H1 l d/\zH K F H1 l d told ws xs/\told.length<f6,
  ⟨n,0,_,F2,ws2,xs2,rfl,h5,P0,B2,hl0⟩,?_⟩
 rintro m σ H1 ⟨j,told,F,ws,xs,rfl,lz,Pa,B,IF⟩
 have MO:ws.length=told.length:=by rw[<-B.b.length,aH]
 refine⟨_,rfl,_,rfl,l,ws,rfl,.inl (lg.of B.hl),j,ws.length,rfl,rfl,_,rfl,?_⟩;cases m with
 | zero=>cases lz
 | succ m =>
  cases ht:told[j]? with
  | none =>
   have lz:(match told[j]? with | none=>some told | some t=>(out t.1).bind λfs=>if told.length+fs.length<f6 then fz out m (j+1) (cQ told j fs)else none)=some res:=lz
   rw[ht]at lz;cases lz;have UQ:res.length<=j:=qz.mp ht;rw[dY (by rw[MO];lia)]
   refine VT ⟨_,rfl,hq l ws F H1 (λb ob e=>Pa.k b ob (λz=>by rw[z,hl]at e;cases e) (λz=>by rw[z,hHd]at e;cases e) e) Pa.f Pa.s Pa.n hl B.fl B.hl B.b⟩
  | some t =>
   have lz:(match told[j]? with | none=>some told | some t=>(out t.1).bind λfs=>if told.length+fs.length<f6 then fz out m (j+1) (cQ told j fs)else none)=some res:=lz
   rw[ht]at lz;obtain⟨fk,F9,lz⟩:=ao lz;obtain⟨Qg,lz⟩:=aw lz;have UQ:j<told.length:=(cM.mp ht).1;rw[eO (by rw[MO];lia)]
   refine VU ⟨_,λcG H' z=>⟨m,nV m,z⟩,?_⟩
   have Ta:∀(i:Nat) (q:av),([.un,.un,.own (told.map toldP),.un,.val (.int j)]:aC)[i]?=some (.own q)->i=2/\q=told.map toldP:=λi q e=>by
    match i,e with
    | 2,e=>cases e;exact⟨rfl,rfl⟩
    | i+3,e=>exact absurd (cP (show([.un,.val (.int j)]:aC)[i]?=some (.own q)from e)) (by simp)
   refine⟨_,rfl,_,rfl,rfl,NV H1 l,F,F,[.un,.un,.own (told.map toldP),.un,.val (.int j)],fG t.1,?_,?_,λv H3 F3 R3 s3 b3=>?_⟩
   ·exact {
     sub:=Pa.s
     keep:=λb ob e=>by
      by_cases z:b=l
      ·subst z;rw[xc]at e;cases e
      ·rw[iB z]at e;exact e
     base:=Same.refl F
     fresh:=λ_ _ e=>.inl e
     val:=λi q e=>by
      match i,e with
      | 4,e=>cases e;exact⟨_,rfl,aG.mpr rfl⟩
     own:=λi q e=>by
      obtain⟨rfl,rfl⟩:=Ta i q e;exact⟨l,ws,rfl,B.hl,xc,B.fl,B.b⟩
     apart:=λi1 i2 q1 q2 a e1 e2 _ _=>by
      rw[(Ta i1 q1 e1).1,(Ta i2 q2 e2).1]
     obs:=λi q e=>absurd (cP e) (by simp)
     cq:=λi q e=>absurd (cP e) (by simp)
     len:=rfl}
   ·show((NO 2 [.un,.un,.own (told.map toldP),.un,.val (.int j)] (.int j)).bind λq=>PQ none (some (-1)) q)=_
    have e1:NO 2 [.un,.un,.own (told.map toldP),.un,.val (.int j)] (.int j)=some (toldP t):=by
     show atI (told.map toldP) (j:Int)=_;exact eE (by rw[cf,ht];rfl)
    rw[e1];show some (PV.aI (jW (t.1.map ma++[.int t.2]) none (some (-1))))=_;rw[JK];rfl
   ·obtain⟨b,rfl,hb⟩:=D9 b3;obtain⟨l',ws3,g1,g2,_,g4,g5⟩:=R3.own 2 _ rfl;cases g1;have gd:H3 d=some (.dT xs):=R3.keep _ _ (by rw[iB (dF Zn)];exact B.hd)
    have nd3:F3 d=none:=by
     cases q:F3 d with
     | none=>rfl
     | some ob =>
      rcases R3.fresh d ob q with z | z
      ·rw[B.fd]at z;cases z
      ·rw[iB (dF Zn),B.hd]at z;cases z
    have B3:zH K F3 H3 l d told ws3 xs:=⟨g2,g5,gd,B.ks,λx hx=>aU R3.base (B.at_ x hx),g4,nd3⟩
    have P3:kE F H1 F3 H3 l d:=⟨R3.base,R3.sub,λb ob e1 _ e=>R3.keep _ _ (by rw[iB e1];exact e),λb ob e=>by
     rcases R3.fresh b ob e with q | q
     ·exact .inl q
     ·refine .inr ?_;have e1:b≠l:=λy=>by rw[y,g4]at e;cases e
      rw[iB e1]at q;exact q⟩
    refine⟨F3,b,t.1,fk,rfl,Pa.f.trans R3.base,R3.sub,b3,F9,λv' H4 F4 z1 z2 z3 z4 z5=>?_⟩
    have B4:=B3.to z2 z1 z4;have P4:kE F3 H3 F4 H4 l d:=kE.of z1 z2 z3 z4;have Pa4:kE fj H F4 H4 l d:=(Pa.trans P3 g4 nd3).trans P4 B4.fl B4.fd;refine⟨_,rfl,F4,l,d,v',j,told,fk,ws3,xs,rfl,z3,B4,z5,hsz _ _ F9,Qg,λF5 H5 ws5 xs5 Pa5 B5=>?_⟩
    refine⟨_,rfl,j,1,rfl,rfl,j+1,cQ told j fk,F5,ws5,xs5,rfl,lz,Pa4.trans Pa5 B5.fl B5.fd,B5,j6 (kY j fk told) Qg⟩
end
def xf(fb:FE)(xg:aC)(f:List b8):Option (List (List b8)):=(fb (.val (fG f)::xg)).bind λq=>match q with
 | .aA fs=>factsOf fs
 | _=>none
theorem vg{fb:FE}{xg:aC}{f:List b8}{fk:List (List b8)}(h:xf fb xg f=some fk):fb (.val (fG f)::xg)=some (.aA (fk.map fG))/\∀x∈fk,x.length<1000:=by
 obtain⟨q,h1,h2⟩:=ao h;cases q with
 | aA fs =>
  obtain⟨e,l⟩:=md h2;rw[e]at h1;exact⟨h1,l⟩
 | _=>cases h2
structure NW (K:ah) (F:Hp) (xg:aC) (τ:St):Prop where
 no:∀e∈xg,(∀ps,e≠.own ps)/\∀m,e≠.cq m
 val:∀(i:Nat) (p:PV),xg[i]?=some (.val p)->∃v,τ[i]?=some (some v)/\cx K F p v
 obs:∀(i:Nat) (o:Ob),xg[i]?=some (.ob o)->∃a,τ[i]?=some (some (.ref a))/\ue K F o a
 len:xg.length=τ.length
theorem NW.rep{K:ah}{fj F H:Hp}{xg:aC}{τ:St}(C:NW K fj xg τ)(f:Same fj F)(h:Same F H){p:PV}{v:V}(b:cx K F p v):cw K H F F (.val p::xg) (some v::τ) H:=by
 refine qj h (λe he=>?_) (λi q e=>?_) (λi q e=>?_) ?_
 ·rcases aZ.mp he with rfl | he
  ·exact⟨(λ_ z=>by cases z),(λ_ z=>by cases z)⟩
  ·exact C.no e he
 ·cases i with
  | zero=>cases e;exact⟨v,rfl,b⟩
  | succ i =>
   obtain⟨x,h1,h2⟩:=C.val i q (by simpa using e)
   exact⟨x,by simpa using h1,h2.mono f⟩
 ·cases i with
  | zero=>cases e
  | succ i =>
   obtain⟨x,h1,h2⟩:=C.obs i q (by simpa using e)
   exact⟨x,by simpa using h1,h2.mono f⟩
 ·rw[aW,aW,C.len]
theorem Tb{X:Cx}{fj:Hp}{fa:ab}{qual x:Str}{params:Arguments}{body:aj}{scope:Scope}{cl:List (Str×ab)}{N:List Str}{τ:St}{xg:aC}{fb:FE}{k:Nat}(hex:X.ex=[])(hL:IK X.H₀ fa qual params body scope cl)(hC:ko X.s₀.heap X.H₀ scope cl N τ)(hF:NW X.K fj xg τ)(hr:dg (k+1) X.A)
  (hb:∀(pm cU Fs u:ag),bindArgs (W.kla_fn "<lambda>" qual params body scope cl pm cU Fs) ⟨[u],[]⟩=pure [(x,u)]) (hk:scope.kind=.function) (RQ:scope.isCoroutine=false) (RR:scope.isGenerator=false) (hx:scope.names.lookup x=some .local) (nc:∀y∈scope.names,y.2≠.cell)
  (hbody:∀(cU:ag) (s:au) (H H₀ aa:Hp),dg k (X.A.deeper (W.envX qual scope s.heap.objs.size fa cU cl))->PE (UM (ji X.prog X.w) X.prog X.w X.K X.mg X.base (x::N) qual scope fa cU cl X.A X.stack s H E0) body (tE X.K H₀ aa fb)):JJ X fj fa (xf fb xg):=by
 intro ae s σ H F b f fk Q I s1 s2 bf ho q;obtain⟨h1,h2⟩:=vg ho;obtain⟨o,u,pm,cU,Fs,c,oc,uc,vs,t,k1,k2,rfl,k3,k4,k5⟩:=hL;have g1:s.heap.get? fa=some o:=(I.hok fa _ (I.base.frzs fa o u k1)).1;have g2:s.heap.get? c=some oc:=(I.hok c _ (I.base.frzs c oc uc k3)).1;have C:ko s.heap H scope cl N τ:=hC.un (by have:=I.base;rw[hex]at this;exact this)
 refine n8 (iO (MR (CX:=ji X.prog X.w) (E:=E0) (x:=x) (N:=N) (τ:=τ) (v:=.ref b) g1 k2 ⟨c,oc,vs,t,rfl,g2,k4,k5⟩ hr I.MC (hb _ _ _ _) rfl hk RQ RR hx nc C ⟨_,hbody (.ref c) s H H F (hr.deeper _),F,.val (fG f)::xg,_,hF.rep s1 s2 bf,h1,λv H' F' R' s' b'=>q v H' F' R'.keep s' R'.sub R'.fresh b'⟩) λr s' hq=>?_)
 cases r with
 | error e=>exact jP ae σ H s e s' I hq
 | ok fl =>
  cases fl with
  | ret u=>exact I.after hq
  | next=>exact False.elim hq
  | brk=>exact False.elim hq
  | cont=>exact False.elim hq
def vh:Nat:=5000
def jA(fe fb:FE)(link:List (Option Nat)):bG:=λρ=>(fe ρ).bind λq=>match q with
 | .aA fs=>(factsOf fs).bind λfk=>if fk.length<f6 then(fz (xf fb (bM link ρ)) vh 0 (cQ [] (-1) fk)).map λtold=>told.map toldP else none
 | _=>none
theorem xh{fe fb:FE}{link:List (Option Nat)}{ρ:aC}{ps:av}(h:jA fe fb link ρ=some ps):∃fk told,fe ρ=some (.aA (fk.map fG))/\(∀x∈fk,x.length<1000)/\fk.length<f6/\fz (xf fb (bM link ρ)) vh 0 (cQ [] (-1) fk)=some told/\ps=told.map toldP:=by
 obtain⟨q,h1,h⟩:=ao h;cases q with
 | aA fs =>
  obtain⟨fk,h2,h⟩:=ao (show(factsOf fs).bind _=some ps from h)
  obtain⟨h3,h⟩:=aw h;obtain⟨told,h4,rfl⟩:=jl.mp h;obtain⟨e,l⟩:=md h2;rw[e]at h1;exact⟨fk,told,h1,l,h3,h4,rfl⟩
 | _=>cases h
theorem NX{K:ah}{H₀ aa F H:Hp}{ρ:aC}{σ:St}(R:cw K H₀ aa F ρ σ H)(link:List (Option Nat)):NW K F (bM link ρ) (inner link σ):=by
 have R':=R.inner link;refine⟨λe he=>?_,R'.val,R'.obs,R'.len⟩
 obtain⟨i,hi⟩:=lM he;rcases cS hi with rfl | ⟨j,q,_,_,rfl⟩ | ⟨j,q,_,_,rfl⟩<;>exact⟨(λ_ z=>by cases z),(λ_ z=>by cases z)⟩
structure sj (X:Cx) (x:Str) (N:List Str) (link:List (Option Nat)) (scope:Scope):Prop where
 kind:scope.kind=.function
 co:scope.isCoroutine=false
 gen:scope.isGenerator=false
 par:scope.names.lookup x=some .local
 cell:∀y∈scope.names,y.2≠.cell
 free:∀y∈scope.names,y.2=.free->(X.env.kindOf y.1=some .cell\/X.env.kindOf y.1=some .free)
 len:link.length=N.length
 link:∀(i j:Nat) (y:Str),link[i]?=some (some j)->N[i]?=some y->X.N[j]?=some y/\scope.names.lookup y=some .free
theorem NY{X:Cx}{ae:List (ab×Obj)}{σ:St}{H:Hp}{s:au}{x:Str}{N:List Str}{link:List (Option Nat)}{scope:Scope}(I:Inv X ae σ H s)(S:sj X x N link scope):ko s.heap H scope (jV X.env scope.names []) N (inner link σ) where
 inj:=λy z c h1 h2=>I.ok.inj y z c (cF h1) (cF h2)
 has:=λy hy=>by
  have hm:=dC hy;obtain⟨c,hc⟩:=I.ok.has y (S.free _ hm rfl);obtain⟨c',h'⟩:=kr (env:=X.env) scope.names [] hm ⟨c,hc⟩;cases z:(jV X.env scope.names []).lookup y with
  | some c2=>exact⟨c2,rfl⟩
  | none=>exact absurd h' (by intro hh;have:=List.lookup_eq_none_iff.mp z (y,c') hh;simp at this)
 cell:=λy c h=>I.cell y c (cF h)
 free:=λy c h=>I.freeC y c (cF h)
 val:=λi y v h1 h2=>by
  unfold L2.PL.inner at h2;rw[cf]at h2;cases z:link[i]? with
  | none=>rw[z]at h2;cases h2
  | some o =>
   rw[z]at h2;cases o with
   | none=>cases h2
   | some j =>
    have h2:(σ[j]?).join=some v:=bo h2;have h3:σ[j]?=some (some v):=by
     cases w:σ[j]? with
     | none=>rw[w]at h2;cases h2
     | some q=>rw[w]at h2;exact c9 some h2
    obtain⟨g1,g2⟩:=S.link i j y z h1;have hm:=dC g2;obtain⟨m,_,hl⟩:=I.loc;have hfk:X.env.kindOf y=some .cell\/X.env.kindOf y=some .free:=S.free _ hm rfl;obtain⟨u,ru,lk⟩:=hl j y v g1 h3 (by
     rcases hfk with q | q
     ·exact .inr (.inl q)
     ·exact .inr (.inr q))
    rcases lk with⟨q,_⟩ | ⟨_,c,hc,hi⟩
    ·rcases hfk with q' | q'<;>rw[q]at q'<;>cases q'
    ·obtain⟨c',h'⟩:=kr (env:=X.env) scope.names [] hm ⟨c,hc⟩;cases zz:(jV X.env scope.names []).lookup y with
     | none=>exact absurd h' (by intro hh;have:=List.lookup_eq_none_iff.mp zz (y,c') hh;simp at this)
     | some c2 =>
      have:=cF zz;rw[hc]at this;cases this;exact⟨c,u,g2,rfl,hi,ru⟩
 len:=by unfold L2.PL.inner;rw[aH];exact S.len
structure JL (K:ah) (mg:cZ) (p q:Nat->Pos) (fs fT:ab) (JM Eb:dk):Prop where
 S:AJ K "spread" "spread" (hW p) fs JM
 mS:mg "spread"=some (.ref fs)
 bS:dS K JM ["firsts","outcomes"] []
 scS:de ql ["firsts","outcomes"] (aF (hW p))
 T:AJ K "tell_new" "tell_new" (si q) fT Eb
 mT:mg "tell_new"=some (.ref fT)
 bT:dS K Eb ["told","known","facts","came"] []
 scT:de Qe ["told","known","facts","came"] (aF (si q))
 line:((q 15).endLine==(q 20).line)=true
 len:mg "len"=none
structure Qh (X:Cx):Prop where
 ex:∃x c T,x∈dG/\W.tabIn X.K x=some (c,T)/\W.codeHdIn X.K c T=true/\X.env.code=.ref c/\X.env.qual++"<lambda>"=t9 x
 blt:y8 X.mg X.base
def oneArg(x:Str)(ap:Pos):Arguments:={posonlyargs:=[],args:=[{arg:=x,annotation:=none,pos:=ap}],vararg:=none,kwonlyargs:=[],kw_defaults:=[],kwarg:=none,defaults:=[]}
theorem Ga{x:Str}{ap:Pos}{qual:Str}{body:aj}{scope:Scope}{cl:List (Str×ab)}(pm cU Fs u:ag):bindArgs (W.kla_fn "<lambda>" qual (oneArg x ap) body scope cl pm cU Fs) ⟨[u],[]⟩=pure [(x,u)]:=by
 have hs:seqItems? Value.none=pure none:=rfl;unfold bindArgs;simp only[oneArg,n0,bC,gW,aW,j9,List.zip_cons_cons,List.zip_nil_right,hs,pure_bind,List.forIn_nil,Bl];simp[List.lookup]
section
variable {X:Cx} {H₀ aa:Hp} {e body:aj} {fe fb:FE} {scope:Scope} {x:Str} {ap lp p1 pos:Pos} {N:List Str} {link:List (Option Nat)} {p q:Nat->Pos} {fs fT:ab} {JM Eb:dk} {k:Nat}
def acm(X:Cx)(H₀ aa F:Hp)(ρ:aC)(σ:St)(fk:List (List b8))(qual:Str)(params:Arguments)(body:aj)(scope:Scope)(cl:List (Str×ab)):List V->Hp->Prop
 | [va,vf],H1=>∃F1 fa,vf=.ref fa/\cw X.K H₀ aa F1 ρ σ H1/\Same F F1/\cx X.K F1 (.aA (fk.map fG)) va/\IK H1 fa qual params body scope cl
 | _,_=>False
theorem JN(D:JL X.K X.mg p q fs fT JM Eb)(L:Qh X)(hg:Gl X "spread")(hr:dg (k+2) X.A)(he:PE X e (tE X.K H₀ aa fe))(jt:starEach [e,.Lambda (oneArg x ap) body scope lp] X.env=(false,eval e X.env)::starEach [.Lambda (oneArg x ap) body scope lp] X.env)(S:sj X x N link scope)
  (hbody:∀(qual:Str) (fa:ab) (cU:ag) (cl:List (Str×ab)) (A:bA) (stack:List Env) (s:au) (H NZ fj:Hp),dg k (A.deeper (W.envX qual scope s.heap.objs.size fa cU cl))->PE (UM (ji X.prog X.w) X.prog X.w X.K X.mg X.base (x::N) qual scope fa cU cl A stack s H E0) body (tE X.K NZ fj fb)) :
  PE X (.Call (.Name "spread" p1) [e,.Lambda (oneArg x ap) body scope lp] [] pos) (tF X.K H₀ aa (jA fe fb link)):=by
 rintro ae s σ H Q I ⟨F,ρ,ps,R,hf,hq⟩;obtain⟨fk,told,h1,h2,h3,h4,rfl⟩:=xh hf;obtain⟨⟨xn,c,T,l1,l2,l3,l4,l5⟩,hB⟩:=L;have hcl:closureFor scope X.env=pure (jV X.env scope.names []):=rB λy hy hy2=>I.ok.has y.1 (S.free y hy hy2)
 refine jo (ld_glob I hg D.mS ?_ rfl);refine W.callWith_K (h₀:=X.base) I.ok.mod.kin D.S.kp (thn ((cL he (cL (RS l1 l2 l3 l4 l5 hB rfl hcl) gZ rfl) jt) pos ae s σ H (acm X H₀ aa F ρ σ fk (t9 xn) (oneArg x ap) body scope (jV X.env scope.names [])) I ?_) λus s1 ⟨vs,H1,I1,r,q1⟩=>⟨I1.oW,?_⟩) jt rfl
 ·exact⟨F,ρ,_,R,h1,λva H1 F1 R1 s1 b1 fa H2 hn sm fr hL=>⟨F1,fa,rfl,R1.after sm (Same.refl F1) (R1.sub.trans sm) (λ_ _ e=>.inl e),s1,b1,hL⟩⟩
 ·match vs,r,q1 with
  | [va,vf],r,⟨F1,fa,ev,R1,UN,b1,hL⟩ =>
   subst ev;obtain⟨o,u,pm,afS,Fs,c',oc,uc,RV,t,k1,k2,k3⟩:=id hL;have FT:=NU (prog:=X.prog) (w:=X.w) (mg:=X.mg) (base:=X.base) D.T D.scT D.line k;refine n8 (iO (V1 (CX:=ji X.prog X.w) (E:=E0) (Q:=Q) (k:=k+1) D.S D.scS hr I1.MC (args:=⟨us,[]⟩) (us:=us++[]) (D.bS s1 us I1.oW (by rw[dE,<-r.length];rfl)) (by rw[dE];exact r) rfl (λcU =>
    zI D.scS FT (hr.deeper _) D.mT D.T.kp D.bT D.len k1 k2
     (Tb (x:=x) (N:=N) (τ:=inner link σ) (k:=k) rfl hL (NY I1 S) (NX R1 link) (hr.deeper _) Ga S.kind S.co S.gen S.par S.cell (λcU s H NZ fj Zm=>hbody _ _ _ _ _ _ _ _ _ _ Zm))
     (λf fk' ho=>(vg ho).2) R1.sub b1 h2 h3 h4 (λl ws F' H' g1 g2 g3 g4 g5 g6 g7 g8=>?_))) λr s' DC=>?_)
   ·have e1:upd (NV H' l) l (.aA ws)=H':=by
     funext b
     by_cases z:b=l
     ·subst z;rw[az,g7]
     ·rw[upd_ne z,iB z]
    rw[<-e1];refine hq l ws _ F' (R1.after (λb ob e=>?_) g2 (λb ob e=>?_) g4) (UN.trans g2) g8 xc
    ·rw[iB (ne_of_none e g5)];exact g1 _ _ e
    ·rw[iB (ne_of_none e g6)];exact g3 _ _ e
   ·cases r with
    | error e=>exact jP ae σ H1 s1 e s' I1 DC
    | ok fl =>
     cases fl with
     | ret u=>exact I1.after DC
     | next=>exact False.elim DC
     | brk=>exact False.elim DC
     | cont=>exact False.elim DC
end
end L2.PL
namespace L2
open PySem PySem.Spec PyProof.Rows
section
variable {X:Cx}
theorem JO{pos:Pos}:PE X (.Dict [] [] pos) (DH (.dK [])):=λae s σ H Q I h =>
 wpAny_Dict_empty ⟨.ref s.heap.objs.size,_,I.laid (a:=s.heap.objs.size) (o:=.dK []) (t':=s.toks) (λ_ _ q=>bR _ q) (aR _)
  ⟨dP _,iH.mpr (dF (b9 (y7 I))),[],.nil,Heap.DictOf.new s.heap⟩,rfl,h _ (I.hok.fresh (aR _))⟩
theorem Tc{v:V}{o:lb}(h:qV (some v) o):∃u,o=some u/\RelV v u:=by
 cases o with
 | none=>exact h.elim
 | some u=>exact⟨u,rfl,h⟩
def acn:R2:=λx y H Q=>∃a kvs k v,x=.ref a/\y=kV k/\Rd H a (.dK kvs)/\lj kvs k=some v/\Q v H
theorem Xd:MK X acn:=by
 intro value slice ae s σ H x y v u Q I rx ry h hs;obtain⟨a,kvs,k,z,rfl,rfl,hr,hv,q⟩:=h;cases rx;obtain⟨_,hd,vs,UR,dd⟩:=Pu I.hok hr;obtain⟨w',hw,RJ⟩:=Tc (o:=valueAt vs k) (by rw[<-hv];exact UR.val k)
 exact tail_any dd.typeIs PySem.F.slot_dict_getitem.lookup (Bm (IH ry) dd.mapOf hw ⟨z,H,I.tok _,RJ,q⟩) hs
def Xe:V->List V->Hp->VK->Prop:=λx vs H Q=>∃a kvs k y,x=.ref a/\vs=[kV k,y]/\H a=some (.dK kvs)/\kvs.length<sizeLine/\(∀v,lj kvs k=some v->Q v H)/\(lj kvs k=none->Q y (upd H a (.dK (kvs++[(k,y)]))))
theorem Td:Y5 X "dict.setdefault" Xe:=by
 intro ae s σ H x xs v us Q I rx rv h;obtain⟨a,kvs,k,y,rfl,rfl,e,hl,h1,h2⟩:=h;cases rx;obtain⟨u1,u2,rfl,r1,r2⟩:=rv.two;obtain⟨z,hd,vs,UR,dd⟩:=VV I.hok e;refine call_meetsIn Hl dd.typeIs PySem.F.entry_dict_setdefault (PySem.F.args_dict_setdefault_3 _ _ _) (kt_meets_setdefault (eA X.prog X.w) a (IH r1) hd u2) ⟨vs,dd,by rw[<-UR.length];exact z,λw hw=>?_,λhn h' Y7 hs=>?_⟩
 ·have rk:=UR.val k;rw[hw]at rk;cases hv:lj kvs k with
  | none=>rw[hv]at rk;exact rk.elim
  | some v0=>rw[hv]at rk;exact⟨v0,H,I.tok _,rk,h1 v0 hv⟩
 ·have rk:=UR.val k;rw[hn]at rk;have hv:lj kvs k=none:=by
   cases hv:lj kvs k with
   | none=>rfl
   | some v0=>rw[hv]at rk;exact rk.elim
  have Xf:=UR.put k r2;rw[IG y hv]at Xf;have he:∃q,h'.get? a=some q:=let ⟨q,_,_,hq,_⟩:=Y7;⟨q,hq⟩
  exact⟨y,_,I.write (x:=a) (e:=a) (o:=.dK (kvs++[(k,y)])) (by rw[e];exact True.intro) (.inl rfl) (λc q' hc z=>(hs.2 c hc).trans z) he ⟨by rw[bY];exact hl,hd,_,Xf,Y7⟩,r2,h2 hv⟩
def Ec:V->List V->Hp->VK->Prop:=λx vs H Q=>∃(l:ab) (xs:List V) (i:Int) (y:V),x=.ref l/\vs=[.int i,y]/\H l=some (.aA xs)/\xs.length<sizeLine/\0<=i/\i<=1000000/\Q .cE (upd H l (.aA (xs.take i.toNat++y::xs.drop i.toNat)))
theorem Te{i:Int}(h0:0<=i)(hi:i<=1000000):¬(!Builtin.List.listFitsIndex i)=true:=by
 unfold Builtin.List.listFitsIndex;have h1:decide (-(2^63:Int)<=i)=true:=eO (Int.le_trans (by decide) h0)
 have h2:decide (i<2^63)=true:=eO (Int.lt_of_le_of_lt hi (by decide))
 rw[h1,h2];simp
def Tf(i:Int)(u:ag):Array ag->Array ag:=λxs=>have k:=if i<0 then(i+((xs.size:Nat):Int)).toNat else min i.toNat xs.size;(xs.extract 0 k).push u++xs.extract k
theorem N0{i:Int}(h0:0<=i)(aQ:bW)(u:ag):Tf i u aQ.toArray=(aQ.take i.toNat++u::aQ.drop i.toNat).toArray:=by
 unfold Tf;have h1:¬i<0:=by lia
 simp only[h1,dw,bz];apply Array.ext';simp only[Array.toList_append,Array.toList_push,Array.toList_extract,List.extract_eq_drop_take];by_cases hb:i.toNat<=aQ.length
 ·rw[Nat.min_eq_left hb];have h2:List.take (aQ.length-i.toNat) (List.drop i.toNat aQ)=List.drop i.toNat aQ:=qA (by rw[qF];exact aR _)
  simp[h2]
 ·rw[Nat.min_eq_right (by lia)]
  have h1:aQ.take i.toNat=aQ:=qA (by lia)
  have h2:aQ.drop i.toNat=[]:=List.drop_of_length_le (by lia)
  simp[h1,h2]
theorem Gb:VN X "list.insert" Ec:=by
 intro ae s σ H x vs v us Q I rx rv h;obtain⟨l,xs,i,y,rfl,rfl,hH,hz,h0,hi,q⟩:=h;cases rx;obtain⟨u1,u2,rfl,⟨t,rfl⟩,r2⟩:=rv.two;obtain⟨z,aQ,n,r,hl,e⟩:=I.MM hH;have hsz:aQ.toArray.size<=sizeLine:=by rw[bz];lia
 have SY:=r.length;have J:=I.ML (t':=s.toks) (f:=Tf i u2) (its':=aQ.take i.toNat++u2::aQ.drop i.toNat) hH e (N0 h0 aQ u2) ((r.take i.toNat).append (.cons r2 (r.drop i.toNat))) (by rw[bY,aW,iL,qF];lia)
 exact n9 F.slot_list_insert ⟨_,e,rfl⟩ F.entry_list_insert (F.args_list_insert_3 _ _ _) (@PySem.AutoListH.list_insert_list_int_val_1 l aQ.toArray n i t u2 (Te h0 hi) hsz) ⟨e,.cE,_,J,rfl,q⟩
end
end L2
namespace L2.PL
open PySem PySem.Spec PyProof.Rows
def Xg:av->Option av:=λps=>some ps.reverse
theorem N1{K:ah}:PN K yZ Xg:=by
 intro H₀ aa F ρ σ H a ps qs vs Q hg R ha b1 k;cases hg;exact⟨a,vs,rfl,rfl,ha,k _ b1.reverse⟩
def Tg:av->av->Option av:=λps as=>match as with
 | [.int i,p]=>if(0<=i/\i<=1000000/\ps.length<f6)then some (ps.take i.toNat++p::ps.drop i.toNat)else none
 | _=>none
theorem N2{K:ah}:M9 K Ec Tg:=by
 intro H₀ aa F ρ σ H a ps as qs vs ws Q hg R ha b1 b2 k;unfold Tg at hg;split at hg
 ·rename_i i p;obtain⟨⟨h1,h2,h3⟩,rfl⟩:=aB hg;obtain⟨w1,r1,rfl,Zp,br1⟩:=b2.b6;obtain⟨w2,r2,rfl,bw2,br2⟩:=br1.b6;rw[br2.bX];rw[aG.mp Zp];exact⟨a,vs,i,w2,rfl,rfl,ha,cz (by rw[<-b1.length];exact h3) (ee (aR _)),h1,h2,k _ ((b1.take _).append (.cons bw2 (b1.drop _)))⟩
 ·cases hg
def Ed:Ent->Bool
 | .cq _=>false
 | _=>true
noncomputable def Ee:Dk->Bool
 | .l _=>true
 | _=>false
def hZ(b:Bool):Ent->Bool
 | .cq m=>Ee m != b
 | _=>true
theorem N3{b:Bool}{ρ:aC}(h:ρ.all Ed=true):ρ.all (hZ b)=true:=dj.mpr λe he=>by
 have:=dj.mp h e he;cases e with
 | cq m=>cases this
 | _=>rfl
noncomputable def dh(kvs:List (b8×PV))(k:b8):bQ:=(kvs.find? λkv=>decide (kv.1=k)).map (·.2)
section
variable {K:ah} {H₀ aa F H:Hp} {ρ:aC} {σ:St}
theorem xi{kvs:List (b8×PV)}{vs:List (b8×V)}(h:y9 K F kvs vs)(k:b8):(∀p,dh kvs k=some p->∃v,lj vs k=some v/\cx K F p v)/\(dh kvs k=none->lj vs k=none):=by
 unfold y9 at h;induction h with
 | nil=>exact⟨(λp e=>by cases e),λ_=>rfl⟩
 | @cons p q ps qs hq t ih =>
  obtain⟨h1,h2⟩:=hq;by_cases e:p.1=k
  ·have l1:dh (p::ps) k=some p.2:=by simp[dh,nY,e]
   rw[l1,rh (h1.symm.trans e)];exact⟨(λx z=>by cases z;exact⟨_,rfl,h2⟩),(λz=>by cases z)⟩
  ·have l1:dh (p::ps) k=dh ps k:=by simp[dh,nY,e]
   rw[l1,ri (λz=>e (h1.trans z))]
   exact ih
theorem cw.xj(R:cw K H₀ aa F ρ σ H){i:Nat}(hi:i<ρ.length){a:ab}{m:Dk}(hm:iR K F H (Nw H₀ F) a m)(h0:H₀ a=none)(hF:F a=none):cw K H₀ aa F (ρ.set i (.cq m)) (σ.set i (some (.ref a))) H where
 sub:=R.sub
 keep:=R.keep
 base:=R.base
 fresh:=R.fresh
 val:=λj q e=>by
  by_cases h:i=j
  ·subst h;rw[bJ hi]at e;cases e
  ·rw[bj h]at e ⊢;exact R.val j q e
 own:=λj q e=>by
  by_cases h:i=j
  ·subst h;rw[bJ hi]at e;cases e
  ·rw[bj h]at e ⊢;exact R.own j q e
 apart:=λj k ps qs a h1 h2 h3 h4=>by
  by_cases hj:i=j
  ·subst hj;rw[bJ hi]at h1;cases h1
  ·by_cases hk:i=k
   ·subst hk;rw[bJ hi]at h2;cases h2
   ·rw[bj hj]at h1 h3;rw[bj hk]at h2 h4;exact R.apart j k ps qs a h1 h2 h3 h4
 obs:=λj q e=>by
  by_cases h:i=j
  ·subst h;rw[bJ hi]at e;cases e
  ·rw[bj h]at e ⊢;exact R.obs j q e
 cq:=λj q e=>by
  by_cases h:i=j
  ·subst h;rw[bJ hi]at e;cases e;exact⟨a,bJ (by rw[<-R.len];exact hi),hm,h0,hF⟩
  ·rw[bj h]at e ⊢;exact R.cq j q e
 len:=by rw[gk,gk];exact R.len
theorem cw.putD(R:cw K H₀ aa F ρ σ H){i:Nat}{a:ab}{m m':Dk}{H':Hp}(hi:ρ[i]?=some (.cq m))(ha:σ[i]?=some (some (.ref a)))(sub:Same F H')(keep:Same H₀ H')(oth:∀b o,H b=some o->rl m o=false->H' b=some o)
  (hm:iR K F H' (Nw H₀ F) a m') (ho:(ρ.set i .un).all (hZ (Ee m))=true):cw K H₀ aa F (ρ.set i (.cq m')) σ H':=by
 have dW:i<ρ.length:=(cM.mp hi).1;obtain⟨a',e1,e2,h3,h4⟩:=R.cq i m hi;rw[ha]at e1;cases e1;exact {
  sub:=sub
  keep:=keep
  base:=R.base
  fresh:=R.fresh
  val:=λj q e=>by
   by_cases h:i=j
   ·subst h;rw[bJ dW]at e;cases e
   ·rw[bj h]at e;exact R.val j q e
  own:=λj ls e=>by
   by_cases h:i=j
   ·subst h;rw[bJ dW]at e;cases e
   ·rw[bj h]at e;obtain⟨b,us,q1,q2,q3⟩:=R.own j ls e;exact⟨b,us,q1,oth b _ q2 (by cases m<;>rfl),q3⟩
  apart:=λj k l1 l2 b e1 e2 e3 e4=>by
   by_cases hj:i=j
   ·subst hj;rw[bJ dW]at e1;cases e1
   ·by_cases hk:i=k
    ·subst hk;rw[bJ dW]at e2;cases e2
    ·rw[bj hj]at e1;rw[bj hk]at e2;exact R.apart j k l1 l2 b e1 e2 e3 e4
  obs:=λj q e=>by
   by_cases h:i=j
   ·subst h;rw[bJ dW]at e;cases e
   ·rw[bj h]at e;exact R.obs j q e
  cq:=λj q e=>by
   by_cases h:i=j
   ·subst h;rw[bJ dW]at e;cases e;exact⟨a,ha,hm,h3,h4⟩
   ·rw[bj h]at e;have hk:=dj.mp ho (.cq q) (cP (i:=j) (by rw[bj h];exact e))
    obtain⟨b,q1,q2,q3,q4⟩:=R.cq j q e;refine⟨b,q1,q2.to (Same.refl F) (λc o z d _=>oth c o z ?_) (λ_ _ _ z=>z),q3,q4⟩
    cases m<;>cases q<;>cases o<;>first | rfl | (cases d;done) | (cases hk;done)
  len:=by rw[gk];exact R.len}
theorem cw.JP(R:cw K H₀ aa F ρ σ H){i:Nat}{a:ab}{m m':Dk}{o:HO}(hi:ρ[i]?=some (.cq m))(ha:σ[i]?=some (some (.ref a)))(hd:Ee m=false)(hm:iR K F (upd H a o) (Nw H₀ F) a m')(ho:(ρ.set i .un).all (hZ (Ee m))=true):cw K H₀ aa F (ρ.set i (.cq m')) σ (upd H a o):=by
 obtain⟨a',e1,e2,h3,h4⟩:=R.cq i m hi;rw[ha]at e1;cases e1;have sub:∀{G:Hp},G a=none->Same G H->Same G (upd H a o):=λ{G} hg s b ob e=>by
  rw[upd_ne (ne_of_none e hg)];exact s _ _ e
 refine R.putD hi ha (sub h4 R.sub) (sub h3 R.keep) (λb ob e d=>?_) hm ho
 rw[upd_ne]
 ·exact e
 ·rintro rfl
  cases m with
  | t kvs=>obtain⟨xs,q,_⟩:=e2;rw[e]at q;cases q;cases d
  | k kvs=>obtain⟨xs,q,_⟩:=e2;rw[e]at q;cases q;cases d
  | l dR=>cases hd
end
section
variable {X:Cx} {H₀ aa:Hp} {ke a b:aj} {fk fa fb:FE} {x:Str} {p pos sp:Pos} {i:Nat}
def Th(i:Nat):FS:=λρ=>if i<ρ.length then some (.nx (ρ.set i (.cq (.k []))))else none
theorem JQ{D:jS}{σ:St}{H:Hp}(h:tS X H₀ aa (Th i) D σ H):lh (DH (.dK [])) (gName i) D σ H:=by
 obtain⟨F,ρ,o,R,hf,q⟩:=h;obtain⟨hi,rfl⟩:=aB hf;intro d hd;exact q F _ _ ((R.DJ (.dK []) hd).xj hi ⟨[],az,.nil⟩ (R.keep.free hd) (R.sub.free hd)) (Same.refl F)
def getD(i:Nat)(fk:FE):FE:=λρ=>(fk ρ).bind λq=>match ρ[i]? with
 | some (.ob (.dct (.k kvs)))=>(FZ q).bind λk=>dh kvs k
 | _=>none
theorem Ti(hx:PE X (.Name x p) (gR i))(hk:PE X ke (tE X.K H₀ aa fk))(hs:gS ke):PE X (.Subscript (.Name x p) ke sp) (tE X.K H₀ aa (getD i fk)):=by
 rintro ae s σ H Q I ⟨F,ρ,pr,R,hf,q⟩;obtain⟨qk,h1,h2⟩:=ao hf;split at h2
 ·rename_i kvs hp;obtain⟨k,h3,h4⟩:=ao h2;obtain⟨a,e1,vs,e2,e3⟩:=R.obs i _ hp;refine o7 Xd hx hk hs ae s σ H Q I ⟨.ref a,e1,F,ρ,qk,R,h1,λw H1 F1 R1 s1 b1=>?_⟩
  obtain⟨v,g1,g2⟩:=(xi e3 k).1 pr h4;rw[xb h3]at b1;exact⟨a,vs,k,v,rfl,sh.mp b1,.inl (R1.sub _ _ (s1 _ _ e2)),g1,q v H1 F1 R1 s1 (g2.mono s1)⟩
 ·cases h2
def Tj(i:Nat)(fk fv:FE):FS:=λρ=>(fk ρ).bind λqk=>(fv ρ).bind λqv=>match ρ[i]? with
 | some (.cq (.k kvs))=>(FZ qk).bind λk=>if(kvs.length<f6/\(ρ.set i .un).all Ed=true)then(match dh kvs k with
  | some _=>some (.nx ρ)
  | none=>some (.nx (ρ.set i (.cq (.k (kvs++[(k,qv)]))))))else none
 | _=>none
theorem Ef{K:ah}{F:Hp}:∀{kvs:List (b8×PV)} {vs:List (b8×V)},y9 K F kvs vs->∀{k:b8} {p:PV} {v:V},cx K F p v->y9 K F (kvs++[(k,p)]) (vs++[(k,v)])
 | _,_,.nil,_,_,_,b=>.cons ⟨rfl,b⟩ .nil
 | _,_,.cons r t,_,_,_,b=>.cons r (Ef t b)
theorem N4{D:jS}{σ:St}{H:Hp}(h:tS X H₀ aa (Tj i fa fb) D σ H):tDrop (tBM X.K "dict" Xe (gR i) (tA X.K H₀ aa (af fa (af fb ar)))) D σ H:=by
 obtain⟨F,ρ,o,R,hf,q⟩:=h;obtain⟨qk,h1,hf⟩:=ao hf;obtain⟨qv,h2,hf⟩:=ao hf;split at hf
 ·rename_i kvs hp;obtain⟨k,h3,hf⟩:=ao hf;obtain⟨⟨h4,h5⟩,hf⟩:=aw hf;obtain⟨a,e1,⟨vs,e2,e3⟩,e4,e5⟩:=R.cq i _ hp;refine⟨.ref a,e1,.inr (.inr (.inl ⟨rfl,.inl ⟨vs,e2⟩⟩)),F,ρ,[qk,qv],R,?_,λws H1 F1 R1 s1 b1=>?_⟩
  ·show(fa ρ).bind _=_;rw[h1];show((af fb ar) ρ).map _=_;show(((fb ρ).bind λx=>(ar ρ).map λxs=>x::xs).map _)=_
   rw[h2];rfl
  ·obtain⟨w1,r1,rfl,Zp,br1⟩:=b1.b6;obtain⟨w2,r2,rfl,bw2,br2⟩:=br1.b6;rw[br2.bX];rw[xb h3]at Zp;rw[sh.mp Zp];obtain⟨a',g1,⟨vs1,g2,g3⟩,g4,g5⟩:=R1.cq i _ hp;rw[e1]at g1;cases g1;have hl:vs1.length<sizeLine:=by
    rw[<-v9 g3];exact cz h4 (ee (aR _))
   refine⟨a,vs1,k,w2,rfl,rfl,g2,hl,λv hv=>?_,λhv=>?_⟩
   ·cases hk:dh kvs k with
    | none=>rw[(xi g3 k).2 hk]at hv;cases hv
    | some pv =>
     rw[hk]at hf;cases hf;exact q F1 σ H1 R1 s1
   ·cases hk:dh kvs k with
    | some pv =>
     obtain⟨v,z,_⟩:=(xi g3 k).1 pv hk;rw[z]at hv;cases hv
    | none =>
     rw[hk]at hf;cases hf;exact q F1 σ _ (R1.JP hp e1 rfl ⟨_,az,Ef g3 bw2⟩ (N3 h5)) s1
 ·cases hf
end
section
variable {K:ah} {H₀ aa F F' H H':Hp} {ρ:aC} {σ cG:St} {a:ab} {bs:List ab} {acc:List (List Int)}
theorem N5{i:Nat}{p:PV}{v:V}(hs:Same F H)(h:σ[i]?=some (some v))(b:cx K F p v):cw K H F F ((List.replicate σ.length Ent.un).set i (.val p)) σ H:=by
 have no:∀(j:Nat) (e:Ent),((List.replicate σ.length Ent.un).set i (.val p))[j]?=some e->e=.un\/j=i/\e=.val p:=λj e q=>by
  by_cases z:i=j
  ·subst z;rw[bJ (by rw[j5];exact(cM.mp h).1)]at q
   exact .inr ⟨rfl,(bo q).symm⟩
  ·rw[bj z,j4]at q;split at q
   ·exact .inl (bo q).symm
   ·cases q
 refine qj hs (λe he=>?_) (λj q e=>?_) (λj q e=>?_) (by rw[gk,j5])
 ·obtain⟨j,hj⟩:=lM he;rcases no j e hj with rfl | ⟨_,rfl⟩<;>exact⟨(λ_ z=>by cases z),λ_ z=>by cases z⟩
 ·rcases no j _ e with z | ⟨rfl,z⟩
  ·cases z
  ·cases z;exact⟨v,h,b⟩
 ·rcases no j _ e with z | ⟨_,z⟩<;>cases z
def N6(K:ah)(fi:bG):TI:=λσ H R=>∃b:Hp×Hp,tI K b.1 b.2 fi σ H R
theorem Tn{X:Cx}{tg iter:aj}{fi:bG}(h:∀H₀ aa,PI X tg iter (tI X.K H₀ aa fi)):PI X tg iter (N6 X.K fi):=λae s σ H R I ⟨b,hw⟩=>h b.1 b.2 ae s σ H R I hw
end
section
variable {X:Cx} {H₀ aa:Hp} {i f x y o:Nat}
def To(K:ah)(g:eG)(fl:bG):TB:=λv σ H Q=>∃b:Hp×Hp,tG K b.1 b.2 g v σ H λi0 H1=>tF K b.1 b.2 fl i0 H1 λy H2=>Q (some y) i0 H2
theorem zJ{link:List (Option Nat)}{ρ:aC}{e:Ent}(h:e∈bM link ρ):(∀ps,e≠.own ps)/\∀m,e≠.cq m:=by
 obtain⟨j,hj⟩:=lM h;rcases cS hj with rfl | ⟨_,_,_,_,rfl⟩ | ⟨_,_,_,_,rfl⟩<;>exact⟨(λ_ z=>by cases z),λ_ z=>by cases z⟩
theorem cw.now{K:ah}{H₀ aa F H:Hp}{ρ:aC}{σ:St}(R:cw K H₀ aa F ρ σ H)(hn:∀e∈ρ,(∀ps,e≠.own ps)/\∀m,e≠.cq m):cw K H F F ρ σ H:=qj R.sub hn R.val R.obs R.len
theorem JR{link:List (Option Nat)}{g:eG}{fl:bG}{L:List Nat}{F H:Hp}{ρ:aC}{σ:St}{ps qs:av}{Q:VK}(hg:KG L g)(hL:∀i∈L,link[i]?=some none)(NQ:∀ρ,fl ρ=some [])(R:cw X.K H₀ aa F ρ σ H)(hf:ρ[f]?=some (.val (.aA ps)))
  (hc:dI link (dz (rd f)) g (λ_=>some .cE) ρ=some qs) (hno:∀e∈ρ,(∀ps,e≠.own ps)/\∀m,e≠.cq m) (q:∀(F' H':Hp) (a:ab) (bs:List ab),bs.length=ps.length->Same F F'->Same F' H'->Same H H'->(∀b u,F' b=some u->F b=some u\/H b=none)->H' a=none->bs.Nodup->(∀b∈bs,H' b=some (.aA [])/\H b=none/\F' b=none)->Q (.ref a) (upd H' a (.aA (bs.map .ref)))) :
  pd link (N6 X.K (dz (rd f))) (To X.K g fl) σ H Q:=by
 have Zq:dz (rd f) ρ=some ps:=by
  unfold dz rd;rw[hf];rfl
 unfold dI at hc;rw[Zq,aY]at hc;obtain⟨cD,hm⟩:=aw hc;have Xh:∀(k:Nat) (p:PV),ps[k]?=some p->∃d6,g p (bM link ρ)=some d6:=λk p hk=>by
  clear cD Zq hf q hc;induction ps generalizing k qs with
  | nil=>cases hk
  | cons p0 r ih =>
   obtain⟨o1,e1,e2⟩:=ao (show((g p0 (bM link ρ)).bind λ_=>some PV.cE).bind (λy=>(kx (λp=>(g p (bM link ρ)).bind λ_=>some PV.cE) r).map λys=>y::ys)=some qs from by rw[<-hm];rfl)
   cases k with
   | zero=>cases hk;obtain⟨d6,e3,_⟩:=ao e1;exact⟨d6,e3⟩
   | succ k =>
    cases w:kx (λp=>(g p (bM link ρ)).bind λ_=>some PV.cE) r with
    | none=>rw[w]at e2;cases e2
    | some ys=>exact ih w k hk
 refine⟨(H,F),F,ρ,ps,R.now hno,Zq,λJ H1 F1 R1 s1 wk=>?_⟩
 refine⟨λk m acc cG H'=>m=ps.length-k/\k<=ps.length/\∃F' bs,acc=bs.map .ref/\bs.length=k/\bs.Nodup/\cw X.K H' F' F' (bM link ρ) cG H'/\Same F1 F'/\Same H1 H'/\(∀b u,F' b=some u->F1 b=some u\/H1 b=none)/\∀b∈bs,H' b=some (.aA [])/\H1 b=none/\F' b=none,
  ⟨ps.length,rfl,dP _,F1,[],rfl,rfl,.nil,(R1.inner link).now λe he=>zJ he,Same.refl _,Same.refl _,(λ_ _ e=>.inl e),λb hb=>by cases hb⟩,?_⟩
 rintro k m acc cG H' ⟨rfl,hk,F',bs,rfl,zg,Ct,R',sF,sH,fr,hb⟩
 obtain⟨wg,Wk⟩:=wk H' F' F' (bM link ρ) cG H' R' sF k;by_cases dW:k<ps.length
 ·obtain⟨go,wy⟩:=wg ps[k] (di dW);have hsz:k<sizeLine:=cz dW (ee cD);refine .inr ⟨go,by rw[aH,zg];exact hsz,λu H2 yl=>?_⟩
  obtain⟨F2,R2,s2,b2⟩:=wy u H2 yl;obtain⟨d6,e1⟩:=Xh k _ (di dW);obtain⟨l1,k1⟩:=hg _ _ _ e1;refine⟨(H',F'),F2,bM link ρ,ps[k],d6,R2,b2,e1,λqd H3 F3 R3 s3=>⟨F3,d6,[],R3,NQ _,λa vs H4 F4 R4 s4 b4 hn=>⟨ps.length-(k+1),by lia,rfl,dW,F4,bs++[a],?_,by rw[bY,zg];rfl,?_,?_,sF.trans R4.base,sH.trans (R4.keep.trans (dH hn)),?_,?_⟩⟩⟩
  ·rw[dO];rfl
  ·refine vS.mpr ⟨Ct,c8.mpr ⟨by simp,.nil⟩,λx hx z hz=>?_⟩
   rw[dt]at hz;subst hz;exact ne_of_none (R4.keep _ _ (hb x hx).1) hn
  ·rw[b4.bX];exact((R4.M6 l1 k1 hL).DJ (.aA []) hn).now λe he=>zJ he
  ·intro b u e;rcases R4.fresh b u e with z | z
   ·exact fr b u z
   ·exact .inr (sH.free z)
  ·intro b hbm;rcases dD.mp hbm with z | z
   ·obtain⟨h1,h2,h3⟩:=hb b z;refine⟨dH hn _ _ (R4.keep _ _ h1),h2,?_⟩;cases w:F4 b with
    | none=>rfl
    | some u =>
     rcases R4.fresh b u w with z | z
     ·have z:F' b=some u:=z;rw[h3]at z;cases z
     ·have z:H' b=none:=z;rw[h1]at z;cases z
   ·rw[dt]at z;subst z;refine⟨by rw[b4.bX];exact az,sH.free (R4.keep.free hn),R4.sub.free hn⟩
 ·have e:k=ps.length:=by lia
  subst e;refine .inl ⟨Wk (jm (aR _)),by rw[aH,zg];exact ee cD,λD hn=>?_⟩
  refine q F' H' D bs zg (s1.trans sF) R'.sub (R1.keep.trans sH) (λb u e=>?_) hn Ct λb hbm=>?_
  ·rcases fr b u e with z | z
   ·exact R1.fresh b u z
   ·exact .inr (R1.keep.free z)
  ·obtain⟨h1,h2,h3⟩:=hb b hbm;exact⟨h1,R1.keep.free h2,h3⟩
end
section
variable {X:Cx} {ae:List (ab×Obj)} {σ:St} {H:Hp} {s:au} {b:ab} {vs:List V}
theorem Tp{P:bh}{w:aM}{h:Heap}(x:dB P w H h b (.aA vs))(H':Hp):dB P w H' h b (o8 b vs):=by
 obtain⟨z,aQ,n,r,e⟩:=x;exact⟨⟨z,aQ,n,r,e⟩,⟨_,e⟩,λh1 h2 ⟨z,aQ,n,r,e⟩ k=>⟨z,aQ,n,r,k _ e⟩⟩
theorem Tq{P:bh}{w:aM}{h:Heap}(x:dB P w H h b (o8 b vs))(H':Hp):dB P w H' h b (.aA vs):=x.1
theorem Inv.toLs(I:Inv X ae σ H s)(h:H b=some (.aA vs)):Inv X ae σ (upd H b (o8 b vs)) s:=by
 have ok:=I.hok b _ h;obtain⟨_,_,_,_,e⟩:=id ok;exact I.write (t':=s.toks) (h':=s.heap) (e:=b) (by rw[h];trivial) (.inl rfl) (λ_ _ _ e=>e) ⟨_,e⟩ (Tp ok _)
theorem Inv.JS(I:Inv X ae σ H s)(h:H b=some (o8 b vs)):Inv X ae σ (upd H b (.aA vs)) s:=by
 have ok:=I.hok b _ h;obtain⟨_,⟨_,e⟩,_⟩:=id ok;exact I.write (t':=s.toks) (h':=s.heap) (e:=b) (by rw[h];trivial) (.inl rfl) (λ_ _ _ e=>e) ⟨_,e⟩ (Tq ok _)
theorem Tr{o:HO}(h:H b=some o):upd H b o=H:=by
 funext c
 unfold upd;split
 ·rename_i e;rw[e,h]
 ·rfl
def Qi:R2:=λx y H Q=>∃p xs i v,x=.ref p/\y=.int i/\H p=some (o8 p xs)/\atI xs i=some v/\Q v H
theorem Xi:MK X Qi:=by
 intro value slice ae s σ H x y v u Q I rx ry h hs;obtain⟨p,xs,i,z,rfl,rfl,hq,he,q⟩:=h;refine thn (wG value slice ae s σ (upd H p (.aA xs)) _ _ v u (λz' H'=>z'=z/\H'=upd H p (.aA xs)) (Inv.JS I hq) rx ry ⟨p,xs,i,z,rfl,rfl,lg.of az,he,rfl,rfl⟩ hs) λv' s' ⟨z',H',I',r',e1,e2⟩=>?_
 subst e1 e2;have I2:=Inv.toLs I' az;rw[we,Tr hq]at I2;exact⟨z',H,I2,r',q⟩
def JT:V->List V->Hp->VK->Prop:=λx vs H Q=>∃l xs y,x=.ref l/\vs=[y]/\H l=some (o8 l xs)/\xs.length<sizeLine/\Q .cE (upd H l (o8 l (xs++[y])))
theorem JU:VN X "list.append" JT:=by
 intro ae s σ H x vs v us Q I rx rv h;obtain⟨l,xs,y,rfl,rfl,hH,hz,q⟩:=h;refine thn (oj ae s σ (upd H l (.aA xs)) _ _ v us (λz' H'=>z'=.cE/\H'=upd H l (.aA (xs++[y]))) (Inv.JS I hH) rx rv ⟨l,xs,y,rfl,rfl,az,hz,rfl,by rw[we]⟩) λv' s' ⟨z',H',I',r',e1,e2⟩=>?_
 subst e1 e2;have I2:=Inv.toLs I' az;rw[we]at I2;exact⟨_,_,I2,r',q⟩
end
section
variable {X:Cx} {o e:aj} {to:TE} {t:TA} {wb kn:Pos}
def JV(to:TE)(t:TA):TE:=λσ H Q=>to σ H λx H1=>(∃p xs,x=.ref p/\H1 p=some (o8 p xs))/\t σ H1 λxs H2=>JT x xs H2 Q
theorem JW(ho:PE X o to)(ha:PA X [e] t)
  (yX:attributeBase o "append" X.env (eval o X.env)=eval o X.env)
  (RM:((backTo kn (starEach [e] X.env)).all (λx=>!x.1)&&(backToKw kn (keywordEach [] X.env)).all (λx=>x.1.isSome)
   && decide ([e].length+([]:List Keyword).length+(if([]:List Keyword).isEmpty then 0 else 1)<30))=true)
  (rg:(wb.endLine==kn.line)=true) (hs:starEach [e] X.env=(false,eval e X.env)::starEach [] X.env) (BP:(backTo kn (starEach [] X.env)).any (·.1)=false) :
  PE X (.Call (.Attribute o "append" wb) [e] [] kn) (JV to t):=by
 intro ae s σ H Q I h;refine wpAny_Call_method_late yX RM rg rfl (thn (ho ae s σ H _ I h) λv s1 ⟨x,H1,I1,r1,⟨p,xs,ex,hp⟩,q1⟩=>?_)
 subst ex;obtain⟨h1,h2⟩:=BO (Inv.JS I1 hp) r1 (T:="list") (.inl ⟨rfl,xs,lg.of az⟩);refine⟨"list","list.append",nO,AZ,AY,h1,h2,?_⟩;have hA:=ha kn ae s1 σ H1 _ I1 q1;rw[hs]at hA ⊢;refine A2 (by show(false || (backTo kn (starEach [] X.env)).any (·.1))=false;rw[BP]<;>rfl) (Calls.evalArgs_plain ?_)
 exact thn hA λus s2 ⟨vs,H2,I2,r2,q2⟩=>JU ae s2 σ H2 _ vs v us Q I2 r1 r2 q2
end
section
variable {X:Cx} {H₀ aa:Hp} {i f:Nat}
def lE(H:Hp):List ab->Hp
 | []=>H
 | b::r=>upd (lE H r) b (o8 b [])
theorem kZ{H:Hp}{c:ab}:∀{bs:List ab},c∉bs->lE H bs c=H c
 | [],_=>rfl
 | b::r,h=>by
  rw[lE,upd_ne (λz=>h (by rw[z];exact bE))]
  exact kZ λz=>h (bx _ z)
theorem vi{H:Hp}{c:ab}:∀{bs:List ab},c∈bs->lE H bs c=some (o8 c [])
 | [],h=>nomatch h
 | b::r,h=>by
  rw[lE];by_cases z:c=b
  ·subst z;exact az
  ·rw[upd_ne z];exact vi ((aZ.mp h).resolve_left z)
theorem vj{ae:List (ab×Obj)}{σ:St}{s:au}{H:Hp}:∀{bs:List ab},bs.Nodup->(∀b∈bs,H b=some (.aA []))->Inv X ae σ H s->Inv X ae σ (lE H bs) s
 | [],_,_,I=>I
 | b::r,hn,h,I=>by
  rw[c8]at hn;exact Inv.toLs (vj hn.2 (λc hc=>h c (bx _ hc)) I) (by rw[kZ hn.1];exact h b bE)
theorem N7{st:ay}{t t':TS}(h:PS X st t)(hi:∀D σ H,t' D σ H->t {D with nx:=λi0 H1=>∃H2,(∀ae s,Inv X ae i0 H1 s->Inv X ae i0 H2 s)/\D.nx i0 H2} σ H):PS X st t':=by
 intro ae s σ H D I hw;refine thn (h ae s σ H _ I (hi D σ H hw)) λfl s1 q=>?_
 cases fl with
 | next =>
  obtain⟨i0,H1,I1,H2,v,q⟩:=q;exact⟨i0,H2,v _ _ I1,q⟩
 | _=>exact q
theorem JX{st:ay}{t t':TS}(h:PS X st t)(hi:∀D σ H,t' D σ H->∃H1,(∀ae s,Inv X ae σ H s->Inv X ae σ H1 s)/\t D σ H1):PS X st t':=by
 intro ae s σ H D I hw;obtain⟨H1,v,q⟩:=hi D σ H hw;exact h ae s σ H1 D (v _ _ I) q
def JY(link:List (Option Nat))(g:eG)(i f:Nat):FS:=λρ=>match ρ[f]? with
 | some (.val (.aA ps))=>if((dI link (dz (rd f)) g (λ_=>some .cE) ((List.replicate ρ.length Ent.un).set f (.val (.aA ps)))).isSome&&decide (i<ρ.length))=true then some (.nx (ρ.set i (.cq (.l (List.replicate ps.length [])))))else none
 | _=>none
theorem JZ{K:ah}{F H:Hp}{N:ab->Prop}:∀{bs:List ab},(∀b∈bs,N b/\H b=some (o8 b []))->iq K F H N (List.replicate bs.length []) bs
 | [],_=>.nil
 | b::r,h=>.cons ⟨(h b bE).1,[],(h b bE).2,.nil⟩ (JZ λc hc=>h c (bx _ hc))
theorem Ts{st:ay}{link:List (Option Nat)}{g:eG}{fl:bG}{L:List Nat}(hg:KG L g)(hL:∀i∈L,link[i]?=some none)(NQ:∀ρ,fl ρ=some [])
  (h:PS X st (lh (pd link (N6 X.K (dz (rd f))) (To X.K g fl)) (gName i))):PS X st (tS X H₀ aa (JY link g i f)):=by
 refine N7 h λD σ H ⟨F,ρ,o,R,hf,q⟩=>?_
 unfold JY at hf;split at hf
 ·rename_i ps hp;obtain⟨hc,rfl⟩:=aB hf;rw[aE,jq]at hc;obtain⟨Zr,hi⟩:=hc;obtain⟨qs,Zr⟩:=AW.mp Zr;obtain⟨v,v1,v2⟩:=R.val f _ hp;have acr:f<σ.length:=(cM.mp v1).1;rw[R.len]at Zr;have R0:=N5 (K:=X.K) R.sub v1 v2;have hno:∀e∈(List.replicate σ.length Ent.un).set f (.val (.aA ps)),(∀ps,e≠.own ps)/\∀m,e≠.cq m:=λe he=>by
   rcases List.mem_or_eq_of_mem_set he with z | z
   ·rw[(List.mem_replicate.mp z).2];exact⟨(λ_ z=>by cases z),λ_ z=>by cases z⟩
   ·subst z;exact⟨(λ_ z=>by cases z),λ_ z=>by cases z⟩
  refine JR hg hL NQ R0 (bJ (by rw[j5];exact acr)) Zr hno λF' H' a bs zg sF sub sH fr hn Ct hb=>?_
  have hab:∀b∈bs,b≠a:=λb jx=>ne_of_none (hb b jx).1 hn
  have ha:a∉bs:=λz=>hab a z rfl
  refine⟨upd (lE (upd H' a (.aA (bs.map .ref))) bs) a (o8 a (bs.map .ref)),λae s I=>?_,?_⟩
  ·exact Inv.toLs (vj Ct (λb jx=>by rw[upd_ne (hab b jx)];exact(hb b jx).1) I) (by rw[kZ ha];exact az)
  ·have at1:∀c o,H' c=some o->c∉bs->upd (lE (upd H' a (.aA (bs.map .ref))) bs) a (o8 a (bs.map .ref)) c=some o:=λc o e hc=>by
    rw[upd_ne (ne_of_none e hn),kZ hc,upd_ne (ne_of_none e hn)];exact e
   have at2:∀c∈bs,upd (lE (upd H' a (.aA (bs.map .ref))) bs) a (o8 a (bs.map .ref)) c=some (o8 c []):=λc hc=>by
    rw[upd_ne (hab c hc),vi hc]
   have R1:cw X.K H₀ aa F' ρ σ (upd (lE (upd H' a (.aA (bs.map .ref))) bs) a (o8 a (bs.map .ref))):=R.after (λc o e=>at1 c o (sH _ _ e) λhc=>by rw[(hb c hc).2.1]at e;cases e) sF (λc o e=>at1 c o (sub _ _ e) λhc=>by rw[(hb c hc).2.2]at e;cases e) fr
   refine q F' _ _ (R1.xj hi (m:=.l (List.replicate ps.length [])) (a:=a) ⟨bs,az,c8.mpr ⟨ha,Ct⟩,?_⟩ (R.keep.free (sH.free hn)) (sub.free hn)) sF;rw[<-zg];exact JZ λb jx=>⟨⟨R.keep.free (hb b jx).2.1,(hb b jx).2.2⟩,at2 b jx⟩
 ·cases hf
theorem iR.add{K:ah}{F F' H:Hp}{a:ab}{m:Dk}(h:iR K F H (Nw H₀ F) a m)(e:Same F F')(k:∀b o,H b=some o->rl m o=true->F b=none->F' b=none):iR K F' H (Nw H₀ F') a m:=by
 cases m with
 | t kvs=>obtain⟨xs,h1,h2⟩:=h;exact⟨xs,h1,h2.mono e⟩
 | k kvs=>obtain⟨xs,h1,h2⟩:=h;exact⟨xs,h1,h2.mono e⟩
 | l dR=>obtain⟨bs,h1,h2,h3⟩:=h;exact⟨bs,h1,h2,Paired.HW h3 λps b ⟨⟨g0,g1⟩,vs,g2,g3⟩=>⟨⟨g0,k _ _ g2 rfl g1⟩,vs,g2,g3.mono e⟩⟩
theorem cw.acs{K:ah}{F H:Hp}{ρ:aC}{σ:St}(R:cw K H₀ aa F ρ σ H){c:ab}{o:HO}(hc:H c=some o)(ho:∀xs,o≠.aA xs)(hd:∀m,rl m o=false)(fr:aa c=some o\/H₀ c=none):∃F',cw K H₀ aa F' ρ σ H/\Same F F'/\F' c=some o/\∀b u,F' b=some u->F b=some u\/∀m,rl m u=false:=by
 have sm:Same F (upd F c o):=λb u e=>by
  by_cases z:b=c
  ·subst z;rw[az];rw[R.sub _ _ e]at hc;exact hc.symm
  ·rw[upd_ne z];exact e
 refine⟨upd F c o,?_,sm,az,λb u e=>?_⟩
 case refine_2 =>
  by_cases z:b=c
  ·subst z;rw[az]at e;cases e;exact .inr hd
  ·rw[upd_ne z]at e;exact .inl e
 exact {
  sub:=λb u e=>by
   by_cases z:b=c
   ·subst z;rw[az]at e;rw[hc];exact e
   ·rw[upd_ne z]at e;exact R.sub _ _ e
  keep:=R.keep
  base:=R.base.trans sm
  fresh:=λb u e=>by
   by_cases z:b=c
   ·subst z;rw[az]at e;cases e;exact fr
   ·rw[upd_ne z]at e;exact R.fresh _ _ e
  val:=λi p e=>let ⟨v,h1,h2⟩:=R.val i p e;⟨v,h1,h2.mono sm⟩
  own:=λi ps e=>by
   obtain⟨a,vs,h1,h2,h3,h4,h5⟩:=R.own i ps e;exact⟨a,vs,h1,h2,h3,by rw[upd_ne (oV h2 hc λz=>ho _ z.symm)];exact h4,h5.mono sm⟩
  apart:=R.apart
  obs:=λi o e=>let ⟨a,h1,h2⟩:=R.obs i o e;⟨a,h1,h2.mono sm⟩
  cq:=λi m e=>by
   obtain⟨a,h1,h2,h3,h4⟩:=R.cq i m e;have key:∀b u,H b=some u->rl m u=true->F b=none->upd F c o b=none:=λb u e1 e2 e3=>by
    rw[upd_ne]
    ·exact e3
    ·rintro rfl
     rw[hc]at e1;cases e1;rw[hd m]at e2;cases e2
   refine⟨a,h1,h2.add sm key,h3,?_⟩;cases m with
   | t kvs=>obtain⟨xs,g,_⟩:=h2;exact key a _ g rfl h4
   | k kvs=>obtain⟨xs,g,_⟩:=h2;exact key a _ g rfl h4
   | l dR=>obtain⟨bs,g,_⟩:=h2;exact key a _ g rfl h4
  len:=R.len}
def Qj:PV->Bool
 | .aI ps=>ps.all kz
 | p=>kz p
theorem oB{K:ah}{F F':Hp}:∀{ps:av} {vs:List V},ps.all kz=true->aP K F ps vs->aP K F' ps vs
 | [],_,_,h=>by rw[h.bX];exact .nil
 | p::r,_,hp,h=>by
  rw[fR,aE]at hp;obtain⟨v,w,rfl,h1,h2⟩:=h.b6;exact .cons (hJ hp.1 h1) (oB hp.2 h2)
theorem cw.Xk{K:ah}{F F2 H:Hp}{ρ qg:aC}{σ AM:St}(R:cw K H₀ aa F ρ σ H)(R2:cw K H₀ aa F2 qg AM H){p:PV}{v:V}(hp:Qj p=true)(hb:cx K F2 p v):∃F',cw K H₀ aa F' ρ σ H/\Same F F'/\cx K F' p v/\∀b u,F' b=some u->F b=some u\/∀m,rl m u=false:=by
 cases p with
 | aI ps =>
  obtain⟨c,vs,rfl,hs,zg⟩:=bF.mp hb;have add:∀o,F2 c=some o->(∀xs,o≠.aA xs)->(∀m,rl m o=false)->(∀F',F' c=some o->gO K F' c vs)->∃F',cw K H₀ aa F' ρ σ H/\Same F F'/\cx K F' (.aI ps) (.ref c)/\∀b u,F' b=some u->F b=some u\/∀m,rl m u=false:=λo h1 h2 h3 h4=>by
   obtain⟨F',g1,g2,g3,g4⟩:=R.acs (R2.sub _ _ h1) h2 h3 (R2.fresh _ _ h1);exact⟨F',g1,g2,bF.mpr ⟨c,vs,rfl,h4 _ g3,oB hp zg⟩,g4⟩
  rcases hs with(h | ⟨o,h⟩) | h
  ·exact add _ h (λ_ z=>nomatch z) (λm=>by cases m<;>rfl) λF' e=>.inl (.inl e)
  ·exact add _ h (λ_ z=>nomatch z) (λm=>by cases m<;>rfl) λF' e=>.inl (.inr ⟨o,e⟩)
  ·exact⟨F,R,Same.refl F,bF.mpr ⟨c,vs,rfl,.inr h,oB hp zg⟩,λ_ _ z=>.inl z⟩
 | aA _=>cases hp
 | cE=>exact⟨F,R,Same.refl F,hJ rfl hb,λ_ _ z=>.inl z⟩
 | bl _=>exact⟨F,R,Same.refl F,hJ rfl hb,λ_ _ z=>.inl z⟩
 | int _=>exact⟨F,R,Same.refl F,hJ rfl hb,λ_ _ z=>.inl z⟩
 | str _=>exact⟨F,R,Same.refl F,hJ rfl hb,λ_ _ z=>.inl z⟩
section
variable {K:ah} {F F' H:Hp} {N N':ab->Prop}
theorem Qk:∀{dR:List av} {bs:List ab},iq K F H N dR bs->∀{j:Nat} {ps:av},dR[j]?=some ps->∃b,bs[j]?=some b/\N b/\∃vs,H b=some (o8 b vs)/\aP K F ps vs
 | _,_,.nil,_,_,h=>nomatch h
 | _,_,.cons r t,0,_,h=>by cases h;exact⟨_,rfl,r⟩
 | _,_,.cons r t,j+1,_,h=>Qk (show iq K F H N _ _ from t) (j:=j) h
theorem xk{H':Hp}:∀{dR:List av} {bs:List ab},iq K F H N dR bs->Same F F'->(∀b∈bs,H' b=H b)->(∀b∈bs,N b->N' b)->iq K F' H' N' dR bs
 | _,_,.nil,_,_,_=>.nil
 | _,_,.cons ⟨h1,vs,h2,h3⟩ t,e,k,n=>.cons ⟨n _ bE h1,vs,(k _ bE).trans h2,h3.mono e⟩ (xk (show iq K F H N _ _ from t) e (λb hb=>k b (bx _ hb)) λb hb=>n b (bx _ hb))
theorem J0{q:PV}{w:V}(hq:cx K F q w):∀{dR:List av} {bs:List ab},iq K F H N dR bs->bs.Nodup->∀{j:Nat} {ps:av} {b:ab} {vs:List V},dR[j]?=some ps->bs[j]?=some b->aP K F ps vs->iq K F (upd H b (o8 b (vs++[w]))) N (dR.set j (ps++[q])) bs
 | _,_,.nil,_,_,_,_,_,h,_,_=>nomatch h
 | _,_,.cons ⟨h1,us,h2,h3⟩ t,hn,0,_,_,vs,e1,e2,hb=>by
  cases e1;cases e2;rw[c8]at hn;exact .cons ⟨h1,_,az,hb.append (.cons hq .nil)⟩ (xk (show iq K F H N _ _ from t) (Same.refl F) (λc hc=>upd_ne λz=>hn.1 (by rw[<-z];exact hc)) λ_ _ z=>z)
 | _,_,.cons ⟨h1,us,h2,h3⟩ t,hn,j+1,_,b,vs,e1,e2,hb=>by
  rw[c8]at hn;exact .cons ⟨h1,us,by rw[upd_ne λz=>hn.1 (by rw[z];exact cP (show _=some b from e2))];exact h2,h3⟩ (J0 hq (show iq K F H N _ _ from t) hn.2 (j:=j) e1 e2 hb)
end
def Tt(i:Nat)(fk fe:FE):FS:=λρ=>(fk ρ).bind λqk=>(fe (fO none ρ)).bind λqe=>match ρ[i]?,qk with
 | some (.cq (.l dR)),.int j=>if(0<=j/\Qj qe=true/\(ρ.set i .un).all (hZ true)=true)then(dR[j.toNat]?).bind λps=>if ps.length<f6 then some (.nx (ρ.set i (.cq (.l (dR.set j.toNat (ps++[qe]))))))else none else none
 | _,_=>none
theorem J1{fk fe:FE}{D:jS}{σ:St}{H:Hp}(h:tS X H₀ aa (Tt i fk fe) D σ H):tDrop (JV (UL Qi (gR i) (tE X.K H₀ aa fk)) (tA X.K H₀ aa (af fe ar))) D σ H:=by
 obtain⟨F,ρ,o,R,hf,q⟩:=h;obtain⟨qk,h1,hf⟩:=ao hf;obtain⟨qe,h2,hf⟩:=ao hf;split at hf
 ·rename_i dR j hp _;obtain⟨⟨c1,c2,c3⟩,hf⟩:=aw hf;obtain⟨ps,h3,hf⟩:=ao hf;obtain⟨c4,rfl⟩:=aB hf;obtain⟨a,e1,_⟩:=R.cq i _ hp;refine⟨.ref a,e1,F,ρ,.int j,R,h1,λv H1 F1 R1 s1 b1=>?_⟩
  obtain⟨a',g1,⟨bs,g2,g3,g4⟩,g5,g6⟩:=R1.cq i _ hp;rw[e1]at g1;cases g1;obtain⟨b,gb,⟨gn1,gn2⟩,vs,gv,gl⟩:=Qk g4 h3;have rQ:atI (bs.map V.ref) j=some (.ref b):=by
   have:j=((j.toNat:Nat):Int):=by lia
   rw[this];exact eE (by rw[cf,gb];rfl)
  obtain⟨Ff,Rf,sf,kf⟩:=R1.lx none;refine⟨a,_,j,.ref b,rfl,aG.mp b1,g2,rQ,⟨b,vs,rfl,gv⟩,Ff,fO none ρ,[qe],Rf,?_,λws H2 F2 R2 s2 b2=>?_⟩
  ·show(fe (fO none ρ)).bind _=_;rw[h2];rfl
  ·obtain⟨w,r,rfl,bw,br⟩:=b2.b6;rw[br.bX];have R3:=R1.M8 Rf sf kf R2 s2;obtain⟨F4,R4,s4,b4,n4⟩:=R3.Xk R2 c2 bw;have up:∀c o,oq X.K H₀ F1 H1 none ρ σ c->H1 c=some o->H2 c=some o:=λc o z1 z2=>R2.sub _ _ (s2 _ _ (kf c o z1 z2))
   have hin:∀c∈bs,oq X.K H₀ F1 H1 none ρ σ c:=λc hc=>.inr ⟨i,dR,bs,hp,g4,hc⟩
   have hbm:=cP gb;have hB:H2 b=some (o8 b vs):=up b _ (hin b hbm) gv;have hA:H2 a=some (o8 a (bs.map .ref)):=up a _ (.inl ⟨i,_,hp,(λz=>by cases z),e1⟩) g2
   rw[c8]at g3;refine⟨b,vs,w,rfl,rfl,hB,cz (by rw[<-gl.length];exact c4) (ee (aR _)),?_⟩
   have f4:∀c∈bs,Nw H₀ F1 c->Nw H₀ F4 c:=λc hc ⟨z1,z2⟩=>⟨z1,by
    cases y:F4 c with
    | none=>rfl
    | some u =>
     rcases n4 c u y with y2 | y2
     ·rw[z2]at y2;cases y2
     ·obtain⟨_,us,y3⟩:=g4.mem hc;have y4:=up c _ (hin c hc) y3;rw[R4.sub _ _ y]at y4;cases y4;cases y2 (.l [])⟩
   have L4:iq X.K F4 H2 (Nw H₀ F4) dR bs:=xk g4 (s4) (λc hc=>by
    obtain⟨_,us,z⟩:=g4.mem hc;rw[up c _ (hin c hc) z,z]) f4
   have hnb:Nw H₀ F4 b:=f4 b hbm ⟨gn1,gn2⟩;have sub:∀{G:Hp},G b=none->Same G H2->Same G (upd H2 b (o8 b (vs++[w]))):=λ{G} hg s c u e=>by rw[upd_ne (ne_of_none e hg)];exact s _ _ e
   refine q F4 σ _ (R4.putD (m:=.l dR) hp e1 (sub hnb.2 R4.sub) (sub hnb.1 R4.keep) (λc u z1 z2=>?_) ⟨bs,?_,c8.mpr g3,J0 b4 L4 g3.2 h3 gb (gl.mono s4)⟩ c3) (s1.trans s4)
   ·rw[upd_ne]
    ·exact z1
    ·rintro rfl
     rw[hB]at z1;cases z1;cases z2
   ·rw[upd_ne (λz=>g3.1 (by rw[z];exact hbm))]
    exact hA
 ·cases hf
theorem Eg{K:ah}{F H:Hp}{N:ab->Prop}:∀{dR:List av} {bs:List ab},iq K F H N dR bs->bs.Nodup->∃H1,(∀ae σ s,Inv X ae σ H s->Inv X ae σ H1 s)/\(∀c,c∉bs->H1 c=H c)/\Paired (λps b=>∃vs,H1 b=some (.aA vs)/\aP K F ps vs) dR bs
 | _,_,.nil,_=>⟨H,λ_ _ _ I=>I,λ_ _=>rfl,.nil⟩
 | _,_,.cons (b:=b) ⟨_,vs,h2,h3⟩ t,hn=>by
  rw[c8]at hn;obtain⟨H1,i1,i2,i3⟩:=Eg (show iq K F H N _ _ from t) hn.2
  have hb:H1 b=some (o8 b vs):=(i2 b hn.1).trans h2;refine⟨upd H1 b (.aA vs),λae σ s I=>Inv.JS (i1 ae σ s I) hb,λc hc=>?_,.cons ⟨vs,az,h3⟩ ?_⟩
  ·rw[upd_ne (λz=>hc (by rw[z];exact bE))]
   exact i2 c λz=>hc (bx _ z)
  ·have:∀{dR:List av} {bs:List ab},Paired (λps b=>∃vs,H1 b=some (.aA vs)/\aP K F ps vs) dR bs->b∉bs->Paired (λps c=>∃us,upd H1 b (.aA vs) c=some (.aA us)/\aP K F ps us) dR bs:=λ{dR bs} h=>by
    induction h with
    | nil=>intro _;exact .nil
    | @cons ps c dR bs r t ih =>
     intro hb;obtain⟨us,r1,r2⟩:=r;refine .cons ⟨us,?_,r2⟩ (ih λz=>hb (bx _ z))
     rw[upd_ne (λz=>hb (by rw[<-z];exact bE))]
     exact r1
   exact this i3 hn.1
def Tu(i:Nat)(f:FS):FS:=λρ=>match ρ[i]? with
 | some (.cq (.l dR))=>if(ρ.set i .un).all (hZ true)=true then f (ρ.set i (.val (.aA (dR.map .aA))))else none
 | _=>f ρ
open Classical in
theorem Xl{st:ay}{fs:FS}(h:PS X st (tS X H₀ aa fs)):PS X st (tS X H₀ aa (Tu i fs)):=by
 refine JX h λD σ H ⟨F,ρ,o,R,hf,q⟩=>?_
 unfold Tu at hf;split at hf
 ·rename_i dR hp;obtain⟨hc,hf⟩:=aw hf;have dW:i<ρ.length:=(cM.mp hp).1;obtain⟨a,e1,⟨bs,g2,g3,g4⟩,g5,g6⟩:=R.cq i _ hp;have g3':=c8.mp g3;obtain⟨H1,i1,i2,i3⟩:=Eg (X:=X) g4 g3'.2;have ha1:H1 a=some (o8 a (bs.map .ref)):=(i2 a g3'.1).trans g2;have AN:∀c,c≠a->c∉bs->upd H1 a (.aA (bs.map .ref)) c=H c:=λc z1 z2=>by rw[upd_ne z1];exact i2 c z2
  have tag:∀c o,H c=some o->rl (.l []) o=false->c≠a/\c∉bs:=λc o z1 z2=>by
   constructor
   ·intro z;subst z;rw[g2]at z1;cases z1;cases z2
   ·intro z;obtain⟨_,us,y⟩:=g4.mem z;rw[y]at z1;cases z1;cases z2
  have frn:∀c o,F c=some o->c≠a/\c∉bs:=λc o z1=>by
   constructor
   ·intro z;subst z;rw[g6]at z1;cases z1
   ·intro z;obtain⟨⟨_,y⟩,_⟩:=g4.mem z;rw[y]at z1;cases z1
  have kpn:∀c o,H₀ c=some o->c≠a/\c∉bs:=λc o z1=>by
   constructor
   ·intro z;subst z;rw[g5]at z1;cases z1
   ·intro z;obtain⟨⟨y,_⟩,_⟩:=g4.mem z;rw[y]at z1;cases z1
  let F1:Hp:=λc=>if c=a\/c∈bs then upd H1 a (.aA (bs.map .ref)) c else F c
  have f1:∀c,c=a\/c∈bs->F1 c=upd H1 a (.aA (bs.map .ref)) c:=λc z=>if_pos z
  have f2:∀c,c≠a->c∉bs->F1 c=F c:=λc z1 z2=>if_neg λz=>z.elim z1 z2
  have sm:Same F F1:=λc o z=>by obtain⟨y1,y2⟩:=frn c o z;rw[f2 c y1 y2];exact z
  have hv:cx X.K F1 (.aA (dR.map .aA)) (.ref a):=by
   refine aV.mpr ⟨a,bs.map .ref,rfl,nJ.of (by rw[f1 a (.inl rfl)];exact az),?_⟩
   have:∀{dR:List av} {cs:List ab},Paired (λps b=>∃vs,H1 b=some (.aA vs)/\aP X.K F ps vs) dR cs->(∀c∈cs,c∈bs)->aP X.K F1 (dR.map .aA) (cs.map .ref):=λ{dR cs} h=>by
    induction h with
    | nil=>intro _;exact .nil
    | @cons ps c dR cs r t ih =>
     intro hcs;obtain⟨us,r1,r2⟩:=r;have hcb:=hcs c bE;refine .cons (aV.mpr ⟨c,us,rfl,nJ.of ?_,r2.mono sm⟩) (ih λd hd=>hcs d (bx _ hd))
     rw[f1 c (.inr hcb),upd_ne (λz=>g3'.1 (by rw[<-z];exact hcb))]
     exact r1
   exact this i3 λ_ z=>z
  refine⟨upd H1 a (.aA (bs.map .ref)),λae s I=>Inv.JS (i1 ae σ s I) ha1,F1,_,o,?_,hf,q.mono sm⟩
  exact {
   sub:=λc o z=>by
    by_cases hc:c=a\/c∈bs
    ·rw[f1 c hc]at z;exact z
    ·have z1:c≠a:=λy=>hc (.inl y)
     have z2:c∉bs:=λy=>hc (.inr y)
     rw[f2 c z1 z2]at z;rw[AN c z1 z2];exact R.sub _ _ z
   keep:=λc o z=>by obtain⟨y1,y2⟩:=kpn c o z;rw[AN c y1 y2];exact R.keep _ _ z
   base:=R.base.trans sm
   fresh:=λc o z=>by
    by_cases hc:c=a\/c∈bs
    ·refine .inr ?_;rcases hc with rfl | hc
     ·exact g5
     ·exact(g4.mem hc).1.1
    ·rw[f2 c (λy=>hc (.inl y)) (λy=>hc (.inr y))]at z;exact R.fresh _ _ z
   val:=λj p z=>by
    by_cases hj:i=j
    ·subst hj;rw[bJ dW]at z;cases z;exact⟨_,e1,hv⟩
    ·rw[bj hj]at z;obtain⟨v,h1,h2⟩:=R.val j p z;exact⟨v,h1,h2.mono sm⟩
   own:=λj ps z=>by
    by_cases hj:i=j
    ·subst hj;rw[bJ dW]at z;cases z
    ·rw[bj hj]at z;obtain⟨c,vs,h1,h2,h3,h4,h5⟩:=R.own j ps z;obtain⟨y1,y2⟩:=tag c _ h2 rfl;exact⟨c,vs,h1,by rw[AN c y1 y2];exact h2,h3,by rw[f2 c y1 y2];exact h4,h5.mono sm⟩
   apart:=λj k ps qs c z1 z2 z3 z4=>by
    have old:∀(m:Nat) (l:av),(ρ.set i (.val (.aA (dR.map .aA))))[m]?=some (.own l)->ρ[m]?=some (.own l):=λm l z=>by
     by_cases hm:i=m
     ·subst hm;rw[bJ dW]at z;cases z
     ·rw[bj hm]at z;exact z
    exact R.apart j k ps qs c (old j ps z1) (old k qs z2) z3 z4
   obs:=λj o z=>by
    by_cases hj:i=j
    ·subst hj;rw[bJ dW]at z;cases z
    ·rw[bj hj]at z;obtain⟨c,h1,h2⟩:=R.obs j o z;exact⟨c,h1,h2.mono sm⟩
   cq:=λj m z=>by
    by_cases hj:i=j
    ·subst hj;rw[bJ dW]at z;cases z
    ·rw[bj hj]at z;have hk:=dj.mp hc (.cq m) (cP (i:=j) (by rw[bj hj];exact z))
     obtain⟨c,h1,h2,h3,h4⟩:=R.cq j m z;have hm:∀dR,m≠.l dR:=λdR y=>by subst y;cases hk
     have ht:∃o,H c=some o/\rl (.l []) o=false:=by
      cases m with
      | t kvs=>obtain⟨xs,y,_⟩:=h2;exact⟨_,y,rfl⟩
      | k kvs=>obtain⟨xs,y,_⟩:=h2;exact⟨_,y,rfl⟩
      | l dR=>exact absurd rfl (hm dR)
     obtain⟨o,y1,y2⟩:=ht;obtain⟨y3,y4⟩:=tag c o y1 y2;exact⟨c,h1,h2.toT hm sm (AN c y3 y4),h3,by rw[f2 c y3 y4];exact h4⟩
   len:=by rw[gk];exact R.len}
 ·exact⟨H,λ_ _ I=>I,F,ρ,o,R,hf,q⟩
end
def su(kvs:List (List b8×PV))(k:List b8):Bool:=kvs.any λx=>decide (x.1=k)
def N8(kvs:List (List b8×PV))(k:List b8)(q:PV):List (List b8×PV):=if su kvs k=true then kvs.map λx=>if x.1=k then(x.1,q)else x else kvs++[(k,q)]
section
variable {K:ah} {F:Hp}
theorem m9{kvs:List (List b8×PV)}{xs:List (List b8×ab×ag)}(h:rj K F kvs xs):iQ K F xs/\kvs.length=xs.length/\∀k,(atKey xs k).isSome=su kvs k:=by
 have:xs.map (·.1)=kvs.map (·.1)/\iQ K F xs:=by
  unfold rj at h;induction h with
  | nil=>exact⟨rfl,λ_ z=>nomatch z⟩
  | @cons p q ps qs r t ih =>
   obtain⟨r1,r2,_⟩:=r;refine⟨by rw[bC,bC,ih.1,r1],λx hx=>?_⟩
   rcases aZ.mp hx with rfl | hx
   ·rw[<-r1];exact r2
   ·exact ih.2 x hx
 refine⟨this.2,by have:=c9 List.length this.1;rw[aH,aH]at this;exact this.symm,λk=>?_⟩
 rw[uT,this.1];unfold su;rw[List.any_map];rfl
theorem Tv{kvs:List (List b8×PV)}{xs:List (List b8×ab×ag)}(h:rj K F kvs xs){k:List b8}{b:ab}(hb:gO K F b (k.map kV)){q:PV}{v:V}{r:ag}(hv:cx K F q v)(hr:RelV v r):rj K F (N8 kvs k q) (storedH xs k b r):=by
 have hk:=(m9 h).2.2 k;unfold N8;cases e:su kvs k with
 | true =>
  rw[e]at hk;obtain⟨p,hp⟩:=AW.mp hk;rw[if_pos rfl,storedH_old hp];clear hk hp e;unfold rj at h ⊢;induction h with
  | nil=>exact .nil
  | @cons p q' ps qs r' t ih =>
   obtain⟨r1,r2,r3⟩:=r';refine .cons ?_ ih;by_cases z:p.1=k
   ·have z1:(λx:List b8×PV=>if x.1=k then(x.1,q)else x) p=(p.1,q):=if_pos z
    have z2:putAt k r q'=(q'.1,q'.2.1,r):=if_pos (r1.symm.trans z);rw[z1,z2];exact⟨r1,r2,v,hv,hr⟩
   ·have z1:(λx:List b8×PV=>if x.1=k then(x.1,q)else x) p=p:=if_neg z
    have z2:putAt k r q'=q':=if_neg λy=>z (r1.trans y)
    rw[z1,z2];exact⟨r1,r2,r3⟩
 | false =>
  rw[e]at hk;rw[if_neg (by simp),storedH_new (by cases y:atKey xs k with | none=>rfl | some _=>rw[y]at hk;cases hk)]
  clear hk e;unfold rj at h ⊢;induction h with
  | nil=>exact .cons ⟨rfl,hb,v,hv,hr⟩ .nil
  | cons r' t ih=>exact .cons r' ih
end
section
variable {X:Cx} {H₀ aa:Hp} {e ke:aj} {fk fv:FE} {x:Str} {p pos sp:Pos} {i:Nat}
def Gd(i:Nat):FS:=λρ=>if i<ρ.length then some (.nx (ρ.set i (.cq (.t []))))else none
theorem J2{D:jS}{σ:St}{H:Hp}(h:tS X H₀ aa (Gd i) D σ H):lh (DH (.dT [])) (gName i) D σ H:=by
 obtain⟨F,ρ,o,R,hf,q⟩:=h;obtain⟨hi,rfl⟩:=aB hf;intro d hd;exact q F _ _ ((R.DJ (.dT []) hd).xj hi ⟨[],az,.nil⟩ (R.keep.free hd) (R.sub.free hd)) (Same.refl F)
theorem qm{K:ah}{F:Hp}{qk:PV}{ks:List b8}{v:V}(h:jQ qk=some ks)(b:cx K F qk v):∃c,v=.ref c/\gO K F c (ks.map kV):=by
 obtain⟨rfl,_⟩:=zG h;obtain⟨c,vs,rfl,hs,hb⟩:=bF.mp b;rw[oA hb]at hs;exact⟨c,rfl,hs⟩
def Ge(i:Nat)(fk fv:FE):FS:=λρ=>(fv ρ).bind λqv=>(fk ρ).bind λqk=>match ρ[i]? with
 | some (.cq (.t kvs))=>(jQ qk).bind λks=>if(kvs.length<f6/\(ρ.set i .un).all (hZ false)=true)then some (.nx (ρ.set i (.cq (.t (N8 kvs ks qv)))))else none
 | _=>none
theorem J3{D:jS}{σ:St}{H:Hp}(h:tS X H₀ aa (Ge i fk fv) D σ H):Qd X.K (gR i) (tE X.K H₀ aa fk) (tE X.K H₀ aa fv) D σ H:=by
 obtain⟨F,ρ,o,R,hf,q⟩:=h;obtain⟨qv,h1,hf⟩:=ao hf;obtain⟨qk,h2,hf⟩:=ao hf;split at hf
 ·rename_i kvs hp;obtain⟨ks,h3,hf⟩:=ao hf;obtain⟨⟨c1,c2⟩,rfl⟩:=aB hf;refine⟨F,ρ,qv,R,h1,λv H1 F1 R1 s1 b1=>?_⟩
  obtain⟨a,e1,_⟩:=R1.cq i _ hp;refine⟨.ref a,e1,F1,ρ,qk,R1,h2,λy H3 F3 R3 s3 b3=>?_⟩
  obtain⟨a',g1,⟨xs,g2,g3⟩,g4,g5⟩:=R3.cq i _ hp;rw[e1]at g1;cases g1;obtain⟨c,rfl,hs⟩:=qm h3 b3;obtain⟨k1,k2,_⟩:=m9 g3;refine⟨a,c,xs,ks,rfl,rfl,g2,λz hz=>aU R3.sub (k1 z hz),aU R3.sub hs,by rw[<-k2];exact cz c1 (ee (aR _)),λr hr=>?_⟩
  exact q F3 σ _ (R3.JP hp e1 rfl ⟨_,az,Tv g3 hs (b1.mono s3) hr⟩ c2) (s1.trans s3)
 ·cases hf
def Cu(ρ:aC)(i:Nat):Option (List (List b8×PV)):=match ρ[i]? with
 | some (.cq (.t kvs))=>some kvs
 | some (.ob (.dct (.t kvs)))=>some kvs
 | _=>none
theorem xl{K:ah}{F H:Hp}{ρ:aC}{σ:St}{kvs:List (List b8×PV)}(h:Cu ρ i=some kvs)(R:cw K H₀ aa F ρ σ H):∃a xs,σ[i]?=some (some (.ref a))/\Rd H a (.dT xs)/\rj K F kvs xs:=by
 unfold Cu at h;split at h
 ·rename_i hp;cases h;obtain⟨a,e1,⟨xs,e2,e3⟩,_⟩:=R.cq i _ hp;exact⟨a,xs,e1,.inl e2,e3⟩
 ·rename_i hp;cases h;obtain⟨a,e1,xs,e2,e3⟩:=R.obs i _ hp;exact⟨a,xs,e1,.inl (R.sub _ _ e2),e3⟩
 ·cases h
def inB(b:Bool)(i:Nat)(fk:FE):eR:=λρ=>(fk ρ).bind λqk=>(jQ qk).bind λks=>(Cu ρ i).map λkvs=>if b=true then !su kvs ks else su kvs ks
def rKi(K:ah):R2:=λx y H Q=>∃b d xs k,x=.ref b/\y=.ref d/\Rd H d (.dT xs)/\iQ K H xs/\gO K H b (k.map kV)/\Q (.bl (atKey xs k).isSome) H
theorem Xm(hu:X.A.units+1<cLine):OpR X (compareOp .In) (rKi X.K):=by
 rintro ae s σ H x y v u Q I rx ry ⟨b,d,xs,k,ex,ey,h1,h2,h3,q⟩;subst ex ey;cases rx;cases ry;exact VW hu I h1 h2 h3 λs' I'=>⟨.bl (atKey xs k).isSome,H,I',rfl,q⟩
theorem zK{b:Bool}{ρ:aC}{r:Bool}(h:inB b i fk ρ=some r):∃qk ks kvs,fk ρ=some qk/\jQ qk=some ks/\Cu ρ i=some kvs/\r=if b=true then !su kvs ks else su kvs ks:=by
 obtain⟨qk,h1,h⟩:=ao h;obtain⟨ks,h2,h⟩:=ao h;cases z:Cu ρ i with
 | none=>rw[z]at h;cases h
 | some kvs=>rw[z]at h;cases h;exact⟨qk,ks,kvs,h1,h2,rfl,rfl⟩
def Xn:CmpOp->Option Bool
 | .In=>some false
 | .NotIn=>some true
 | _=>none
theorem Xo{op:CmpOp}{b:Bool}(ho:Xn op=some b)(hu:X.A.units+1<cLine)(hk:PE X ke (tE X.K H₀ aa fk))(hx:PE X (.Name x p) (gR i)):PT X (.Compare ke [op] [.Name x p] pos) (tT X.K H₀ aa (inB b i fk)):=by
 cases op with
 | NotIn =>
  cases ho;refine(mI (Qc hu) hk hx rfl).imp λσ H Q ⟨F,ρ,r,R,hf,q⟩=>?_
  obtain⟨qk,ks,kvs,h1,h2,h3,rfl⟩:=zK hf;refine⟨F,ρ,qk,R,h1,λv H1 F1 R1 s1 b1=>?_⟩
  obtain⟨a,xs,e1,e2,e3⟩:=xl h3 R1;obtain⟨c,rfl,hs⟩:=qm h2 b1;obtain⟨k1,_,k3⟩:=m9 e3;refine⟨.ref a,e1,c,a,xs,ks,rfl,rfl,e2,λz hz=>aU R1.sub (k1 z hz),aU R1.sub hs,_,rfl,?_⟩
  rw[k3];exact q H1 F1 R1 s1
 | In =>
  cases ho;refine(mI (Xm hu) hk hx rfl).imp λσ H Q ⟨F,ρ,r,R,hf,q⟩=>?_
  obtain⟨qk,ks,kvs,h1,h2,h3,rfl⟩:=zK hf;refine⟨F,ρ,qk,R,h1,λv H1 F1 R1 s1 b1=>?_⟩
  obtain⟨a,xs,e1,e2,e3⟩:=xl h3 R1;obtain⟨c,rfl,hs⟩:=qm h2 b1;obtain⟨k1,_,k3⟩:=m9 e3;refine⟨.ref a,e1,c,a,xs,ks,rfl,rfl,e2,λz hz=>aU R1.sub (k1 z hz),aU R1.sub hs,_,rfl,?_⟩
  rw[k3];exact q H1 F1 R1 s1
 | _=>cases ho
theorem J4{A:bA}{E:cm}{s:au}{d:ab}{o:Obj}{es:Array DictEntry}{ep n:Nat}{Q:cm}(hd:(d==sysModules)=false)(ho:s.heap.get? d=some o)(hc:o.ExactDict)(acv:o.data=.dict es ep)(hn:es.size=n)(Xp:(n:Int)<2^63)
  (h:Q (.int n (s.toks+1)) {s with toks:=s.toks+1+1}):wpAny (model X.prog X.w) A (call (.builtin "len") [.ref d]) Q E s:=by
 have ty:s.TypeIs (.ref d) "dict":=⟨o,ho,hc.1⟩;have hm:MeetsIn X.prog X.w (Builtin.«dict.__len__» ⟨[.ref d],[]⟩) (λ_ R s'=>s'.heap.get? d=some o/\R (.ok (.ret (.int n s'.toks))) {s' with toks:=s'.toks+1}):=.of_wp <| by
  rintro A R s' ⟨tY,hR⟩
  show wpAny _ _ (dictSize d >>= _) _ _ s';unfold dictSize;refine ai (ai (wpAny_dictEntries tY acv (ax ?_)));refine ai (m:=Builtin.Dict.pendingCount d) (wpAny_pendingCount_other hd ?_);refine wpAny_ret_mkInt ?_;rw[Nat.add_zero,hn];exact hR
 refine Calls.call_function_entry kind_len plain_len entry_len (args_len1 _) ?_;unfold Builtin.«len»;refine ai (m:=PySem.oneArg "len" _) (ax ?_);refine ai (m:=callSpecial? (.ref d) (Str.ofString "__len__")) (j3 (name:=Str.ofString "__len__") ty F.slot_dict_len (call_meetsIn F.slot_dict_len ty F.entry_dict_len (F.args_dict_len_1 _) hm ⟨ho,?_⟩));show wpAny _ _ _ _ _ {s with toks:=s.toks+1}
 refine ai (gm (ax ?_));refine ai (wpAny_letGo ?_);show wpAny _ _ (if((n:Nat):Int)<0 then _ else _) _ _ _
 rw[if_neg (by lia)]
 show wpAny _ _ (if((n:Nat):Int)>=2^63 then _ else _) _ _ _
 rw[if_neg (by lia)]
 exact ai (wpAny_mkInt (ax ⟨_,rfl,h⟩))
theorem zL:km X (.builtin "len") (λxs H Q=>∃p ys,xs=[.ref p]/\Rd H p (.dT ys)/\Q (.int ys.length) H):=by
 rintro ae s σ H xs us Q I rs ⟨p,ys,e,h,q⟩;subst e;obtain⟨u,rfl,ru⟩:=i4 rs;cases ru;obtain⟨z,y,o,es,ep,h1,h2,h3,h4,h5⟩:=(show dB X.prog X.w H s.heap p (.dT ys)from II I.hok h)
 have hn:es.size=ys.length:=by rw[<-fB,h4,aH]
 refine J4 (X:=X) y h1 h2 h3 hn ?_ ⟨.int ys.length,H,I.tok _,⟨_,rfl⟩,q⟩;have:ys.length<=2^62:=b0 z (by decide)
 have h62:(2:Nat)^62=4611686018427387904:=by decide
 have h63:(2:Int)^63=9223372036854775808:=by decide
 lia
def N9(i:Nat):FE:=λρ=>(Cu ρ i).map λkvs=>.int kvs.length
theorem Tw{cp:Pos}(hg:Gl X "len")(hm:X.mg "len"=none)(hx:PE X (.Name x p) (gR i)):PE X (.Call (.Name "len" sp) [.Name x p] [] cp) (tE X.K H₀ aa (N9 i)):=(i5 zL hg hm vY (cL hx gZ)).imp <| by
 rintro σ H Q ⟨F,ρ,r,R,hf,q⟩
 unfold N9 at hf;cases z:Cu ρ i with
 | none=>rw[z]at hf;cases hf
 | some kvs =>
  rw[z]at hf;cases hf;obtain⟨a,xs,e1,e2,e3⟩:=xl z R;refine⟨.ref a,e1,a,xs,rfl,e2,q _ H F R (Same.refl F) (aG.mpr ?_)⟩;rw[(m9 e3).2.1]
noncomputable def Ql(ts:bG):bG:=λρ=>(ts ρ).bind λps=>match ps with | [.int i,.int j]=>if(0<=i/\i<1000000/\0<=j/\j<1000000)then some ((List.range (j-i).toNat).map fun(k:Nat)=>.int (i+k))else none | _=>none
theorem J5{tg a b:aj}{p pos:Pos}{ts:bG}(hg:Gl X "range")(hm:X.mg "range"=none)(ha:PA X [a,b] (tA X.K H₀ aa ts))(hs:starEach [a,b] X.env=[(false,eval a X.env),(false,eval b X.env)])(Ie:starEach [b] X.env=[(false,eval b X.env)]):PI X tg (.Call (.Name "range" p) [a,b] [] pos) (tI X.K H₀ aa (Ql ts)) :=
 (Fh hg hm ha hs Ie).imp <| by
  rintro σ H Rr ⟨F,ρ,ps,R,hf,q⟩
  obtain⟨as,h1,h2⟩:=ao hf;refine⟨F,ρ,as,R,h1,λvs H1 F1 R1 s1 b1=>?_⟩
  match as,h2 with
  | [.int i,.int j],h2 =>
   obtain⟨⟨z1,z2,z3,z4⟩,rfl⟩:=aB h2;obtain⟨v,r,rfl,bv,br⟩:=b1.b6;obtain⟨v',r',rfl,bv',br'⟩:=br.b6;rw[br'.bX,aG.mp bv,aG.mp bv'];exact⟨i,j,rfl,⟨by lia,by lia,by lia,by lia⟩,q _ H1 F1 R1 s1 (rA i (j-i).toNat)⟩
end
end L2.PL
namespace PySem
theorem Cv{α:Type} [DecidableEq α]:∀(l U:List α),l.Nodup->(∀x∈l,x∈U)->l.length<=U.length
 | [],_,_,_=>dP _
 | x::l,U,h,s=>by
  rw[c8]at h;have hx:=s x bE;have ih:=Cv l (U.erase x) h.2 λy hy=>(List.mem_erase_of_ne (show y≠x from λe=>h.1 (by rw[<-e];exact hy))).mpr (s y (bx _ hy))
  rw[List.length_erase_of_mem hx]at ih;have:=List.length_pos_of_mem hx;rw[aW]
  lia
def AO(M:Nat):Nat->Nat->Nat
 | 0,i=>i
 | s+1,i=>AO M s ((i*5+1)%M)
def Gf(M:Nat):Nat->Nat->List Nat
 | 0,_=>[]
 | n+1,i=>i::Gf M n ((i*5+1)%M)
theorem ng(M:Nat):∀(a b i:Nat),AO M (a+b) i=AO M b (AO M a i)
 | 0,b,i=>by rw[gn];rfl
 | a+1,b,i=>by rw[Nat.succ_add];exact ng M a b _
theorem oC(M:Nat):∀(n i s:Nat),s<n->(Gf M n i)[s]?=some (AO M s i)
 | 0,_,_,h=>absurd h (nW _)
 | n+1,i,0,_=>rfl
 | n+1,i,s+1,h=>by
  show(Gf M n ((i*5+1)%M))[s]?=some (AO M s ((i*5+1)%M));exact oC M n _ s (by lia)
def gN:List Nat:=[8,32,128,512,2048]
theorem J6:gN.all (λM=>(Gf M M 0).tail.all (· != 0)&&AO M M 0==0)=true:=by decide +kernel
theorem nh(M:Nat):∀(n i:Nat),(Gf M n i).length=n
 | 0,_=>rfl
 | n+1,i=>by rw[Gf,aW,nh M n]
section
variable {M:Nat} (hM:M∈gN)
include hM
theorem fm:0<M:=by
 simp only[gN,aZ,dX,dZ]at hM
 lia
theorem Cw:∀(s i:Nat),i<M->AO M s i<M
 | 0,i,h=>h
 | s+1,i,_=>Cw s _ (kh _ (fm hM))
theorem J7{i j:Nat}(hi:i<M)(hj:j<M)(h:(i*5+1)%M=(j*5+1)%M):i=j:=by
 simp only[gN,aZ,dX,dZ]at hM;rcases hM with rfl | rfl | rfl | rfl | rfl<;>lia
theorem Eh:∀(s i j:Nat),i<M->j<M->AO M s i=AO M s j->i=j
 | 0,i,j,_,_,h=>h
 | s+1,i,j,hi,hj,h=>J7 hM hi hj (Eh s _ _ (kh _ (fm hM)) (kh _ (fm hM)) h)
theorem Tx{s:Nat}(h0:0<s)(hs:s<M):AO M s 0≠0:=by
 have h:=dj.mp J6 M hM;rw[aE]at h;obtain⟨n,rfl⟩:∃n,s=n+1:=⟨s-1,by lia⟩
 have h1:=oC M M 0 (n+1) hs;have h2:AO M (n+1) 0∈(Gf M M 0).tail:=by
  refine cP (i:=n) ?_;rw[List.getElem?_tail];exact h1
 simpa using dj.mp h.1 _ h2
theorem J8:AO M M 0=0:=by
 have h:=dj.mp J6 M hM;rw[aE]at h;simpa using h.2
theorem Tz:(Gf M M 0).Nodup:=by
 refine List.pairwise_iff_getElem.mpr λa b ha hb hab e=>?_
 have e:(Gf M M 0)[a]?=(Gf M M 0)[b]?:=by rw[di ha,di hb,e]
 rw[nh]at hb;rw[oC M M 0 a (by lia),oC M M 0 b hb]at e
 have e:=bo e;obtain⟨d,rfl⟩:∃d,b=a+d:=⟨b-a,by lia⟩
 rw[Nat.add_comm a d,ng]at e;exact Tx hM (s:=d) (by lia) (by lia) (Eh hM a _ _ (Cw hM d 0 (fm hM)) (fm hM) e.symm)
theorem Ei{j:Nat}(hj:j<M):∃s,s<M/\AO M s 0=j:=by
 by_cases h:j∈Gf M M 0
 ·obtain⟨s,hs,e⟩:=List.getElem_of_mem h;have P5:s<M:=by rw[nh]at hs;exact hs
  refine⟨s,P5,?_⟩;have h1:=oC M M 0 s P5;rw[di hs,e]at h1;exact(bo h1).symm
 ·have nd:(j::Gf M M 0).Nodup:=c8.mpr ⟨h,Tz hM⟩;have sub:(j::Gf M M 0) ⊆ List.range M:=λx hx=>by
   rw[du];rcases aZ.mp hx with rfl | hx
   ·exact hj
   ·obtain⟨s,hs⟩:=lM hx;have P5:s<M:=by
     have:=(cM.mp hs).1;rw[nh]at this;exact this
    rw[oC M M 0 s P5]at hs;rw[<-bo hs];exact Cw hM s 0 (fm hM)
  have:=Cv _ (List.range M) nd sub;rw[aW,nh,fQ]at this
  lia
theorem TC{i j:Nat}(hi:i<M)(hj:j<M):∃s,s<M/\AO M s i=j:=by
 obtain⟨a,ha,rfl⟩:=Ei hM hi;obtain⟨b,hb,rfl⟩:=Ei hM hj;by_cases h:a<=b
 ·exact⟨b-a,by lia,by rw[<-ng];congr 1;lia⟩
 ·refine⟨b+M-a,by lia,?_⟩
  rw[<-ng,show a+(b+M-a)=M+b by lia,ng,J8 hM]
def lp(mask:Nat):Nat->Nat×Nat->Nat×Nat
 | 0,x=>x
 | n+1,x=>lp mask n (SetTable.leap mask x.1 x.2)
omit hM in
theorem J9(mask:Nat):∀(a b:Nat) (x:Nat×Nat),lp mask (a+b) x=lp mask b (lp mask a x)
 | 0,b,x=>by rw[gn];rfl
 | a+1,b,x=>by rw[Nat.succ_add];exact J9 mask a b _
omit hM in
theorem Ka(mask:Nat):∀(n:Nat) (x:Nat×Nat),(lp mask n x).2=x.2/32^n
 | 0,x=>by show x.2=_;rw[Nat.pow_zero,Nat.div_one]
 | n+1,x=>by
  show(lp mask n (SetTable.leap mask x.1 x.2)).2=_;rw[Ka mask n];show x.2/32/32^n=_;rw[Nat.div_div_eq_div_mul,Nat.pow_succ,Nat.mul_comm]
theorem Ej:∀(n i:Nat),lp (M-1) n (i,0)=(AO M n i,0)
 | 0,i=>rfl
 | n+1,i=>by
  have e:SetTable.leap (M-1) i 0=((i*5+1)%M,0):=by
   unfold SetTable.leap;have:=fm hM;rw[show M-1+1=M by lia]
  show lp (M-1) n (SetTable.leap (M-1) i 0)=_;rw[e,Ej n];rfl
theorem Qm:∀(n:Nat) (x:Nat×Nat),x.1<M->(lp (M-1) n x).1<M
 | 0,x,h=>h
 | n+1,x,_=>by
  refine Qm n _ ?_;have:=fm hM;show(x.1*5+1+x.2/32)%(M-1+1)<M;rw[show M-1+1=M by lia]
  exact kh _ this
theorem Qn{i p j:Nat}(hi:i<M)(hp:p<2^64)(hj:j<M):∃n,n<=M+12/\(lp (M-1) n (i,p)).1=j:=by
 have h13:(lp (M-1) 13 (i,p)).2=0:=by
  rw[Ka];exact Nat.div_eq_of_lt (cz hp (by decide))
 have hl:=Qm hM 13 (i,p) hi;obtain⟨s,hs,e⟩:=TC hM hl hj;refine⟨13+s,by lia,?_⟩
 rw[J9,show lp (M-1) 13 (i,p)=((lp (M-1) 13 (i,p)).1,0)from lX rfl h13,Ej hM,e]
end
theorem Ek(h:Int):SetTable.bits h<2^64:=by
 unfold SetTable.bits;have:=lN h (b:=2^64) (by decide)
 have:=j8 h (b:=2^64) (by decide)
 lia
end PySem
namespace PySem
open SetTable
theorem vk{mask:Nat}{owner:Array (Option Nat)}:∀(gu i p:Nat),(∃n,n<gu/\owner.getD (lp mask n (i,p)).1 (some 0)=none)->∃j,layClean.free mask owner gu i p=some j/\owner.getD j (some 0)=none
 | 0,_,_,⟨_,h,_⟩=>absurd h (nW _)
 | gu+1,i,p,⟨n,hn,e⟩=>by
  unfold layClean.free;cases hf:(List.range (runEnd mask i+1-i)).find? (λk=>(owner.getD (i+k) (some 0)).isNone)with
  | some k =>
   have:=List.find?_some hf;exact⟨i+k,rfl,by simpa using this⟩
  | none =>
   cases n with
   | zero =>
    have h0:=List.find?_eq_none.mp hf 0 (du.mpr (by unfold runEnd;split<;>lia))
    rw[Nat.add_zero,show owner.getD i (some 0)=none from e]at h0
    exact absurd rfl h0
   | succ n=>exact vk gu _ _ ⟨n,by lia,e⟩
structure Kb (M:Nat) (owner:Array (Option Nat)) (k:Nat):Prop where
 size:owner.size=M
 cnt:owner.toList.countP Option.isSome=k
 lt:∀v,some v∈owner.toList->v<k
theorem Kc{M:Nat}(hM:M∈gN){owner:Array (Option Nat)}{k:Nat}(I:Kb M owner k)(hk:k<M)(h:Int):∃j,layClean.free (M-1) owner (turns (M-1)) (bits h%(M-1+1)) (bits h)=some j/\Kb M (owner.setIfInBounds j (some k)) (k+1):=by
 have hp:=fm hM;obtain⟨x,hx,hn⟩:∃x∈owner.toList,¬x.isSome=true:=by
  refine vM λz=>?_
  have:owner.toList.countP Option.isSome=owner.toList.length:=List.countP_eq_length.mpr λa ha=>vM λy=>z ⟨a,ha,y⟩
  rw[I.cnt,fB,I.size]at this
  lia
 obtain⟨j0,Zs⟩:=lM hx;have hxn:x=none:=by cases x with | none=>rfl | some v=>exact absurd rfl hn
 subst hxn;have dW:j0<M:=by
  have:=(cM.mp Zs).1;rw[fB,I.size]at this;exact this
 obtain⟨n,hn1,Y1⟩:=Qn hM (i:=bits h%(M-1+1)) (p:=bits h) (by rw[show M-1+1=M by lia];exact kh _ hp) (Ek h) dW
 have hg:∀j,owner.getD j (some 0)=none->owner.toList[j]?=some none:=λj e=>by
  rw[vK]at e;rw[gG];cases z:owner[j]? with
  | none=>rw[z]at e;cases e
  | some v=>rw[z]at e;rw[show v=none from e]
 obtain⟨j,e1,e2⟩:=vk (mask:=M-1) (owner:=owner) (turns (M-1)) (bits h%(M-1+1)) (bits h) ⟨n,by unfold turns;lia,by rw[Y1,vK,<-gG,Zs];rfl⟩
 refine⟨j,e1,?_⟩;have hj:=hg j e2;have UQ:=(cM.mp hj).1;have hjv:owner.toList[j]=none:=(cM.mp hj).2;refine⟨by rw[Array.size_setIfInBounds];exact I.size,?_,λv hv=>?_⟩
 ·rw[Ho,List.countP_set UQ,I.cnt,hjv];rfl
 ·rw[Ho]at hv;rcases List.mem_or_eq_of_mem_set hv with z | z
  ·have:=I.lt v z;lia
  ·cases z;lia
theorem zM{M:Nat}(hM:M∈gN):∀(hs:List Int) (owner:Array (Option Nat)) (k:Nat),Kb M owner k->k+hs.length<M ->
  ∃Ke,hs.foldl (λacc h=>do let (owner,k) <-acc;let j <-layClean.free (M-1) owner (turns (M-1)) (bits h%(M-1+1)) (bits h);pure (owner.setIfInBounds j (some k),k+1)) (some (owner,k))=some (Ke,k+hs.length)/\Kb M Ke (k+hs.length)
 | [],owner,k,I,_=>⟨owner,rfl,I⟩
 | h::hs,owner,k,I,hl=>by
  rw[aW]at hl;obtain⟨j,e,I'⟩:=Kc hM I (by lia) h
  obtain⟨o',e2,I2⟩:=zM hM hs _ _ I' (by lia)
  refine⟨o',?_,by rw[aW,show k+(hs.length+1)=k+1+hs.length by lia];exact I2⟩
  rw[List.foldl_cons,aW,show k+(hs.length+1)=k+1+hs.length by lia,<-e2]
  congr 1
  show(layClean.free (M-1) owner (turns (M-1)) (bits h%(M-1+1)) (bits h)).bind _=_;rw[e];rfl
theorem Oa{M:Nat}(hM:M∈gN)(f m:Nat)(led pl:Bool){hs:Array Int}(hn:hs.size<M):∃place order,laid (M-1) f m led pl hs=some ({mask:=M-1,place:=place,dummies:=#[],finger:=f,led:=led,moves:=m,plain:=pl},order)/\place.size=hs.size/\order.size=hs.size/\∀k∈order.toList,k<hs.size:=by
 have hp:=fm hM;have I0:Kb M (Array.replicate (M-1+1) none) 0:=by
  refine⟨by rw[Array.size_replicate];lia,?_,λv hv=>?_⟩
  ·rw[Array.toList_replicate,List.countP_replicate];rfl
  ·rw[Array.toList_replicate]at hv;have:=(List.mem_replicate.mp hv).2;cases this
 obtain⟨owner,e,I⟩:=zM hM hs.toList _ 0 I0 (by rw[fB];lia)
 rw[gn,fB]at e I;have hl:layClean (M-1) hs=some owner:=by
  unfold layClean;rw[<-Array.foldl_toList,e];rfl
 have cD:((List.range (M-1+1)).filterMap λj=>(owner.getD j none).map (j,·)).length=hs.size:=by
  rw[Hj,<-I.cnt];have e1:owner.toList=(List.range (M-1+1)).map λj=>owner.getD j none:=by
   refine List.ext_getElem? λj=>?_
   rw[cf,gG];by_cases z:j<M
   ·rw[nQ (by lia)]
    show owner[j]?=some (owner.getD j none);rw[vK,qy (by rw[I.size];exact z)]
    rfl
   ·rw[A5 (by rw[I.size];lia),jm (by rw[fQ];lia)]
    rfl
  rw[e1,List.countP_map];refine List.countP_congr λj _=>?_
  simp
 refine⟨_,_,by unfold laid;rw[hl];rfl,?_,?_,λk hk=>?_⟩
 ·rw[bz,aH];exact cD
 ·rw[bz,aH];exact cD
 ·obtain⟨⟨j,v⟩,hm,rfl⟩:=bt.mp hk;obtain⟨j',_,e2⟩:=lO.mp hm;cases z:owner.getD j' none with
  | none=>rw[z]at e2;cases e2
  | some v' =>
   rw[z]at e2;cases e2;refine I.lt v ?_;rw[vK]at z;cases y:owner[j]? with
   | none=>rw[y]at z;cases z
   | some u =>
    rw[y]at z;rw[show u=some v from z]at y
    exact cP (by rw[gG];exact y)
theorem xm(j:Nat):has #[] j=false:=by
 unfold has;simp
theorem Cy{t:SetTable}(hd:t.dummies=#[]){j:Nat}(h:j∉t.place.toList):t.slot j=.empty:=by
 unfold slot;have:(t.place[below t.place j]?==some j)=false:=by
  rw[iH];intro e;exact h (cP (by rw[gG];exact e))
 simp only[this,hd,xm];rfl
theorem Gg{t:SetTable}{j i:Nat}(h:t.slot j=.live i):t.place[i]?=some j:=by
 unfold slot at h;simp only at h;split at h
 ·rename_i e;cases h;exact bD e
 ·split at h<;>cases h
theorem Cz{t:SetTable}(hd:t.dummies=#[]){j:Nat}:t.slot j≠.dummy:=by
 unfold slot;simp only[hd,xm];split
 ·intro z;cases z
 ·intro z;cases z
def me(t:SetTable):Nat->Probe->Probe
 | 0,p=>p
 | m+1,p=>me t m (t.advance p)
theorem qo(t:SetTable):∀(a b:Nat) (p:Probe),me t (a+b) p=me t b (me t a p)
 | 0,b,p=>by rw[gn];rfl
 | a+1,b,p=>by rw[Nat.succ_add];exact qo t a b _
def oE(t:SetTable)(x:Nat×Nat):Probe:={j:=x.1,more:=runEnd t.mask x.1-x.1,i:=x.1,perturb:=x.2,dummy:=none}
theorem El(t:SetTable):∀(c j i p:Nat),me t (c+1) {j:=j,more:=c,i:=i,perturb:=p,dummy:=none}=oE t (leap t.mask i p)
 | 0,j,i,p=>rfl
 | c+1,j,i,p=>by
  show me t (c+1) (t.advance {j:=j,more:=c+1,i:=i,perturb:=p,dummy:=none})=_
  exact El t c (j+1) i p
theorem Kf(t:SetTable):∀(n:Nat) (x:Nat×Nat),∃m,m<=10*n/\me t m (oE t x)=oE t (lp t.mask n x)
 | 0,x=>⟨0,aR _,rfl⟩
 | n+1,x=>by
  obtain⟨m,h1,h2⟩:=Kf t n (leap t.mask x.1 x.2);refine⟨runEnd t.mask x.1-x.1+1+m,by have:runEnd t.mask x.1-x.1<=9:=(by unfold runEnd;split<;>lia);lia,?_⟩
  rw[qo,show me t (runEnd t.mask x.1-x.1+1) (oE t x)=oE t (leap t.mask x.1 x.2)from El t _ _ _ _,h2]
  rfl
theorem zN{t:SetTable}(hM:t.mask+1∈gN)(hd:t.dummies=#[])(hz:t.place.size<=t.mask)(h:Int):∃m,m<10*turns t.mask/\t.slot (me t m (t.probeStart h)).j=.empty:=by
 obtain⟨j,hj,hn⟩:∃j,j<t.mask+1/\j∉t.place.toList:=by
  refine vM λz=>?_
  have:=Cv (List.range (t.mask+1)) t.place.toList qE λx hx=>vM λy=>z ⟨x,du.mp hx,y⟩
  rw[fQ,fB]at this
  lia
 obtain⟨n,h1,h2⟩:=Qn hM (i:=bits h%(t.mask+1)) (p:=bits h) (kh _ (Nat.succ_pos _)) (Ek h) hj;obtain⟨m,h3,h4⟩:=Kf t n (bits h%(t.mask+1),bits h);refine⟨m,by unfold turns;lia,?_⟩
 rw[show t.probeStart h=oE t (bits h%(t.mask+1),bits h)from rfl,h4]
 show t.slot (lp t.mask n (bits h%(t.mask+1),bits h)).1=_;rw[show t.mask+1-1=t.mask by lia]at h2
 rw[h2];exact Cy hd hn
theorem sv{t:SetTable}{hashAt:Nat->Int}{h:Int}(hd:t.dummies=#[]):∀(m gu:Nat) (p:Probe),m<gu->p.dummy=none->t.slot (me t m p).j=.empty ->
  (∃j,probe.go t hashAt h gu p=some (.empty j none))\/∃b i,b<m/\probe.go t hashAt h gu p=some (.candidate (me t b p).j i (me t (b+1) p))/\t.slot (me t b p).j=.live i
 | m,0,_,h,_,_=>absurd h (nW _)
 | m,gu+1,p,hf,hp,he=>by
  unfold probe.go;cases hs:t.slot p.j with
  | empty=>exact .inl ⟨p.j,by rw[hp]⟩
  | dummy=>exact absurd hs (Cz hd)
  | live i =>
   cases m with
   | zero=>rw[show me t 0 p=p from rfl,hs]at he;cases he
   | succ m =>
    by_cases hh:(hashAt i==h)=true
    ·exact .inr ⟨0,i,Nat.succ_pos _,by simp only[hh,eQ];rfl,hs⟩
    ·have t7:(t.advance p).dummy=none:=by
      unfold advance;split
      ·exact hp
      ·exact hp
     rcases sv hd m gu (t.advance p) (by lia) t7 he with⟨j,e⟩ | ⟨b,i',h1,h2,h3⟩
     ·exact .inl ⟨j,by simp only[hh,if_neg];exact e⟩
     ·exact .inr ⟨b+1,i',by lia,by simp only[hh,if_neg];exact h2,h3⟩
section
variable {prog:bh} {w:aM} {A:bA} {E:cm} {s:au} {K:Type} [DecidableEq K] {knd:KeyKind prog w K} {ks:List K} {a x:ab}
theorem Gh(n:Nat){v:ag}(h:carriedByValue v=true):ofAClassStatement n v=pure false:=by
 cases v<;>first | cases h;done | (cases n<;>rfl)
theorem Gi(n:Nat){v:ag}(h:carriedByValue v=true):∃b,hashByValue n v=pure b:=by
 cases v<;>first | cases h;done | (cases n<;>exact⟨_,rfl⟩)
theorem vm{Q:Bool->au->Prop}(hk:IsTupleKey knd s.heap ks a)(h:Q false s):wpAny (model prog w) A (ofAClassStatement 8 (.ref a)) Q E s:=by
 have hT:=hk.typeIs;obtain⟨o,items,n,ho,_,hd,hi⟩:=hk;unfold ofAClassStatement;refine ai (qJ hT ?_);dsimp only
 refine ai (ax ?_);simp only[qI,d8,dw];refine ai (v5 ho hd ?_);dsimp only
 refine ai ?_;rw[<-Array.forIn_toList];refine Bk _ (λrest r s'=>r.1=none/\s'=s/\∀v∈rest,carriedByValue v=true) _ ?_ ?_ _ _ ⟨rfl,rfl,hi.byValue⟩
 ·rintro v rest r s' ⟨hr,rfl,hall⟩
  rw[Gh _ (hall v bE)];refine ai (ax ?_);simp only[d8,dw];exact ax ⟨rfl,rfl,λu Xq=>hall u (bx _ Xq)⟩
 ·rintro⟨r1,r2⟩ s' ⟨hr,rfl,_⟩
  simp only at hr;subst hr;exact ax h
theorem Gj{Q:Bool->au->Prop}(hk:IsTupleKey knd s.heap ks a)(h:∀b,Q b s):wpAny (model prog w) A (hashByValue 8 (.ref a)) Q E s:=by
 have hT:=hk.typeIs;obtain⟨o,items,n,ho,_,hd,hi⟩:=hk;unfold hashByValue;refine ai (wpAny_specialOf hT F.slot_tuple_hash.lookup ?_);refine ai (v5 ho hd ?_);refine ai ?_;show wpAny _ _ (forIn items _ _) _ _ s;rw[<-Array.forIn_toList];refine Bk _ (λrest r s'=>s'=s/\∀v∈rest,carriedByValue v=true) _ ?_ ?_ _ _ ⟨rfl,hi.byValue⟩
 ·rintro v rest r s' ⟨rfl,hall⟩
  obtain⟨b,e⟩:=Gi 7 (hall v bE);rw[e];refine ai (ax ?_);cases b with
  | true =>
   simp only[qI,d8,dw];exact ax ⟨rfl,λu Xq=>hall u (bx _ Xq)⟩
  | false =>
   simp only[Bool.not_false,eQ];exact ax (ax (h false))
 ·rintro⟨r1,r2⟩ s' ⟨rfl,_⟩
  cases r1 with
  | none=>exact ax (h true)
  | some b=>exact ax (h b)
theorem CA{Q:Bool->au->Prop}(hx:IsTupleKey knd s.heap ks x){ys:bW}(hy:∀y∈ys,∃k b,y=.ref b/\IsTupleKey knd s.heap k b)(h:Q false s):wpAny (model prog w) A (searchCouldBeSeen (.ref x) ys) Q E s:=by
 unfold searchCouldBeSeen;refine ai ?_;refine Bk _ (λrest r s'=>r.1=none/\s'=s/\∀y∈rest,∃k b,y=.ref b/\IsTupleKey knd s.heap k b) _ ?_ ?_ _ _ ⟨rfl,rfl,hy⟩
 ·rintro v rest r s' ⟨hr,rfl,hall⟩
  obtain⟨k',b,rfl,hb⟩:=hall v bE;have go:∀y∈rest,∃k b,y=Value.ref b/\IsTupleKey knd s'.heap k b:=λu Xq=>hall u (bx _ Xq)
  dsimp only
  by_cases hc:((x==b) || (carriedByValue (.ref x)&&carriedByValue (.ref b)))=true
  ·rw[if_pos hc];exact ax ⟨rfl,rfl,go⟩
  ·rw[if_neg hc];refine ai (wpAny_eqIsQuiet_tuple hx ?_);simp only[qI,d8,dw];refine ai (wpAny_eqIsQuiet_tuple hb ?_);simp only[qI,d8,dw];refine ai (vm hx ?_);simp only[d8,dw];refine ai (vm hb ?_);simp only[d8,dw];exact ax ⟨rfl,rfl,go⟩
 ·rintro⟨r1,r2⟩ s' ⟨hr,rfl,_⟩
  simp only at hr;subst hr;exact ax h
end
theorem TF{t:SetTable}{f:Nat->Int}{h:Int}{p:Probe}{m:Nat}{Hs:Met}(hP:t.probe f h p=some Hs)(hd:t.dummies=#[])(hm:m<10*turns t.mask)(hp:p.dummy=none)(he:t.slot (me t m p).j=.empty) :
  (∃j,Hs=.empty j none)\/∃b i,b<m/\Hs=.candidate (me t b p).j i (me t (b+1) p)/\t.slot (me t b p).j=.live i:=by
 have hP:probe.go t f h (10*turns t.mask) p=some Hs:=hP;rcases sv (hashAt:=f) (h:=h) hd m _ p hm hp he with⟨j,e⟩ | ⟨b,i,h1,h2,h3⟩
 ·rw[hP]at e;exact .inl ⟨j,bo e⟩
 ·rw[hP]at h2;exact .inr ⟨b,i,h1,bo h2,h3⟩
theorem Oc{t:SetTable}{f:Nat->Int}{h:Int}{p:Probe}{m:Nat}(hP:∀Hs,t.probe f h p=some Hs->False)(hd:t.dummies=#[])(hm:m<10*turns t.mask)(hp:p.dummy=none)(he:t.slot (me t m p).j=.empty):False:=by
 rcases sv (hashAt:=f) (h:=h) hd m _ p hm hp he with⟨j,e⟩ | ⟨b,i,h1,h2,h3⟩
 ·exact hP _ e
 ·exact hP _ h2
section
variable {prog:bh} {w:aM} {K:Type} [DecidableEq K]
structure mf (knd:KeyKind prog w K) (h:Heap) (ks:List (List K)) (es:Array (Int×ag)) (t:SetTable):Prop where
 mask:t.mask+1∈gN
 US:t.dummies=#[]
 size:t.place.size=es.size
 room:es.size*5<t.mask*3
 len:es.size=ks.length
 elems:∀e∈es.toList,∃k∈ks,∃b,e.2=.ref b/\IsTupleKey knd h k b
variable {A:bA} {E:cm} {s:au} {knd:KeyKind prog w K} {ks:List (List K)} {k:List K} {a x:ab} {es:Array (Int×ag)} {ep:Nat} {t:SetTable}
theorem mf.fill{h:Heap}(S:mf knd h ks es t):t.fill=es.size:=by
 unfold SetTable.fill;rw[S.US,S.size];rfl
theorem mf.fits{h:Heap}(S:mf knd h ks es t):t.fits es.size=true:=by
 have:=S.room;unfold SetTable.fits;rw[S.fill,S.size];simp only[qG,Bool.true_and,jq]
 lia
theorem mf.way{h:Heap}(S:mf knd h ks es t):t.gaveWay=false:=by
 have:=S.mask;unfold SetTable.gaveWay;simp only[gN,aZ,dX,dZ]at this;rw[iH]
 lia
theorem vn(t:SetTable):∀(m:Nat) (p:Probe),p.dummy=none->(me t m p).dummy=none
 | 0,p,h=>h
 | m+1,p,h=>vn t m _ (by
  unfold advance;split
  ·exact h
  ·exact h)
theorem pw{h:Int}{Q:SetFound->au->Prop}(hS:s.heap.get? a=some (cJ es ep t))(S:mf knd s.heap ks es t)(hx:IsTupleKey knd s.heap k x)(hk:k∉ks)(hu:A.units<cLine)(hQ:∀j,Q (.free j false) s){m:Nat}(hm:m<10*turns t.mask)(he:t.slot (me t m (t.probeStart h)).j=.empty) :
  ∀(gu c:Nat) (Kg:Option Probe),c<=m->m-c<gu->Kg.getD (t.probeStart h)=me t c (t.probeStart h)->wpAny (model prog w) A (setSearchFrom a (.ref x) h true gu Kg) Q E s
 | 0,c,_,_,hf,_=>absurd hf (nW _)
 | gu+1,c,Kg,hc,hf,wq=>by
  unfold setSearchFrom;refine ai (gj hS rfl S.fits ?_);dsimp only
  rw[S.way,wq];simp only[d8,dw];have Zk:t.slot (me t (m-c) (me t c (t.probeStart h))).j=.empty:=by
   rw[<-qo,show c+(m-c)=m by lia]
   exact he
  have hpd:(me t c (t.probeStart h)).dummy=none:=vn t c _ rfl;split
  ·rename_i Hs hP;rcases TF hP S.US (m:=m-c) (by lia) hpd Zk with⟨j,rfl⟩ | ⟨b,i,hb,rfl,hl⟩
   ·exact ax (hQ j)
   ·have jt:=Gg hl;have hi:i<es.size:=by
     rw[<-S.size];exact(Array.getElem?_eq_some_iff.mp jt).1
    obtain⟨e0,he0⟩:∃e0,es[i]?=some e0:=⟨_,qy hi⟩
    obtain⟨k',SH,y,hy,hyk⟩:=S.elems e0 (cP (by rw[gG];exact he0))
    obtain⟨h0,v0⟩:=e0;simp only at hy;subst hy;have rest:wpAny (model prog w) A (do
      let some (_,y):=es[i]? | unsupported "internal:set-entry"
      let Qo <-holding [y] (eqBool y (.ref x))
      let (AL,_,t') <-setState a
      if true&&Qo then return SetFound.there none
      let some same:=t'.sameMemory t.moves t.mask | unsupported "set.changed-during-lookup:is-the-new-block-at-the-old-address"
      let Xr <-match(if same then t'.slot (me t b (me t c (t.probeStart h))).j else .empty)with
       | .live i'=>match AL[i']? with
        | some (_,y')=>do pure (if <-isSame y' y then some i' else none)
        | none=>pure none
       | _=>pure none
      match Xr with
      | none=>rule "set.search.anew";setSearchFrom a (.ref x) h true gu none
      | some i'=>if Qo then return .there (some i')else setSearchFrom a (.ref x) h true gu (some (me t (b+1) (me t c (t.probeStart h))))) Q E s:=by
     rw[he0];dsimp only
     refine ai (gm (wpAny_eqBool_tuple hu hyk hx ?_));rw[dY (show ¬k'=k from λz=>hk (by rw[<-z];exact SH))]
     refine ai (gj hS rfl S.fits ?_);dsimp only
     simp only[vZ,d8,dw];have SM:t.sameMemory t.moves t.mask=some true:=by
      unfold sameMemory;simp
     rw[SM];dsimp only
     simp only[eQ];rw[hl];dsimp only
     rw[he0];dsimp only
     refine ai (wpAny_isSame_ref_self ?_);simp only[eQ];refine ai (ax ?_);dsimp only
     refine pw hS S hx hk hu hQ hm he gu (c+(b+1)) _ (by lia) (by lia) ?_
     show me t (b+1) (me t c (t.probeStart h))=_;rw[<-qo]
    cases Co:t.led with
    | true =>
     simp only[Co,qI,d8,dw];exact rest
    | false =>
     simp only[Co,Bool.not_false,eQ];refine ai (CA hx (λv hv=>?_) ?_)
     ·obtain⟨e1,he1,rfl⟩:=bt.mp hv;have hm1:e1∈es.toList:=by
       have:=A7.mp he1;exact A7.mpr (Array.mem_filter.mp this).1
      obtain⟨k2,_,b2,q1,q2⟩:=S.elems e1 hm1;exact⟨k2,b2,q1,q2⟩
     ·simp only[d8,dw];exact rest
  ·rename_i hP;exact(Oc hP S.US (m:=m-c) (by lia) hpd Zk).elim
end
theorem sx{xs:Array Nat}{j:Nat}:∀(gu lo hi:Nat),lo<=hi->below.go xs j gu lo hi<=hi
 | 0,lo,hi,h=>h
 | gu+1,lo,hi,h=>by
  unfold below.go;split
  ·dsimp only
   split
   ·exact sx gu _ _ (by lia)
   ·exact b0 (sx gu _ _ (by lia)) (by lia)
  ·exact h
theorem zO(xs:Array Nat)(j:Nat):below xs j<=xs.size:=sx _ _ _ (dP _)
theorem lF{α:Type}{xs:Array α}{p:Nat}{x:α}:(insertAt xs p x).toList=xs.toList.take p++x::(xs.toList.drop p).take (xs.size-p):=by
 unfold insertAt;simp[Array.toList_append,Array.toList_extract,List.extract]
theorem lG{α:Type}{xs:Array α}{p:Nat}{x:α}(h:p<=xs.size):(insertAt xs p x).size=xs.size+1:=by
 rw[<-fB,lF];simp only[bY,aW,iL,qF,fB]
 lia
theorem ni{α:Type}{xs:Array α}{p:Nat}{x y:α}(h:y∈(insertAt xs p x).toList):y∈xs.toList\/y=x:=by
 rw[lF]at h;rcases dD.mp h with z | z
 ·exact .inl (A8 z)
 ·rcases aZ.mp z with z | z
  ·exact .inr z
  ·exact .inl (List.mem_of_mem_drop (A8 z))
section
variable {prog:bh} {w:aM} {K:Type} [DecidableEq K] {A:bA} {E:cm} {s:au} {knd:KeyKind prog w K} {ks:List (List K)} {k:List K} {a x:ab} {es:Array (Int×ag)} {ep:Nat} {t:SetTable}
theorem Em{h h':Heap}{b:ab}(x:IsTupleKey knd h k b)(ho:h.get? a=some (cJ es ep t))(hs:Heap.SameBut a h h'):IsTupleKey knd h' k b:=by
 obtain⟨o,items,n,e,c,d,i⟩:=x;have hb:b≠a:=λz=>by
  subst z;rw[ho]at e;cases e;cases d
 exact⟨o,items,n,(hs.2 b hb).trans e,c,d,i⟩
theorem Od{mask n:Nat}(hM:mask+1∈gN)(h1:n*5>=mask*3)(h2:(n-1)*5<mask*3)(hn:0<n)(hb:n<1200):sizeAbove (grown n)∈gN/\n<sizeAbove (grown n)/\n*5<(sizeAbove (grown n)-1)*3/\sizeAbove (grown n)<=2048:=by
 simp only[gN,aZ,dX,dZ]at hM;rcases hM with e | e | e | e | e
 ·obtain rfl:n=5:=by lia
  decide +kernel
 ·obtain rfl:n=19:=by lia
  decide +kernel
 ·obtain rfl:n=77:=by lia
  decide +kernel
 ·obtain rfl:n=307:=by lia
  decide +kernel
 ·lia
theorem TJ{h:Int}{Q:Bool->au->Prop}(hS:s.heap.get? a=some (cJ es ep t))(S:mf knd s.heap ks es t)(hx:IsTupleKey knd s.heap k x)(hk:k∉ks)(hu:A.units<cLine)(hb:es.size+1<1200)
  (hQ:∀h' AL Vi t',Heap.SameBut a s.heap h'->h'.get? a=some (cJ AL Vi t')->mf knd h' (ks++[k]) AL t'->(∀e∈AL.toList,e∈es.toList\/e.2=.ref x)->Q true {s with heap:=h'}):wpAny (model prog w) A (setAddHashed a (.ref x) h) Q E s:=by
 have Xs:=S.room;have hmk:t.mask<=2047:=by
  have:=S.mask;simp only[gN,aZ,dX,dZ]at this
  lia
 unfold setAddHashed setAddHashedIn;refine gm (ai (gj hS rfl S.fits ?_));dsimp only
 rw[show byScan (.ref x) es=false from rfl]
 simp only[d8,dw];obtain⟨m,hm,he⟩:=zN S.mask S.US (by rw[S.size];lia) h
 refine ai (pw hS S hx hk hu (λj=>?_) hm he 100000 0 none (dP _) (by unfold turns at hm;lia) rfl)
 dsimp only
 refine ai (gj hS rfl S.fits ?_);dsimp only
 have acx:t.put j=({t with place:=insertAt t.place (below t.place j) j,dummies:=#[]},below t.place j):=by
  unfold put;rw[S.US,xm];rfl
 rw[acx];dsimp only
 have zg:below t.place j<=es.size:=by rw[<-S.size];exact zO _ _
 have xo:(insertAt es (below t.place j) (h,Value.ref x)).size=es.size+1:=lG zg;have TK:(insertAt t.place (below t.place j) j).size=es.size+1:=by rw[lG (zO _ _),S.size]
 have fin:∀pl:Bool,wpAny (model prog w) A (do
   storeSet a (insertAt es (below t.place j) (h,Value.ref x)) {t with place:=insertAt t.place (below t.place j) j,dummies:=#[],plain:=pl}
   if !false&&({t with place:=insertAt t.place (below t.place j) j,dummies:=#[],plain:=pl}:SetTable).tooFull then setRelay a (SetTable.grown (es.size+1))
   return true) Q E s:=λpl=>by
  refine ai (Bf hS rfl ?_ (by rw[xo];exact b0 (iP hb) (by decide)))
  have Qp:({t with place:=insertAt t.place (below t.place j) j,dummies:=#[],plain:=pl}:SetTable).fill=es.size+1:=by
   show(insertAt t.place (below t.place j) j).size+0=_;rw[TK]
  have Zt:=wZ hS (insertAt es (below t.place j) (h,Value.ref x)) {t with place:=insertAt t.place (below t.place j) j,dummies:=#[],plain:=pl}
  have UO:Heap.SameBut a s.heap (s.heap.update a (Obj.putSet (insertAt es (below t.place j) (h,Value.ref x)) {t with place:=insertAt t.place (below t.place j) j,dummies:=#[],plain:=pl})):=jn ..
  have AN:∀(h':Heap),Heap.SameBut a s.heap h'->∀e∈(insertAt es (below t.place j) (h,Value.ref x)).toList,∃k'∈ks++[k],∃b,e.2=.ref b/\IsTupleKey knd h' k' b:=λh' sb e he=>by
   rcases ni he with z | z
   ·obtain⟨k',h1,b,h2,h3⟩:=S.elems e z;exact⟨k',gH _ h1,b,h2,Em h3 hS sb⟩
   ·subst z;exact⟨k,d7 _ (dt.mpr rfl),x,rfl,Em hx hS sb⟩
  have DY:∀e∈(insertAt es (below t.place j) (h,Value.ref x)).toList,e∈es.toList\/e.2=.ref x:=λe he=>(ni he).imp id λz=>by rw[z]
  have cD:es.size+1=(ks++[k]).length:=by rw[bY,S.len];rfl
  unfold tooFull;rw[Qp];dsimp only
  by_cases hf:(es.size+1)*5>=t.mask*3
  ·simp only[hf,decide_true,Bool.not_false,Bool.true_and,eQ];obtain⟨g1,g2,g3,g4⟩:=Od S.mask hf (by rw[Nat.add_sub_cancel];exact Xs) (Nat.succ_pos _) hb
   have Xp:({t with place:=insertAt t.place (below t.place j) j,dummies:=#[],plain:=pl}:SetTable).fits (insertAt es (below t.place j) (h,Value.ref x)).size=true:=by
    unfold SetTable.fits;rw[Qp,xo];show((insertAt t.place (below t.place j) j).size==es.size+1&&decide (es.size+1<=t.mask))=true;rw[TK,qG,Bool.true_and,jq]
    lia
   obtain⟨place,order,l1,l2,l3,l4⟩:=Oa g1 t.finger (({t with place:=insertAt t.place (below t.place j) j,dummies:=#[],plain:=pl}:SetTable).movedTo (sizeAbove (grown (es.size+1))-1)) t.led pl (hs:=(insertAt es (below t.place j) (h,Value.ref x)).map (·.1)) (by rw[Array.size_map,xo];exact g2)
   rw[Array.size_map,xo]at l2 l3 l4;have Xu:(order.filterMap ((insertAt es (below t.place j) (h,Value.ref x))[·]?)).size=es.size+1:=by
    rw[<-fB,A3,Hj,<-l3,<-fB,List.countP_eq_length];intro v hv;rw[qy (by rw[xo];exact l4 v hv)]
    rfl
   refine ai ?_;unfold setRelay;refine ai (gj Zt rfl Xp ?_);dsimp only
   rw[if_neg (by have:(2048:Nat)<=sizeLine:=(by decide);lia)]
   have hre:({t with place:=insertAt t.place (below t.place j) j,dummies:=#[],plain:=pl}:SetTable).relaid ((insertAt es (below t.place j) (h,Value.ref x)).map (·.1)) (grown (es.size+1))=_:=l1
   rw[hre];refine ai ?_;show wpAny _ _ (if((order.filterMap ((insertAt es (below t.place j) (h,Value.ref x))[·]?)).size != (insertAt es (below t.place j) (h,Value.ref x)).size)=true then _ else _) _ _ _
   rw[Xu,xo,if_neg (by simp)]
   refine ax ?_;dsimp only
   refine Bf Zt rfl ?_ (by rw[Xu];exact b0 (iP hb) (by decide))
   refine ax (hQ _ _ _ _ (UO.trans (jn ..)) (wZ (s:={s with heap:=_}) Zt _ _) ⟨?_,rfl,?_,?_,?_,λe he=>?_⟩ λe he=>?_)
   ·show sizeAbove (grown (es.size+1))-1+1∈gN;rw[show sizeAbove (grown (es.size+1))-1+1=sizeAbove (grown (es.size+1)) by lia]
    exact g1
   ·rw[Xu];exact l2
   ·rw[Xu];exact g3
   ·rw[Xu];exact cD
   ·rw[A3]at he;obtain⟨v,_,hv⟩:=lO.mp he;exact AN _ (UO.trans (jn ..)) e (cP (by rw[gG];exact hv))
   ·rw[A3]at he;obtain⟨v,_,hv⟩:=lO.mp he;exact DY e (cP (by rw[gG];exact hv))
  ·simp only[hf,decide_false,vZ,d8,dw];exact ax (hQ _ _ _ _ UO Zt ⟨S.mask,rfl,by rw[xo];exact TK,by rw[xo];show(es.size+1)*5<t.mask*3;lia,by rw[xo];exact cD,AN _ UO⟩ DY)
 cases jt:t.plain with
 | true =>
  simp only[eQ];refine ai (Gj hx λb=>?_)
  cases b with
  | true=>simp only[eQ];exact fin true
  | false=>simp only[d8,dw];exact fin false
 | false =>
  simp only[d8,dw];refine ai (ax ?_);simp only[eQ];exact fin false
end
end PySem
namespace PySem
open PyProof.Rows SetTable
section
variable {prog:bh} {w:aM} {K:Type} [DecidableEq K] {knd:KeyKind prog w K}
theorem mf.moved{h h':Heap}{ks:List (List K)}{es:Array (Int×ag)}{t:SetTable}(S:mf knd h ks es t)(hk:∀e∈es.toList,∃b,e.2=.ref b/\∀o,h.get? b=some o->h'.get? b=some o):mf knd h' ks es t :=
 ⟨S.mask,S.US,S.size,S.room,S.len,λe he=>by
  obtain⟨k,h1,b,h2,o,items,n,ho,r⟩:=S.elems e he;obtain⟨b',h3,h4⟩:=hk e he;rw[h2]at h3;cases h3;exact⟨k,h1,b,h2,o,items,n,h4 o ho,r⟩⟩
end
section
variable {prog:bh} {w:aM} {K:Type} [DecidableEq K] {knd:KeyKind prog w K} {A:bA} {R:Result->au->Prop} {I:ab} {fp wr:List ab} {G:Array GenState->Array GenState->Prop} {n:Nat} {P:Nat->ag->Prop} {St:Nat->au->Prop}
theorem Gk(W:WalksS prog w A.in1 I fp wr G n P St)(S:ab)(hSf:S∉fp){ks:List (List K)}(hl:ks.length=n)(Ct:ks.Nodup)(hn:n<1199)(hu:A.in1.units<cLine){s₀:au}
  (Cn:∀i v,P i v->∃b k,v=.ref b/\ks[i]?=some k/\b∉S::wr/\IsTupleKey knd s₀.heap k b) :
  ∀(c i:Nat) (s:au),n-i=c->i<=n->St i s->(∀b o,b∉S::wr->s₀.heap.get? b=some o->s.heap.get? b=some o) ->
   (∃es ep t,s.heap.get? S=some (cJ es ep t)/\mf knd s.heap (ks.take i) es t/\∀e∈es.toList,∃b,e.2=.ref b/\b∉S::wr) ->
   (∀s',Moved (S::wr) G s s'->(∃es ep t,s'.heap.get? S=some (cJ es ep t)/\es.size=n/\t.fits es.size=true)->R (.ok (.ret .none)) s') ->
   codeAny (model prog w) A (.builtin "set.update.loop" ⟨[.ref S,.ref I],[]⟩) R s:=by
 have WM:S∉wr:=λh=>hSf (W.sub _ h)
 have wW:∀b∈wr,b∈S::wr:=λb hb=>bx _ hb
 intro c;induction c with
 | zero =>
  intro i s hk hi wq ho hS hR;have hin:i=n:=by lia
  subst hin;refine lQ vP ?_;rw[qB nN _];show wpAny _ A.in1 (pyNext (.ref I) >>= _) _ _ s;refine ai (W.done s _ _ wq λs' hm=>?_)
  show wpAny _ A.in1 (ret Value.none) _ _ s';exact ax (hR s' (hm.mono wW) (by
   obtain⟨es,ep,t,ho,T,_⟩:=hS;exact⟨es,ep,t,hm.heap S _ WM ho,by rw[T.len,iL];lia,T.fits⟩))
 | succ c ih =>
  intro i s hk hi wq ho hS hR;have dW:i<n:=by lia
  refine lQ vP ?_;rw[qB nN _];show wpAny _ A.in1 (pyNext (.ref I) >>= _) _ _ s;refine ai (W.item i s _ _ dW wq λv s' hP SN hm=>?_)
  obtain⟨b,k,rfl,hki,hbn,Ry⟩:=Cn i v hP;obtain⟨es,ep,tb,hoS,T,hin⟩:=hS;have tY:∀b o,b∉S::wr->s₀.heap.get? b=some o->s'.heap.get? b=some o:=λb o hb e=>hm.heap b o (λz=>hb (bx _ z)) (ho b o hb e)
  have acy:=hm.heap S _ WM hoS;have T':mf knd s'.heap (ks.take i) es tb:=T.moved λe he=>by
   obtain⟨b',h1,h2⟩:=hin e he;exact⟨b',h1,λo e=>hm.heap b' o (λz=>h2 (bx _ z)) e⟩
  have Qq:IsTupleKey knd s'.heap k b:=by
   obtain⟨o,items,n,h1,r⟩:=Ry;exact⟨o,items,n,tY b o hbn h1,r⟩
  have hnk:k∉ks.take i:=λz=>by
   obtain⟨j,hj,e⟩:=List.getElem_of_mem z;rw[iL]at hj;rw[List.getElem_take]at e;have:=cM.mp hki;obtain⟨h1,h2⟩:=this;exact absurd (h2.trans e.symm) (λy=>(List.pairwise_iff_getElem.mp Ct j i (by lia) h1 (by lia)) y.symm)
  show wpAny _ A.in1 (holding [Value.ref b] (setAdd S (.ref b)) >>= _) _ _ s';refine ai (gm ?_);unfold setAdd;refine gm ?_;refine ai (wpAny_pyHash_tuple hu Qq ?_);have hsz:es.size=i:=by rw[T.len,iL];lia
  refine TJ (s:={s' with toks:=s'.toks+(k.length+1)}) acy T' Qq hnk hu (by lia) λh' qi WL t1 hsb hS2 T2 DY=>?_
  have acz:∀b o,b∉S::wr->s₀.heap.get? b=some o->h'.get? b=some o:=λb o hb e=>(hsb.2 b (λh:b=S=>hb (by rw[h];exact bE))).trans (tY b o hb e)
  have T3:mf knd h' (ks.take (i+1)) qi t1:=by
   rw[List.take_add_one,hki];exact T2
  refine ax ⟨plainId_quiet nN _,ih (i+1) _ (by lia) dW (W.frame _ s' _ _ SN (Nat.le_add_right ..) λb hb o e=>?_) acz ⟨qi,WL,t1,hS2,T3,λe he=>?_⟩ λIv SO SQ=>?_⟩
  ·exact(hsb.2 b (λh:b=S=>hSf (by rw[<-h];exact hb))).trans e
  ·rcases DY e he with z | z
   ·exact hin e z
   ·exact⟨b,z,hbn⟩
  ·refine hR Iv (Moved.trans W.gtrans ((hm.mono wW).then_heap (Nat.le_add_right ..) λb o hb e=>?_) SO) SQ
   exact(hsb.2 b (λh:b=S=>hb (by rw[h];exact bE))).trans e
end
section
variable {prog:bh} {w:aM} {A:bA} {E:cm} {s:au} {K:Type} [DecidableEq K] {knd:KeyKind prog w K}
set_option maxHeartbeats 3200000 in
theorem Gn{l:ab}{items:Array ag}{ks:List (List K)}{Q:cm}(hh:A.handled=none)(hl:s.heap.IsList l items)(hi:∀(i:Nat) (v:ag),items[i]?=some v->∃b k,v=.ref b/\ks[i]?=some k/\IsTupleKey knd s.heap k b)(hlk:ks.length=items.size)(Ct:ks.Nodup)(hb:items.size<1199)(hu:A.units+3<cLine)
  (h:∀(h':Heap) (tk:Nat) es ep t,h'.get? s.heap.objs.size=some (cJ es ep t)->es.size=items.size/\t.fits es.size=true->(∀b o,b<s.heap.objs.size->s.heap.get? b=some o->h'.get? b=some o)->Q (.ref s.heap.objs.size) {s with heap:=h',toks:=tk}) :
  wpAny (model prog w) A (call (.type "set") [.ref l]) Q E s:=by
 obtain⟨c,tl,abU⟩:=F.called_set.mro;have WO:=F.called_set.made;have wW:=F.called_set.sub;refine n8 (Bp ?_);show wpAny _ _ (callAny (.type "set") _) _ _ _;refine ax ⟨Code.quiet_builtin _ (by decide +kernel),lQ F.entry_type_call ?_⟩
 rw[Around.under_plain (weight_type_call_type "set" [.ref l] []) rfl];have h1:=F.called_set.notType;have h2:=F.called_set.canCreate;have hct:=F.typeCall_set_1 (.ref l)
 repeat (any_goals (first | assumption | wp_step))
 refine iO (lD (.ref l) (E:=E) (Q₁:=λobj s₁=>obj=.ref s.heap.objs.size/\s₁={s with heap:=s.heap.push {cls:=.type "set",dict:=none,data:=.set #[] 0 (.fresh 0 0 (!BT w))}}) ⟨rfl,rfl⟩) λr s₁ hr=>?_
 cases r with
 | error e=>exact hr
 | ok fl =>
  cases fl with
  | ret obj =>
   obtain⟨rfl,rfl⟩:=hr;obtain⟨led,Co⟩:∃led,led = !BT w:=⟨_,rfl⟩
   rw[<-Co];have hS:(s.heap.push {cls:=.type "set",dict:=none,data:=.set #[] 0 (.fresh 0 0 led)}).get? s.heap.objs.size=some {cls:=.type "set",dict:=none,data:=.set #[] 0 (.fresh 0 0 led)}:=cW _ rfl
   have hT:Shared.TypeIs {s with heap:=s.heap.push {cls:=.type "set",dict:=none,data:=.set #[] 0 (.fresh 0 0 led)}} (.ref s.heap.objs.size) "set":=⟨_,hS,rfl⟩
   have hli:=F.called_set.init.lookup;have hbi:=F.called_set.init.bind (.ref s.heap.objs.size)
   repeat (any_goals (first | assumption | wp_step))
   refine iO (codeAny_call_builtin (R:=wants (λr wu=>r=.none/\∃h' tk,wu={s with heap:=h',toks:=tk} /\
     (∃es ep t,h'.get? s.heap.objs.size=some (cJ es ep t)/\es.size=items.size/\t.fits es.size=true) /\
     (∀b o,b<s.heap.objs.size->s.heap.get? b=some o->h'.get? b=some o)) E) F.called_set.init.plain F.entry_set_init (check_set_init_1 hT ?_)) λSR wu rZ=>?_
   ·obtain⟨ol,DY,hcl,nl,zm⟩:=hl;obtain⟨abV,JB,WQ,Cp⟩:=ol;simp only at hcl zm;subst hcl;subst zm;have SS:(s.heap.push {cls:=.type "set",dict:=none,data:=.set #[] 0 (.fresh 0 0 led)}).get? l=some {cls:=.type "list",dict:=JB,data:=.seq items nl,slots:=Cp}:=bR _ DY
    have abW:=F.sub_list_set;have abX:=F.sub_list_frozenset;have hne:(Value.type "list"==Value.type "dict")=false:=by decide
    have P8:(s.heap.push {cls:=.type "set",dict:=none,data:=.set #[] 0 (.fresh 0 0 led)}).IsList l items:=⟨_,SS,rfl,nl,rfl⟩
    unfold Builtin.«set.__init__» noKeywords Builtin.Frozenset.updateFrom
    generalize hPI:pyIter=PI
    wp_walk
    subst hPI;refine vT P8 ?_;refine ai (wpAny_runValue ?_);have WR:l<s.heap.objs.size:=bK DY;have hh3:A.in1.in1.in1.handled=none:=by simp[hh]
    have SU:l≠(s.heap.push {cls:=.type "set",dict:=none,data:=.set #[] 0 (.fresh 0 0 led)}).objs.size:=by
     rw[gX];exact b9 (nU WR)
    have hSf:s.heap.objs.size∉[(s.heap.push {cls:=.type "set",dict:=none,data:=.set #[] 0 (.fresh 0 0 led)}).objs.size,l]:=by
     rw[gX];simp only[aZ,dt,dX,dZ,not_or];exact⟨b9 (nV _),n5 WR⟩
    have Cn:∀(i:Nat) (v:ag),items[i]?=some v->∃b k,v=.ref b/\ks[i]?=some k/\b∉[s.heap.objs.size,(s.heap.push {cls:=.type "set",dict:=none,data:=.set #[] 0 (.fresh 0 0 led)}).objs.size]/\IsTupleKey knd s.heap k b:=λi v hv=>by
     obtain⟨b,k,e1,e2,e3⟩:=hi i v hv;refine⟨b,k,e1,e2,?_,e3⟩;obtain⟨o,_,_,ho,_⟩:=e3;have:=bK ho;rw[gX];simp only[aZ,dX,dZ,not_or];exact⟨b9 this,b9 (nU this)⟩
    refine Gk (knd:=knd) (s₀:=s) ((Walks.list hh3 _ l SU items).toS) s.heap.objs.size hSf hlk Ct hb ?hu Cn (items.size-0) 0 _ (by lia) (dP _)
     ⟨⟨_,cW _ rfl,rfl,rfl⟩,(P8.push _)⟩ (λb o _ e=>bR _ (bR _ e)) ?hS0 ?hR
    case hu=>exact hu
    case hS0 =>
     exact⟨#[],0,.fresh 0 0 led,bR _ hS,⟨by show 7+1∈gN;decide,rfl,rfl,by show 0*5<7*3;decide,rfl,λe he=>by cases he⟩,λe he=>by cases he⟩
    case hR =>
     intro s' hm SV;obtain⟨h',g',d',NK,RE⟩:=s';have eg:g'=s.gens:=hm.gens;have ed:d'=s.drawn:=hm.drawn;have eo:RE=s.os:=hm.os;subst eg;subst ed;subst eo;show wpAny _ _ _ _ _ _;refine ax ?_;show wpAny _ _ (ret Value.none) _ _ _;refine ax ⟨rfl,h',NK,rfl,SV,λb o hb e=>?_⟩
     have hb1:b≠s.heap.objs.size:=b9 hb;have hb2:b≠(s.heap.push {cls:=.type "set",dict:=none,data:=.set #[] 0 (.fresh 0 0 led)}).objs.size:=by
      rw[gX];exact b9 (nU hb)
     exact hm.heap b o (by simp only[aZ,dt,dX,dZ,not_or];exact⟨hb1,hb2⟩) (bR _ (bR _ e))
   ·cases SR with
    | error e=>exact rZ
    | ok JC =>
     cases JC with
     | ret r =>
      obtain⟨rfl,h',tk,rfl,⟨es,ep,t,SV,WN⟩,SH⟩:=rZ
      repeat (any_goals (first | assumption | wp_step))
      exact h _ _ es ep t SV WN SH
     | _=>exact rZ.elim
  | _=>exact hr.elim
end
end PySem
namespace L2.PL
open PySem PySem.Spec PyProof.Rows
def Oe(fe:FE):FE:=λρ=>(fe ρ).bind λp=>match p with
 | .aA ps=>(factsOf ps).bind λks=>if(ks.Nodup/\ps.length<1199)then some (.int ps.length)else none
 | _=>none
theorem zP{K:ah}{F:Hp}:∀{ps:av} {ks:List (List b8)} {vs:List V},factsOf ps=some ks->aP K F ps vs->ks.length=ps.length/\∀(i:Nat) (v:V),vs[i]?=some v->∃c k,v=.ref c/\ks[i]?=some k/\gO K F c (k.map kV)
 | [],ks,vs,h,b=>by
  cases h;rw[b.bX];exact⟨rfl,λi v z=>by cases z⟩
 | p::r,ks,vs,h,b=>by
  obtain⟨k,h1,h⟩:=ao (show(jQ p).bind (λk=>(factsOf r).map λks=>k::ks)=some ks from h)
  cases z:factsOf r with
  | none=>rw[z]at h;cases h
  | some ks' =>
   rw[z]at h;cases h;obtain⟨v,w,rfl,b1,b2⟩:=b.b6;obtain⟨e1,e2⟩:=zP z b2;refine⟨by rw[aW,aW,e1],λi u hu=>?_⟩
   cases i with
   | zero =>
    cases hu;obtain⟨c,rfl,hs⟩:=qm h1 b1;exact⟨c,k,rfl,rfl,hs⟩
   | succ i=>exact e2 i u hu
section
variable {X:Cx} {H₀ aa:Hp} {e:aj} {fe:FE} {pos p rN zp:Pos}
theorem TL(hh:X.A.handled=none)(hu:X.A.units+10<cLine)(WT:Gl X "len")(WU:X.mg "len"=none)(hg:Gl X "set")(hm:X.mg "set"=none)(he:PE X e (tE X.K H₀ aa fe))(hs:starEach [e] X.env=[(false,eval e X.env)]) :
  PE X (.Call (.Name "len" p) [.Call (.Name "set" zp) [e] [] rN] [] pos) (tE X.K H₀ aa (Oe fe)):=by
 rintro ae s σ H Q I ⟨F,ρ,z,Rp,hf,q⟩;obtain⟨pv,f1,hf⟩:=ao hf;split at hf
 ·rename_i ps;obtain⟨ks,f2,hf⟩:=ao hf;obtain⟨⟨Ct,hl⟩,e0⟩:=aB hf;subst e0;refine Call_ (ld_blt I WT WU vY ?_);refine AU (zt rfl ?_) rfl rfl;have hA:=he ae s σ H (λv H'=>∃F' l vs,v=.ref l/\cw X.K H₀ aa F' ρ σ H'/\Same F F'/\nJ X.K F' l vs/\aP X.K F' ps vs) I
   ⟨F,ρ,_,Rp,f1,λv H1 F1 R1 s1 b1=>by obtain⟨l,vs,rfl,h1,h2⟩:=aV.mp b1;exact⟨F1,l,vs,rfl,R1,s1,h1,h2⟩⟩
  refine Call_ (ld_blt I hg hm boot_set (j1 (zt hs (thn hA λu s1 ⟨v,H1,I1,r1,F1,l,vs,ev,R1,WV,P8,b1⟩=>?_)) hs rfl))
  subst ev;cases r1;obtain⟨aQ,r,pl,_⟩:=I1.list (bN R1.sub P8).sq;obtain⟨k1,k2⟩:=zP f2 b1;have cD:aQ.length=ps.length:=by rw[<-r.length,b1.length]
  have hsz:aQ.toArray.size=ps.length:=by rw[bz];exact cD
  refine Gn (knd:=eA X.prog X.w) (items:=aQ.toArray) (ks:=ks) hh pl.isList (λi v hv=>?_) (by rw[k1,hsz]) Ct (by lia) (by lia) λh' tk AL ep t hS h2 hk=>?_
  ·rw[List.getElem?_toArray]at hv;obtain⟨u,hu1⟩:∃u,vs[i]?=some u:=⟨_,di (by rw[r.length];exact(cM.mp hv).1)⟩
   obtain⟨v',Rz,hu2⟩:=r.get hu1;rw[hv]at Rz;cases Rz;obtain⟨c,k,rfl,g1,g2⟩:=k2 i u hu1;cases hu2;exact⟨c,k,rfl,g1,key_is I1 (aU R1.sub g2)⟩
  ·obtain⟨h3,h4⟩:=h2;rw[hsz]at h3;have I2:Inv X ae σ H1 {s1 with heap:=h',toks:=tk}:=I1.kept λb o e=>hk b o (bK e) e
   refine call_len_set hS ⟨rfl,rfl,rfl⟩ rfl h4 (by rw[h3];have h63:(2:Int)^63=9223372036854775808:=(by decide);lia) ?_
   refine⟨.int AL.size,H1,I2.tok _,⟨_,rfl⟩,q _ _ _ R1 WV (aG.mpr ?_)⟩;rw[h3]
 ·cases hf
end
section
variable {X:Cx} {H₀ aa:Hp} {x:Str} {p pos:Pos} {i:Nat}
def Gp(i:Nat):FS:=λρ=>match ρ[i]? with
 | some (.cq m)=>some (.rt (.cq m))
 | _=>none
theorem TM(h:PE X (.Name x p) (gR i)):PS X (.Return (some (.Name x p)) pos) (tS X H₀ aa (Gp i)):=(wo h).imp <| by
 rintro D σ H ⟨F,ρ,o,R,hf,q⟩
 unfold Gp at hf;split at hf
 ·rename_i m z;cases hf;obtain⟨a,h1,h2,h3,h4⟩:=R.cq i m z;exact⟨_,h1,q a F H R.post (Same.refl F) h2 h3 h4⟩
 ·cases hf
def Gq(i:Nat)(g:av->cg)(ts:bG):FS:=λρ=>(ts ρ).bind λas=>(g as).bind λen=>match en with
 | .cq (.t kvs)=>if i<ρ.length then some (.nx (ρ.set i (.cq (.t kvs))))else none
 | _=>none
theorem Kh{n:Nat}{g:av->cg}{ts:bG}{D:jS}{σ:St}{H:Hp}{E:XK}(h:tS X H₀ aa (Gq i (aX n g) ts) D σ H):lh (uL (zc X.K n g) [] E (tA X.K H₀ aa ts)) (gName i) D σ H:=by
 obtain⟨F,ρ,o,R,hf,q⟩:=h;obtain⟨as,h1,hf⟩:=ao hf;obtain⟨en,h2,hf⟩:=ao hf;obtain⟨hl,h3⟩:=aw (show(if as.length=n then g as else none)=some en from h2)
 split at hf
 ·rename_i kvs;obtain⟨hi,rfl⟩:=aB hf;refine⟨F,ρ,as,R,h1,λvs H1 F1 R1 s1 b1=>?_⟩
  show zc X.K n g (vs++[]) H1 _ E;rw[dE];refine⟨F1,as,_,R1.sub,b1,hl,h3,λa F2 H2 P ff hd hn fn=>?_⟩
  exact q F2 _ _ ((R1.after P.keep P.base P.sub P.fresh).xj hi (m:=.t kvs) hd (R1.keep.free hn) fn) (s1.trans ff)
 ·cases hf
end
section
variable {X:Cx} {H₀ aa:Hp} {o:aj} {fo:FE} {ap cp:Pos}
def TN(fo:FE):FE:=λρ=>(fo ρ).bind λp=>match p with
 | .str a=>some (.bl (Txt.isdigit a))
 | _=>none
theorem Gr:Y5 X "str.isdigit" (λx xs H Q=>∃a,x=.str a/\xs=[]/\Q (.bl (Txt.isdigit a)) H):=by
 rintro ae s σ H x xs v us Q I rx rs ⟨a,e1,e2,q⟩;subst e1 e2;obtain⟨t,rfl⟩:=rx;have hus:=rs.zero;subst hus;exact SC.isdigit ⟨.bl _,H,I,rfl,q⟩
theorem Xv(ho:PE X o (tE X.K H₀ aa fo))(hb:attributeBase o "isdigit" X.env (eval o X.env)=eval o X.env)(rg:(ap.endLine==cp.line)=true):PE X (.Call (.Attribute o "isdigit" ap) [] [] cp) (tE X.K H₀ aa (TN fo)) :=
 (IA F.plainAttrs_str F.slot_str_isdigit F.type_str_isdigit Gr ho hb rg).imp <| by
  rintro σ H Q ⟨F,ρ,p,R,hf,q⟩
  obtain⟨a,h1,h2⟩:=ao hf;refine⟨F,ρ,a,R,h1,λv H1 F1 R1 s1 b1=>?_⟩
  cases a<;>cases h2
  rw[cb.mp b1];exact⟨rfl,_,rfl,rfl,q _ H1 F1 R1 s1 (bU.mpr rfl)⟩
end
structure Gm where
 sc:List (Str×NameKind)
 N:List Str
 fns:List (Str×Nat)
 cons:List (Str×PV)
 df:List Str
 chg:List Str
 own:Bool
 call:fZ
 exc:List Str
 sub:List ((Str×Str)×Bool)
 tabs:List (Str×List (Str×Str))
 He:List Str
 pY:List (Str×Nat)
 kq:Str->Ob->av->cg
 cls:List (Str×Nat)
 make:Str->av->Option (List (Str×Fd))
 flds:List Str
 eK:List (Str×List (Str×PV))
 xq:Bool
 Pe:List Str
 dct:List Str
 Mb:List Str
def slot(Γ:Gm)(x:Str):Option Nat:=Γ.N.findIdx? (· == x)
def qc(Γ:Gm)(x:Str):Bool:=match Γ.sc.lookup x with | some .local=>true | some .cell=>true | some .free=>true | _=>false
def xt(Γ:Gm)(x:Str):Bool:=match Γ.sc.lookup x with | some .local=>true | some .cell=>Γ.own | _=>false
noncomputable def pZ(Γ:Gm)(x:Str):Bool:=match Γ.sc.lookup x with | some .globalImplicit=>true | _=>false
def b7(x:Str):Bool:=!(x==("__debug__":Str))&&!(x==("__classdict__":Str))&&!(x==("__name__":Str))
structure Ki (Γ:Gm) (X:Cx):Prop where
 ex:∃p q fs fT JM Eb k,JL X.K X.mg p q fs fT JM Eb/\dg (k+2) X.A /\
  (∀x n,Γ.fns.lookup x=some n->∃j f fd ps,j<=k/\FnOk X.prog X.w X.K X.mg X.base (ji X.prog X.w) j f fd ps (zc X.K n (Γ.call x))/\X.mg x=some (.ref f)/\W.keepIn X.K (.ref f)=true/\dS X.K fd ps []) /\
  ∀x n,Γ.pY.lookup x=some n->∃j f fd ps,j<=k/\FnOk X.prog X.w X.K X.mg X.base (ji X.prog X.w) j f fd ps (Qa X.K n (Γ.kq x))/\X.mg x=some (.ref f)/\W.keepIn X.K (.ref f)=true/\dS X.K fd ps []
 lam:Qh X
structure Xw (Γ:Gm) (X:Cx):Prop where
 pY:S0 X Γ.pY Γ.kq
 ns:∀x a,W.nsIn X.K mainGlobals x=some (some (.ref a))->X.mg x=some (.ref a)
 cls:∀C n,Γ.cls.lookup C=some n->∃k Ca f fd ps,Mk X.K Ca f/\Br X.K Ca/\(∀f,Γ.flds.contains f=true->d9 X.K Ca f)/\FnOk X.prog X.w X.K X.mg X.base (ji X.prog X.w) k f fd ps (W8 X.K n (Γ.make C))/\dg (k+1) X.A/\X.mg C=some (.ref Ca)/\dS X.K fd ps []
 eK:∀T rows,Γ.eK.lookup T=some rows->w9 X.K X.mg X.w.params T rows
 xq:Γ.xq=true->Ki Γ X
structure GOk (Γ:Gm) (X:Cx):Prop where
 names:X.env.scope.names=Γ.sc
 N:X.N=Γ.N
 nd:X.N.Nodup
 kind:X.env.scope.kind=.function
 calm:X.calm=true
 hd:X.A.handled=none
 un:X.A.units+1150<cLine
 own:Γ.own=true->∀x,X.fn x=true
 fns:∀x n,Γ.fns.lookup x=some n->∃k f fd ps,FnOk X.prog X.w X.K X.mg X.base (ji X.prog X.w) k f fd ps (zc X.K n (Γ.call x))/\dg k X.A/\X.mg x=some (.ref f)/\W.keepIn X.K (.ref f)=true/\dS X.K fd ps []
 cons:∀x p,Γ.cons.lookup x=some p->∃u v,X.mg x=some u/\RelV v u/\∀F,cx X.K F p v
 df:∀x,Γ.df.contains x=true->X.mg x=none
 excs:∀C,Γ.exc.contains C=true->uz X.K C
 subs:∀C D b,Γ.sub.lookup (C,D)=some b->Jr X.K X.mg C D b
 tabs:∀T rows,Γ.tabs.lookup T=some rows->u9 X.K X.mg X.w.params T rows
 mh:Xw Γ X
def bZ:aj->Bool
 | .Starred _ _=>false
 | .Set _ _ _=>false
 | _=>true
def fX:aj->Bool
 | .Slice _ _ _ _=>false
 | _=>true
def En:aj->Bool
 | .Tuple _ _ _=>false
 | .ListComp _ _ _ _=>false
 | .SetComp _ _ _ _=>false
 | .DictComp _ _ _ _ _=>false
 | _=>true
def jB:aj->Bool
 | .ListComp _ _ _ _=>false
 | .SetComp _ _ _ _=>false
 | .DictComp _ _ _ _ _=>false
 | _=>true
theorem xu{e:aj}(h:En e=true):jB e=true:=by
 cases e<;>first | rfl | cases h
def Kj:aj->Bool
 | .UnaryOp .Not _ _=>false
 | .BoolOp _ _ _=>false
 | .IfExp _ _ _ _=>false
 | .Compare _ _ _ _=>false
 | _=>true
theorem aN{e:aj}(h:bZ e=true)(es:List aj)(env:Env):starEach (e::es) env=(false,eval e env)::starEach es env:=by
 cases e<;>first | rfl | cases h
theorem iC{e:aj}(h:bZ e=true)(op:CmpOp):behindInMarks op e=false:=by
 cases e<;>first | rfl | cases h
theorem CB{e:aj}(h:bZ e=true)(env:Env)(x:ag):foldedSetIterable e env x=pure x:=by
 cases e<;>first | rfl | cases h
theorem gC{e:aj}(h:fX e=true):gS e:=by
 intro o i;cases e<;>first | rfl | cases h
theorem Kk{e:aj}(h:Kj e=true)(env:Env)(iy:Sem ag):isTrue e env iy=(do let v <-iy;standAt e.pos;holding [v] (truthy v)):=by
 cases e with
 | UnaryOp op a p=>cases op<;>first | rfl | cases h
 | BoolOp _ _ _=>cases h
 | IfExp _ _ _ _=>cases h
 | Compare _ _ _ _=>cases h
 | _=>rfl
theorem ej{e:aj}(h:jB e=true)(t:Option aj)(l:Nat)(env:Env):swapsWith e t l env=pure false:=by
 cases e<;>first | rfl | cases h
theorem cY{es:List aj}(h:es.all bZ=true)(env:Env)(pos:Pos):(backTo pos (starEach es env)).any (·.1)=false:=by
 induction es with
 | nil=>rfl
 | cons e es ih =>
  rw[fR,aE]at h;rw[aN h.1];exact ih h.2
noncomputable def p3:Nat->Gm->aj->Option (eG×List Nat)
 | 0,_,_=>none
 | n+1,Γ,e=>match e with
  | .Name x _=>if xt Γ x=true then(slot Γ x).map λi=>(aD i,[i])else none
  | .Tuple es _ _=>(es.foldr (λe r=>(p3 n Γ e).bind λg=>r.map λgs=>(bB g.1 gs.1,g.2++gs.2)) (some (eH,[]))).map λgs=>(fD es.length gs.1,gs.2)
  | _=>none
theorem Kl{Γ:Gm}{x:Str}{i:Nat}(h:slot Γ x=some i):Γ.N[i]?=some x:=by
 unfold slot at h;obtain⟨hi,hp,_⟩:=Hi.mp h;rw[di hi];exact c9 some (bD hp)
section
variable {Γ:Gm} {X:Cx} {x:Str} {pos:Pos}
theorem GOk.CC(G:GOk Γ X)(h:qc Γ x=true):Q0 X.env.scope x:=by
 unfold qc at h;unfold Q0;rw[G.names];split at h<;>simp_all
theorem GOk.TQ(G:GOk Γ X)(h:xt Γ x=true):Pf X.env.scope x/\(X.fn x=true\/X.env.scope.names.lookup x=some .local):=by
 unfold xt at h;unfold Pf;rw[G.names];split at h
 ·rename_i z;exact⟨.inl z,.inr z⟩
 ·rename_i z;exact⟨.inr z,.inl (G.own h x)⟩
 ·cases h
theorem GOk.gL(G:GOk Γ X)(h:pZ Γ x=true):Gl X x:=by
 unfold pZ at h;show X.env.scope.names.lookup x=_;rw[G.names];split at h
 ·assumption
 ·cases h
theorem GOk.ib(G:GOk Γ X){i:Nat}(h:slot Γ x=some i):X.N[i]?=some x:=by
 rw[G.N];exact Kl h
theorem jC(G:GOk Γ X):∀(n:Nat) (e:aj) (g:eG×List Nat),p3 n Γ e=some g->(∀H₀ aa:Hp,PG X e (tG X.K H₀ aa g.1))/\KG g.2 g.1/\(∀env:Env,(assignEach [e] env).map (·.2)=[assign e env])/\∀(es:List aj) (env:Env),assignEach (e::es) env=(false,assign e env)::assignEach es env
 | 0,_,_,h=>by cases h
 | n+1,e,g,h=>by
  cases e with
  | Name x p =>
   have h:(if xt Γ x=true then(slot Γ x).map λi=>(aD i,[i])else none)=some g:=h
   obtain⟨hs,h⟩:=aw h;cases z:slot Γ x with
   | none=>rw[z]at h;cases h
   | some i =>
    rw[z]at h;cases h;obtain⟨h1,h2⟩:=G.TQ hs;exact⟨λH₀ aa=>R9 i (Dz G.nd (G.ib z) h1 h2),M4 i,λ_=>rfl,λ_ _=>rfl⟩
  | Tuple es k p =>
   have all:∀(es:List aj) (gs:(av->aC->Option aC)×List Nat),es.foldr (λe r=>(p3 n Γ e).bind λg=>r.map λgs=>(bB g.1 gs.1,g.2++gs.2)) (some (eH,[]))=some gs ->
     (∀H₀ aa:Hp,Ha X es (Wg X.K H₀ aa gs.1))/\Wo gs.2 gs.1/\∀env:Env,(assignEach es env).length=es.length/\(assignEach es env).findIdx? (·.1)=none:=by
    intro es;induction es with
    | nil =>
     intro gs h;cases h;exact⟨λH₀ aa=>Sa,M5,λenv=>⟨rfl,rfl⟩⟩
    | cons e es ih =>
     intro gs h;rw[List.foldr_cons]at h;obtain⟨g1,e1,h⟩:=ao h;cases z:es.foldr (λe r=>(p3 n Γ e).bind λg=>r.map λgs=>(bB g.1 gs.1,g.2++gs.2)) (some (eH,[]))with
     | none=>rw[z]at h;cases h
     | some g2 =>
      rw[z]at h;cases h;obtain⟨a1,a2,a3,a4⟩:=jC G n e g1 e1;obtain⟨b1,b2,b3⟩:=ih g2 z;refine⟨λH₀ aa=>MZ (a1 H₀ aa) (b1 H₀ aa) (by rw[a4];rfl),IX a2 b2,λenv=>?_⟩
      rw[a4];obtain⟨c1,c2⟩:=b3 env;exact⟨by rw[aW,aW,c1],by rw[List.findIdx?_cons];simp[c2]⟩
   have h:(es.foldr (λe r=>(p3 n Γ e).bind λg=>r.map λgs=>(bB g.1 gs.1,g.2++gs.2)) (some (eH,[]))).map (λgs=>(fD es.length gs.1,gs.2))=some g:=h
   cases z:es.foldr (λe r=>(p3 n Γ e).bind λg=>r.map λgs=>(bB g.1 gs.1,g.2++gs.2)) (some (eH,[]))with
   | none=>rw[z]at h;cases h
   | some gs =>
    rw[z]at h;cases h;obtain⟨b1,b2,b3⟩:=all es gs z;exact⟨λH₀ aa=>Wh G.calm (b1 H₀ aa) (b3 _).1 (b3 _).2,Sb b2,λ_=>rfl,λ_ _=>rfl⟩
  | _=>cases h
end
def CD(x:Str):Option (av->bQ) :=
 if x==("len":Str)then some eF
 else if x==("tuple":Str)then some rK
 else if x==("list":Str)then some Jj
 else if x==("int":Str)then some B8
 else if x==("sum":Str)then some B9
 else if x==("sorted":Str)then some D5
 else if x==("str":Str)then some Jv
 else none
noncomputable def xw(x:Str):List aj->Option (Str×List aj)
 | [.Call (.Name z _) [.List l _] [] _]=>if(x==("sorted":Str)&&z==("set":Str))=true then some (z,l)else none
 | _=>none
theorem xx{x:Str}{es:List aj}{z:Str}{l:List aj}(h:xw x es=some (z,l)):x="sorted"/\z="set"/\∃p lp pos,es=[.Call (.Name z p) [.List l lp] [] pos]:=by
 unfold xw at h;split at h
 ·split at h
  ·rename_i hc;cases h;rw[aE]at hc;exact⟨bD hc.1,bD hc.2,_,_,_,rfl⟩
  ·cases h
 ·cases h
noncomputable def xy(x:Str):List aj->Option (Str×aj×List aj)
 | [.Call (.Name z _) (b::bs) [] _]=>if(x==("list":Str)&&z==("range":Str))=true then some (z,b,bs)else none
 | _=>none
theorem xA{x:Str}{es:List aj}{z:Str}{b:aj}{bs:List aj}(h:xy x es=some (z,b,bs)):x="list"/\z="range"/\∃p pos,es=[.Call (.Name z p) (b::bs) [] pos]:=by
 unfold xy at h;split at h
 ·split at h
  ·rename_i hc;cases h;rw[aE]at hc;exact⟨bD hc.1,bD hc.2,_,_,rfl⟩
  ·cases h
 ·cases h
noncomputable def kF(scope:Scope):List Str:=(scope.names.filter λy=>match y.2 with | .local=>true | .free=>true | _=>false).map (·.1)
def fq(Γ:Gm)(scope:Scope):List (Option Nat):=(kF scope).map λx=>match scope.names.lookup x with | some .free=>slot Γ x | _=>none
def CG(Γ:Gm)(scope:Scope):List (Str×NameKind):=scope.names.map fun(n,k)=>if(k==NameKind.free&&Γ.sc.lookup n==some .cell)then(n,NameKind.cell)else(n,k)
def pz(Γ:Gm)(scope:Scope):Gm:={Γ with sc:=CG Γ scope,N:=kF scope,chg:=[],own:=false,xq:=false}
def xB:ScopeKind->Bool
 | .function=>true
 | _=>false
def kG(Γ:Gm)(scope:Scope)(L:List Nat):Bool :=
 xB scope.kind&&scope.names.all (λy=>match y.2 with
  | .cell=>false
  | .local=>(match scope.names.lookup y.1 with | some .local=>true | _=>false)
  | .free=>(match Γ.sc.lookup y.1 with | some .cell=>true | some .free=>true | _=>false)
  | _=>true)&&decide (kF scope).Nodup&&L.all λi=>match(fq Γ scope)[i]? with | some none=>true | _=>false
def xC:Arguments->Option (Str×Pos)
 | ⟨[],[⟨x,none,ap⟩],none,[],[],none,[]⟩=>some (x,ap)
 | _=>none
noncomputable def isFree(k:Option NameKind):Bool:=match k with | some .free=>true | _=>false
def xD(scope:Scope):List Str:=(scope.names.filter λy=>isFree (some y.2)).map (·.1)
def qp(Γ:Gm)(scope:Scope):List (Option Nat):=(xD scope).map (slot Γ)
def Xx(Γ:Gm)(x:Str)(scope:Scope):Gm:={Γ with sc:=scope.names,N:=x::xD scope,chg:=[],own:=false,xq:=false,cls:=[]}
def Km(Γ:Gm)(x:Str)(scope:Scope):Bool :=
 xB scope.kind&&!scope.isCoroutine&&!scope.isGenerator&&(match scope.names.lookup x with | some .local=>true | _=>false)&&scope.names.all (λy=>match y.2 with
  | .cell=>false
  | .free=>(match Γ.sc.lookup y.1 with | some .cell=>true | some .free=>true | _=>false)&&isFree (scope.names.lookup y.1)
  | _=>true)&&decide (x::xD scope).Nodup
def Kn(Γ:Gm)(x:Str)(f:FE):FE:=if(x==("len":Str)&&!Γ.chg.isEmpty)=true then ot f else f
theorem Of{Γ:Gm}{X:Cx}{x:Str}{e:aj}{f:FE}{H₀ aa:Hp}(h:PE X e (tE X.K H₀ aa f)):PE X e (tE X.K H₀ aa (Kn Γ x f)):=by
 unfold Kn;split
 ·exact Ja h
 ·exact h
def isQ:aj->Bool
 | .Attribute _ _ _=>true
 | .Call (.Name _ _) (_::_) [] _=>true
 | .Call (.Subscript _ _ _) (_::_) [] _=>true
 | .Call (.Attribute (.Name _ _) _ _) [] [] _=>true
 | .Subscript (.Name _ _) _ _=>true
 | _=>false
def Eo:aj->Option (Option aj×Option aj)
 | .Slice lo hi none _=>some (lo,hi)
 | _=>none
theorem xE{e:aj}{lo hi:Option aj}(h:Eo e=some (lo,hi)):∃p,e=.Slice lo hi none p:=by
 cases e<;>first | (cases h;done) | skip
 rename_i a b c p;cases c<;>first | (cases h;done) | skip
 cases h;exact⟨p,rfl⟩
def CH:aj->Option (Str×aj)
 | .Call (.Name z _) [e] [] _=>some (z,e)
 | _=>none
theorem zQ{a:aj}{z:Str}{e:aj}(h:CH a=some (z,e)):∃zp rN,a=.Call (.Name z zp) [e] [] rN:=by
 unfold CH at h;split at h
 ·cases h;exact⟨_,_,rfl⟩
 ·cases h
def xF(Γ:Gm):aj->Option Nat
 | .Name y _=>if(b7 y&&qc Γ y&&Γ.dct.contains y)=true then slot Γ y else none
 | _=>none
mutual
noncomputable def cn:Nat->Gm->aj->Option FE
 | 0,_,_=>none
 | n+1,Γ,e=>match(match isQ e with | true=>Og n Γ e | false=>none)with | some f=>some f | none=>match e with
  | .Constant (.int i) _ _=>some λ_=>some (.int i)
  | .Constant (.bool i) _ _=>some λ_=>some (.bl i)
  | .Constant .none _ _=>some λ_=>some .cE
  | .Constant (.str i) _ _=>some λ_=>some (.str i)
  | .Name x _=>if b7 x=true then(if qc Γ x=true then(slot Γ x).map rd else if pZ Γ x=true then(Γ.cons.lookup x).map λp=>λ_=>some p else none)else none
  | .BinOp a op b _=>(Sg op).bind λg=>(cn n Γ a).bind λfa=>(cn n Γ b).map λfb=>ak fa fb g
  | .UnaryOp .Not a _=>(cn n Γ a).map Fv
  | .UnaryOp .USub a _=>(cn n Γ a).map Jk
  | .BoolOp op vs _=>Ko n Γ op vs
  | .Compare a [op] [b] _=>if bZ b=true then(B6 op).bind λg=>(cn n Γ a).bind λfa=>(cn n Γ b).map λfb=>ak fa fb g else none
  | .Compare a [op,wz] [b,c] _=>if bZ c=true then(B6 op).bind λg=>(B6 wz).bind λg'=>(cn n Γ a).bind λfa=>(cn n Γ b).bind λfb=>(cn n Γ c).map λfc=>chain fa fb fc g g' else none
  | .IfExp c a b _=>(um n Γ c).bind λgc=>(cn n Γ a).bind λfa=>(cn n Γ b).map λfb=>IM gc fa fb
  | .Tuple es _ _=>(ja n Γ es).map cj
  | .List es _=>(ja n Γ es).map λts=>cB (dy ts)
  | .Subscript a b _=>(match Eo b with
   | some (lo,hi)=>(cn n Γ a).bind λfa=>(Gs n Γ lo).bind λfl=>(Gs n Γ hi).map λfh=>cutE fa fl fh
   | none=>if fX b=true then(cn n Γ a).bind λfa=>(cn n Γ b).map λfb=>ak fa fb bL else none)
  | .ListComp elt [⟨tg,iter,ifs,0⟩] scope _=>(Kp n Γ elt tg iter ifs scope).map cB
  | .Call (.Name x _) (a::es) [] _=>if(b7 x&&pZ Γ x&&(a::es).all bZ)=true then(match Γ.fns.lookup x with
    | some m=>(ja n Γ (a::es)).map λts=>aK (aX m (Γ.call x)) ts
    | none=>if Γ.df.contains x=true then(if x==("isinstance":Str)then Kq n Γ (a::es)else match xw x (a::es)with
     | some (z,l)=>if(pZ Γ z&&Γ.df.contains z)=true then(ja n Γ l).map SW else none
     | none=>match xy x (a::es)with
     | some (z,b,bs)=>if(pZ Γ z&&Γ.df.contains z&&(b::bs).all bZ)=true then(ja n Γ (b::bs)).map λts=>cB (lrg ts)else none
     | none=>(CD x).bind λg=>(ja n Γ (a::es)).map λts=>Kn Γ x (dq g ts))else none)else none
  | .Call (.Subscript (.Name T _) ke _) (a::es) [] _=>if(b7 T&&pZ Γ T&&fX ke&&(a::es).all bZ)=true then(Γ.tabs.lookup T).bind λrows=>(cn n Γ ke).bind λfk=>(ja n Γ (a::es)).map λts=>FP rows Γ.fns Γ.call fk ts else none
  | _=>none
noncomputable def Og:Nat->Gm->aj->Option FE
 | 0,_,_=>none
 | n+1,Γ,e=>match e with
  | .Attribute (.Name x p) f _=>(sy n Γ (.Name x p)).map λfo=>r9 fo f
  | .Call (.Attribute (.Name x p) m ap) [] [] cp=>if(m==("isdigit":Str)&&(ap.endLine==cp.line))=true then(cn n Γ (.Name x p)).map TN else none
  | .Call (.Name x _) (a::es) [] _=>match Ep n Γ x a es with | some f=>some f | none=>if(b7 x&&(a::es).all bZ)=true then(sy n Γ a).bind λfo=>(ja n Γ es).bind λts=>if pZ Γ x=true then(Γ.pY.lookup x).map λm=>ei (jX m (Γ.kq x)) fo ts else if(qc Γ x&&Γ.He.contains x)=true then(slot Γ x).map λi=>JF Γ.pY Γ.kq i fo ts else none else none
  | .Call (.Subscript (.Name T _) ke _) (a::es) [] _=>if(b7 T&&pZ Γ T&&fX ke&&(a::es).all bZ)=true then(Γ.tabs.lookup T).bind λrows=>(cn n Γ ke).bind λfk=>(sy n Γ a).bind λfo=>(ja n Γ es).map λts=>Qb rows Γ.pY Γ.kq fk fo ts else none
  | .Subscript (.Name T _) ke _=>if(b7 T&&fX ke)=true then(if pZ Γ T=true then(Γ.eK.lookup T).bind λrows=>(cn n Γ ke).map λfk=>W2 rows fk else if(qc Γ T&&Γ.Pe.contains T)=true then(slot Γ T).bind λi=>(cn n Γ ke).map λfk=>getD i fk else if(qc Γ T&&Γ.chg.contains T)=true then(slot Γ T).bind λi=>(cn n Γ ke).map λfk=>W6 i fk else none)else none
  | _=>none
noncomputable def Ep:Nat->Gm->Str->aj->List aj->Option FE
 | 0,_,_,_,_=>none
 | n+1,Γ,x,a,es=>match es with
  | [.Lambda args body scope _]=>if(x==("spread":Str)&&pZ Γ x&&Γ.xq&&bZ a)=true then(xC args).bind λxa=>if Km Γ xa.1 scope=true then(cn n Γ a).bind λfe=>(cn n (Xx Γ xa.1 scope) body).map λfb=>cB (jA fe fb (qp Γ scope))else none else none
  | []=>if(x==("len":Str)&&pZ Γ x&&Γ.df.contains x)=true then(match xF Γ a with
   | some i=>some (N9 i)
   | none=>(CH a).bind λze=>if(ze.1==("set":Str)&&pZ Γ ze.1&&Γ.df.contains ze.1&&bZ ze.2)=true then(cn n Γ ze.2).map Oe else none)else none
  | _=>none
noncomputable def sy:Nat->Gm->aj->Option Cr
 | 0,_,_=>none
 | n+1,Γ,e=>match e with
  | .Name x _=>if(b7 x&&qc Γ x&&Γ.He.contains x)=true then(slot Γ x).map uk else none
  | .Call (.Name C _) (a::es) [] _=>if(b7 C&&pZ Γ C&&(a::es).all bZ)=true then(Γ.cls.lookup C).bind λm=>(ja n Γ (a::es)).map λts=>W9 Γ.flds m (Γ.make C) ts else none
  | .Subscript (.Name T _) ke _=>if(b7 T&&pZ Γ T&&fX ke)=true then(Γ.tabs.lookup T).bind λrows=>(cn n Γ ke).map λfk=>W4 rows fk else none
  | _=>none
noncomputable def um:Nat->Gm->aj->Option eR
 | 0,_,_=>none
 | n+1,Γ,e=>match e with
  | .UnaryOp .Not a _=>(um n Γ a).map g9
  | .BoolOp op vs _=>Kr n Γ op vs
  | .Compare a [op] [b] _=>match xF Γ b with
   | some i=>(Xn op).bind λq=>(cn n Γ a).map λfk=>inB q i fk
   | none=>if bZ b=true then(B6 op).bind λg=>(cn n Γ a).bind λfa=>(cn n Γ b).map λfb=>toB (ak fa fb g)else none
  | .Compare a [op,wz] [b,c] _=>if bZ c=true then(B6 op).bind λg=>(B6 wz).bind λg'=>(cn n Γ a).bind λfa=>(cn n Γ b).bind λfb=>(cn n Γ c).map λfc=>toB (chain fa fb fc g g')else none
  | e=>if Kj e=true then(cn n Γ e).map toB else none
noncomputable def Ko:Nat->Gm->BoolOp->List aj->Option FE
 | 0,_,_,_=>none
 | n+1,Γ,op,[a]=>cn n Γ a
 | n+1,Γ,.And,a::b::r=>(cn n Γ a).bind λfa=>(Ko n Γ .And (b::r)).map λfb=>uf fa fb
 | n+1,Γ,.Or,a::b::r=>(cn n Γ a).bind λfa=>(Ko n Γ .Or (b::r)).map λfb=>WC fa fb
 | _,_,_,_=>none
noncomputable def Kr:Nat->Gm->BoolOp->List aj->Option eR
 | 0,_,_,_=>none
 | n+1,Γ,op,[a]=>um n Γ a
 | n+1,Γ,.And,a::b::r=>(um n Γ a).bind λfa=>(Kr n Γ .And (b::r)).map λfb=>wK fa fb
 | n+1,Γ,.Or,a::b::r=>(um n Γ a).bind λfa=>(Kr n Γ .Or (b::r)).map λfb=>zb fa fb
 | _,_,_,_=>none
noncomputable def ja:Nat->Gm->List aj->Option bG
 | 0,_,_=>none
 | n+1,Γ,[]=>some ar
 | n+1,Γ,e::es=>if bZ e=true then(cn n Γ e).bind λf=>(ja n Γ es).map λfs=>af f fs else none
noncomputable def Gs:Nat->Gm->Option aj->Option FO
 | 0,_,_=>none
 | n+1,Γ,none=>some Hb
 | n+1,Γ,some e=>(cn n Γ e).map e9
noncomputable def Kq:Nat->Gm->List aj->Option FE
 | 0,_,_=>none
 | n+1,Γ,[a,.Name t _]=>if(b7 t&&pZ Γ t&&Γ.df.contains t)=true then(DW t).bind λg=>(cn n Γ a).map λfa=>DX g fa else none
 | _,_,_=>none
noncomputable def Ks:Nat->Gm->aj->aj->Option bG
 | 0,_,_,_=>none
 | n+1,Γ,tg,e=>match e with
  | .Call (.Name x _) [a] [] _=>if(x==("range":Str)&&pZ Γ x&&Γ.df.contains x&&bZ a)=true then(ja n Γ [a]).map jU
    else if(x==("enumerate":Str)&&pZ Γ x&&Γ.df.contains x&&bZ a&&PZ tg)=true then(cn n Γ a).map iA
    else(cn n Γ e).map dz
  | .Call (.Name x _) [a,b] [] _=>if(x==("range":Str)&&pZ Γ x&&Γ.df.contains x&&bZ a&&bZ b)=true then(ja n Γ [a,b]).map Ql else(cn n Γ e).map dz
  | e=>if bZ e=true then(cn n Γ e).map dz else none
noncomputable def Kp:Nat->Gm->aj->aj->aj->List aj->Scope->Option bG
 | 0,_,_,_,_,_,_=>none
 | n+1,Γ,elt,tg,iter,ifs,scope=>if bZ iter=true then(Ks n Γ tg iter).bind λfi=>(p3 n (pz Γ scope) tg).bind λg=>if kG Γ scope g.2=true then(match ifs with
   | []=>(cn n (pz Γ scope) elt).map λfe=>dI (fq Γ scope) fi g.1 fe
   | [c]=>(um n (pz Γ scope) c).bind λft=>(cn n (pz Γ scope) elt).map λfe=>pe (fq Γ scope) fi g.1 ft fe
   | _=>none)else none else none
end
theorem cR{x:Str}(h:b7 x=true):(x==("__debug__":Str))=false/\(x==("__classdict__":Str))=false/\x≠"__name__":=by
 unfold b7 at h;simp only[aE,Bool.not_eq_true']at h;exact⟨h.1.1,h.1.2,by simpa using h.2⟩
theorem aq{α β:Type}{o:Option α}{f:α->β}{b:β}(h:o.map f=some b):∃a,o=some a/\f a=b:=by
 cases o with
 | none=>cases h
 | some a=>exact⟨a,rfl,bo h⟩
theorem zR{Γ:Gm}{X:Cx}{e:aj}{i:Nat}(G:GOk Γ X)(h:xF Γ e=some i):∃y yp,e=.Name y yp/\∀p,PE X (.Name y p) (gR i):=by
 cases e<;>first | cases h;done | skip
 rename_i y yp;obtain⟨hc,h1⟩:=aw (show(if(b7 y&&qc Γ y&&Γ.dct.contains y)=true then slot Γ y else none)=some i from h)
 simp only[aE]at hc;exact⟨y,yp,rfl,λp=>pe_var (G.ib h1) (G.CC hc.1.2) (cR hc.1.1).1 (cR hc.1.1).2.1⟩
structure Zu (n:Nat):Prop where
 e:∀Γ X e f,GOk Γ X->cn n Γ e=some f->∀H₀ aa,PE X e (tE X.K H₀ aa f)
 q:∀Γ X e f,GOk Γ X->Og n Γ e=some f->∀H₀ aa,PE X e (tE X.K H₀ aa f)
 sp:∀Γ X x a es f p pos,GOk Γ X->Ep n Γ x a es=some f->∀H₀ aa,PE X (.Call (.Name x p) (a::es) [] pos) (tE X.K H₀ aa f)
 ob:∀Γ X e f,GOk Γ X->sy n Γ e=some f->∀H₀ aa,PE X e (tO X.K H₀ aa f)
 t:∀Γ X e f,GOk Γ X->um n Γ e=some f->∀H₀ aa,PT X e (tT X.K H₀ aa f)
 b:∀Γ X op vs f pos,GOk Γ X->Ko n Γ op vs=some f->∀H₀ aa,PE X (.BoolOp op vs pos) (tE X.K H₀ aa f)
 w:∀Γ X op vs f pos,GOk Γ X->Kr n Γ op vs=some f->∀H₀ aa,PW X (.BoolOp op vs pos) (tT X.K H₀ aa f)
 a:∀Γ X es f,GOk Γ X->ja n Γ es=some f->(∀H₀ aa,PA X es (tA X.K H₀ aa f))/\es.all bZ=true
 o:∀Γ X e f,GOk Γ X->Gs n Γ e=some f->∀H₀ aa,PO X e (zl X.K H₀ aa f)
 is:∀Γ X es f p pos,GOk Γ X->Kq n Γ es=some f->pZ Γ "isinstance"=true->Γ.df.contains "isinstance"=true->es.all bZ=true->∀H₀ aa,PE X (.Call (.Name "isinstance" p) es [] pos) (tE X.K H₀ aa f)
 i:∀Γ X tg e f,GOk Γ X->Ks n Γ tg e=some f->(∀H₀ aa,PI X tg e (tI X.K H₀ aa f))/\∀x,foldedSetIterable e X.env x=pure x
 c:∀Γ X elt tg iter ifs scope f,GOk Γ X->Kp n Γ elt tg iter ifs scope=some f->(∀H₀ aa pos,PE X (.ListComp elt [⟨tg,iter,ifs,0⟩] scope pos) (tF X.K H₀ aa f)) /\
  ∀H₀ aa i x pos eY ug,X.N[i]?=some x->X.env.scope.names.lookup x=some .local->swapsWith (.ListComp elt [⟨tg,iter,ifs,0⟩] scope pos) (some (.Name x eY)) ug.line X.env=pure true ->
   ∃t:TE,(∀σ H Q,tF X.K H₀ aa f σ H Q->t σ H Q)/\PS X (.Assign [.Name x eY] (.ListComp elt [⟨tg,iter,ifs,0⟩] scope pos) ug) (lh t (gName i))
set_option maxHeartbeats 4000000 in
theorem TR{X:Cx}{x:Str}{g:av->bQ}{a:aj}{es:List aj}{ts:bG}{p pos:Pos}{H₀ aa:Hp}(h:CD x=some g)(hc:X.calm=true)(hh:X.A.handled=none)(hg:Gl X x)(hm:X.mg x=none)(ha:PA X (a::es) (tA X.K H₀ aa ts))
  (he:starEach (a::es) X.env=(false,eval a X.env)::starEach es X.env) (jt:(backTo pos (starEach es X.env)).any (·.1)=false):PE X (.Call (.Name x p) (a::es) [] pos) (tE X.K H₀ aa (dq g ts)):=by
 unfold CD at h;split at h
 ·rename_i e;cases h;have e:=bD e;subst e;exact(i5 FH hg hm vY ha (by decide) (by decide) he jt).imp λ_ _ _ h=>jy h
 ·split at h
  ·rename_i e;cases h;have e:=bD e;subst e;exact(i6 (T:="tuple") FI hg hm (jz .tuple) ha (by decide) (by decide) he jt).imp λ_ _ _ h=>jy h
  ·split at h
   ·rename_i e;cases h;have e:=bD e;subst e;exact(i6 (T:="list") FJ hg hm (jz .list) ha (by decide) (by decide) he jt).imp λ_ _ _ h=>jy h
   ·split at h
    ·rename_i e;cases h;have e:=bD e;subst e;exact(i6 (T:="int") FK hg hm (jz .int) ha (by decide) (by decide) he jt).imp λ_ _ _ h=>jy h
    ·split at h
     ·rename_i e;cases h;have e:=bD e;subst e;exact(i5 (id:="sum") (FL hh) hg hm boot_sum ha (by decide) (by decide) he jt).imp λ_ _ _ h=>jy h
     ·split at h
      ·rename_i e;cases h;have e:=bD e;subst e;exact(i5 (id:="sorted") Cf hg hm boot_sorted ha (by decide) (by decide) he jt).imp λ_ _ _ h=>jy h
      ·split at h
       ·rename_i e;cases h;have e:=bD e;subst e;exact(i6 (T:="str") FV hg hm (jz .str) ha (by decide) (by decide) he jt).imp λ_ _ _ h=>jy h
       ·cases h
section
variable {Γ:Gm} {X:Cx} {scope:Scope} {L:List Nat}
theorem kJ(h:kG Γ scope L=true):scope.kind=.function/\(∀y∈scope.names,(match y.2 with
  | .cell=>false
  | .local=>(match scope.names.lookup y.1 with | some .local=>true | _=>false)
  | .free=>(match Γ.sc.lookup y.1 with | some .cell=>true | some .free=>true | _=>false)
  | _=>true)=true)/\(kF scope).Nodup/\∀i∈L,(fq Γ scope)[i]?=some none:=by
 unfold kG at h;simp only[aE,dj,jq]at h;obtain⟨⟨⟨h1,h2⟩,h3⟩,h4⟩:=h;refine⟨?_,h2,h3,λi hi=>?_⟩
 ·unfold xB at h1;split at h1
  ·assumption
  ·cases h1
 ·have:=h4 i hi;split at this
  ·assumption
  ·cases this
theorem sE(G:GOk Γ X)(h:kG Γ scope L=true):gp X (kF scope) (fq Γ scope) scope:=by
 obtain⟨h1,h2,h3,h4⟩:=kJ h;refine⟨h1,λy hy z=>?_,λy hy z=>?_,λy hy z=>?_,by unfold fq;rw[aH],λi j x hl hx=>?_⟩
 ·have:=h2 y hy;rw[z]at this;cases this
 ·have:=h2 y hy;rw[z]at this;simp only at this;split at this
  ·assumption
  ·cases this
 ·have:=h2 y hy;rw[z]at this;simp only at this;show X.env.scope.names.lookup y.1=_\/X.env.scope.names.lookup y.1=_;rw[G.names];split at this
  ·exact .inl (by assumption)
  ·exact .inr (by assumption)
  ·cases this
 ·unfold fq at hl;rw[cf,hx]at hl;have hl:(match scope.names.lookup x with | some .free=>slot Γ x | _=>none)=some j:=bo hl
  split at hl
  ·exact⟨G.ib hl,by assumption⟩
  ·cases hl
theorem zS(G:GOk Γ X)(h:kG Γ scope L=true)(C:ab)(s:au)(H:Hp)(fp:List ab):GOk (pz Γ scope) (cH X (kF scope) scope C s H fp) where
 names:=by
  show(relabel scope X.env).names=CG Γ scope;have e:∀n,X.env.kindOf n=Γ.sc.lookup n:=λn=>by show X.env.scope.names.lookup n=_;rw[G.names]
  unfold CG relabel;simp only[G.kind,e]
  congr 1
  funext y
  obtain⟨n,k⟩:=y;simp
 N:=rfl
 nd:=(kJ h).2.2.1
 kind:=by
  show(relabel scope X.env).kind=_;exact(kJ h).1
 calm:=G.calm
 hd:=G.hd
 un:=G.un
 own:=λz=>by cases z
 fns:=G.fns
 cons:=G.cons
 df:=G.df
 excs:=G.excs
 subs:=G.subs
 tabs:=G.tabs
 mh:=⟨G.mh.pY,G.mh.ns,G.mh.cls,G.mh.eK,λz=>by cases z⟩
end
theorem Kt:Zu 0 where
 e:=λ_ _ _ _ _ h=>by cases h
 q:=λ_ _ _ _ _ h=>by cases h
 sp:=λ_ _ _ _ _ _ _ _ _ h=>by cases h
 ob:=λ_ _ _ _ _ h=>by cases h
 t:=λ_ _ _ _ _ h=>by cases h
 b:=λ_ _ _ _ _ _ _ h=>by cases h
 w:=λ_ _ _ _ _ _ _ h=>by cases h
 a:=λ_ _ _ _ _ h=>by cases h
 o:=λ_ _ _ _ _ h=>by cases h
 is:=λ_ _ _ _ _ _ _ h=>by cases h
 i:=λ_ _ _ _ _ _ h=>by cases h
 c:=λ_ _ _ _ _ _ _ _ _ h=>by cases h
section
variable {n:Nat} (S:Zu n)
include S
theorem Xy(Γ:Gm)(X:Cx)(op:BoolOp)(vs:List aj)(f:FE)(pos:Pos)(G:GOk Γ X)(h:Ko (n+1) Γ op vs=some f)(H₀ aa:Hp):PE X (.BoolOp op vs pos) (tE X.K H₀ aa f):=by
 match op,vs,h with
 | op,[a],h=>exact Q8 (S.e Γ X a f G h H₀ aa)
 | .And,a::b::r,h =>
  obtain⟨fa,h1,h⟩:=ao h;obtain⟨fb,h2,rfl⟩:=aq h;exact Wd (S.e Γ X a fa G h1 H₀ aa) (S.b Γ X .And (b::r) fb pos G h2 H₀ aa)
 | .Or,a::b::r,h =>
  obtain⟨fa,h1,h⟩:=ao h;obtain⟨fb,h2,rfl⟩:=aq h;exact WD (S.e Γ X a fa G h1 H₀ aa) (S.b Γ X .Or (b::r) fb pos G h2 H₀ aa)
theorem Xz(Γ:Gm)(X:Cx)(op:BoolOp)(vs:List aj)(f:eR)(pos:Pos)(G:GOk Γ X)(h:Kr (n+1) Γ op vs=some f)(H₀ aa:Hp):PW X (.BoolOp op vs pos) (tT X.K H₀ aa f):=by
 match op,vs,h with
 | .And,[a],h=>exact RW (S.t Γ X a f G h H₀ aa)
 | .Or,[a],h=>exact Wa (S.t Γ X a f G h H₀ aa)
 | .And,a::b::r,h =>
  obtain⟨fa,h1,h⟩:=ao h;obtain⟨fb,h2,rfl⟩:=aq h;exact Wb (S.t Γ X a fa G h1 H₀ aa) (S.w Γ X .And (b::r) fb pos G h2 H₀ aa)
 | .Or,a::b::r,h =>
  obtain⟨fa,h1,h⟩:=ao h;obtain⟨fb,h2,rfl⟩:=aq h;exact abu (S.t Γ X a fa G h1 H₀ aa) (S.w Γ X .Or (b::r) fb pos G h2 H₀ aa)
theorem XA(Γ:Gm)(X:Cx)(es:List aj)(f:bG)(G:GOk Γ X)(h:ja (n+1) Γ es=some f):(∀H₀ aa,PA X es (tA X.K H₀ aa f))/\es.all bZ=true:=by
 match es,h with
 | [],h =>
  cases h;exact⟨λ_ _=>uW,rfl⟩
 | e::es,h =>
  obtain⟨hp,h⟩:=aw h;obtain⟨fa,h1,h⟩:=ao h;obtain⟨fb,h2,rfl⟩:=aq h;obtain⟨k1,k2⟩:=S.a Γ X es fb G h2;exact⟨λH₀ aa=>om (S.e Γ X e fa G h1 H₀ aa) (k1 H₀ aa) (aN hp _ _),by rw[fR,hp,k2];rfl⟩
theorem XB(Γ:Gm)(X:Cx)(e:Option aj)(f:FO)(G:GOk Γ X)(h:Gs (n+1) Γ e=some f)(H₀ aa:Hp):PO X e (zl X.K H₀ aa f):=by
 match e,h with
 | none,h=>cases h;exact Jh
 | some e,h =>
  obtain⟨fa,h1,rfl⟩:=aq h;exact Ji (S.e Γ X e fa G h1 H₀ aa)
theorem TU(Γ:Gm)(X:Cx)(es:List aj)(f:FE)(p pos:Pos)(G:GOk Γ X)(h:Kq (n+1) Γ es=some f)(hg:pZ Γ "isinstance"=true)(hb:Γ.df.contains "isinstance"=true)(hp:es.all bZ=true)(H₀ aa:Hp):PE X (.Call (.Name "isinstance" p) es [] pos) (tE X.K H₀ aa f):=by
 rcases es with _ | ⟨a,_ | ⟨b,_ | ⟨c,r⟩⟩⟩
 ·cases h
 ·cases h
 ·cases b<;>first | (cases h;done) | skip
  rename_i t p2;obtain⟨hc,h⟩:=aw h;obtain⟨g,h1,h⟩:=ao h;obtain⟨fa,h2,rfl⟩:=aq h;simp only[aE]at hc;rw[fR,aE]at hp;exact abL h1 (G.gL hg) (G.df _ hb) (G.gL hc.1.2) (G.df _ hc.2) (S.e Γ X a fa G h2 H₀ aa) λes=>aN hp.1 es _
 ·cases b<;>cases h
theorem XC(Γ:Gm)(X:Cx)(elt tg iter:aj)(ifs:List aj)(scope:Scope)(f:bG)(G:GOk Γ X)(h:Kp (n+1) Γ elt tg iter ifs scope=some f):(∀H₀ aa pos,PE X (.ListComp elt [⟨tg,iter,ifs,0⟩] scope pos) (tF X.K H₀ aa f)) /\
  ∀H₀ aa i x pos eY ug,X.N[i]?=some x->X.env.scope.names.lookup x=some .local->swapsWith (.ListComp elt [⟨tg,iter,ifs,0⟩] scope pos) (some (.Name x eY)) ug.line X.env=pure true ->
   ∃t:TE,(∀σ H Q,tF X.K H₀ aa f σ H Q->t σ H Q)/\PS X (.Assign [.Name x eY] (.ListComp elt [⟨tg,iter,ifs,0⟩] scope pos) ug) (lh t (gName i)):=by
 obtain⟨hp,h⟩:=aw h;obtain⟨fi,h1,h⟩:=ao h;obtain⟨g,h2,h⟩:=ao h;obtain⟨hc,h⟩:=aw h;have SC:=sE G hc;have hL:=(kJ hc).2.2.2;have GK:=zS G hc;obtain⟨i1,i2⟩:=S.i Γ X tg iter fi G h1;have hg:∀(C:ab) (s:au) (H:Hp) (fp:List ab) (H₀ aa:Hp),PG (cH X (kF scope) scope C s H fp) tg (tG X.K H₀ aa g.1):=λC s H fp H₀ aa=>(jC (GK C s H fp) n tg g h2).1 H₀ aa
 have kg:KG g.2 g.1:=(jC (GK 0 X.s₀ X.H₀ []) n tg g h2).2.1
 match ifs,h with
 | [],h =>
  obtain⟨fe,h3,rfl⟩:=aq h;have he:∀(C:ab) (s:au) (H:Hp) (fp:List ab) (H₀ aa:Hp),PE (cH X (kF scope) scope C s H fp) elt (tE X.K H₀ aa fe):=λC s H fp H₀ aa=>S.e _ _ elt fe (GK C s H fp) h3 H₀ aa
  refine⟨λH₀ aa pos=>Sd G.calm SC (i1 H₀ aa) kg hL hg he i2,λH₀ aa i x pos eY ug hx hl hw=>⟨_,λσ H Q h=>ky kg hL h,wO G.calm G.nd hx hl SC (i1 H₀ aa) (λC s H fp=>rE λb:Hp×Hp=>rD (hg C s H fp b.1 b.2) (he C s H fp b.1 b.2)) hw i2⟩⟩
 | [c],h =>
  obtain⟨ft,h4,h⟩:=ao h;obtain⟨fe,h3,rfl⟩:=aq h;have he:∀(C:ab) (s:au) (H:Hp) (fp:List ab) (H₀ aa:Hp),PE (cH X (kF scope) scope C s H fp) elt (tE X.K H₀ aa fe):=λC s H fp H₀ aa=>S.e _ _ elt fe (GK C s H fp) h3 H₀ aa
  have ht:∀(C:ab) (s:au) (H:Hp) (fp:List ab) (H₀ aa:Hp),PT (cH X (kF scope) scope C s H fp) c (tT X.K H₀ aa ft):=λC s H fp H₀ aa=>S.t _ _ c ft (GK C s H fp) h4 H₀ aa
  refine⟨λH₀ aa pos=>M7 G.calm SC (i1 H₀ aa) kg hL hg ht he i2,λH₀ aa i x pos eY ug hx hl hw=>⟨_,λσ H Q h=>lB kg hL h,wO G.calm G.nd hx hl SC (i1 H₀ aa) (λC s H fp=>rE λb:Hp×Hp=>DQ (hg C s H fp b.1 b.2) (ht C s H fp b.1 b.2) (he C s H fp b.1 b.2)) hw i2⟩⟩
theorem XD(Γ:Gm)(X:Cx)(e:aj)(f:eR)(G:GOk Γ X)(h:um (n+1) Γ e=some f)(H₀ aa:Hp):PT X e (tT X.K H₀ aa f):=by
 unfold um at h;split at h
 ·obtain⟨fa,h1,rfl⟩:=aq h;exact Wc (S.t Γ X _ fa G h1 H₀ aa)
 ·exact(S.w Γ X _ _ f _ G h H₀ aa).pt
 ·split at h
  ·rename_i i hi;obtain⟨q,h1,h⟩:=ao h;obtain⟨fk,h2,rfl⟩:=aq h;obtain⟨y,yp,rfl,hy⟩:=zR G hi;exact Xo h1 (by have:=G.un;lia) (S.e Γ X _ fk G h2 H₀ aa) (hy yp)
  obtain⟨hp,h⟩:=aw h;obtain⟨g,h1,h⟩:=ao h;obtain⟨fa,h2,h⟩:=ao h;obtain⟨fb,h3,rfl⟩:=aq h;exact V8 (kW G.un h1) mP (S.e Γ X _ fa G h2 H₀ aa) (S.e Γ X _ fb G h3 H₀ aa) (iC hp _)
 ·obtain⟨hp,h⟩:=aw h;obtain⟨g,h1,h⟩:=ao h;obtain⟨g',Wl,h⟩:=ao h;obtain⟨fa,h2,h⟩:=ao h;obtain⟨fb,h3,h⟩:=ao h;obtain⟨fc,h4,rfl⟩:=aq h;exact MV (kW G.un h1) mP (kW G.un Wl) mP (S.e Γ X _ fa G h2 H₀ aa) (S.e Γ X _ fb G h3 H₀ aa) (S.e Γ X _ fc G h4 H₀ aa) (iC hp _)
 ·obtain⟨hp,h⟩:=aw h;obtain⟨fa,h1,rfl⟩:=aq h;exact V9 (S.e Γ X _ fa G h1 H₀ aa) λiy=>Kk hp _ iy
end
theorem xG{args:Arguments}{xa:Str×Pos}(h:xC args=some xa):args=oneArg xa.1 xa.2:=by
 unfold xC at h;split at h
 ·cases h;rfl
 ·cases h
theorem Ku{scope:Scope}{i:Nat}{y:Str}(h:(xD scope)[i]?=some y):(y,NameKind.free)∈scope.names:=by
 have hm:=cP h;unfold xD at hm;obtain⟨z,hz,rfl⟩:=bt.mp hm;obtain⟨h1,h2⟩:=Bq.mp hz;obtain⟨n,k⟩:=z;cases k<;>first | exact h1 | cases h2
theorem Gu{k:Option NameKind}(h:isFree k=true):k=some .free:=by
 unfold isFree at h;split at h
 ·rfl
 ·cases h
theorem Gv{Γ:Gm}{X:Cx}{x:Str}{scope:Scope}(G:GOk Γ X)(h:Km Γ x scope=true):sj X x (xD scope) (qp Γ scope) scope/\(x::xD scope).Nodup:=by
 unfold Km at h;simp only[aE]at h;obtain⟨⟨⟨⟨⟨h1,h2⟩,h3⟩,h4⟩,h5⟩,h6⟩:=h;have hall:=dj.mp h5;refine⟨⟨?_,by simpa using h2,by simpa using h3,?_,λy hy z=>?_,λy hy z=>?_,?_,λi j y e1 e2=>?_⟩,nS h6⟩
 ·unfold xB at h1;split at h1
  ·assumption
  ·cases h1
 ·split at h4
  ·assumption
  ·cases h4
 ·have:=hall y hy;rw[z]at this;cases this
 ·have:=hall y hy;rw[z]at this;simp only[aE]at this;have hk:X.env.kindOf y.1=Γ.sc.lookup y.1:=by show X.env.scope.names.lookup y.1=_;rw[G.names]
  rw[hk];have t:=this.1;split at t
  ·rename_i q;exact .inl q
  ·rename_i q;exact .inr q
  ·cases t
 ·unfold qp;rw[aH]
 ·have hm:=Ku e2;have:=hall _ hm;simp only[aE]at this;refine⟨?_,Gu this.2⟩;unfold qp at e1;rw[cf,e2]at e1;exact G.ib (bo e1)
theorem Oh{Γ:Gm}{X:Cx}{x:Str}{scope:Scope}{k:Nat}(G:GOk Γ X)(hk:scope.kind=.function)(hn:(x::xD scope).Nodup)
  (hf:∀y n,Γ.fns.lookup y=some n->∃j f fd ps,j<=k/\FnOk X.prog X.w X.K X.mg X.base (ji X.prog X.w) j f fd ps (zc X.K n (Γ.call y))/\X.mg y=some (.ref f)/\W.keepIn X.K (.ref f)=true/\dS X.K fd ps [])
  (ho:∀y n,Γ.pY.lookup y=some n->∃j f fd ps,j<=k/\FnOk X.prog X.w X.K X.mg X.base (ji X.prog X.w) j f fd ps (Qa X.K n (Γ.kq y))/\X.mg y=some (.ref f)/\W.keepIn X.K (.ref f)=true/\dS X.K fd ps [])
  {qual:Str} {fa:ab} {cU:ag} {cl:List (Str×ab)} {A:bA} {stack:List Env} {s:au} {H:Hp} {E:XK} (hr:dg k (A.deeper (W.envX qual scope s.heap.objs.size fa cU cl))) :
  GOk (Xx Γ x scope) (UM (ji X.prog X.w) X.prog X.w X.K X.mg X.base (x::xD scope) qual scope fa cU cl A stack s H E) where
 names:=rfl
 N:=rfl
 nd:=hn
 kind:=hk
 calm:=rfl
 hd:=hr.hd
 un:=by
  have:=hr.un;show(A.deeper _).units+1150<cLine
  lia
 own:=λz=>by cases z
 fns:=λy n e=>let ⟨j,f,fd,ps,h1,h2,h3,h4,h5⟩:=hf y n e;⟨j,f,fd,ps,h2,hr.mono h1,h3,h4,h5⟩
 cons:=G.cons
 df:=G.df
 excs:=G.excs
 subs:=G.subs
 tabs:=G.tabs
 mh:=⟨λy n e=>let ⟨j,f,fd,ps,h1,h2,h3,h4,h5⟩:=ho y n e;⟨j,f,fd,ps,h2,hr.mono h1,h3,h4,h5⟩,G.mh.ns,(λC n e=>by cases e),G.mh.eK,(λz=>by cases z)⟩
theorem dA{α:Type}{f:α}{C:Prop}(h:(none:Option α)=some f):C:=by cases h
theorem orQ{b:Bool}{q r:Option FE}{f:FE}(h:(match(match b with | true=>q | false=>none)with | some f=>some f | none=>r)=some f):q=some f\/r=some f:=by
 cases b
 ·exact .inr h
 ·cases q
  ·exact .inr h
  ·exact .inl h
section
variable {n:Nat} (S:Zu n)
include S
set_option maxHeartbeats 4000000 in
theorem XE(Γ:Gm)(X:Cx)(e:aj)(f:FE)(G:GOk Γ X)(h:cn (n+1) Γ e=some f)(H₀ aa:Hp):PE X e (tE X.K H₀ aa f):=by
 replace h:=orQ h;rcases h with hq | h
 ·exact S.q Γ X _ f G hq H₀ aa
 cases e<;>try exact dA h
 case BoolOp op vs p =>
  dsimp only at h
  exact S.b Γ X _ _ f _ G h H₀ aa
 case BinOp a op b p =>
  dsimp only at h
  obtain⟨g,h1,h⟩:=ao h;obtain⟨fa,h2,h⟩:=ao h;obtain⟨fb,h3,rfl⟩:=aq h;exact V6 (Nh h1) mP (S.e Γ X _ fa G h2 H₀ aa) (S.e Γ X _ fb G h3 H₀ aa)
 case UnaryOp op a p =>
  cases op<;>first | exact dA h | dsimp only at h
  ·obtain⟨fa,h1,rfl⟩:=aq h;exact We (S.e Γ X _ fa G h1 H₀ aa)
  ·obtain⟨fa,h1,rfl⟩:=aq h;exact PU (S.e Γ X _ fa G h1 H₀ aa)
 case IfExp c a b p =>
  dsimp only at h
  obtain⟨gc,h1,h⟩:=ao h;obtain⟨fa,h2,h⟩:=ao h;obtain⟨fb,h3,rfl⟩:=aq h;exact abv (S.t Γ X _ gc G h1 H₀ aa) (S.e Γ X _ fa G h2 H₀ aa) (S.e Γ X _ fb G h3 H₀ aa)
 case Compare a ops bs p =>
  rcases ops with _ | ⟨op,_ | ⟨op2,_ | ⟨op3,r⟩⟩⟩<;>rcases bs with _ | ⟨b,_ | ⟨c,_ | ⟨d,r2⟩⟩⟩<;>first | exact dA h | dsimp only at h
  ·obtain⟨hp,h⟩:=aw h;obtain⟨g,h1,h⟩:=ao h;obtain⟨fa,h2,h⟩:=ao h;obtain⟨fb,h3,rfl⟩:=aq h;exact V7 (kW G.un h1) mP (S.e Γ X _ fa G h2 H₀ aa) (S.e Γ X _ fb G h3 H₀ aa) (iC hp _)
  ·obtain⟨hp,h⟩:=aw h;obtain⟨g,h1,h⟩:=ao h;obtain⟨g',Wl,h⟩:=ao h;obtain⟨fa,h2,h⟩:=ao h;obtain⟨fb,h3,h⟩:=ao h;obtain⟨fc,h4,rfl⟩:=aq h;exact MU (kW G.un h1) mP (kW G.un Wl) mP (S.e Γ X _ fa G h2 H₀ aa) (S.e Γ X _ fb G h3 H₀ aa) (S.e Γ X _ fc G h4 H₀ aa) (iC hp _)
 case Call fn args zT p =>
  cases fn<;>try exact dA h
  case Name x px =>
   rcases args with _ | ⟨a,es⟩<;>rcases zT with _ | ⟨kw,zT⟩<;>first | exact dA h | dsimp only at h
   obtain⟨hc,h⟩:=aw h;simp only[aE]at hc;obtain⟨⟨hn,hg⟩,hp⟩:=hc;obtain⟨n1,n2,n3⟩:=cR hn;have pT:=hp;rw[fR,aE]at pT;split at h
   ·rename_i m hm;obtain⟨ts,h1,rfl⟩:=aq h;obtain⟨k,fa,fd,ps,F,hr,q1,q2,q3⟩:=G.fns _ m hm;exact RY F hr (G.gL hg) q1 q2 q3 ((S.a Γ X _ ts G h1).1 H₀ aa) n1 (aN pT.1 _ _) (cY pT.2 _ _)
   ·obtain⟨hb,h5⟩:=aw h;clear h;split at h5
    ·rename_i ex;have ex:=bD ex;subst ex;exact S.is Γ X _ f _ _ G h5 hg hb hp H₀ aa
    split at h5
    ·rename_i z l hz;obtain⟨hc,h6⟩:=aw h5;clear h5;rw[aE]at hc;obtain⟨rfl,rfl,p1,lp,acA,he⟩:=xx hz;cases he;obtain⟨ts,h1,rfl⟩:=aq h6;exact SX G.hd (G.gL hg) (G.df _ hb) (G.gL hc.1) (G.df _ hc.2) ((S.a Γ X _ ts G h1).1 H₀ aa)
    split at h5
    ·rename_i z b bs hz;obtain⟨hc,h6⟩:=aw h5;clear h5;simp only[aE]at hc;obtain⟨⟨z1,z2⟩,z3⟩:=hc;obtain⟨rfl,rfl,p1,acA,he⟩:=xA hz;cases he;obtain⟨ts,h1,rfl⟩:=aq h6;rw[fR,aE]at z3;exact DK (WX G.hd (G.gL hg) (G.df _ hb) (G.gL z1) (G.df _ z2) ((S.a Γ X _ ts G h1).1 H₀ aa) (aN z3.1 _ _) (cY z3.2 _ _))
    ·obtain⟨g,h1,h⟩:=ao h5;obtain⟨ts,h2,rfl⟩:=aq h;refine Of ?_;exact TR h1 G.calm G.hd (G.gL hg) (G.df _ hb) ((S.a Γ X _ ts G h2).1 H₀ aa) (aN pT.1 _ _) (cY pT.2 _ _)
  case Subscript te ke px =>
   cases te<;>try exact dA h
   rename_i T pt;rcases args with _ | ⟨a,es⟩<;>rcases zT with _ | ⟨kw,zT⟩<;>first | exact dA h | dsimp only at h
   obtain⟨hc,h⟩:=aw h;simp only[aE]at hc;obtain⟨⟨⟨hn,hg⟩,hk⟩,hp⟩:=hc;obtain⟨n1,n2,n3⟩:=cR hn;have pT:=hp;rw[fR,aE]at pT;obtain⟨rows,h1,h⟩:=ao h;obtain⟨fk,h2,h⟩:=ao h;obtain⟨ts,h3,rfl⟩:=aq h;exact Ww (G.tabs _ rows h1) G.fns (G.gL hg) (S.e Γ X _ fk G h2 H₀ aa) (gC hk) ((S.a Γ X _ ts G h3).1 H₀ aa) n1 (aN pT.1 _ _) (cY pT.2 _ _)
 case Constant c k p =>
  cases c<;>first | exact dA h | dsimp only at h
  ·cases h;exact V4
  ·cases h;exact abt
  ·cases h;exact PD
  ·cases h;exact V5
 case Subscript a b p =>
  dsimp only at h
  split at h
  ·rename_i lo hi hs;obtain⟨ps,rfl⟩:=xE hs;obtain⟨fa,h1,h⟩:=ao h;obtain⟨fl,h2,h⟩:=ao h;obtain⟨fh,h3,rfl⟩:=aq h;exact PR (S.e Γ X _ fa G h1 H₀ aa) (S.o Γ X _ fl G h2 H₀ aa) (S.o Γ X _ fh G h3 H₀ aa)
  ·
   obtain⟨hp,h⟩:=aw h;obtain⟨fa,h2,h⟩:=ao h;obtain⟨fb,h3,rfl⟩:=aq h;exact Wu (S.e Γ X _ fa G h2 H₀ aa) (S.e Γ X _ fb G h3 H₀ aa) (gC hp)
 case Name x p =>
  dsimp only at h
  obtain⟨hn,h⟩:=aw h;obtain⟨n1,n2,n3⟩:=cR hn;split at h
  ·rename_i hv;obtain⟨i,h1,rfl⟩:=aq h;exact uV i (pe_var (G.ib h1) (G.CC hv) n1 n2)
  ·obtain⟨hg,h⟩:=aw h;obtain⟨p,h1,rfl⟩:=aq h;obtain⟨u,v,g1,g2,g3⟩:=G.cons _ p h1;exact za (mH (G.gL hg) g1 g2 n1) g3
 case List es p =>
  dsimp only at h
  obtain⟨ts,h1,rfl⟩:=aq h;exact DK (DL ((S.a Γ X _ ts G h1).1 H₀ aa))
 case Tuple es k p =>
  dsimp only at h
  obtain⟨ts,h1,rfl⟩:=aq h;exact PF ((S.a Γ X _ ts G h1).1 H₀ aa)
 case ListComp elt gens scope p =>
  rcases gens with _ | ⟨⟨tg,iter,ifs,(_ | k) | k⟩,_ | ⟨g2,r⟩⟩<;>first | exact dA h | change Option.map cB (Kp n Γ elt tg iter ifs scope)=some f at h
  obtain⟨fc,h1,rfl⟩:=aq h;exact DK ((S.c Γ X _ _ _ _ _ fc G h1).1 H₀ aa _)
theorem TV(Γ:Gm)(X:Cx)(e:aj)(f:Cr)(G:GOk Γ X)(h:sy (n+1) Γ e=some f)(H₀ aa:Hp):PE X e (tO X.K H₀ aa f):=by
 unfold sy at h;split at h
 ·obtain⟨hc,h⟩:=aw h;simp only[aE]at hc;obtain⟨i,h1,rfl⟩:=aq h;obtain⟨n1,n2,n3⟩:=cR hc.1.1;exact P9 i (pe_var (G.ib h1) (G.CC hc.1.2) n1 n2)
 ·obtain⟨hc,h⟩:=aw h;simp only[aE]at hc;obtain⟨⟨hn,hg⟩,hp⟩:=hc;obtain⟨n1,n2,n3⟩:=cR hn;have pT:=hp;rw[fR,aE]at pT;obtain⟨m,hm,h⟩:=ao h;obtain⟨ts,h1,rfl⟩:=aq h;obtain⟨k,Ca,fa,fd,ps,M,c,no,F,hr,q1,q2⟩:=G.mh.cls _ m hm;exact S5 M c no F hr (G.gL hg) q1 q2 ((S.a Γ X _ ts G h1).1 H₀ aa) n1 (aN pT.1 _ _) (cY pT.2 _ _)
 ·obtain⟨hc,h⟩:=aw h;simp only[aE]at hc;obtain⟨⟨hn,hg⟩,hk⟩:=hc;obtain⟨rows,h1,h⟩:=ao h;obtain⟨fk,h2,rfl⟩:=aq h;exact W5 (G.tabs _ rows h1) (G.gL hg) (S.e Γ X _ fk G h2 H₀ aa) (gC hk) (cR hn).1
 ·cases h
theorem TX(Γ:Gm)(X:Cx)(x:Str)(a:aj)(es:List aj)(f:FE)(p pos:Pos)(G:GOk Γ X)(h:Ep (n+1) Γ x a es=some f)(H₀ aa:Hp):PE X (.Call (.Name x p) (a::es) [] pos) (tE X.K H₀ aa f):=by
 unfold Ep at h;split at h
 ·rename_i args body scope lp;obtain⟨hc,g⟩:=aw h;clear h;simp only[aE]at hc;obtain⟨⟨⟨c1,c2⟩,c3⟩,c4⟩:=hc;obtain rfl:=bD c1;obtain⟨xa,h1,g⟩:=ao g;obtain⟨c5,g⟩:=aw g;obtain⟨fe,h2,g⟩:=ao g;obtain⟨fb,h3,rfl⟩:=aq g;obtain rfl:=xG h1;obtain⟨S1,Ct⟩:=Gv G c5;obtain⟨⟨p',q',fs,fT,JM,Eb,k,D,hr,hf,ho⟩,L⟩:=G.mh.xq c3;exact DK (JN D L (G.gL c2) hr (S.e Γ X _ fe G h2 H₀ aa) (aN c4 _ _) S1 λqual fa cU cl A stack s H NZ fj Zm=>S.e _ _ _ fb (Oh G S1.kind Ct hf ho Zm) h3 NZ fj)
 ·obtain⟨hc,g⟩:=aw h;simp only[aE]at hc;obtain⟨⟨c1,c2⟩,c3⟩:=hc;obtain rfl:=bD c1;split at g
  ·rename_i i hi;cases g;obtain⟨y,yp,rfl,hy⟩:=zR G hi;exact Tw (G.gL c2) (G.df _ c3) (hy yp)
  ·obtain⟨⟨z,e⟩,hz,g⟩:=ao g;obtain⟨hd,g⟩:=aw g;simp only[aE]at hd;obtain⟨⟨⟨d1,d2⟩,d3⟩,d4⟩:=hd;obtain rfl:=bD d1;obtain⟨fe,h1,rfl⟩:=aq g;obtain⟨zp,rN,rfl⟩:=zQ hz;exact TL G.hd (by have:=G.un;lia) (G.gL c2) (G.df _ c3) (G.gL d2) (G.df _ d3) (S.e Γ X _ fe G h1 H₀ aa) (aN d4 _ _)
 ·cases h
theorem XF(Γ:Gm)(X:Cx)(e:aj)(f:FE)(G:GOk Γ X)(h:Og (n+1) Γ e=some f)(H₀ aa:Hp):PE X e (tE X.K H₀ aa f):=by
 unfold Og at h;split at h
 ·obtain⟨fo,h1,rfl⟩:=aq h;exact WZ (S.ob Γ X _ fo G h1 H₀ aa) rfl
 ·obtain⟨hc,h⟩:=aw h;rw[aE]at hc;obtain⟨fo,h1,rfl⟩:=aq h;obtain rfl:=bD hc.1;exact Xv (S.e Γ X _ fo G h1 H₀ aa) rfl hc.2
 ·split at h
  ·rename_i f0 lz;cases h;exact S.sp Γ X _ _ _ _ _ _ G lz H₀ aa
  ·rename_i acB;clear acB;obtain⟨hc,h⟩:=aw h;rw[aE]at hc;obtain⟨hn,hp⟩:=hc;obtain⟨n1,n2,n3⟩:=cR hn;have pT:=hp;rw[fR,aE]at pT;obtain⟨fo,h1,h⟩:=ao h;obtain⟨ts,h2,h⟩:=ao h;split at h
   ·rename_i hg;obtain⟨m,hm,rfl⟩:=aq h;obtain⟨k,fa,fd,ps,F,hr,q1,q2,q3⟩:=G.mh.pY _ m hm;exact JE F hr (G.gL hg) q1 q2 q3 (S.ob Γ X _ fo G h1 H₀ aa) ((S.a Γ X _ ts G h2).1 H₀ aa) n1 (aN pT.1 _ _) (cY pT.2 _ _)
   ·obtain⟨hv,h⟩:=aw h;rw[aE]at hv;obtain⟨i,hi,rfl⟩:=aq h;exact NL i (pe_var (G.ib hi) (G.CC hv.1) n1 n2) G.mh.pY G.mh.ns (S.ob Γ X _ fo G h1 H₀ aa) ((S.a Γ X _ ts G h2).1 H₀ aa) (aN pT.1 _ _) (cY pT.2 _ _)
 ·obtain⟨hc,h⟩:=aw h;simp only[aE]at hc;obtain⟨⟨⟨hn,hg⟩,hk⟩,hp⟩:=hc;obtain⟨n1,n2,n3⟩:=cR hn;have pT:=hp;rw[fR,aE]at pT;obtain⟨rows,h1,h⟩:=ao h;obtain⟨fk,h2,h⟩:=ao h;obtain⟨fo,h3,h⟩:=ao h;obtain⟨ts,h4,rfl⟩:=aq h;exact S2 (G.tabs _ rows h1) G.mh.pY (G.gL hg) (S.e Γ X _ fk G h2 H₀ aa) (gC hk) (S.ob Γ X _ fo G h3 H₀ aa) ((S.a Γ X _ ts G h4).1 H₀ aa) n1 (aN pT.1 _ _) (cY pT.2 _ _)
 ·obtain⟨hc,h⟩:=aw h;rw[aE]at hc;obtain⟨hn,hk⟩:=hc;obtain⟨n1,n2,n3⟩:=cR hn;split at h
  ·rename_i hg;obtain⟨rows,h1,h⟩:=ao h;obtain⟨fk,h2,rfl⟩:=aq h;exact W3 (G.mh.eK _ rows h1) (G.gL hg) (S.e Γ X _ fk G h2 H₀ aa) (gC hk) n1
  ·split at h
   ·rename_i hv;rw[aE]at hv;obtain⟨i,h1,h⟩:=ao h;obtain⟨fk,h2,rfl⟩:=aq h;exact Ti (pe_var (G.ib h1) (G.CC hv.1) n1 n2) (S.e Γ X _ fk G h2 H₀ aa) (gC hk)
   ·obtain⟨hv,h⟩:=aw h;rw[aE]at hv;obtain⟨i,h1,h⟩:=ao h;obtain⟨fk,h2,rfl⟩:=aq h;exact JG (pe_var (G.ib h1) (G.CC hv.1) n1 n2) (S.e Γ X _ fk G h2 H₀ aa) (gC hk)
 ·cases h
theorem XG(Γ:Gm)(X:Cx)(tg e:aj)(f:bG)(G:GOk Γ X)(h:Ks (n+1) Γ tg e=some f):(∀H₀ aa,PI X tg e (tI X.K H₀ aa f))/\∀x,foldedSetIterable e X.env x=pure x:=by
 unfold Ks at h;split at h
 ·split at h
  ·rename_i hc;obtain⟨ts,h1,rfl⟩:=aq h;simp only[aE]at hc;obtain⟨⟨⟨hx,hg⟩,hb⟩,hp⟩:=hc;have hx:=bD hx;subst hx;exact⟨λH₀ aa=>M1 (G.gL hg) (G.df _ hb) ((S.a Γ X _ ts G h1).1 H₀ aa) (aN hp _ _),λ_=>rfl⟩
  ·split at h
   ·rename_i hc;obtain⟨fa,h1,rfl⟩:=aq h;simp only[aE]at hc;obtain⟨⟨⟨⟨hx,hg⟩,hb⟩,hp⟩,ht⟩:=hc;have hx:=bD hx;subst hx;exact⟨λH₀ aa=>abO ht (G.gL hg) (G.df _ hb) (S.e Γ X _ fa G h1 H₀ aa) (aN hp _ _),λ_=>rfl⟩
   obtain⟨fe,h1,rfl⟩:=aq h;exact⟨λH₀ aa=>DO (S.e Γ X _ fe G h1 H₀ aa),λ_=>rfl⟩
 ·split at h
  ·rename_i hc;obtain⟨ts,h1,rfl⟩:=aq h;simp only[aE]at hc;obtain⟨⟨⟨⟨hx,hg⟩,hb⟩,hp⟩,hp2⟩:=hc;have hx:=bD hx;subst hx;exact⟨λH₀ aa=>J5 (G.gL hg) (G.df _ hb) ((S.a Γ X _ ts G h1).1 H₀ aa) (by rw[aN hp,aN hp2];rfl) (aN hp2 _ _),λ_=>rfl⟩
  obtain⟨fe,h1,rfl⟩:=aq h;exact⟨λH₀ aa=>DO (S.e Γ X _ fe G h1 H₀ aa),λ_=>rfl⟩
 ·obtain⟨hp,h⟩:=aw h;obtain⟨fe,h1,rfl⟩:=aq h;exact⟨λH₀ aa=>DO (S.e Γ X _ fe G h1 H₀ aa),λx=>CB hp _ x⟩
end
theorem snd:∀n:Nat,Zu n
 | 0=>Kt
 | n+1 =>
  have S:=snd n
  ⟨XE S,XF S,TX S,TV S,XD S,Xy S,Xz S,XA S,XB S,TU S,XG S,XC S⟩
def Oi:PV->PV->bQ
 | .int i,.int j=>some (.int (i+j))
 | _,_=>none
def XH:PV->PV->bQ
 | .int i,.int j=>some (.int (i-j))
 | _,_=>none
def Kv:Operator->Option (PV->PV->bQ)
 | .Add=>some Oi
 | .Sub=>some XH
 | _=>none
noncomputable def el:Nat->List Str->aj->List Str
 | 0,_,_=>[]
 | n+1,M,e=>match e with
  | .Name x _=>if M.contains x then [x]else []
  | .BinOp a _ b _=>el n M a++el n M b
  | .UnaryOp _ a _=>el n M a
  | .BoolOp _ vs _=>vs.flatMap (el n M)
  | .Compare a _ bs _=>el n M a++bs.flatMap (el n M)
  | .IfExp c a b _=>el n M c++el n M a++el n M b
  | .Tuple es _ _=>es.flatMap (el n M)
  | .List es _=>es.flatMap (el n M)
  | .Subscript a b _=>el n M a++el n M b
  | .Slice lo hi _ _=>(lo.toList++hi.toList).flatMap (el n M)
  | .ListComp elt gens _ _=>el n M elt++gens.flatMap λg=>el n M g.iter++g.ifs.flatMap (el n M)
  | .Call (.Name l _) [.Name x _] [] _=>if l==("len":Str)then []else if M.contains x then [x]else []
  | .Call f args zT _=>el n M f++args.flatMap (el n M)++zT.flatMap λk=>el n M k.value
  | _=>[]
def fJ:Nat->List Str->aj->List Str
 | 0,_,_=>[]
 | n+1,M,e=>match e with
  | .Name x _=>if M.contains x then [x]else []
  | .BinOp a _ b _=>fJ n M a++fJ n M b
  | .UnaryOp _ a _=>fJ n M a
  | .BoolOp _ vs _=>vs.flatMap (fJ n M)
  | .Compare a _ bs _=>fJ n M a++bs.flatMap (fJ n M)
  | .IfExp c a b _=>fJ n M c++fJ n M a++fJ n M b
  | .Tuple es _ _=>es.flatMap (fJ n M)
  | .List es _=>es.flatMap (fJ n M)
  | .Subscript (.Name _ _) (.Slice lo hi st sp) _=>el n M e
  | .Subscript (.Name _ _) b _=>fJ n M b
  | .Subscript a b _=>fJ n M a++fJ n M b
  | .Slice lo hi _ _=>(lo.toList++hi.toList).flatMap (fJ n M)
  | .ListComp elt gens _ _=>el n M elt++gens.flatMap λg=>fJ n M g.iter++g.ifs.flatMap (el n M)
  | .Call (.Name l _) [.Name x _] [] _=>if l==("len":Str)then []else if M.contains x then [x]else []
  | .Call f args zT _=>fJ n M f++args.flatMap (fJ n M)++zT.flatMap λk=>fJ n M k.value
  | _=>[]
def cC(n:Nat)(Γ:Gm)(e:aj):List Nat:=(fJ n Γ.chg e).filterMap (slot Γ)
def ie(L:List Nat)(f:FS):FS:=match L with | []=>f | L=>zj L f
theorem d0{X:Cx}{st:ay}{H₀ aa:Hp}{f:FS}{L:List Nat}(h:PS X st (tS X H₀ aa f)):PS X st (tS X H₀ aa (ie L f)):=by
 cases L with
 | nil=>exact h
 | cons i L=>exact Wr (i::L) h
def CI(Γ:Gm)(g:eR):eR:=match Γ.chg with | []=>g | _=>mN g
theorem Kw{Γ:Gm}{X:Cx}{e:aj}{H₀ aa:Hp}{g:eR}(h:PT X e (tT X.K H₀ aa g)):PT X e (tT X.K H₀ aa (CI Γ g)):=by
 unfold CI;split
 ·exact h
 ·exact Wq h
def Er(Γ:Gm):aj->Option (Str×List aj×Nat)
 | .Call (.Name x _) (a::es) [] _=>if(b7 x&&pZ Γ x&&(a::es).all bZ)=true then(Γ.fns.lookup x).map λm=>(x,a::es,m)else none
 | _=>none
def Qr:aj->Option (aj×aj)
 | .BinOp a .Add b _=>some (a,b)
 | _=>none
def Qs:aj->Option (aj×Option aj×Option aj)
 | .Subscript a (.Slice lo hi none _) _=>some (a,lo,hi)
 | _=>none
def Qt(Γ:Gm):aj->Option aj
 | .Call (.Name x _) [a] [] _=>if(x==("list":Str)&&pZ Γ x&&Γ.df.contains x&&bZ a)=true then some a else none
 | _=>none
noncomputable def TY(n:Nat)(Γ:Gm)(e:aj):Option (aC->cg):=match Er Γ e with
 | some (x,es,m)=>(ja n Γ es).map λts=>rM (aX m (Γ.call x)) ts
 | none=>match Qr e with
  | some (a,b)=>(cn n Γ a).bind λfa=>(cn n Γ b).map λfb=>Nt fa fb
  | none=>match Qs e with
   | some (a,lo,hi)=>(cn n Γ a).bind λfa=>(Gs n Γ lo).bind λfl=>(Gs n Γ hi).map λfh=>NB fa fl fh
   | none=>match Qt Γ e with
    | some a=>(cn n Γ a).map SA
    | none=>(cn n Γ e).map Ce
def XI(Γ:Gm):aj->Bool
 | .Subscript (.Name y _) k _=>Γ.chg.contains y&&fX k&&Γ.chg.contains ("[thaw]":Str)
 | _=>false
noncomputable def XJ(n:Nat)(Γ:Gm):ay->Option FS
 | .Assign [.Name x _] (.Dict [] [] _) _=>if(Γ.Pe.contains x&&xt Γ x&&b7 x)=true then(slot Γ x).map Th else none
 | .Expr (.Call (.Attribute (.Name x _) m ap) [a,b] [] cp) _=>if(b7 x&&qc Γ x&&bZ a&&bZ b&&(ap.endLine==cp.line))=true then(slot Γ x).bind λi=>(cn n Γ a).bind λfa=>(cn n Γ b).bind λfb =>
   if(m==("setdefault":Str)&&Γ.Pe.contains x)=true then some (ie (cC n Γ a++cC n Γ b) (Tj i fa fb))else if m==("insert":Str)then some (ie (cC n Γ a++cC n Γ b) (gK i (af fa (af fb ar)) Tg))else none else none
 | .Expr (.Call (.Attribute (.Name x _) m ap) [] [] cp) _=>if(b7 x&&qc Γ x&&(ap.endLine==cp.line)&&m==("reverse":Str))=true then(slot Γ x).map λi=>Jb i Xg else none
 | _=>none
noncomputable def XM(n:Nat)(Γ:Gm)(x:Str):aj->Option FS
 | .ListComp (.List [] _) [⟨tg,.Name f _,[],0⟩] scope _=>if(Γ.Mb.contains x&&xt Γ x&&b7 f&&qc Γ f)=true then(slot Γ x).bind λi=>(slot Γ f).bind λj=>(p3 n (pz Γ scope) tg).bind λg=>if kG Γ scope g.2=true then some (JY (fq Γ scope) g.1 i j)else none else none
 | .Dict [] [] _=>if(Γ.dct.contains x&&xt Γ x)=true then(slot Γ x).map Gd else none
 | .Call (.Name f _) (a::es) [] _=>if(Γ.dct.contains x&&xt Γ x&&b7 f&&pZ Γ f&&(a::es).all bZ)=true then(slot Γ x).bind λi=>(Γ.fns.lookup f).bind λm=>(ja n Γ (a::es)).map λts=>Gq i (aX m (Γ.call f)) ts else none
 | _=>none
noncomputable def XN(n:Nat)(Γ:Gm):aj->Option FS
 | .Call (.Attribute (.Subscript (.Name x _) k _) m ap) [a] [] cp=>if(b7 x&&qc Γ x&&fX k&&bZ a&&(ap.endLine==cp.line)&&m==("append":Str)&&Γ.Mb.contains x)=true then(slot Γ x).bind λi=>(cn n Γ k).bind λfk=>(cn n Γ a).map λfa=>Tt i fk fa else none
 | _=>none
noncomputable def zU(n:Nat)(Γ:Gm):ay->Option FS
 | .Assign [.Name x _] e _=>if(Γ.He.contains x&&jB e&&xt Γ x&&b7 x)=true then(slot Γ x).bind λi=>(sy n Γ e).map λfo=>ie (cC n Γ e) (JH i fo)else none
 | _=>none
noncomputable def Es(n:Nat)(Γ:Gm):ay->Option FS
 | .Assign [.Name x _] e _=>XM n Γ x e
 | .Assign [.Subscript (.Name x _) k _] e _=>if(b7 x&&qc Γ x&&fX k&&jB e&&Γ.dct.contains x)=true then(slot Γ x).bind λi=>(cn n Γ k).bind λfk=>(cn n Γ e).map λfv=>Ge i fk fv else none
 | .Expr e _=>XN n Γ e
 | .Return (some (.Name x _)) _=>if(b7 x&&qc Γ x&&Γ.dct.contains x)=true then(slot Γ x).map Gp else none
 | _=>none
def XO:ay->Bool
 | .For (.Name _ _) (.Call _ _ _ _) _ _ _=>true
 | .Return (some (.Name _ _)) _=>true
 | _=>false
def Et(L:List Nat)(f:FS):FS:=match L with
 | []=>f
 | i::r=>Tu i (Et r f)
theorem Eu{X:Cx}{st:ay}{H₀ aa:Hp}{f:FS}(h:PS X st (tS X H₀ aa f)):∀L:List Nat,PS X st (tS X H₀ aa (Et L f))
 | []=>h
 | _::r=>Xl (Eu h r)
def Qu(Γ:Gm)(st:ay):List Nat:=match XO st with | true=>Γ.Mb.filterMap (slot Γ) | false=>[]
mutual
noncomputable def Oj:Nat->Gm->ay->Option FS
 | 0,_,_=>none
 | n+1,Γ,st=>some (Et (Qu Γ st) ((((Es n Γ st).or (zU n Γ st)).or (vo n Γ st)).getD λ_=>none))
noncomputable def vo:Nat->Gm->ay->Option FS
 | 0,_,_=>none
 | n+1,Γ,st=>match XJ n Γ st with | some f=>some f | none=>match st with
  | .Return none _=>some λ_=>some (.rt (.val .cE))
  | .Return (some (.Name x _)) _=>if(b7 x&&qc Γ x&&Γ.chg.contains x)=true then(slot Γ x).map oo else(cn n Γ (.Name x ⟨0,0,0,0⟩)).map cy
  | .Return (some e) _=>(cn n Γ e).map λf=>ie (cC n Γ e) (cy f)
  | .If c a b _=>(um n Γ c).bind λgc=>(er n Γ a).bind λf=>(er n Γ b).map λg=>jZ (CI Γ gc) f g
  | .Expr (.Call (.Attribute (.Name x _) m ap) [a] [] cp) _=>if(b7 x&&qc Γ x&&bZ a&&(ap.endLine==cp.line))=true then(slot Γ x).bind λi=>(ja n Γ [a]).bind λts =>
    (if m==("append":Str)then some (ie (cC n Γ a) (gK i ts rH))else if m==("extend":Str)then some (ie (cC n Γ a) (gK i ts l7))else none)else none
  | .Expr e _=>if jB e=true then(cn n Γ e).map λf=>ie (cC n Γ e) (o9 f)else none
  | .For tg iter body [] _=>(Ks n Γ tg iter).bind λfi=>(p3 n Γ tg).bind λg=>(er n Γ body).map λf=>ie (cC n Γ iter) (gA fi g.1 f)
  | .Assign [.Name x p] (.ListComp elt [⟨tg,iter,ifs,0⟩] scope cp) sp=>if(xt Γ x&&b7 x)=true then(slot Γ x).bind λi=>(Kp n Γ elt tg iter ifs scope).map λfc =>
    (if(Γ.chg.contains ("[thaw]":Str)&&!Γ.chg.contains x)=true then ck (cB (P7 fc)) (aD i)else ie (cC n Γ (.ListComp elt [⟨tg,iter,ifs,0⟩] scope cp)) (if Γ.chg.contains x then l6 i fc else ck (cB fc) (aD i)))else none
  | .Assign [.Name x p] (.List es lp) sp=>if(xt Γ x&&b7 x)=true then(slot Γ x).bind λi=>(ja n Γ es).map λts=>ie (cC n Γ (.List es lp)) (if Γ.chg.contains x then l6 i (dy ts)else ck (cB (dy ts)) (aD i))else none
  | .Assign [.Name x p] e sp=>if(jB e&&xt Γ x&&b7 x)=true then(slot Γ x).bind λi=>(if Γ.chg.contains x then(TY n Γ e).map λfo=>ie (cC n Γ e) (Js i fo)else(cn n Γ e).map λf=>if XI Γ e=true then ck (ot f) (aD i)else ie (cC n Γ e) (ck f (aD i)))else none
  | .AugAssign (.Name x p) op e sp=>if(xt Γ x&&b7 x)=true then(slot Γ x).bind λi=>(Kv op).bind λg=>(cn n Γ e).map λf=>ie (cC n Γ e) (ck (ak (rd i) f g) (aD i))else none
  | .Assign [.Tuple ts k tp] e sp=>if En e=true then(p3 n Γ (.Tuple ts k tp)).bind λg=>(cn n Γ e).map λf=>ie (cC n Γ e) (ck f g.1)else none
  | _=>none
noncomputable def er:Nat->Gm->List ay->Option FS
 | 0,_,_=>none
 | n+1,Γ,[]=>some λρ=>some (.nx ρ)
 | n+1,Γ,[st]=>Oj n Γ st
 | n+1,Γ,st::IS=>(Oj n Γ st).bind λf=>(er n Γ IS).map λg=>bq f g
end
structure Hf (Γ:Gm) (X:Cx):Prop extends GOk Γ X where
 never:PassesOwn (model X.prog X.w) X.A X.env X.xe
 stk:X.stack=X.env::X.outer/\X.env.frame=some X.env.locals
theorem xH{X:Cx}{a:aj}{cp:Pos}(h:bZ a=true):((backTo cp (starEach [a] X.env)).all (λx=>!x.1)&&(backToKw cp (keywordEach [] X.env)).all (λx=>x.1.isSome)
   && decide ([a].length+([]:List Keyword).length+(if([]:List Keyword).isEmpty then 0 else 1)<30))=true:=by
 rw[aN h];rfl
theorem Ew{X:Cx}{a b:aj}{cp:Pos}(h:bZ a=true)(h2:bZ b=true):((backTo cp (starEach [a,b] X.env)).all (λx=>!x.1)&&(backToKw cp (keywordEach [] X.env)).all (λx=>x.1.isSome)
   && decide ([a,b].length+([]:List Keyword).length+(if([]:List Keyword).isEmpty then 0 else 1)<30))=true:=by
 rw[aN h,aN h2];rfl
theorem zV{X:Cx}{b:aj}{cp:Pos}(h2:bZ b=true):(backTo cp (starEach [b] X.env)).any (·.1)=false:=by
 rw[aN h2];rfl
structure XQ (n:Nat):Prop where
 s:∀Γ X st f,Hf Γ X->Oj n Γ st=some f->∀H₀ aa,PS X st (tS X H₀ aa f)
 s0:∀Γ X st f,Hf Γ X->vo n Γ st=some f->∀H₀ aa,PS X st (tS X H₀ aa f)
 ss:∀Γ X st f,Hf Γ X->er n Γ st=some f->∀H₀ aa,PSs X st (tS X H₀ aa f)
theorem fK{Γ:Gm}{X:Cx}{x:Str}{p:Pos}{i:Nat}(G:GOk Γ X)(hn:b7 x=true)(hv:qc Γ x=true)(hs:slot Γ x=some i):PE X (.Name x p) (gR i) :=
 pe_var (G.ib hs) (G.CC hv) (cR hn).1 (cR hn).2.1
theorem Ol{X:Cx}{x:Str}{p sp:Pos}{e:aj}{op:Operator}{i:Nat}{H₀ aa:Hp}{fe:FE}{g:PV->PV->bQ}{h:Int->Int->Int}(hg:∀a b c,g a b=some c->∃i j,a=.int i/\b=.int j/\c=.int (h i j))(ho:OpR X (inplaceOp op) (BF λi j=>.int (h i j)))
  (he:PE X e (tE X.K H₀ aa fe)) (hN:X.N.Nodup) (hi:X.N[i]?=some x) (hx:Pf X.env.scope x) (hf:X.fn x=true\/X.env.scope.names.lookup x=some .local):PS X (.AugAssign (.Name x p) op e sp) (tS X H₀ aa (ck (ak (rd i) fe g) (aD i))):=by
 refine(H9 (ti:=BF λi j=>.int (h i j)) hN hi hx he (λae s σ H x y v u Q I r1 r2 t=>ho ae s σ H x y v u Q I r1 r2 t) hf).imp λD σ H hh=>?_
 obtain⟨F,ρ,o,R,hf,q⟩:=hh;obtain⟨c,h1,h2⟩:=ao hf;obtain⟨a,ha,h1⟩:=ao h1;obtain⟨b,hb,h1⟩:=ao h1;obtain⟨ia,jb,rfl,rfl,rfl⟩:=hg a b c h1;cases z:aD i (.int (h ia jb)) ρ with
 | none=>rw[z]at h2;cases h2
 | some eS =>
  rw[z]at h2;cases h2;obtain⟨hl,rfl⟩:=aB z;have hr:ρ[i]?=some (.val (.int ia)):=by
   unfold rd at ha;split at ha
   ·rename_i e;cases ha;exact e
   ·cases ha
  obtain⟨v,hv,bv⟩:=R.val i _ hr;rw[aG.mp bv]at hv;refine⟨.int ia,hv,F,ρ,.int jb,R,hb,λy H1 F1 R1 s1 b1=>⟨ia,jb,rfl,aG.mp b1,?_⟩⟩
  exact q F1 _ H1 (R1.set hl (aG.mpr rfl)) s1
theorem zW{Γ:Gm}{X:Cx}{x:Str}{p sp:Pos}{e:aj}{op:Operator}{i:Nat}{H₀ aa:Hp}{fe:FE}{g:PV->PV->bQ}{h:Int->Int->Int}(G:GOk Γ X)(hs:slot Γ x=some i)(hx:xt Γ x=true)(hg:∀a b c,g a b=some c->∃i j,a=.int i/\b=.int j/\c=.int (h i j))(ho:OpR X (inplaceOp op) (BF λi j=>.int (h i j)))
  (he:PE X e (tE X.K H₀ aa fe)):PS X (.AugAssign (.Name x p) op e sp) (tS X H₀ aa (ck (ak (rd i) fe g) (aD i))):=by
 obtain⟨h1,h2⟩:=G.TQ hx;exact Ol hg ho he G.nd (G.ib hs) h1 h2
theorem et{Γ:Gm}{X:Cx}{x:Str}{p sp:Pos}{e:aj}{i:Nat}{te:TE}(G:GOk Γ X)(hs:slot Γ x=some i)(hx:xt Γ x=true)(he:PE X e te)(hsw:swapsWith e (some (.Name x p)) sp.line X.env=pure false):PS X (.Assign [.Name x p] e sp) (lh te (gName i)):=by
 obtain⟨h1,h2⟩:=G.TQ hx;exact wt G.nd (G.ib hs) h1 he hsw h2
theorem mi{Γ:Gm}{X:Cx}{x:Str}{elt:aj}{gens:List Comprehension}{scope:Scope}{cp p sp:Pos}(G:GOk Γ X) :
  (swapsWith (.ListComp elt gens scope cp) (some (.Name x p)) sp.line X.env=pure true/\X.env.scope.names.lookup x=some .local)\/swapsWith (.ListComp elt gens scope cp) (some (.Name x p)) sp.line X.env=pure false:=by
 have e:swapsWith (.ListComp elt gens scope cp) (some (.Name x p)) sp.line X.env=pure (X.env.blockKind==.function&&X.env.kindOf x==some .local&&p.line==(Expr.ListComp elt gens scope cp).pos.line&&!(scope.names.any fun(n,k)=>n==x&&(k==.local || k==.cell))):=rfl
 rw[e];cases hb:(X.env.blockKind==.function&&X.env.kindOf x==some .local&&p.line==(Expr.ListComp elt gens scope cp).pos.line&&!(scope.names.any fun(n,k)=>n==x&&(k==.local || k==.cell)))with
 | true =>
  refine .inl ⟨rfl,?_⟩;simp only[aE]at hb;exact bD hb.1.1.2
 | false=>exact .inr rfl
theorem TZ{n:Nat}(Γ:Gm)(X:Cx)(e:aj)(f:aC->cg)(G:GOk Γ X)(h:TY n Γ e=some f)(H₀ aa:Hp):PE X e (tR X.K H₀ aa f)/\∀ρ en,f ρ=some en->(∃p,en=.val p)\/∃ps,en=.own ps:=by
 unfold TY at h;split at h
 ·rename_i x es m hd;obtain⟨ts,h1,rfl⟩:=aq h;unfold Er at hd;split at hd
  ·obtain⟨hc,hd⟩:=aw hd;simp only[aE]at hc;obtain⟨⟨hn,hg⟩,hp⟩:=hc;obtain⟨n1,n2,n3⟩:=cR hn;rw[fR,aE]at hp;obtain⟨m',hm,he⟩:=aq hd;cases he;obtain⟨k,fa,fd,ps,F,hr,q1,q2,q3⟩:=G.fns _ m hm;exact⟨Nz (Sy F hr (G.gL hg) q1 q2 q3 (((snd n).a Γ X _ ts G h1).1 H₀ aa) n1 (aN hp.1 _ _) (cY hp.2 _ _)),Ju _ _⟩
  ·cases hd
 ·split at h
  ·rename_i a b hs;obtain⟨fa,h1,h⟩:=ao h;obtain⟨fb,h2,rfl⟩:=aq h;unfold Qr at hs;split at hs
   ·cases hs;exact⟨WB ((snd n).e Γ X _ fa G h1 H₀ aa) ((snd n).e Γ X _ fb G h2 H₀ aa),Nx _ _⟩
   ·cases hs
  ·split at h
   ·rename_i a lo hi hs;obtain⟨fa,h1,h⟩:=ao h;obtain⟨fl,h2,h⟩:=ao h;obtain⟨fh,h3,rfl⟩:=aq h;unfold Qs at hs;split at hs
    ·cases hs;exact⟨WE ((snd n).e Γ X _ fa G h1 H₀ aa) ((snd n).o Γ X _ fl G h2 H₀ aa) ((snd n).o Γ X _ fh G h3 H₀ aa),NC _ _ _⟩
    ·cases hs
   ·split at h
    ·rename_i a hs;obtain⟨fa,h1,rfl⟩:=aq h;unfold Qt at hs;split at hs
     ·obtain⟨hc,Ie⟩:=aw hs;clear hs;simp only[aE]at hc;obtain⟨⟨⟨c1,c2⟩,c3⟩,c4⟩:=hc;have c1:=bD c1;subst c1;cases Ie;exact⟨WI (G.gL c2) (G.df _ c3) ((snd n).e Γ X _ fa G h1 H₀ aa) (aN c4 _ _),ND _⟩
     ·cases hs
    ·obtain⟨fe,h1,rfl⟩:=aq h;exact⟨Wz ((snd n).e Γ X _ fe G h1 H₀ aa),Nv _⟩
theorem T1{n:Nat}{Γ:Gm}{X:Cx}{x fn:Str}{p sp fp lp cp:Pos}{tg:aj}{scope:Scope}{i j:Nat}{gg:eG×List Nat}{H₀ aa:Hp}(G:Hf Γ X)(it:slot Γ x=some i)(st:xt Γ x=true)(hf:PE X (.Name fn fp) (gR j))(h2:p3 n (pz Γ scope) tg=some gg)(hk:kG Γ scope gg.2=true) :
  PS X (.Assign [.Name x p] (.ListComp (.List [] lp) [⟨tg,.Name fn fp,[],0⟩] scope cp) sp) (tS X H₀ aa (JY (fq Γ scope) gg.1 i j)):=by
 have G':=G.toGOk;have SC:=sE G' hk;have GK:=zS G' hk;have pi1:PI X tg (.Name fn fp) (N6 X.K (dz (rd j))):=Tn λH₀ aa=>DO (uV j hf)
 have pb:∀(C:ab) (s:au) (H:Hp) (fp:List ab),PB (cH X (kF scope) scope C s H fp) tg [] (.List [] lp) (To X.K gg.1 (dy ar)):=λC s H fp=>rE λb:Hp×Hp=>rD ((jC (GK C s H fp) n tg gg h2).1 b.1 b.2) (DL uW)
 refine Ts (jC (GK 0 X.s₀ X.H₀ []) n tg gg h2).2.1 (kJ hk).2.2.2 (λρ=>(if_pos (dP f6):(if 0<=f6 then some ([]:av)else none)=some [])) ?_
 rcases mi G' with⟨z,hz⟩ | z
 ·exact wO G'.calm G'.nd (G'.ib it) hz SC pi1 pb z
 ·exact et G' it st (wN G'.calm SC pi1 pb) z
theorem XR{n:Nat}{Γ:Gm}{X:Cx}{st:ay}{f:FS}(G:Hf Γ X)(h:zU n Γ st=some f)(H₀ aa:Hp):PS X st (tS X H₀ aa f):=by
 unfold zU at h;split at h
 ·obtain⟨hc,h⟩:=aw h;simp only[aE]at hc;obtain⟨⟨⟨c1,c2⟩,c3⟩,c4⟩:=hc;obtain⟨i,h1,h⟩:=ao h;obtain⟨fo,h2,rfl⟩:=aq h;exact d0 (NP i (et G.toGOk h1 c3 ((snd n).ob Γ X _ fo G.toGOk h2 H₀ aa) (ej c2 _ _ _)))
 ·cases h
theorem XS{n:Nat}{Γ:Gm}{X:Cx}{st:ay}{f:FS}(G:Hf Γ X)(h:Es n Γ st=some f)(H₀ aa:Hp):PS X st (tS X H₀ aa f):=by
 have S:=snd n;cases st<;>try exact dA h
 case Return v rp =>
  rcases v with _ | v<;>try exact dA h
  cases v<;>try exact dA h
  rename_i x xp;obtain⟨hc,g⟩:=aw (show(if(b7 x&&qc Γ x&&Γ.dct.contains x)=true then(slot Γ x).map Gp else none)=some f from h)
  simp only[aE]at hc;obtain⟨i,h1,rfl⟩:=aq g;exact TM (fK G.toGOk hc.1.1 hc.1.2 h1)
 case Assign tgs v sp =>
  rcases tgs with _ | ⟨t,r⟩<;>try exact dA h
  ·cases t<;>try exact dA h
   case Name x p =>
    rcases r with _ | ⟨t2,r⟩<;>try exact dA h
    cases v<;>try exact dA h
    case Dict ks vs dp =>
     rcases ks with _ | ⟨k1,ks⟩<;>try exact dA h
     rcases vs with _ | ⟨v1,vs⟩<;>try exact dA h
     obtain⟨hc,g⟩:=aw (show(if(Γ.dct.contains x&&xt Γ x)=true then(slot Γ x).map Gd else none)=some f from h)
     rw[aE]at hc;obtain⟨i,h1,rfl⟩:=aq g;exact(et G.toGOk h1 hc.2 DI rfl).imp λD σ H h=>J2 h
    case Call fn args zT cp =>
     cases fn<;>try exact dA h
     rename_i f fp;rcases args with _ | ⟨a,es⟩<;>rcases zT with _ | ⟨kw,zT⟩<;>try exact dA h
     obtain⟨hc,g⟩:=aw (show(if(Γ.dct.contains x&&xt Γ x&&b7 f&&pZ Γ f&&(a::es).all bZ)=true then(slot Γ x).bind λi=>(Γ.fns.lookup f).bind λm=>(ja n Γ (a::es)).map λts=>Gq i (aX m (Γ.call f)) ts else none)=some _ from h)
     simp only[aE]at hc;obtain⟨⟨⟨⟨c1,c2⟩,c3⟩,c4⟩,c5⟩:=hc;rw[fR,aE]at c5;obtain⟨i,h1,g⟩:=ao g;obtain⟨m,h2,g⟩:=ao g;obtain⟨ts,h3,rfl⟩:=aq g;obtain⟨k,fa,fd,ps,F,hr,q1,q2,q3⟩:=G.fns _ m h2;exact(et G.toGOk h1 c2 (kU F hr (G.gL c4) q1 q2 q3 .nil jP ((S.a Γ X _ ts G.toGOk h3).1 H₀ aa) (cR c3).1 (aN c5.1 _ _) (cY c5.2 _ _)) rfl).imp λD σ H h=>Kh h
    case ListComp elt gens scope cp =>
     cases elt<;>try exact dA h
     rename_i es lp;rcases es with _ | ⟨e1,es⟩<;>try exact dA h
     rcases gens with _ | ⟨⟨tg,iter,ifs,(_ | k) | k⟩,_ | ⟨g2,r⟩⟩<;>try exact dA h
     ·cases iter<;>(rcases ifs with _ | ⟨c1,cs⟩<;>try exact dA h)
      rename_i fn fp;obtain⟨hc,g⟩:=aw (show(if(Γ.Mb.contains x&&xt Γ x&&b7 fn&&qc Γ fn)=true then(slot Γ x).bind λi=>(slot Γ fn).bind λj=>(p3 n (pz Γ scope) tg).bind λg=>if kG Γ scope g.2=true then some (JY (fq Γ scope) g.1 i j)else none else none)=some f from h)
      simp only[aE]at hc;obtain⟨⟨⟨c1,c2⟩,c3⟩,c4⟩:=hc;obtain⟨i,h1,g⟩:=ao g;obtain⟨j,h2,g⟩:=ao g;obtain⟨tgd,h3,g⟩:=ao g;obtain⟨hk,rfl⟩:=aB g;exact T1 G h1 c2 (fK G.toGOk c3 c4 h2) h3 hk
     all_goals cases iter<;>(rcases ifs with _ | ⟨c1,cs⟩<;>exact dA h)
   case Subscript o k tp =>
    cases o<;>try exact dA h
    rename_i x p;rcases r with _ | ⟨t2,r⟩<;>try exact dA h
    obtain⟨hc,g⟩:=aw (show(if(b7 x&&qc Γ x&&fX k&&jB v&&Γ.dct.contains x)=true then(slot Γ x).bind λi=>(cn n Γ k).bind λfk=>(cn n Γ v).map λfv=>Ge i fk fv else none)=some f from h)
    simp only[aE]at hc;obtain⟨⟨⟨⟨c1,c2⟩,c3⟩,c4⟩,c5⟩:=hc;obtain⟨i,h1,g⟩:=ao g;obtain⟨fk,h2,g⟩:=ao g;obtain⟨fv,h3,rfl⟩:=aq g;exact(Ea (by have:=G.un;lia) (fK G.toGOk c1 c2 h1) (S.e Γ X _ fk G.toGOk h2 H₀ aa) (S.e Γ X _ fv G.toGOk h3 H₀ aa) (ej c4 _ _ _)).imp λD σ H h=>J3 h
 ·rename_i e ep;cases e<;>try exact dA h
  rename_i fn args zT cp;cases fn<;>try exact dA h
  rename_i v m ap;cases v<;>try exact dA h
  rename_i o k sp;cases o<;>try exact dA h
  rename_i x xp;rcases args with _ | ⟨a,_ | ⟨b,r⟩⟩<;>rcases zT with _ | ⟨kw,zT⟩<;>try exact dA h
  obtain⟨hc,g⟩:=aw (show(if(b7 x&&qc Γ x&&fX k&&bZ a&&(ap.endLine==cp.line)&&m==("append":Str)&&Γ.Mb.contains x)=true then(slot Γ x).bind λi=>(cn n Γ k).bind λfk=>(cn n Γ a).map λfa=>Tt i fk fa else none)=some f from h)
  simp only[aE]at hc;obtain⟨⟨⟨⟨⟨⟨c1,c2⟩,c3⟩,c4⟩,c5⟩,c6⟩,c7⟩:=hc;obtain rfl:=bD c6;obtain⟨i,h1,g⟩:=ao g;obtain⟨fk,h2,g⟩:=ao g;obtain⟨fa,h3,rfl⟩:=aq g;exact(gz (JW (o7 Xi (fK G.toGOk c1 c2 h1) (S.e Γ X _ fk G.toGOk h2 H₀ aa) (gC c3)) (om (S.e Γ X _ fa G.toGOk h3 H₀ aa) uW (aN c4 _ _)) rfl (xH c4) c5 (aN c4 _ _) rfl)).imp λD σ H h=>J1 h
section
variable {n:Nat} (T:XQ n)
include T
theorem T4(Γ:Gm)(X:Cx)(st:List ay)(f:FS)(G:Hf Γ X)(h:er (n+1) Γ st=some f)(H₀ aa:Hp):PSs X st (tS X H₀ aa f):=by
 match st,h with
 | [],h=>cases h;exact RZ
 | [st],h=>exact R6 (T.s Γ X st f G h H₀ aa)
 | st::UK::IS,h =>
  obtain⟨f1,h1,h⟩:=ao h;obtain⟨g,h2,rfl⟩:=aq h;exact MY (T.s Γ X st f1 G h1 H₀ aa) (T.ss Γ X _ g G h2 H₀ aa)
set_option maxHeartbeats 4000000 in
theorem T5(Γ:Gm)(X:Cx)(st:ay)(f:FS)(G:Hf Γ X)(h:vo (n+1) Γ st=some f)(H₀ aa:Hp):PS X st (tS X H₀ aa f):=by
 have S:=snd n;unfold vo at h;split at h
 ·rename_i f' hq;cases h;cases st<;>try exact dA hq
  case Assign tgs v sp =>
   rcases tgs with _ | ⟨t,r⟩<;>try exact dA hq
   cases t<;>try exact dA hq
   rcases r with _ | ⟨t2,r⟩<;>try exact dA hq
   cases v<;>try exact dA hq
   rename_i ks vs dp;rcases ks with _ | ⟨k1,ks⟩<;>try exact dA hq
   rcases vs with _ | ⟨v1,vs⟩<;>try exact dA hq
   obtain⟨hc,h⟩:=aw hq;simp only[aE]at hc;obtain⟨i,h1,rfl⟩:=aq h;exact(et G.toGOk h1 hc.1.2 JO rfl).imp λD σ H h=>JQ h
  ·rename_i e ep;cases e<;>try exact dA hq
   rename_i fn args zT cp;cases fn<;>try exact dA hq
   rename_i v m ap;cases v<;>try exact dA hq
   rename_i x xp;rcases args with _ | ⟨a,_ | ⟨b,_ | ⟨c,r⟩⟩⟩<;>rcases zT with _ | ⟨kw,zT⟩<;>try exact dA hq
   ·obtain⟨hc,h⟩:=aw hq;simp only[aE]at hc;obtain⟨⟨⟨c1,c2⟩,c3⟩,c4⟩:=hc;obtain⟨i,h1,rfl⟩:=aq h;have hm:=bD c4;subst hm;exact(gz (IA nO PySem.F.slot_list_reverse PySem.F.type_list_reverse BQ (fK G.toGOk c1 c2 h1) rfl c3)).imp λD σ H h=>Jc N1 h
   ·obtain⟨hc,h⟩:=aw hq;simp only[aE]at hc;obtain⟨⟨⟨⟨c1,c2⟩,c3⟩,c4⟩,c5⟩:=hc;obtain⟨i,h1,h⟩:=ao h;obtain⟨fa,h2,h⟩:=ao h;obtain⟨fb,h3,h6⟩:=ao h;clear h hq;have hx:=λp=>fK (p:=p) G.toGOk c1 c2 h1
    have ha:=om (S.e Γ X _ fa G.toGOk h2 H₀ aa) (om (S.e Γ X _ fb G.toGOk h3 H₀ aa) uW (aN c4 _ _)) (aN c3 _ _);split at h6
    ·rename_i hm;rw[aE]at hm;have hm:=bD hm.1;subst hm;have h7:=bo h6;subst h7;exact d0 ((gz (yY PySem.F.plainAttrs_dict Hl PySem.F.type_dict_setdefault Td (hx _) ha rfl (Ew c3 c4) c5 (aN c3 _ _) (zV c4))).imp λD σ H h=>N4 h)
    ·split at h6
     ·rename_i hm;have hm:=bD hm;subst hm;have h7:=bo h6;subst h7;exact d0 ((gz (yY nO PySem.F.slot_list_insert PySem.F.type_list_insert Gb (hx _) ha rfl (Ew c3 c4) c5 (aN c3 _ _) (zV c4))).imp λD σ H h=>wQ N2 h)
     ·cases h6
 rename_i hq0;clear hq0;split at h
 ·cases h;exact R7
 ·split at h
  ·rename_i hc;obtain⟨i,h1,rfl⟩:=aq h;simp only[aE]at hc;exact Fz i (fK G.toGOk hc.1.1 hc.1.2 h1)
  ·obtain⟨fe,h1,rfl⟩:=aq h;rename_i x p _ _;have:=S.e Γ X _ fe G.toGOk h1 H₀ aa;refine PJ ?_;cases n with
   | zero=>cases h1
   | succ n =>
    exact S.e Γ X (.Name x p) fe G.toGOk h1 H₀ aa
 ·obtain⟨fe,h1,rfl⟩:=aq h;exact d0 (PJ (S.e Γ X _ fe G.toGOk h1 H₀ aa))
 ·obtain⟨gc,h1,h⟩:=ao h;obtain⟨fa,h2,h⟩:=ao h;obtain⟨fb,h3,rfl⟩:=aq h;exact abx (Kw (S.t Γ X _ gc G.toGOk h1 H₀ aa)) (T.ss Γ X _ fa G h2 H₀ aa) (T.ss Γ X _ fb G h3 H₀ aa)
 ·obtain⟨hc,h⟩:=aw h;simp only[aE]at hc;obtain⟨⟨⟨hn,hv⟩,hp⟩,hl⟩:=hc;obtain⟨i,h1,h⟩:=ao h;obtain⟨ts,h2,h6⟩:=ao h;clear h;have ha:=((S.a Γ X _ ts G.toGOk h2).1 H₀ aa);have Rz:=λp=>fK (p:=p) G.toGOk hn hv h1
  split at h6
  ·rename_i hm;have hm:=bD hm;subst hm;have h7:=bo h6;subst h7;exact d0 ((gz (yY nO AZ AY oj (Rz _) ha rfl (xH hp) hl (aN hp _ _) rfl)).imp λD σ H h=>wQ Na h)
  ·split at h6
   ·rename_i hm;have hm:=bD hm;subst hm;have h7:=bo h6;subst h7;exact d0 ((gz (yY nO PySem.F.slot_list_extend PySem.F.type_list_extend Se (Rz _) ha rfl (xH hp) hl (aN hp _ _) rfl)).imp λD σ H h=>wQ Nb h)
   ·cases h6
 ·obtain⟨hc,h⟩:=aw h;obtain⟨fe,h1,rfl⟩:=aq h;exact d0 (R8 (S.e Γ X _ fe G.toGOk h1 H₀ aa) (ej hc _ _ _))
 ·obtain⟨fi,h1,h⟩:=ao h;obtain⟨g,h2,h⟩:=ao h;obtain⟨fb,h3,rfl⟩:=aq h;obtain⟨i1,i2⟩:=S.i Γ X _ _ fi G.toGOk h1;exact d0 (Wj G.never G.calm (i1 H₀ aa) ((jC G.toGOk n _ g h2).1 H₀ aa) (T.ss Γ X _ fb G h3 H₀ aa) i2)
 ·-- x=[.. for ..]
  obtain⟨hc,h⟩:=aw h;simp only[aE]at hc;obtain⟨i,h1,h⟩:=ao h;obtain⟨fc,h2,rfl⟩:=aq h;obtain⟨c1,c2⟩:=S.c Γ X _ _ _ _ _ fc G.toGOk h2;split
  ·rcases mi G.toGOk with⟨z,hl⟩ | z
   ·obtain⟨t,ht,k⟩:=c2 H₀ aa i _ _ _ _ (G.toGOk.ib h1) hl z;exact rF (λσ H Q h=>ht σ H Q (zu h)) k
   ·exact rF (λσ H Q h=>zu h) (et G.toGOk h1 hc.1 (c1 H₀ aa _) z)
  refine d0 ?_;rcases mi G.toGOk with⟨z,hl⟩ | z
  ·obtain⟨t,ht,k⟩:=c2 H₀ aa i _ _ _ _ (G.toGOk.ib h1) hl z;split
   ·exact k.imp λD σ H h=>rG ht h
   ·exact rF ht k
  ·have k:=et G.toGOk h1 hc.1 (c1 H₀ aa _) z;split
   ·exact k.imp λD σ H h=>rG (λ_ _ _ h=>h) h
   ·exact rF (λ_ _ _ h=>h) k
 ·-- x=[..]
  obtain⟨hc,h⟩:=aw h;simp only[aE]at hc;obtain⟨i,h1,h⟩:=ao h;obtain⟨ts,h2,rfl⟩:=aq h;have he:=λp=>DL (pos:=p) ((S.a Γ X _ ts G.toGOk h2).1 H₀ aa)
  refine d0 ?_;rename_i x p1 es lp sp _ _;have k:=et (p:=p1) (sp:=sp) G.toGOk h1 hc.1 (he lp) rfl;split
  ·exact k.imp λD σ H h=>rG (λ_ _ _ h=>h) h
  ·exact rF (λ_ _ _ h=>h) k
 ·obtain⟨hc,h⟩:=aw h;simp only[aE]at hc;obtain⟨i,h1,h⟩:=ao h;split at h
  ·obtain⟨fo,h2,rfl⟩:=aq h;refine d0 ?_;obtain⟨o1,o2⟩:=TZ Γ X _ fo G.toGOk h2 H₀ aa;exact(et G.toGOk h1 hc.1.2 o1 (ej hc.1.1 _ _ _)).imp λD σ H h=>Jt o2 (λ_ _ _ h=>h) h
  ·obtain⟨fe,h2,rfl⟩:=aq h;split
   ·exact PK i (et G.toGOk h1 hc.1.2 (Ja (S.e Γ X _ fe G.toGOk h2 H₀ aa)) (ej hc.1.1 _ _ _))
   refine d0 ?_;exact PK i (et G.toGOk h1 hc.1.2 (S.e Γ X _ fe G.toGOk h2 H₀ aa) (ej hc.1.1 _ _ _))
 ·obtain⟨hc,h⟩:=aw h;simp only[aE]at hc;obtain⟨i,h1,h⟩:=ao h;obtain⟨g,h2,h⟩:=ao h;obtain⟨fe,h3,rfl⟩:=aq h;refine d0 ?_;unfold Kv at h2;split at h2
  ·cases h2;exact zW G.toGOk h1 hc.1 (λa b c e=>by
    unfold Oi at e;split at e
    ·cases e;exact⟨_,_,rfl,rfl,rfl⟩
    ·cases e) iop_add (S.e Γ X _ fe G.toGOk h3 H₀ aa)
  ·cases h2;exact zW G.toGOk h1 hc.1 (λa b c e=>by
    unfold XH at e;split at e
    ·cases e;exact⟨_,_,rfl,rfl,rfl⟩
    ·cases e) Mv (S.e Γ X _ fe G.toGOk h3 H₀ aa)
  ·cases h2
 ·obtain⟨hc,h⟩:=aw h;obtain⟨g,h1,h⟩:=ao h;obtain⟨fe,h2,rfl⟩:=aq h;obtain⟨g1,g2,g3,g4⟩:=jC G.toGOk n _ g h1;refine d0 (Wi (S.e Γ X _ fe G.toGOk h2 H₀ aa) (g1 H₀ aa) ?_ ?_ (g3 _))
  ·rename_i ts k tp e sp _ _;have z:=ej (xu hc) (some (Expr.Tuple ts k tp)) sp.line X.env;exact z
  ·rename_i ts k tp e sp _ _;cases e<;>first | rfl | cases hc
 ·cases h
theorem XT(Γ:Gm)(X:Cx)(st:ay)(f:FS)(G:Hf Γ X)(h:Oj (n+1) Γ st=some f)(H₀ aa:Hp):PS X st (tS X H₀ aa f):=by
 have h:some (Et (Qu Γ st) ((((Es n Γ st).or (zU n Γ st)).or (vo n Γ st)).getD λ_=>none))=some f:=h
 cases h;refine Eu ?_ _;cases y:Es n Γ st with
 | some g=>exact XS G y H₀ aa
 | none =>
  cases w:zU n Γ st with
  | some g=>exact XR G w H₀ aa
  | none =>
  cases z:vo n Γ st with
  | none=>exact HY.imp λD σ H ⟨F,ρ,o,R,hf,q⟩=>by cases hf
  | some g=>exact T.s0 Γ X st _ G z H₀ aa
end
theorem XU:∀n:Nat,XQ n
 | 0=>⟨(λ_ _ _ _ _ h=>by cases h),(λ_ _ _ _ _ h=>by cases h),(λ_ _ _ _ _ h=>by cases h)⟩
 | n+1=>⟨XT (XU n),T5 (XU n),T4 (XU n)⟩
noncomputable def Kx:List Str:=["append","extend","clear","pop","insert","reverse","remove"]
mutual
def XW:Nat->ay->List Str
 | 0,_=>[]
 | n+1,st=>match st with
  | .Expr (.Call (.Attribute (.Name x _) m _) _ _ _) _=>if Kx.contains m then [x]else []
  | .Assign [.Subscript (.Name x _) _ _] _ _=>[x]
  | .If _ a b _=>uo n a++uo n b
  | .For _ _ a b _=>uo n a++uo n b
  | .While _ a b _=>uo n a++uo n b
  | .Try a _ b _ _=>uo n a++uo n b
  | _=>[]
def uo:Nat->List ay->List Str
 | 0,_=>[]
 | n+1,[]=>[]
 | n+1,s::r=>XW n s++uo n r
end
def gD:Nat:=120
def defName(s:ay):Str:=match s with
 | .FunctionDef x _ _ _ _ _ _ _ _ _=>x
 | _=>""
abbrev CT:=Str->Option Ob->av->cg
abbrev cN(c:CT)(x:Str)(ps:av):cg:=c x none ps
abbrev cO(c:CT)(x:Str)(o:Ob)(ps:av):cg:=c x (some o) ps
def XX(P:Pg)(st:ay)(He:List Str)(cls:List (Str×Nat))(make:Str->av->Option (List (Str×Fd)))(xq:Bool)(c:CT):Gm where
 sc:=(aF st).names
 N:=bI st
 fns:=(P.defs.filter λd=>!P.bP.contains d.1).map λd=>(d.1,(params d.2).length)
 cons:=P.cons
 df:=P.df
 chg:=(uo gD (bH st)).eraseDups++(P.own.lookup (defName st)).getD []++(P.Pe.lookup (defName st)).getD []
 own:=true
 call:=cN c
 exc:=P.exc
 sub:=P.sub
 tabs:=P.tabs
 He:=He
 pY:=(P.defs.filter λd=>P.bP.contains d.1).map λd=>(d.1,(params d.2).length-1)
 kq:=cO c
 cls:=cls
 make:=make
 flds:=P.flds
 eK:=P.eK
 xq:=xq
 Pe:=(P.Pe.lookup (defName st)).getD []
 dct:=(P.dct.lookup (defName st)).getD []
 Mb:=(P.Mb.lookup (defName st)).getD []
def XY:aj->Bool
 | .ListComp _ _ _ _=>true
 | _=>false
theorem Gw{e a:aj}{x:Str}{p:Pos}(h:(jB e || XY e)=true)(l:Nat)(env:Env):swapsWith e (some (.Attribute a x p)) l env=pure false:=by
 cases e<;>first | rfl | cases h
noncomputable def nj(n:Nat)(Γ:Gm)(self:Str):List ay->Option NR
 | []=>some []
 | .Assign [.Attribute (.Name s _) f _] e _::r=>if(s==self&&(jB e || XY e)&&b7 s)=true then(cn n Γ e).bind λfe=>(nj n Γ self r).map λl=>(f,NS fe)::l else none
 | _=>none
def gw(st:ay):Str:=(params st).headD ""
def UT(P:Pg)(st:ay)(c:CT):Gm:=XX P st [gw st] [] (λ_ _=>none) false c
def vp(P:Pg)(c:CT)(C:Str)(ps:av):Option (List (Str×Fd)):=(P.cls.lookup C).bind λst=>(nj gD (UT P st c) (gw st) (bH st)).bind λl=>if ps.length+1=(params st).length then sd l [] (ps.map .val++List.replicate ((bI st).length-(ps.length+1)) .un)else none
def iU(P:Pg)(st:ay)(c:CT):Gm:=XX P st ((if P.bP.contains (defName st)=true then [gw st]else [])++(P.obs.lookup (defName st)).getD []) (P.cls.map λd=>(d.1,(params d.2).length-1)) (vp P c) (P.mr.contains (defName st)) c
def p7(f:FS)(N:Nat)(ps:av):cg:=match f (ps.map .val++List.replicate (N-ps.length) .un)with
 | some (.rt (.val p))=>some (.val p)
 | some (.rt (.own ps))=>some (.own ps)
 | some (.rt (.cq m))=>some (.cq m)
 | some (.nx _)=>some (.val .cE)
 | _=>none
def oF(f:FS)(N:Nat)(o:Ob)(ps:av):cg:=match f (.ob o::ps.map .val++List.replicate (N-(ps.length+1)) .un)with
 | some (.rt (.val p))=>some (.val p)
 | some (.rt (.own ps))=>some (.own ps)
 | some (.rt (.cq m))=>some (.cq m)
 | some (.nx _)=>some (.val .cE)
 | _=>none
def eV(P:Pg):Nat->CT
 | 0,_,_,_=>none
 | k+1,x,o,ps=>(P.defs.lookup x).bind λst=>(er gD (iU P st (eV P k)) (bH st)).bind λf=>match o with
  | none=>p7 f (bI st).length ps
  | some o=>if ps.length+1=(params st).length then oF f (bI st).length o ps else none
def run(P:Pg)(k:Nat)(x:Str)(ps:av):cg:=eV P k x none ps
def jD(P:Pg)(k:Nat)(x:Str)(o:Ob)(ps:av):cg:=eV P k x (some o) ps
theorem Ky{P:Pg}{k:Nat}{x:Str}{st:ay}{f:FS}(h:P.defs.lookup x=some st)(hf:er gD (iU P st (eV P k)) (bH st)=some f)(ps:av):run P (k+1) x ps=p7 f (bI st).length ps:=by
 show(P.defs.lookup x).bind _=_;rw[h];show(er gD (iU P st (eV P k)) (bH st)).bind _=_;rw[hf];rfl
theorem qr{P:Pg}{k:Nat}{x:Str}{st:ay}{f:FS}(h:P.defs.lookup x=some st)(hf:er gD (iU P st (eV P k)) (bH st)=some f)(o:Ob)(ps:av)(hl:ps.length+1=(params st).length):jD P (k+1) x o ps=oF f (bI st).length o ps:=by
 show(P.defs.lookup x).bind _=_;rw[h];show(er gD (iU P st (eV P k)) (bH st)).bind _=_;rw[hf];show(if ps.length+1=(params st).length then oF f (bI st).length o ps else none)=_
 rw[if_pos hl]
theorem XZ{P:Pg}{c:CT}{C:Str}{st:ay}{l:NR}(h:P.cls.lookup C=some st)(hf:nj gD (UT P st c) (gw st) (bH st)=some l)(ps:av)(hl:ps.length+1=(params st).length):vp P c C ps=sd l [] (ps.map .val++List.replicate ((bI st).length-(ps.length+1)) .un):=by
 unfold vp;rw[h];show(nj gD (UT P st c) (gw st) (bH st)).bind _=_;rw[hf];show(if ps.length+1=(params st).length then _ else none)=_
 rw[if_pos hl]
theorem pA{α:Type}(p:Str->Bool)(x:Str):∀l:List (Str×α),(l.filter λd=>p d.1).lookup x=if p x=true then l.lookup x else none
 | []=>by simp
 | (n,a)::r=>by
  have ih:=pA p x r;by_cases z:x=n
  ·subst z;cases hp:p x<;>simp[List.filter_cons,hp,gV,ih]
  ·have z':(x==n)=false:=by simpa using z
   cases hp:p n<;>simp[List.filter_cons,hp,gV,z',ih]
theorem gU{α:Type}(p:Str->Bool)(x:Str)(l:List (Str×α))(v:α)(h:(l.filter λd=>p d.1).lookup x=some v):l.lookup x=some v:=by
 rw[pA]at h;exact(aw h).2
theorem fM{α β:Type}(g:α->β)(x:Str):∀l:List (Str×α),(l.map λd=>(d.1,g d.2)).lookup x=(l.lookup x).map g
 | []=>rfl
 | (n,a)::r=>by
  rw[bC,gV,gV];cases x==n with
  | true=>rfl
  | false=>exact fM g x r
section
variable {prog:bh} {w:aM} {K:ah} {mg:cZ} {base:Heap}
def Om(K:ah)(mg:cZ)(x:Str):Prop:=(∃p q fs fT JM Eb,JL K mg p q fs fT JM Eb)/\x∈dG/\∃c T,W.tabIn K x=some (c,T)/\W.codeHdIn K c T=true
theorem CJ{K:ah}{x:Str}{c T:ab}(h:W.tabIn K x=some (c,T)):∃f oc od fd tZ,W.nsIn K mainGlobals x=some (some (.ref f))/\K.lookup f=some ⟨oc,od,.func fd,tZ⟩/\fd.code=.ref c:=by
 unfold W.tabIn at h;split at h
 ·rename_i f hf;split at h
  ·rename_i oc od fd tZ hl;split at h
   ·rename_i c' hc;split at h
    ·split at h
     ·cases h;exact⟨f,oc,od,fd,tZ,hf,hl,hc⟩
     ·cases h
    ·cases h
   ·cases h
  ·cases h
 ·cases h
def Kz(K:ah)(f:ab)(cU:ag):Prop:=∃oc od fd tZ,K.lookup f=some ⟨oc,od,.func fd,tZ⟩/\fd.code=cU
theorem Ex{P:bh}{w:aM}{K:ah}{mg:cZ}{base:Heap}{x qual:Str}{st:ay}{f:ab}{fd:dk}{N ps:List Str}{k:Nat}{sp:Sp}(F:AJ K x qual st f fd)(S:de N ps (aF st))(len:∀vs H Q E,sp vs H Q E->vs.length=ps.length)
  (hbody:∀(cU:ag) (A:bA) (outer:List Env) (s:au) (H:Hp) (vs:List V) (Q:VK) (E:XK),Kz K f cU->dg k (A.deeper (envOfC qual (aF st) s.heap.objs.size f cU))->sp vs H Q E ->
   ∃t,PSs (ju (ji P w) P w K mg base N qual (aF st) f cU A outer s H E) (bH st) t/\t {nx:=λ_ H'=>Q .cE H',rt:=Q} (start N vs) H):FnOk P w K mg base (ji P w) (k+1) f fd ps sp:=by
 obtain⟨oc,od,kV,doc,pm,an,cU,ct,tZ,rfl,lk,uC⟩:=F.ex;exact Pq lk uC S len λA outer s H vs Q E hr lz=>hbody cU A outer s H vs Q E ⟨oc,od,_,tZ,lk,rfl⟩ hr lz
structure T6 (P:Pg) (w:aM) (K:ah) (mg:cZ):Prop where
 fns:∀x st,P.defs.lookup x=some st->∃f fd,AJ K x x st f fd/\dS K fd (params st) []/\mg x=some (.ref f)/\de (bI st) (params st) (aF st)
 cons:∀x p,P.cons.lookup x=some p->∃u v,mg x=some u/\RelV v u/\∀F,cx K F p v
 df:∀x,P.df.contains x=true->mg x=none
 excs:∀C,P.exc.contains C=true->uz K C
 subs:∀C D b,P.sub.lookup (C,D)=some b->Jr K mg C D b
 tabs:∀T rows,P.tabs.lookup T=some rows->u9 K mg w.params T rows
 ns:∀x a,W.nsIn K mainGlobals x=some (some (.ref a))->mg x=some (.ref a)
 cls:∀C st,P.cls.lookup C=some st->∃Ca f fd,Mk K Ca f/\Br K Ca/\(∀g,P.flds.contains g=true->d9 K Ca g)/\mg C=some (.ref Ca)/\AJ K "__init__" (C++".__init__") st f fd/\dS K fd (params st) []/\de (bI st) (params st) (aF st)
 eK:∀T rows,P.eK.lookup T=some rows->w9 K mg w.params T rows
 xq:∀x st,P.defs.lookup x=some st->P.mr.contains (defName st)=true->Om K mg x
theorem k0{F H:Hp}{ps:av}{vs:List V}{N:List Str}(hs:Same F H)(hb:aP K F ps vs):cw K H F F (ps.map .val++List.replicate (N.length-ps.length) .un) (start N vs) H where
 sub:=hs
 keep:=Same.refl H
 base:=Same.refl F
 fresh:=λ_ _ e=>.inl e
 val:=λi p e=>by
  have hl:=hb.length;by_cases hi:i<ps.length
  ·rw[gi (by simpa using hi),cf]at e
   cases z:ps[i]? with
   | none=>rw[z]at e;cases e
   | some q =>
    rw[z]at e;cases e;obtain⟨v,h1,h2⟩:=hb.get z;refine⟨v,?_,h2⟩;unfold start;rw[gi (by rw[aH,<-hl];exact hi),cf,h1]
    rfl
  ·rw[jk (by simpa using hi),j4]at e
   split at e<;>cases e
 own:=λi qs e=>by
  by_cases hi:i<ps.length
  ·rw[gi (by simpa using hi),cf]at e
   cases z:ps[i]? with
   | none=>rw[z]at e;cases e
   | some q=>rw[z]at e;cases e
  ·rw[jk (by simpa using hi),j4]at e
   split at e<;>cases e
 apart:=λi j qs rs a e=>by
  by_cases hi:i<ps.length
  ·rw[gi (by simpa using hi),cf]at e
   cases z:ps[i]? with
   | none=>rw[z]at e;cases e
   | some q=>rw[z]at e;cases e
  ·rw[jk (by simpa using hi),j4]at e
   split at e<;>cases e
 obs:=λi qs e=>by
  by_cases hi:i<ps.length
  ·rw[gi (by simpa using hi),cf]at e
   cases z:ps[i]? with
   | none=>rw[z]at e;cases e
   | some q=>rw[z]at e;cases e
  ·rw[jk (by simpa using hi),j4]at e
   split at e<;>cases e
 cq:=λi qs e=>by
  by_cases hi:i<ps.length
  ·rw[gi (by simpa using hi),cf]at e
   cases z:ps[i]? with
   | none=>rw[z]at e;cases e
   | some q=>rw[z]at e;cases e
  ·rw[jk (by simpa using hi),j4]at e
   split at e<;>cases e
 len:=by
  unfold start;rw[bY,bY,aH,aH,j5,j5,hb.length]
theorem Oo{X:Cx}{st:ay}{y:Str}{ys:List Str}{p:Pos}(hN:X.N=bI st)(hS:X.env.scope=aF st)(S:de (bI st) (params st) (aF st))(UU:params st=y::ys)(hy:(y==("__debug__":Str))=false/\(y==("__classdict__":Str))=false):PE X (.Name y p) (gR 0):=by
 refine pe_var ?_ ?_ hy.1 hy.2
 ·rw[hN];unfold bI;rw[UU];rfl
 ·unfold Q0;rw[hS];rcases S.par y (by rw[UU];exact bE)with z | z
  ·exact .inl z
  ·exact .inr (.inl z)
theorem Qv{n:Nat}{Γ:Gm}{X:Cx}{self:Str}(G:GOk Γ X)(vd:b7 self=true->∀p,PE X (.Name self p) (gR 0)):∀(IS:List ay) (l:NR),nj n Γ self IS=some l->PSs X IS (Xa X l)
 | [],l,h=>by cases h;exact S6
 | st::r,l,h=>by
  unfold nj at h;split at h
  ·rename_i z;cases z
  ·rename_i z;cases z;obtain⟨hc,h⟩:=aw h;simp only[aE]at hc;obtain rfl:=bD hc.1.1;obtain⟨fe,h1,h⟩:=ao h;obtain⟨l',h2,rfl⟩:=aq h;exact NT (vd hc.2 _) (λH₀ aa=>acb ((snd n).e Γ X _ fe G h1 H₀ aa)) (Gw hc.1.2 _ _) (Qv G vd r l' h2)
  ·cases h
def FR(P:Pg)(prog:bh)(w:aM)(K:ah)(mg:cZ)(base:Heap)(k:Nat):Prop:=∀(x:Str) (st:ay) (f:ab) (fd:dk),P.defs.lookup x=some st->mg x=some (.ref f)->AJ K x x st f fd->de (bI st) (params st) (aF st) ->
 FnOk prog w K mg base (ji prog w) (3*k) f fd (params st) (zc K (params st).length (run P k x))/\FnOk prog w K mg base (ji prog w) (3*k) f fd (params st) (Qa K ((params st).length-1) (jD P k x))
section
variable {P:Pg} (O:T6 P w K mg) {k:Nat} (ih:FR P prog w K mg base k)
include O ih
theorem KA{st:ay}{x:Str}{f:ab}{cU:ag}{A:bA}{outer:List Env}{s:au}{H:Hp}{E:XK}{He:List Str}{cls:List (Str×Nat)}{make:Str->av->Option (List (Str×Fd))}{xq:Bool}{j:Nat}(S:de (bI st) (params st) (aF st))
  (hr:dg j (A.deeper (envOfC x (aF st) s.heap.objs.size f cU))) (hj:3*k<=j) (hcl:∀C n,cls.lookup C=some n->∃k' Ca f' fd ps,Mk K Ca f'/\Br K Ca/\(∀f,P.flds.contains f=true->d9 K Ca f)/\FnOk prog w K mg base (ji prog w) k' f' fd ps (W8 K n (make C))/\dg (k'+1) (A.deeper (envOfC x (aF st) s.heap.objs.size f cU))/\mg C=some (.ref Ca)/\dS K fd ps [])
  (acD:xq=true->Ki (XX P st He cls make xq (eV P k)) (ju (ji prog w) prog w K mg base (bI st) x (aF st) f cU A outer s H E)) :
  Hf (XX P st He cls make xq (eV P k)) (ju (ji prog w) prog w K mg base (bI st) x (aF st) f cU A outer s H E):=by
 refine⟨⟨rfl,rfl,S.nd,S.kind,rfl,hr.hd,?_,λ_ _=>rfl,λy n hy=>?_,O.cons,O.df,O.excs,O.subs,O.tabs,⟨λy n hy=>?_,O.ns,hcl,O.eK,acD⟩⟩,Be,rfl,rfl⟩
 ·have:=hr.un;show(A.deeper _).units+1150<cLine
  lia
 ·have hy:((P.defs.filter λd=>!P.bP.contains d.1).map λd=>(d.1,(params d.2).length)).lookup y=some n:=hy
  rw[fM (λst=>(params st).length)]at hy
  obtain⟨lY,h1,h2⟩:=aq hy;subst h2;have h1:=gU (λx=>!P.bP.contains x) y P.defs lY h1
  obtain⟨f',Ey,F1,B1,m1,S1⟩:=O.fns y lY h1;exact⟨3*k,f',Ey,params lY,(ih y lY f' Ey h1 m1 F1 S1).1,hr.mono hj,m1,F1.kp,B1⟩
 ·have hy:((P.defs.filter λd=>P.bP.contains d.1).map λd=>(d.1,(params d.2).length-1)).lookup y=some n:=hy
  rw[fM (λst=>(params st).length-1)]at hy
  obtain⟨lY,h1,h2⟩:=aq hy;subst h2;have h1:=gU (λx=>P.bP.contains x) y P.defs lY h1
  obtain⟨f',Ey,F1,B1,m1,S1⟩:=O.fns y lY h1;exact⟨3*k,f',Ey,params lY,(ih y lY f' Ey h1 m1 F1 S1).2,hr.mono hj,m1,F1.kp,B1⟩
theorem KC{st:ay}{x:Str}{f:ab}{cU:ag}{A:bA}{outer:List Env}{s:au}{H:Hp}{E:XK}{He:List Str}{cls:List (Str×Nat)}{make:Str->av->Option (List (Str×Fd))}{xq:Bool}(h:P.defs.lookup x=some st)(hm:mg x=some (.ref f))(hc:Kz K f cU)(hB:P.mr≠[]->y8 mg base)
  (hr:dg (3*k+2) (A.deeper (envOfC x (aF st) s.heap.objs.size f cU))) (hs:P.mr.contains (defName st)=true):Ki (XX P st He cls make xq (eV P k)) (ju (ji prog w) prog w K mg base (bI st) x (aF st) f cU A outer s H E):=by
 obtain⟨⟨p,q,fs,fT,JM,Eb,D⟩,hx,c,T,ht,hC⟩:=O.xq x st h hs;have uC:cU=.ref c:=by
  obtain⟨f',oc,od,fd,tZ,h1,h2,h3⟩:=CJ ht;obtain⟨oc',od',Ey,agi,g1,g2⟩:=hc;have:=O.ns x f' h1;rw[hm]at this;cases this;rw[h2]at g1;cases g1;exact g2.symm.trans h3
 refine⟨⟨p,q,fs,fT,JM,Eb,3*k,D,hr,λy n hy=>?_,λy n hy=>?_⟩,⟨⟨x,c,T,hx,ht,hC,uC,rfl⟩,hB (λz=>by rw[z]at hs;cases hs)⟩⟩
 ·have hy:((P.defs.filter λd=>!P.bP.contains d.1).map λd=>(d.1,(params d.2).length)).lookup y=some n:=hy
  rw[fM (λst=>(params st).length)]at hy
  obtain⟨lY,h1,h2⟩:=aq hy;subst h2;have h1:=gU (λx=>!P.bP.contains x) y P.defs lY h1
  obtain⟨f',Ey,F1,B1,m1,S1⟩:=O.fns y lY h1;exact⟨3*k,f',Ey,params lY,aR _,(ih y lY f' Ey h1 m1 F1 S1).1,m1,F1.kp,B1⟩
 ·have hy:((P.defs.filter λd=>P.bP.contains d.1).map λd=>(d.1,(params d.2).length-1)).lookup y=some n:=hy
  rw[fM (λst=>(params st).length-1)]at hy
  obtain⟨lY,h1,h2⟩:=aq hy;subst h2;have h1:=gU (λx=>P.bP.contains x) y P.defs lY h1
  obtain⟨f',Ey,F1,B1,m1,S1⟩:=O.fns y lY h1;exact⟨3*k,f',Ey,params lY,aR _,(ih y lY f' Ey h1 m1 F1 S1).2,m1,F1.kp,B1⟩
theorem X0{C:Str}{st:ay}{f:ab}{fd:dk}(h:P.cls.lookup C=some st)(F:AJ K "__init__" (C++".__init__") st f fd)(S:de (bI st) (params st) (aF st)):FnOk prog w K mg base (ji prog w) (3*k+1) f fd (params st) (W8 K ((params st).length-1) (vp P (eV P k) C)):=by
 have hp:∀ps fs,vp P (eV P k) C ps=some fs->∃l,nj gD (UT P st (eV P k)) (gw st) (bH st)=some l/\ps.length+1=(params st).length/\sd l [] (ps.map .val++List.replicate ((bI st).length-(ps.length+1)) .un)=some fs:=λps fs e=>by
  unfold vp at e;rw[h]at e;obtain⟨l,h1,h2⟩:=ao (show(nj gD (UT P st (eV P k)) (gw st) (bH st)).bind (λl=>if ps.length+1=(params st).length then sd l [] (ps.map .val++List.replicate ((bI st).length-(ps.length+1)) .un)else none)=some fs from e)
  obtain⟨h3,h4⟩:=aw h2;exact⟨l,h1,h3,h4⟩
 refine D3 F S (λvs H Q E ⟨F',Ca,dx,x,us,ps,fs,hv,_,_,_,_,hb,hl,hm,_⟩=>?_) (λcU A outer s H vs Q E hr lz=>?_)
 ·obtain⟨l,_,h3,_⟩:=hp ps fs hm;rw[hv,aW,<-hb.length];exact h3
 ·obtain⟨F',Ca,dx,x,us,ps,fs,rfl,hx,c,fx,hs,hb,hl,hm,na,hz,q⟩:=lz;obtain⟨l,h1,h3,h4⟩:=hp ps fs hm;have G:=KA O ih (He:=[gw st]) (cls:=[]) (make:=λ_ _=>none) (xq:=false) (outer:=outer) (H:=H) (E:=E) S hr (aR _) (λ_ _ z=>by cases z) (λz=>by cases z)
  have vd:b7 (gw st)=true->∀p,PE (ju (ji prog w) prog w K mg base (bI st) (C++".__init__") (aF st) f cU A outer s H E) (.Name (gw st) p) (gR 0):=λhk p=>by
   cases UU:params st with
   | nil=>rw[UU]at h3;cases h3
   | cons y ys =>
    have e:gw st=y:=by unfold gw;rw[UU];rfl
    rw[e]at hk ⊢;exact Oo rfl rfl S UU ⟨(cR hk).1,(cR hk).2.1⟩
  refine⟨Xa _ l,Qv G.toGOk vd (bH st) l h1,upd F' x (.pK Ca dx []),x,Ca,dx,[],[],fs,ps,us,rfl,λb o e=>?_,az,rfl,c,hb.mono (dH fx),h4,na,hz,λF2 H2 hw sub k1 k2 k3=>?_⟩
  ·by_cases Qw:b=x
   ·subst Qw;rw[az]at e;cases e;exact hx
   ·rw[upd_ne Qw]at e;exact hs _ _ e
  ·refine q F2 H2 hw sub (λb o e=>?_) k2 λb o e Qw=>?_
   ·have Qw:b≠x:=ne_of_none e fx;exact k1 b o (by rw[upd_ne Qw];exact e) Qw
   ·rcases k3 b o e Qw with z | z
    ·rw[upd_ne Qw]at z;exact .inl z
    ·exact .inr z
end
theorem KD{P:Pg}(O:T6 P w K mg)(hB:P.mr≠[]->y8 mg base):∀(k:Nat),FR P prog w K mg base k
 | 0=>λx st f fd h Pr F S=>by
  have no:∀vs H Q E,¬zc K (params st).length (run P 0 x) vs H Q E:=λvs H Q E ⟨F,ps,e,_,_,_,z,_⟩=>by cases z
  have no2:∀vs H Q E,¬Qa K ((params st).length-1) (jD P 0 x) vs H Q E:=λvs H Q E ⟨F,o,ps,e,_,_,_,_,_,_,_,z,_⟩=>by cases z
  exact⟨⟨λvs H Q E h=>absurd h (no vs H Q E),λA outer s H args us vs Q E _ _ _ _ h=>absurd h (no vs H Q E)⟩,⟨λvs H Q E h=>absurd h (no2 vs H Q E),λA outer s H args us vs Q E _ _ _ _ h=>absurd h (no2 vs H Q E)⟩⟩
 | k+1=>λx st f fd h Pr F S=>by
  have ih:=KD (P:=P) O hB k;have hcl:∀{A:bA} {qual:Str} {s:au} {cU:ag} (hr:dg (3*k+2) (A.deeper (envOfC qual (aF st) s.heap.objs.size f cU))),∀C n,(P.cls.map λd=>(d.1,(params d.2).length-1)).lookup C=some n->∃k' Ca f' fd ps,Mk K Ca f'/\Br K Ca/\(∀f,P.flds.contains f=true->d9 K Ca f)/\FnOk prog w K mg base (ji prog w) k' f' fd ps (W8 K n (vp P (eV P k) C))/\dg (k'+1) (A.deeper (envOfC qual (aF st) s.heap.objs.size f cU))/\mg C=some (.ref Ca)/\dS K fd ps []:=λ{A qual s cU} hr C n hy=>by
   rw[fM (λst=>(params st).length-1)]at hy
   obtain⟨lY,h1,h2⟩:=aq hy;subst h2;obtain⟨Ca,f',Ey,M,c,na,m1,F1,B1,S1⟩:=O.cls C lY h1;exact⟨3*k+1,Ca,f',Ey,params lY,M,c,na,X0 O ih h1 F1 S1,hr,m1,B1⟩
  refine⟨Ex (k:=3*k+2) F S (λvs H Q E ⟨F',ps,e,_,hb,hl,_⟩=>by rw[<-hb.length];exact hl) (λcU A outer s H vs Q E RQ hr lz=>?_),Ex (k:=3*k+2) F S (λvs H Q E ⟨F',o,ps,e,a,us,hv,_,_,hb,hl,eJ,_⟩=>?_) (λcU A outer s H vs Q E RQ hr lz=>?_)⟩
  ·obtain⟨F',ps,e,hs,hb,hl,eJ,hq⟩:=lz;have eJ:(P.defs.lookup x).bind (λst=>(er gD (iU P st (eV P k)) (bH st)).bind λf=>p7 f (bI st).length ps)=some e:=eJ
   rw[h]at eJ;obtain⟨g,hg,eJ⟩:=ao (show(er gD (iU P st (eV P k)) (bH st)).bind (λf=>p7 f (bI st).length ps)=some e from eJ)
   have G:Hf (iU P st (eV P k)) (ju (ji prog w) prog w K mg base (bI st) x (aF st) f cU A outer s H E):=KA O ih S hr (by lia) (hcl hr) (KC O ih h Pr RQ hB hr)
   refine⟨tS (ju (ji prog w) prog w K mg base (bI st) x (aF st) f cU A outer s H E) H F' g,(XU gD).ss (iU P st (eV P k)) _ (bH st) g G hg H F',?_⟩;unfold p7 at eJ;split at eJ
   ·rename_i p z;cases eJ;exact⟨F',_,_,k0 hs hb,z,hq⟩
   ·rename_i qs z;cases eJ;exact⟨F',_,_,k0 hs hb,z,hq⟩
   ·rename_i m z;cases eJ;exact⟨F',_,_,k0 hs hb,z,hq⟩
   ·rename_i eS z;cases eJ;exact⟨F',_,_,k0 hs hb,z,λF2 AM H2 R2 s2=>hq .cE F2 H2 R2.post s2 (cX.mpr rfl)⟩
   ·cases eJ
  ·have eJ:(P.defs.lookup x).bind (λst=>(er gD (iU P st (eV P k)) (bH st)).bind λf=>if ps.length+1=(params st).length then oF f (bI st).length o ps else none)=some e:=eJ
   rw[h]at eJ;obtain⟨g,hg,eJ⟩:=ao (show(er gD (iU P st (eV P k)) (bH st)).bind (λf=>if ps.length+1=(params st).length then oF f (bI st).length o ps else none)=some e from eJ)
   rw[hv,aW,<-hb.length];exact(aw eJ).1
  ·obtain⟨F',o,ps,e,a,us,rfl,hs,ho,hb,hl,eJ,hq⟩:=lz;have eJ:(P.defs.lookup x).bind (λst=>(er gD (iU P st (eV P k)) (bH st)).bind λf=>if ps.length+1=(params st).length then oF f (bI st).length o ps else none)=some e:=eJ
   rw[h]at eJ;obtain⟨g,hg,eJ⟩:=ao (show(er gD (iU P st (eV P k)) (bH st)).bind (λf=>if ps.length+1=(params st).length then oF f (bI st).length o ps else none)=some e from eJ)
   have eJ:=(aw eJ).2;have G:Hf (iU P st (eV P k)) (ju (ji prog w) prog w K mg base (bI st) x (aF st) f cU A outer s H E):=KA O ih S hr (by lia) (hcl hr) (KC O ih h Pr RQ hB hr)
   refine⟨tS (ju (ji prog w) prog w K mg base (bI st) x (aF st) f cU A outer s H E) H F' g,(XU gD).ss (iU P st (eV P k)) _ (bH st) g G hg H F',?_⟩;unfold oF at eJ;split at eJ
   ·rename_i p z;cases eJ;exact⟨F',_,_,se hs ho hb,z,hq⟩
   ·rename_i qs z;cases eJ;exact⟨F',_,_,se hs ho hb,z,hq⟩
   ·rename_i m z;cases eJ;exact⟨F',_,_,se hs ho hb,z,hq⟩
   ·rename_i eS z;cases eJ;exact⟨F',_,_,se hs ho hb,z,λF2 AM H2 R2 s2=>hq .cE F2 H2 R2.post s2 (cX.mpr rfl)⟩
   ·cases eJ
def vq(ns:List Int):PV:=.aA (ns.map .int)
theorem zX{F:Hp}:∀ns:List Int,aP K F (ns.map .int) (ns.map V.int)
 | []=>.nil
 | n::r=>.cons (aG.mpr rfl) (zX r)
theorem T7{P:Pg}{k:Nat}{H:Hp}{a:ab}{ns:List Int}(hr:run P k "law" [vq ns]=some (.val (.bl true)))(hS:nJ K H a (ns.map V.int)):zc K 1 (run P k "law") [.ref a] H (λv _=>v=.bl true) λ_ _ _=>False :=
 ⟨H,[vq ns],_,Same.refl H,.cons (aV.mpr ⟨a,_,rfl,hS,zX ns⟩) .nil,rfl,hr,λv F' H' _ _ b=>bU.mp b⟩
end
theorem fH{α β:Type} [BEq α] [LawfulBEq α] {k:α} {v:β}:∀{l:List (α×β)},l.lookup k=some v->(k,v)∈l
 | [],h=>by cases h
 | (a,b)::l,h=>by
  rw[gV]at h;cases z:k==a with
  | true =>
   rw[z]at h;cases h;rw[bD z];exact bE
  | false =>
   rw[z]at h;exact bx _ (fH h)
theorem Bs.at{K:ah}{h:Heap}{mg:cZ}{C D:Str}{b:Bool}(x:Bs K C D b)(X:K.In h)(G:h.Ns mainGlobals mg):Jr K mg C D b:=by
 obtain⟨cls,dv,hc,hn,r⟩:=x;refine⟨cls,dv,hc,?_,r⟩;rcases hn with z | ⟨z,y⟩
 ·exact .inl (W.mg_of X G z)
 ·exact .inr ⟨W.mg_none_of X G z,y⟩
theorem EY.at{K:ah}{h:Heap}{mg:cZ}{P:Params}{T:Str}{rows:List (Str×Str)}(x:EY K P T rows)(X:K.In h)(G:h.Ns mainGlobals mg):u9 K mg P T rows:=by
 obtain⟨a,es,n,h1,h2,h3,h4⟩:=x;refine⟨a,es,n,W.mg_of X G h1,h2,h3,λk fn e=>?_⟩
 obtain⟨f,h5,h6⟩:=h4 (k,fn) (fH e);exact⟨f,h5,W.mg_of X G h6,h6⟩
theorem yr.at{K:ah}{h:Heap}{mg:cZ}{P:Params}{T:Str}{rows:List (Str×PV)}(x:yr K P T rows)(X:K.In h)(G:h.Ns mainGlobals mg):w9 K mg P T rows:=by
 obtain⟨a,es,n,h1,h2,h3,h4⟩:=x;exact⟨a,es,n,W.mg_of X G h1,h2,h3,λk p e=>h4 (k,p) (fH e)⟩
theorem Hz.at{K:ah}{h base:Heap}{mg:cZ}(b:Hz K)(X:K.In h)(G:h.Ns mainGlobals mg)(Y:K.In base):y8 mg base :=
 let ⟨bm,o,h1,h2,h3,h4,h5⟩:=b;⟨bm,o,W.mg_of X G h1,h2,h3,Y _ _ h4,h5⟩
def vt(K:ah):List (ab×Str):=dG.filterMap λx=>(W.tabIn K x).map λcT=>(cT.2,t9 x)
theorem vv{α β:Type} [BEq α] [LawfulBEq α] {b:α} {q:β}:∀{l:List (α×β)},(l.map (·.1)).Nodup->(b,q)∈l->l.lookup b=some q
 | [],_,h=>nomatch h
 | (a,v)::l,hn,h=>by
  rw[bC,c8]at hn;rw[gV];rcases aZ.mp h with e | h'
  ·cases e;rw[qG]
  ·have:(b==a)=false:=by
    rw[iH];intro z;subst z;exact hn.1 (bt.mpr ⟨_,h',rfl⟩)
   rw[this];exact vv hn.2 h'
theorem Gx(K:ah):(vt K).map (·.1)=dG.filterMap λx=>(W.tabIn K x).map (·.2):=by
 unfold vt;rw[List.map_filterMap]
 congr 1
 funext x
 cases W.tabIn K x<;>rfl
theorem mw.tabs{K:ah}{h:Heap}(t:mw K h)(X:K.In h):(∀b q,(vt K).lookup b=some q->h.get? b=some {cls:=.none,data:=.fields #[]}/\isCodeTable h b/\K.lookup b=none)/\∀H:Hp,(∀b q,(vt K).lookup b=some q->H b=some (.yq q))->qW K H:=by
 refine⟨λb q e=>?_,λH hH x hx c T e=>?_⟩
 ·have hm:=fH e;unfold vt at hm;obtain⟨x,hx,e2⟩:=lO.mp hm;obtain⟨cT,e3,e4⟩:=jl.mp e2;cases e4;obtain⟨h1,h2,h3⟩:=t.at_ x hx cT.1 cT.2 e3;obtain⟨o,vs,_,_,_,_,_,_,_,g1,g2,g3,g4,_⟩:=W.codeHd_of_K X h1;exact⟨h2,⟨_,o,vs,g1,g2,g3,g4⟩,h3⟩
 ·refine hH T (t9 x) (vv (by rw[Gx];exact t.nd) ?_)
  unfold vt;exact lO.mpr ⟨x,hx,by rw[e];rfl⟩
structure KH (P:Pg):Prop where
 dn:P.defs.all (λd=>defName d.2==d.1)=true
 sp:P.mr=[]\/∃p q,P.defs.lookup ("spread":Str)=some (hW p)/\P.defs.lookup ("tell_new":Str)=some (si q)/\((q 15).endLine==(q 20).line)=true/\P.df.contains ("len":Str)=true
theorem acE{P:Pg}{K:ah}{h:Heap}{mg:cZ}(X:K.In h)(G:h.Ns mainGlobals mg)(hd:∀d∈P.defs,Hw K d.1 d.2)
  (hc:∀d∈P.cons,∃u v,W.nsIn K mainGlobals d.1=some (some u)/\RelV v u/\∀F,cx K F d.2 v) (hb:∀x∈P.df,W.nsIn K mainGlobals x=some none) (he:∀C∈P.exc,uz K C) (hs:∀d∈P.sub,Bs K d.1.1 d.1.2 d.2) {w:aM} (ht:∀d∈P.tabs,EY K w.params d.1 d.2) (hcl:∀d∈P.cls,QN K d.1 d.2 P.flds) (hct:∀d∈P.eK,yr K w.params d.1 d.2) (LS:KH P) (hlm:∀x∈P.mr,QO K x):T6 P w K mg where
 fns:=λx st e=>by
  obtain⟨⟨f,fd,a,F,b⟩,s⟩:=hd (x,st) (dC e);exact⟨f,fd,F,.all b,W.mg_of X G a,s⟩
 cons:=λx p e=>by
  obtain⟨u,v,a,r,b⟩:=hc (x,p) (dC e);exact⟨u,v,W.mg_of X G a,r,b⟩
 df:=λx e=>W.mg_none_of X G (hb x (by simpa using e))
 excs:=λC e=>he C (by simpa using e)
 subs:=λC D b e=>(hs ((C,D),b) (fH e)).at X G
 tabs:=λT rows e=>(ht (T,rows) (fH e)).at X G
 ns:=λx a e=>W.mg_of X G e
 cls:=λC st e=>by
  obtain⟨Ca,f,fd,a,M,c,na,F,b,s⟩:=hcl (C,st) (dC e);exact⟨Ca,f,fd,M,c,λg hg=>na g (by simpa using hg),W.mg_of X G a,F,.all b,s⟩
 eK:=λT rows e=>(hct (T,rows) (fH e)).at X G
 xq:=λx st e hs=>by
  have hx:defName st=x:=bD (dj.mp LS.dn (x,st) (dC e));rcases LS.sp with z | ⟨p,q,e1,e2,e3,e4⟩
  ·rw[z]at hs;cases hs
  ·obtain⟨⟨f1,fd1,a1,F1,b1⟩,s1⟩:=hd _ (dC e1);obtain⟨⟨f2,fd2,a2,F2,b2⟩,s2⟩:=hd _ (dC e2);rw[hx]at hs;exact⟨⟨p,q,f1,f2,fd1,fd2,F1,W.mg_of X G a1,.all b1,s1,F2,W.mg_of X G a2,.all b2,s2,e3,W.mg_none_of X G (hb "len" (by simpa using e4))⟩,hlm x (by simpa using hs)⟩
theorem Gy{P:Pg}{N:Nat}{x:Str}{st:ay}{l:W.OpenLaw}{q:bh}{loose:List Str}{XP:cZ->Heap->Prop}{YP:aM->Heap->Prop}{d:DefRec}(wq:P.defs.lookup ("law":Str)=some st)(hx:params st=[x])
  (hn:l.most=some 63) (hdn:d.name="law") (hdf:d.params.defaults=[]) (hr:dg (3*N) callerA) (LS:KH P) (hY:∀(w:aM) (h:Heap),YP w h->∃K:ah,K.In h/\HA P w K/\mw K h)
  (acF:∀ns:List Int,ns.length<=63->run P N "law" [vq ns]=some (.val (.bl true))):W.WalkO q loose XP YP l.row.toRowW d [] (λf vs=>PySem.call f vs):=by
 refine Att.y0 hn hdf λw s₀ s₁ mg mb fa o pm cd doc a vs ns G Y ho hd uC Pr IC ID cD hg=>?_
 obtain⟨K,KX,T,TH⟩:=hY w _ Y;obtain⟨t1,t2⟩:=TH.tabs KX;have O:=acE KX G.T.g T.hd T.hc T.hb T.he T.hs (w:=w) T.ht T.hcl T.hct LS T.hlm;obtain⟨⟨f,fd,e0,F,b⟩,s⟩:=T.hd ("law",st) (dC wq);rw[hdn]at Pr;have e:=Pr.symm.trans (W.mg_of KX G.T.g e0);cases e;rw[hx]at b;refine Fq (CX:=ji l.prog w) (sp:=zc K 1 (run P N "law")) KX G.T.g G.T.b G.T.builtins G.T.nolimit hg t1 t2 IC ID (b0 cD (by decide)) hr (λbase kb _=>?_) (λs u=>.of_eq (b [u] rfl)) (λH hS=>T7 (acF ns cD) hS) λ_ _ _ ⟨_,_,_,_,_,_,_,_,_,_,_,h,_⟩=>h
 have k:=(KD (prog:=l.prog) (w:=w) (base:=base) O (λz=>(T.hbm z).at KX G.T.g kb) N "law" st _ fd wq (W.mg_of KX G.T.g e0) F s).1
 rw[hx]at k;exact k
end L2.PL
namespace L2.PL
open PySem
section
variable {fa fb fc:FE} {g g':PV->PV->bQ} {ρ:aC} {gc gd:eR} {ts:bG} {f h:FS} {p q:PV} {i j:Int} {n m:Nat} {ps qs:av}
theorem sG:f6=100000:=rfl
@[simp] theorem Zv:i8=1000:=rfl
@[simp] theorem acG:Jd=18446744073709551616:=rfl
def UW:cg->bQ
 | some (.val p)=>some p
 | _=>none
@[simp] theorem aeg:rd n ρ=UW ρ[n]?:=by unfold rd UW;rfl
@[simp] theorem Zw:UW (some (.val p))=some p:=rfl
@[simp] theorem acH:UW (some .un)=none:=rfl
@[simp] theorem Zx:UW (some (.own ps))=none:=rfl
@[simp] theorem X1:UW none=none:=rfl
@[simp] theorem Oq:ak fa fb g ρ=(fa ρ).bind λx=>(fb ρ).bind λy=>g x y:=rfl
@[simp] theorem Ot:wK gc gd ρ=(gc ρ).bind λx=>if x=true then gd ρ else some false:=rfl
@[simp] theorem KI:zb gc gd ρ=(gc ρ).bind λx=>if x=true then some true else gd ρ:=rfl
@[simp] theorem Ou:g9 gc ρ=(gc ρ).map λx=>!x:=rfl
def toBE:PV->Option Bool
 | .bl b=>some b
 | _=>none
@[simp] theorem toB_ap:toB fa ρ=(fa ρ).bind toBE:=by unfold toB toBE;rfl
@[simp] theorem toBE_bl{b:Bool}:toBE (.bl b)=some b:=rfl
@[simp] theorem Ov:uf fa fb ρ=((fa ρ).bind toBE).bind λx=>if x=true then fb ρ else some (.bl false):=by unfold uf;rw[toB_ap]
@[simp] theorem acI:WC fa fb ρ=(fa ρ).bind (FW (fb ρ)):=rfl
@[simp] theorem Zy{b:Bool}{w:bQ}:FW w (.bl b)=if b=true then some (.bl true)else w:=rfl
@[simp] theorem X2{w:bQ}:FW w (.aA [])=w:=rfl
@[simp] theorem UX{w:bQ}:FW w (.aA (p::ps))=some (.aA (p::ps)):=rfl
@[simp] theorem Ow{fr:aC->cg}:Js n fr ρ=(fr ρ).bind λe=>if n<ρ.length then some (.nx (ρ.set n e))else none:=rfl
@[simp] theorem KJ{c:av->cg}:rM (aX n c) ts ρ=(ts ρ).bind λas=>(if as.length=n then c as else none).bind zr:=rfl
@[simp] theorem X3:zr (.val p)=some (.val p):=rfl
@[simp] theorem X4:zr (.own ps)=some (.own ps):=rfl
@[simp] theorem Zz:Nt fa fb ρ=(fa ρ).bind λx=>(fb ρ).bind λy=>FU x y:=rfl
@[simp] theorem X5:FU (.aA ps) (.aA qs)=if ps.length+qs.length<=f6 then some (.own (ps++qs))else none:=rfl
@[simp] theorem ZA:Ce fa ρ=(fa ρ).map .val:=rfl
@[simp] theorem Ox{rows:List (Str×Str)}{fns:List (Str×Nat)}{c:fZ}:FP rows fns c fa ts ρ=(fa ρ).bind (Sx rows fns c ts ρ):=rfl
@[simp] theorem KL{rows:List (Str×Str)}{fns:List (Str×Nat)}{c:fZ}{x:Str}:Sx rows fns c ts ρ (.str x)=(rows.lookup x).bind λfn=>(fns.lookup fn).bind λm=>aK (aX m (c fn)) ts ρ:=rfl
@[simp] theorem X6:Jv [.int i]=if 0<=i/\i<1000 then some (.str (toString i))else none:=rfl
@[simp] theorem ZC:Fv fa ρ=((fa ρ).bind toBE).map λx=>.bl (!x):=by unfold Fv;rw[toB_ap]
@[simp] theorem Oy:IM gc fa fb ρ=(gc ρ).bind λx=>if x=true then fa ρ else fb ρ:=rfl
def xI(y:PV)(w:bQ)(g':PV->PV->bQ):PV->bQ
 | .bl true=>w.bind λw=>g' y w
 | .bl false=>some (.bl false)
 | _=>none
@[simp] theorem KN:chain fa fb fc g g' ρ=(fa ρ).bind λx=>(fb ρ).bind λy=>(g x y).bind (xI y (fc ρ) g'):=by unfold chain xI;rfl
@[simp] theorem KO{y:PV}{w:bQ}:xI y w g' (.bl true)=w.bind λw=>g' y w:=rfl
@[simp] theorem KP{y:PV}{w:bQ}:xI y w g' (.bl false)=some (.bl false):=rfl
@[simp] theorem ZD:ar ρ=some []:=rfl
@[simp] theorem dr:af fa ts ρ=(fa ρ).bind λx=>(ts ρ).map λxs=>x::xs:=rfl
@[simp] theorem nk:cj ts ρ=(ts ρ).bind λps=>if ps.length<=f6 then some (.aI ps)else none:=rfl
@[simp] theorem xJ:dy ts ρ=(ts ρ).bind λps=>if ps.length<=f6 then some ps else none:=rfl
@[simp] theorem Oz:cB ts ρ=(ts ρ).map .aA:=rfl
@[simp] theorem KQ{c:av->cg}:aK (aX n c) ts ρ=(ts ρ).bind λas=>(if as.length=n then c as else none).bind l0:=rfl
@[simp] theorem X7{c:av->cg}:kq (aX n c) ts ρ=(ts ρ).bind λas=>(if as.length=n then c as else none).bind MW:=rfl
@[simp] theorem X8:l0 (.val p)=some p:=rfl
@[simp] theorem X9:l0 (.own ps)=some (.aA ps):=rfl
@[simp] theorem Yb:MW (.own ps)=some ps:=rfl
@[simp] theorem OA{c:av->bQ}:dq c ts ρ=(ts ρ).bind c:=rfl
@[simp] theorem T8{t:Ty}:DX t fa ρ=(fa ρ).map λp=>.bl (f9 t p):=rfl
@[simp] theorem acJ:Hb ρ=some none:=rfl
def KR:PV->Option (Option Int)
 | .int i=>some (some i)
 | _=>none
@[simp] theorem Yc:e9 fa ρ=(fa ρ).bind KR:=by unfold e9 KR;rfl
@[simp] theorem UY:KR (.int i)=some (some i):=rfl
@[simp] theorem Ez{fl fh:FO}:cutE fa fl fh ρ=(fa ρ).bind λp=>(fl ρ).bind λl=>(fh ρ).bind λh=>PQ l h p:=rfl
@[simp] theorem ZE{l u:Option Int}:PQ l u (.aA ps)=some (.aA (jW ps l u)):=rfl
@[simp] theorem ZF{l u:Option Int}:PQ l u (.aI ps)=some (.aI (jW ps l u)):=rfl
@[simp] theorem ZG:ot fa ρ=(fa (fO none ρ)).bind λp=>if kz p=true then some p else none:=rfl
@[simp] theorem ZH:mN gc ρ=gc (fO none ρ):=rfl
@[simp] theorem OB{L:List Nat}:zj L f ρ=f (fO (some L) ρ):=rfl
@[simp] theorem ZI{L:Option (List Nat)}:fO L ρ=fy L 0 ρ:=rfl
@[simp] theorem Qx{L:Option (List Nat)}:fy L n []=[]:=rfl
@[simp] theorem OC{L:Option (List Nat)}{e:Ent}{r:aC}:fy L n (e::r)=dJ L n e::fy L (n+1) r:=rfl
@[simp] theorem UZ{L:Option (List Nat)}:dJ L n .un=.un:=rfl
@[simp] theorem T9{L:Option (List Nat)}:dJ L n (.val p)=.val p:=rfl
@[simp] theorem Ua:dJ none n (.own ps)=.val (.aA ps):=rfl
@[simp] theorem Qy{l:List Nat}:dJ (some l) n (.own ps)=if n∈l then .val (.aA ps)else .own ps:=rfl
@[simp] theorem U0:kz (.int i)=true:=rfl
@[simp] theorem Yd{b:Bool}:kz (.bl b)=true:=rfl
def CK(h:FS):pQ->Option pQ
 | .nx ρ=>h ρ
 | o=>some o
@[simp] theorem EA:bq f h ρ=(f ρ).bind (CK h):=by
 unfold bq CK
 congr 1
@[simp] theorem ZJ:CK h (.nx ρ)=h ρ:=rfl
@[simp] theorem ZK{e:Ent}:CK h (.rt e)=some (.rt e):=rfl
@[simp] theorem ZL:CK h (.bk ρ)=some (.bk ρ):=rfl
@[simp] theorem ZM:CK h (.ct ρ)=some (.ct ρ):=rfl
@[simp] theorem ZN{m:Bool}{C:Str}:CK h (.ex m C ρ)=some (.ex m C ρ):=rfl
@[simp] theorem KS:jZ gc f h ρ=(gc ρ).bind λx=>if x=true then f ρ else h ρ:=rfl
@[simp] theorem OD:cy fa ρ=(fa ρ).map λp=>.rt (.val p):=rfl
@[simp] theorem Ye:o9 fa ρ=(fa ρ).map λ_=>.nx ρ:=rfl
@[simp] theorem OE{t:eG}:ck fa t ρ=(fa ρ).bind λp=>(t p ρ).map .nx:=rfl
@[simp] theorem ZO:aD n p ρ=if n<ρ.length then some (ρ.set n (.val p))else none:=rfl
@[simp] theorem OF:l6 n ts ρ=(ts ρ).bind λps=>if n<ρ.length then some (.nx (ρ.set n (.own ps)))else none:=rfl
@[simp] theorem ZP{t:av->aC->Option aC}:fD n t (.aI ps) ρ=if ps.length=n then t ps ρ else none:=rfl
@[simp] theorem ZQ:eH [] ρ=some ρ:=rfl
@[simp] theorem Yg{t:eG}{r:av->aC->Option aC}:bB t r (p::ps) ρ=(t p ρ).bind λeS=>r ps eS:=rfl
def OG:cg->Option pQ
 | some (.own ps)=>some (.rt (.own ps))
 | some (.val p)=>some (.rt (.val p))
 | _=>none
@[simp] theorem OH:oo n ρ=OG ρ[n]?:=by unfold oo OG;rfl
@[simp] theorem Yh:OG (some (.own ps))=some (.rt (.own ps)):=rfl
@[simp] theorem Yi:OG (some (.val p))=some (.rt (.val p)):=rfl
def Ub(n:Nat)(ts:bG)(g:av->av->Option av)(ρ:aC):cg->Option pQ
 | some (.own ps)=>(ts ρ).bind λas=>(g ps as).map λqs=>.nx (ρ.set n (.own qs))
 | _=>none
@[simp] theorem EB{g:av->av->Option av}:gK n ts g ρ=Ub n ts g ρ ρ[n]?:=by unfold gK Ub;rfl
@[simp] theorem zY{g:av->av->Option av}:Ub n ts g ρ (some (.own ps))=(ts ρ).bind λas=>(g ps as).map λqs=>.nx (ρ.set n (.own qs)):=rfl
@[simp] theorem OI:rH ps [p]=if ps.length<f6 then some (ps++[p])else none:=rfl
@[simp] theorem KU:l7 ps [.aA qs]=if ps.length+qs.length<=f6 then some (ps++qs)else none:=rfl
@[simp] theorem Yj:l7 ps [.aI qs]=if ps.length+qs.length<=f6 then some (ps++qs)else none:=rfl
def zZ:PV->Option av
 | .aI ps=>some ps
 | .aA ps=>some ps
 | _=>none
@[simp] theorem EC:dz fa ρ=(fa ρ).bind zZ:=by unfold dz zZ;rfl
@[simp] theorem U1:zZ (.aI ps)=some ps:=rfl
@[simp] theorem U2:zZ (.aA ps)=some ps:=rfl
@[simp] theorem Yk:Jm (.aI ps)=some ps:=rfl
@[simp] theorem Yl:Jm (.aA ps)=some ps:=rfl
@[simp] theorem OJ{fi:bG}{t:eG}:gA fi t f ρ=(fi ρ).bind λps=>eZ t f ps ρ:=rfl
@[simp] theorem Ym{t:eG}:eZ t f [] ρ=some (.nx ρ):=rfl
def Gz(k:aC->Option pQ):pQ->Option pQ
 | .nx ρ=>k ρ
 | .ct ρ=>k ρ
 | .bk ρ=>some (.nx ρ)
 | .rt e=>some (.rt e)
 | .ex m C ρ=>some (.ex m C ρ)
theorem jc{t:eG}:eZ t f (p::ps) ρ=(t p ρ).bind λd6=>(f d6).bind (Gz (eZ t f ps)):=by
 rw[eZ]
 congr 1
@[simp] theorem qt{k:aC->Option pQ}:Gz k (.nx ρ)=k ρ:=rfl
@[simp] theorem ZR{k:aC->Option pQ}:Gz k (.ct ρ)=k ρ:=rfl
@[simp] theorem ZS{k:aC->Option pQ}:Gz k (.bk ρ)=some (.nx ρ):=rfl
@[simp] theorem ZT{k:aC->Option pQ}{e:Ent}:Gz k (.rt e)=some (.rt e):=rfl
@[simp] theorem ZU{k:aC->Option pQ}{m:Bool}{C:Str}:Gz k (.ex m C ρ)=some (.ex m C ρ):=rfl
@[simp] theorem z0{L:List (Option Nat)}{fi:bG}{t:eG}:dI L fi t fa ρ=(fi ρ).bind λps=>if ps.length<=f6 then kx (λp=>(t p (bM L ρ)).bind fa) ps else none:=rfl
@[simp] theorem KW{L:List (Option Nat)}{fi:bG}{t:eG}:pe L fi t gc fa ρ=(fi ρ).bind λps=>if ps.length<=f6 then ku (λp=>(t p (bM L ρ)).bind λd6=>(gc d6).bind λb=>if b=true then(fa d6).map some else some none) ps else none:=rfl
def ED:cg->Ent
 | some (.val p)=>.val p
 | some (.ob o)=>.ob o
 | _=>.un
def KY(ρ:aC):Option Nat->Ent
 | none=>.un
 | some j=>ED ρ[j]?
@[simp] theorem U3{L:List (Option Nat)}:bM L ρ=L.map (KY ρ):=by
 unfold bM
 congr 1
@[simp] theorem Uc:KY ρ none=.un:=rfl
@[simp] theorem Ud:KY ρ (some n)=ED ρ[n]?:=rfl
@[simp] theorem U4:ED (some (.val p))=.val p:=rfl
@[simp] theorem Yn{o:Ob}:ED (some (.ob o))=.ob o:=rfl
def OK:av->Option av
 | [.int j]=>if -(2^62)<=j/\j<2^62 then some ((List.range j.toNat).map fun(i:Nat)=>.int (0+i))else none
 | _=>none
@[simp] theorem OL:jU ts ρ=(ts ρ).bind OK:=by unfold jU OK;rfl
theorem KZ:OK [.int j]=if -(2^62)<=j/\j<2^62 then some ((List.range j.toNat).map fun(i:Nat)=>.int (0+i))else none:=rfl
theorem oG:∀ns:List Int,gM (ns.map .int)=some ns
 | []=>rfl
 | n::r=>by simp[gM,oG r]
@[simp] theorem ZV{fl fh:FO}:NB fa fl fh ρ=(fa ρ).bind λp=>(fl ρ).bind λl=>(fh ρ).bind λh=>(Sz p).map λxs=>.own (jW xs l h):=rfl
@[simp] theorem Yo:Sz (.aA ps)=some ps:=rfl
@[simp] theorem nq:cI (.int i) (.int j)=some (.int (i+j)):=rfl
@[simp] theorem Yp:cI (.aA ps) (.aA qs)=sizeOk (ps.length+qs.length) (.aA (ps++qs)):=rfl
@[simp] theorem Yq:cI (.aI ps) (.aI qs)=sizeOk (ps.length+qs.length) (.aI (ps++qs)):=rfl
theorem oH(h:n<=f6):sizeOk n p=some p:=if_pos h
@[simp] theorem K1:BW (.int i) (.int j)=some (.int (i-j)):=rfl
theorem z6:gT (.int i) (.int j)=if(-Jd<i/\i<Jd)\/(-Jd<j/\j<Jd)then some (.int (i*j))else none:=rfl
@[simp] theorem GA:hV (.int i) (.int j)=if 0<j/\j<1073741824 then some (.int (i/j))else none:=rfl
@[simp] theorem K2:fP (.int i) (.int j)=if 0<j then some (.int (i%j))else none:=rfl
@[simp] theorem sI:pU (.int i) (.int j)=if 0<=j/\j<=1000/\i.natAbs<1000 then some (.int (i^j.toNat))else none:=rfl
@[simp] theorem OM:FD (.int i) (.int j)=some (.bl (decide (i<j))):=rfl
@[simp] theorem ZW:L6 (.int i) (.int j)=some (.bl (decide (i<=j))):=rfl
@[simp] theorem ZX:Zg (.int i) (.int j)=some (.bl (decide (j<i))):=rfl
@[simp] theorem ON:Wt (.int i) (.int j)=some (.bl (decide (j<=i))):=rfl
@[simp] theorem jE:mq (.int i) (.int j)=some (.bl (decide (i=j))):=by
 show(if nK (.int i)<=i8 then some (PV.bl (eqT (.int i) (.int j)))else none)=_
 rw[if_pos (by simp[nK,i8])]
 simp only[eqT,Bool.beq_eq_decide_eq]
@[simp] theorem xK:BZ (.int i) (.int j)=some (.bl (!decide (i=j))):=by
 show(if nK (.int i)<=i8 then some (PV.bl (!eqT (.int i) (.int j)))else none)=_
 rw[if_pos (by simp[nK,i8])]
 simp only[eqT,Bool.beq_eq_decide_eq]
@[simp] theorem xM{x y:Str}:mq (.str x) (.str y)=some (.bl (x==y)):=by
 show(if nK (.str x)<=i8 then some (PV.bl (eqT (.str x) (.str y)))else none)=_
 rw[if_pos (by simp[nK,i8])]
 simp only[eqT]
@[simp] theorem xN{x y:Str}:BZ (.str x) (.str y)=some (.bl (!(x==y))):=by
 show(if nK (.str x)<=i8 then some (PV.bl (!eqT (.str x) (.str y)))else none)=_
 rw[if_pos (by simp[nK,i8])]
 simp only[eqT]
@[simp] theorem acK{x y:Bool}:mq (.bl x) (.bl y)=some (.bl (x==y)):=by
 show(if nK (.bl x)<=i8 then some (PV.bl (eqT (.bl x) (.bl y)))else none)=_
 rw[if_pos (by simp[nK,i8])]
 simp only[eqT]
@[simp] theorem acL{x y:Bool}:BZ (.bl x) (.bl y)=some (.bl (!(x==y))):=by
 show(if nK (.bl x)<=i8 then some (PV.bl (!eqT (.bl x) (.bl y)))else none)=_
 rw[if_pos (by simp[nK,i8])]
 simp only[eqT]
theorem Ue(h:nK p<=i8):mq p q=some (.bl (eqT p q)):=if_pos h
@[simp] theorem ZY:bL (.aI ps) (.int i)=atI ps i:=rfl
@[simp] theorem ZZ:bL (.aA ps) (.int i)=atI ps i:=rfl
@[simp] theorem K3:eF [.aI ps]=some (.int ps.length):=rfl
@[simp] theorem sJ:eF [.aA ps]=some (.int ps.length):=rfl
@[simp] theorem Yr:rK [.aA ps]=some (.aI ps):=rfl
@[simp] theorem Ys:rK [.aI ps]=some (.aI ps):=rfl
@[simp] theorem Yt:Jj [.aA ps]=some (.aA ps):=rfl
@[simp] theorem Yu:Jj [.aI ps]=some (.aA ps):=rfl
@[simp] theorem Yv:B8 [.int i]=some (.int i):=rfl
@[simp] theorem Z0{b:Bool}:B8 [.bl b]=some (.int (if b then 1 else 0)):=rfl
@[simp] theorem Qz{α:Type}{x:α}{r:List α}:atI (x::r) 0=some x:=by
 unfold atI Iz;rw[if_pos (by decide),if_pos (by simp <;> lia)]
 rfl
@[simp] theorem aeh{α:Type}{x y:α}{r:List α}:atI (x::y::r) 1=some y:=by
 unfold atI Iz;rw[if_pos (by decide),if_pos (by simp <;> lia)]
 rfl
@[simp] theorem aei{α:Type}{x y z:α}{r:List α}:atI (x::y::z::r) 2=some z:=by
 unfold atI Iz;rw[if_pos (by decide),if_pos (by simp <;> lia)]
 rfl
@[simp] theorem aej{α:Type}{x y z w:α}{r:List α}:atI (x::y::z::w::r) 3=some w:=by
 unfold atI Iz;rw[if_pos (by decide),if_pos (by simp <;> lia)]
 rfl
def gf:Option pQ->cg
 | some (.rt (.val p))=>some (.val p)
 | some (.rt (.own ps))=>some (.own ps)
 | some (.rt (.cq m))=>some (.cq m)
 | some (.nx _)=>some (.val .cE)
 | _=>none
@[simp] theorem bO:p7 f n ps=gf (f (ps.map .val++List.replicate (n-ps.length) .un)):=by unfold p7 gf;rfl
@[simp] theorem Z1:gf (some (.rt (.val p)))=some (.val p):=rfl
@[simp] theorem Z2:gf (some (.rt (.own ps)))=some (.own ps):=rfl
@[simp] theorem Z3:gf (some (.nx ρ))=some (.val .cE):=rfl
@[simp] theorem acM:f9 .tuple (.aI ps)=true:=rfl
@[simp] theorem acN:f9 .tuple (.aA ps)=false:=rfl
@[simp] theorem acO:f9 .tuple (.int i)=false:=rfl
@[simp] theorem acP{x:Str}:f9 .tuple (.str x)=false:=rfl
@[simp] theorem acQ{b:Bool}:f9 .tuple (.bl b)=false:=rfl
@[simp] theorem acR:f9 .tuple .cE=false:=rfl
@[simp] theorem acS:f9 .int (.int i)=true:=rfl
@[simp] theorem acT:f9 .bool (.int i)=false:=rfl
@[simp] theorem acU{b:Bool}:f9 .bool (.bl b)=true:=rfl
@[simp] theorem Z4:f9 .list (.aA ps)=true:=rfl
@[simp] theorem Z5{x:Str}:f9 .str (.str x)=true:=rfl
@[simp] theorem Z6:f9 .str (.aI ps)=false:=rfl
@[simp] theorem Z7:f9 .str (.int i)=false:=rfl
@[simp] theorem Z8{b:Bool}:f9 .int (.bl b)=true:=rfl
@[simp] theorem Z9{x:Str}:f9 .int (.str x)=false:=rfl
@[simp] theorem aaa:f9 .int (.aI ps)=false:=rfl
@[simp] theorem aab:f9 .int (.aA ps)=false:=rfl
@[simp] theorem aac:f9 .int .cE=false:=rfl
@[simp] theorem aad:f9 .str (.aA ps)=false:=rfl
@[simp] theorem aae:f9 .str .cE=false:=rfl
@[simp] theorem aaf{b:Bool}:f9 .str (.bl b)=false:=rfl
@[simp] theorem aag{x:Str}:f9 .bool (.str x)=false:=rfl
@[simp] theorem aah:f9 .bool (.aI ps)=false:=rfl
end
theorem GB{j:Int}(h:-1000<=j/\j<=100000):OK [.int j]=some ((List.range j.toNat).map fun(i:Nat)=>.int (0+i)):=by
 rw[KZ];have h1:(-(2^62):Int) <= -1000:=by decide
 have h2:(100000:Int)<2^62:=by decide
 exact if_pos ⟨Int.le_trans h1 h.1,Int.lt_of_le_of_lt h.2 h2⟩
@[simp] theorem aek:0<=f6:=by decide
@[simp] theorem QA:1<=f6:=by decide
@[simp] theorem QB:2<=f6:=by decide
@[simp] theorem Yw:3<=f6:=by decide
@[simp high] theorem ael {ρ:aC}:cj ar ρ=some (.aI []):=rfl
@[simp high] theorem aem {fa:FE} {ρ:aC}:cj (af fa ar) ρ=(fa ρ).map λa=>.aI [a]:=by
 rw[nk,dr];cases fa ρ with
 | none=>rfl
 | some a=>exact if_pos (e:=none) QA
@[simp high] theorem aen {fa fb:FE} {ρ:aC}:cj (af fa (af fb ar)) ρ=(fa ρ).bind λa=>(fb ρ).map λb=>.aI [a,b]:=by
 rw[nk,dr,dr];cases fa ρ with
 | none=>rfl
 | some a=>cases fb ρ with
  | none=>rfl
  | some b=>exact if_pos (e:=none) QB
@[simp high] theorem aeo {fa fb fc:FE} {ρ:aC}:cj (af fa (af fb (af fc ar))) ρ=(fa ρ).bind λa=>(fb ρ).bind λb=>(fc ρ).map λc=>.aI [a,b,c]:=by
 rw[nk,dr,dr,dr];cases fa ρ with
 | none=>rfl
 | some a=>cases fb ρ with
  | none=>rfl
  | some b=>cases fc ρ with
   | none=>rfl
   | some c=>exact if_pos (e:=none) Yw
@[simp high] theorem aep {ρ:aC}:dy ar ρ=some []:=rfl
@[simp high] theorem aeq {fa:FE} {ρ:aC}:dy (af fa ar) ρ=(fa ρ).map λa=>[a]:=by
 rw[xJ,dr];cases fa ρ with
 | none=>rfl
 | some a=>exact if_pos (e:=none) QA
@[simp high] theorem aer {fa fb:FE} {ρ:aC}:dy (af fa (af fb ar)) ρ=(fa ρ).bind λa=>(fb ρ).map λb=>[a,b]:=by
 rw[xJ,dr,dr];cases fa ρ with
 | none=>rfl
 | some a=>cases fb ρ with
  | none=>rfl
  | some b=>exact if_pos (e:=none) QB
theorem lH{n:Nat}(h:n<=100000):n<=f6:=h
theorem QC{n:Nat}(h:n<100000):n<f6:=h
theorem jF{i j:Int}(h:-18446744073709551616<j/\j<18446744073709551616):gT (.int i) (.int j)=some (.int (i*j)):=by
 rw[z6];exact if_pos (.inr h)
theorem jG{ts:bG}{ρ:aC}{j:Int}(h:ts ρ=some [.int j])(hb:-1000<=j/\j<=100000):jU ts ρ=some ((List.range j.toNat).map fun(i:Nat)=>.int (0+i)):=by
 rw[OL,h,aY,GB hb]
theorem fA{f g:FS}{ρ eS:aC}(h:f ρ=some (.nx eS)):bq f g ρ=g eS:=by
 rw[EA,h];rfl
@[simp] theorem Yx:4<=f6:=by decide
@[simp high] theorem aes {fa fb fc fd:FE} {ρ:aC}:cj (af fa (af fb (af fc (af fd ar)))) ρ=(fa ρ).bind λa=>(fb ρ).bind λb=>(fc ρ).bind λc=>(fd ρ).map λd=>.aI [a,b,c,d]:=by
 rw[nk,dr,dr,dr,dr];cases fa ρ with
 | none=>rfl
 | some a=>cases fb ρ with
  | none=>rfl
  | some b=>cases fc ρ with
   | none=>rfl
   | some c=>cases fd ρ with
    | none=>rfl
    | some d=>exact if_pos (e:=none) Yx
theorem b2{fa fb:FE}{g:PV->PV->bQ}{ρ:aC}{x y:PV}{z:bQ}(ha:fa ρ=some x)(hb:fb ρ=some y)(h:g x y=z):ak fa fb g ρ=z:=by
 rw[Oq,ha,hb];exact h
theorem cA{fa:FE}{ts:bG}{ρ:aC}{x:PV}{xs:av}(ha:fa ρ=some x)(hb:ts ρ=some xs):af fa ts ρ=some (x::xs):=by
 rw[dr,ha,hb];rfl
theorem gE{c:av->cg}{ts:bG}{ρ:aC}{as:av}{n:Nat}{e:Ent}{p:PV}(ha:ts ρ=some as)(hn:as.length=n)(hc:c as=some e)(he:l0 e=some p):aK (aX n c) ts ρ=some p:=by
 rw[KQ,ha];show(if as.length=n then c as else none).bind l0=_
 rw[if_pos hn,hc];exact he
theorem clQ{c:av->cg}{ts:bG}{ρ:aC}{as:av}{n:Nat}{e e':Ent}(ha:ts ρ=some as)(hn:as.length=n)(hc:c as=some e)(he:zr e=some e'):rM (aX n c) ts ρ=some e':=by
 rw[KJ,ha];show(if as.length=n then c as else none).bind zr=_
 rw[if_pos hn,hc];exact he
theorem bV{g:av->bQ}{ts:bG}{ρ:aC}{as:av}{z:bQ}(ha:ts ρ=some as)(h:g as=z):dq g ts ρ=z:=by
 rw[OA,ha];exact h
theorem fS{fi:bG}{set:eG}{f:FS}{ρ:aC}{ps:av}{z:Option pQ}(h:fi ρ=some ps)(hf:eZ set f ps ρ=z):gA fi set f ρ=z:=by
 rw[OJ,h];exact hf
theorem tU{ts:bG}{ρ:aC}{ps:av}(h:ts ρ=some ps)(hl:ps.length<=100000):cj ts ρ=some (.aI ps):=by
 rw[nk,h];exact if_pos (lH hl)
theorem lS{ts:bG}{ρ:aC}{ps:av}(h:ts ρ=some ps)(hl:ps.length<=100000):dy ts ρ=some ps:=by
 rw[xJ,h];exact if_pos (lH hl)
theorem fF{ts:bG}{ρ:aC}{ps:av}(h:ts ρ=some ps):cB ts ρ=some (.aA ps):=by
 rw[Oz,h];rfl
theorem aS{fa:FE}{g:eG}{ρ eS:aC}{p:PV}(ha:fa ρ=some p)(h:g p ρ=some eS):ck fa g ρ=some (.nx eS):=by
 rw[OE,ha];show(g p ρ).map pQ.nx=_;rw[h];rfl
theorem sR{fr:aC->cg}{n:Nat}{ρ:aC}{e:Ent}(ha:fr ρ=some e)(h:n<ρ.length):Js n fr ρ=some (.nx (ρ.set n e)):=by
 rw[Ow,ha];exact if_pos h
theorem sO{ts:bG}{n:Nat}{ρ:aC}{ps:av}(ha:ts ρ=some ps)(h:n<ρ.length):l6 n ts ρ=some (.nx (ρ.set n (.own ps))):=by
 rw[OF,ha];exact if_pos h
theorem iT{gc:eR}{f h:FS}{ρ:aC}{z:Option pQ}(hc:gc ρ=some true)(hf:f ρ=z):jZ gc f h ρ=z:=by
 rw[KS,hc];exact hf
theorem iF{gc:eR}{f h:FS}{ρ:aC}{z:Option pQ}(hc:gc ρ=some false)(hf:h ρ=z):jZ gc f h ρ=z:=by
 rw[KS,hc];exact hf
theorem rS{fa:FE}{ρ:aC}{p:PV}(h:fa ρ=some p):cy fa ρ=some (.rt (.val p)):=by
 rw[OD,h];rfl
theorem sL{f g:FS}{ρ:aC}{e:Ent}(h:f ρ=some (.rt e)):bq f g ρ=some (.rt e):=by
 rw[EA,h];rfl
theorem aL{ps qs:av}(h:ps.length+qs.length<=100000):cI (.aA ps) (.aA qs)=some (.aA (ps++qs)):=oH (lH h)
theorem aT{ps qs:av}(h:ps.length+qs.length<=100000):cI (.aI ps) (.aI qs)=some (.aI (ps++qs)):=oH (lH h)
theorem bT{fa:FE}{ρ:aC}{b:Bool}(h:fa ρ=some (.bl b)):toB fa ρ=some b:=by
 rw[toB_ap,h];rfl
theorem eW{x:Option pQ}{p:PV}(h:x=some (.rt (.val p))):gf x=some (.val p):=by rw[h];rfl
theorem GC{x:Option pQ}{ps:av}(h:x=some (.rt (.own ps))):gf x=some (.own ps):=by rw[h];rfl
theorem CL{n:Nat}{ρ:aC}{ps:av}(h:ρ[n]?=some (.own ps)):oo n ρ=some (.rt (.own ps)):=by rw[OH,h];rfl
theorem sq{f g:FS}{ρ eS:aC}{z:Option pQ}(h:f ρ=some (.nx eS))(hg:g eS=z):bq f g ρ=z:=(fA h).trans hg
theorem nB{gc:eR}{ρ:aC}{b:Bool}(h:gc ρ=some b):g9 gc ρ=some (!b):=by
 rw[Ou,h];rfl
theorem mA{n:Nat}{fa:FE}{ρ:aC}{ps:av}{p:PV}(h0:ρ[n]?=some (.own ps))(h:fa ρ=some p)(hl:ps.length<100000):gK n (af fa ar) rH ρ=some (.nx (ρ.set n (.own (ps++[p])))):=by
 rw[EB,h0,zY,cA h rfl,aY,OI,if_pos (QC hl)];rfl
theorem mX{n:Nat}{fa:FE}{ρ:aC}{ps qs:av}(h0:ρ[n]?=some (.own ps))(h:fa ρ=some (.aA qs))(hl:ps.length+qs.length<=100000):gK n (af fa ar) l7 ρ=some (.nx (ρ.set n (.own (ps++qs)))):=by
 rw[EB,h0,zY,cA h rfl,aY,KU,if_pos (lH hl)];rfl
theorem cV{L:List (Option Nat)}{fi:bG}{t:eG}{fa:FE}{ρ:aC}{ps qs:av}(h:fi ρ=some ps)(hl:ps.length<=100000) (hm:kx (λp=>(t p (bM L ρ)).bind fa) ps=some qs):dI L fi t fa ρ=some qs:=by
 rw[z0,h,aY,if_pos (lH hl)];exact hm
theorem cT{L:List (Option Nat)}{fi:bG}{t:eG}{gc:eR}{fa:FE}{ρ:aC}{ps qs:av}(h:fi ρ=some ps)(hl:ps.length<=100000) (hm:ku (λp=>(t p (bM L ρ)).bind λd6=>(gc d6).bind λb=>if b=true then(fa d6).map some else some none) ps=some qs):pe L fi t gc fa ρ=some qs:=by
 rw[KW,h,aY,if_pos (lH hl)];exact hm
theorem sV{fa:FE}{ρ:aC}{p:PV}{ps:av}(h:fa ρ=some p)(hp:zZ p=some ps):dz fa ρ=some ps:=by
 rw[EC,h];exact hp
theorem fC{t:eG}{f:FS}{ρ d6 qg:aC}{p:PV}{ps:av}{z:Option pQ}(h:t p ρ=some d6)(h2:f d6=some (.nx qg))(h3:eZ t f ps qg=z):eZ t f (p::ps) ρ=z:=by
 rw[jc,h,aY,h2,aY,qt];exact h3
section
variable {ρ:aC} {fo:Cr} {o:Ob} {ts:bG} {as:av} {n m i:Nat} {e:Ent} {p:PV} {z:bQ} {fk:FE} {k fn:Str} {fns:List (Str×Nat)} {call:Str->Ob->av->cg}
theorem fV{f:Str}(h:fo ρ=some o)(hf:JD f o=z):r9 fo f ρ=z:=by
 show(fo ρ).bind (JD f)=z;rw[h];exact hf
theorem clO{g:Ob->av->cg}(ho:fo ρ=some o)(ha:ts ρ=some as)(hn:as.length=n)(hc:g o as=some e)(he:l0 e=some p):ei (jX n g) fo ts ρ=some p:=by
 show(fo ρ).bind (λo=>(ts ρ).bind λas=>(jX n g o as).bind l0)=_
 rw[ho,aY,ha,aY];show(if as.length=n then g o as else none).bind l0=_
 rw[if_pos hn,hc];exact he
theorem aO(h:fo ρ=some o)(hi:i<ρ.length):JH i fo ρ=some (.nx (ρ.set i (.ob o))):=by
 unfold JH;rw[h,aY,if_pos hi]
theorem mO{flds:List Str}{mk:av->Option (List (Str×Fd))}{fs:List (Str×Fd)}(ha:ts ρ=some as)(hn:as.length=n)(hm:mk as=some fs)(hc:(fs.all (λf=>flds.contains f.1)&&decide (fs.length<=900))=true):W9 flds n mk ts ρ=some (.IL fs):=by
 unfold W9;rw[ha,aY,if_pos hn,hm,aY,if_pos hc]
theorem qu{f:FS}{N:Nat}{ps:av}:oF f N o ps=gf (f (.ob o::ps.map .val++List.replicate (N-(ps.length+1)) .un)):=rfl
end
end L2.PL
namespace oR
open PySem L2 L2.PL
abbrev cK(p:PV):FE:=λ_=>some p
inductive Sh where
 | num | own | dN (n:Int) | bP (ps:List Sh)
mutual
def enc:Sh->PV
 | .num=>.aI [.str "num"]
 | .own=>.aI [.str "own"]
 | .dN n=>.aI [.str "strip",.int n]
 | .bP ps=>.aI [.str "rec",.aI (c0 ps)]
def c0:List Sh->av
 | []=>[]
 | s::r=>enc s::c0 r
end
mutual
def lv:Sh->List Sh
 | .num=>[.num]
 | .own=>[.own]
 | .dN n=>[.dN n]
 | .bP ps=>iV ps
def iV:List Sh->List Sh
 | []=>[]
 | s::r=>lv s++iV r
end
mutual
def dp:Sh->Nat
 | .bP ps=>uq ps+1
 | _=>0
def uq:List Sh->Nat
 | []=>0
 | s::r=>max (dp s) (uq r)
end
def mj:Sh->Bool
 | .bP _=>false
 | _=>true
theorem ig:∀l:List Sh,c0 l=l.map enc
 | []=>rfl
 | s::r=>by simp[c0,ig r]
theorem z7(a b:List Sh):c0 (a++b)=c0 a++c0 b:=by simp[ig]
theorem gF(a:List Sh):(c0 a).length=a.length:=by simp[ig]
theorem sM:∀a b:List Sh,iV (a++b)=iV a++iV b
 | [],b=>by simp[iV]
 | s::r,b=>by simp[iV,sM r b]
@[simp] theorem s_1:((Str.ofString "num")==(Str.ofString "rec"))=false:=by decide +kernel
@[simp] theorem s_2:((Str.ofString "own")==(Str.ofString "rec"))=false:=by decide +kernel
@[simp] theorem s_3:((Str.ofString "strip")==(Str.ofString "rec"))=false:=by decide +kernel
@[simp] theorem s_4:((Str.ofString "num")==(Str.ofString "strip"))=false:=by decide +kernel
@[simp] theorem s_5:((Str.ofString "own")==(Str.ofString "strip"))=false:=by decide +kernel
@[simp] theorem s_6:((Str.ofString "rec")==(Str.ofString "strip"))=false:=by decide +kernel
def xO(c:fZ):FS:=gK 1 (af (aK (aX 1 (c "leaves")) (af (rd 2) ar)) ar) l7
theorem CM(c:fZ)(ρ:aC):xO c ρ=gK 1 (af (aK (aX 1 (c "leaves")) (af (rd 2) ar)) ar) l7 ρ:=rfl
def nr(c:fZ):FS :=
 (bq (jZ (mN (toB (ak (ak (rd 0) (cK (.int 0)) bL) (cK (.str "rec")) BZ)))
  (cy (cj (af (rd 0) ar)))
  (λρ=>some (.nx ρ)))
  (bq (l6 1 (dy ar))
  (bq (gA (dz (ak (rd 0) (cK (.int 1)) bL)) (aD 2) (xO c))
  (zj [1] (cy (dq rK (af (rd 1) ar)))))))
theorem pB{c:fZ}(X:PV):∀(ps:List Sh) (acc:List Sh) (o:Ent),(∀s∈ps,c "leaves" [enc s]=some (.val (.aI (c0 (lv s)))))->acc.length+(iV ps).length<=100000 ->
  ∃o',eZ (aD 2) (xO c) (c0 ps) [.val X,.own (c0 acc),o]=some (.nx [.val X,.own (c0 (acc++iV ps)),o'])
 | [],acc,o,_,_=>⟨o,by simp[c0,iV]⟩
 | s::r,acc,o,h,hz=>by
  have h1:=h s bE;simp only[iV,bY]at hz;obtain⟨o',ih⟩:=pB X r (acc++lv s) (.val (enc s)) (λs hs=>h s (bx _ hs)) (by rw[bY];lia)
  refine⟨o',?_⟩;simp only[c0,jc];simp[CM,h1,gF];rw[if_pos (lH (by lia))]
  rw[<-z7];simp only[nX,aY,qt];rw[ih];simp[iV]
theorem kK{c:fZ}{s:Sh}(h:mj s=true):p7 (nr c) 3 [enc s]=some (.val (.aI [enc s])):=by
 cases s with
 | bP _=>cases h
 | _=>simp[nr,enc]
theorem CN{c:fZ}{ps:List Sh} (h:∀s∈ps,c "leaves" [enc s]=some (.val (.aI (c0 (lv s))))) (hz:(iV ps).length<=100000):p7 (nr c) 3 [enc (.bP ps)]=some (.val (.aI (c0 (iV ps)))):=by
 obtain⟨o',q⟩:=pB (enc (.bP ps)) ps [] .un h (by simpa using hz)
 simp[nr];simp only[enc]at q ⊢;simp at q ⊢;simp[c0]at q;rw[q];simp
structure fu (R:Nat->fZ):Prop where
 run:∀k ps,R (k+1) "leaves" ps=p7 (nr (R k)) 3 ps
mutual
theorem fu.all{R:Nat->fZ}(A:fu R):∀(s:Sh) (k:Nat),dp s<=k->(lv s).length<=100000->R (k+1) "leaves" [enc s]=some (.val (.aI (c0 (lv s))))
 | .num,k,_,_=>by rw[A.run,kK rfl];simp[lv,c0]
 | .own,k,_,_=>by rw[A.run,kK rfl];simp[lv,c0]
 | .dN n,k,_,_=>by rw[A.run,kK rfl];simp[lv,c0]
 | .bP ps,0,hd,_=>by simp[dp]at hd
 | .bP ps,k+1,hd,hz=>by
  simp only[dp]at hd;simp only[lv]at hz;rw[A.run,CN (A.each ps k (by lia) hz) hz]
  simp[lv]
theorem fu.each{R:Nat->fZ}(A:fu R):∀(ps:List Sh) (k:Nat),uq ps<=k->(iV ps).length<=100000->∀s∈ps,R (k+1) "leaves" [enc s]=some (.val (.aI (c0 (lv s))))
 | [],_,_,_,s,hs=>by cases hs
 | p::r,k,hd,hz,s,hs=>by
  simp only[uq]at hd;simp only[iV,bY]at hz;rcases aZ.mp hs with e | e
  ·rw[e];exact fu.all A p k (by lia) (by lia)
  ·exact fu.each A r k (by lia) (by lia) s e
end
theorem Ug(ps:av)(q:Nat):jW ps none (some (q:Int))=ps.take q:=by
 unfold jW;rw[HT.wC,HT.Iw,List.drop_zero,Nat.sub_zero];by_cases h:q<=ps.length
 ·rw[Nat.min_eq_left h]
 ·rw[Nat.min_eq_right (by lia),qA (by lia),qA (by lia)]
abbrev Rw:=List Int×Int×Int×Sh
noncomputable def nt(k a:Int)(r:Rw):Rw:=(k::r.1,a+r.2.1,r.2.2)
mutual
def tab:Sh->List Rw
 | .num=>[([],0,1,.num)]
 | .own=>[([],0,1,.own)]
 | .dN n=>[([],0,1,.dN n)]
 | .bP ps=>([],0,((iV ps).length:Int),.bP ps)::tabs 0 0 ps
def tabs:Nat->Int->List Sh->List Rw
 | _,_,[]=>[]
 | k,a,s::r=>(tab s).map (nt k a)++tabs (k+1) (a+((lv s).length:Int)) r
end
def sz(s:Sh):Int:=((lv s).length:Int)
def iW:List Sh->Nat
 | []=>0
 | s::l=>(tab s).length+iW l
theorem K4{s:Sh}(h:mj s=true):tab s=[([],0,1,s)]:=by
 cases s with
 | bP _=>cases h
 | _=>rfl
theorem Aa(s:Sh):∃R,tab s=(([],0,sz s,s):Rw)::R:=by
 cases s with
 | bP ps=>exact⟨tabs 0 0 ps,by simp only[tab,sz,lv]⟩
 | num=>exact⟨[],by simp[tab,sz,lv]⟩
 | own=>exact⟨[],by simp[tab,sz,lv]⟩
 | dN n=>exact⟨[],by simp[tab,sz,lv]⟩
theorem ij:∀(l:List Sh) (k:Nat) (a:Int),(tabs k a l).length=iW l
 | [],_,_=>rfl
 | s::l,k,a=>by simp[tabs,iW,ij l]
theorem xP(s:Sh):1<=(tab s).length:=by
 obtain⟨R,e⟩:=Aa s;rw[e];simp
theorem Ab:∀l:List Sh,l.length<=iW l
 | []=>aR _
 | s::l=>by
  have:=xP s;have:=Ab l;simp only[iW,aW]
  lia
mutual
theorem K5:∀s:Sh,(lv s).length<=(tab s).length
 | .num=>by simp[lv,tab]
 | .own=>by simp[lv,tab]
 | .dN n=>by simp[lv,tab]
 | .bP ps=>by
  have:=CO ps;simp only[lv,tab,aW,ij]
  lia
theorem CO:∀l:List Sh,(iV l).length<=iW l
 | []=>by simp[iV]
 | s::l=>by
  have:=K5 s;have:=CO l;simp only[iV,iW,bY]
  lia
end
mutual
theorem QD:∀s:Sh,dp s<=(tab s).length
 | .num=>by simp[dp]
 | .own=>by simp[dp]
 | .dN n=>by simp[dp]
 | .bP ps=>by
  have:=K6 ps;simp only[dp,tab,aW,ij]
  lia
theorem K6:∀l:List Sh,uq l<=iW l
 | []=>by simp[uq]
 | s::l=>by
  have:=QD s;have:=K6 l;simp only[uq,iW]
  lia
end
mutual
theorem EE:∀(s:Sh),∀r∈tab s,r.1.length<=dp s
 | .num,r,h=>by simp[tab]at h;subst h;simp
 | .own,r,h=>by simp[tab]at h;subst h;simp
 | .dN n,r,h=>by simp[tab]at h;subst h;simp
 | .bP ps,r,h=>by
  simp only[tab,aZ]at h;rcases h with rfl | h
  ·simp
  ·simp only[dp];exact Ac ps 0 0 r h
theorem Ac:∀(l:List Sh) (k:Nat) (a:Int),∀r∈tabs k a l,r.1.length<=uq l+1
 | [],_,_,r,h=>by simp[tabs]at h
 | s::l,k,a,r,h=>by
  simp only[tabs,dD,bt]at h;simp only[uq];rcases h with⟨r0,h0,rfl⟩ | h
  ·have:=EE s r0 h0;simp only[nt,aW]
   lia
  ·have:=Ac l _ _ r h
   lia
end
theorem Ad:∀(l:List Sh) (s:Sh),s∈l->(tab s).length<=iW l
 | s::l,t,h=>by
  simp only[iW];rcases aZ.mp h with rfl | h
  ·lia
  ·have:=Ad l t h
   lia
theorem GD{ps:List Sh}{s:Sh}(h:s∈ps):(tab s).length<=(tab (.bP ps)).length:=by
 have:=Ad ps s h;simp only[tab,aW,ij]
 lia
def AQ:Sh->Int->Option (Sh×Int)
 | .bP ps,k=>if 0<=k then(ps[k.toNat]?).map λs=>(s,((iV (ps.take k.toNat)).length:Int))else none
 | _,_=>none
def walk:Sh->Int->List Int->Option (Sh×Int)
 | s,a,[]=>some (s,a)
 | s,a,k::p=>(AQ s k).bind λx=>walk x.1 (a+x.2) p
mutual
theorem Ae:∀(s:Sh),∀r∈tab s,∀b,walk s b r.1=some (r.2.2.2,b+r.2.1)
 | .num,r,h,b=>by simp[tab]at h;subst h;simp[walk]
 | .own,r,h,b=>by simp[tab]at h;subst h;simp[walk]
 | .dN n,r,h,b=>by simp[tab]at h;subst h;simp[walk]
 | .bP ps,r,h,b=>by
  simp only[tab,aZ]at h;rcases h with rfl | h
  ·simp[walk]
  ·exact vw ps [] r (by simpa[iV]using h) b
theorem vw:∀(AR pre:List Sh),∀r∈tabs pre.length ((iV pre).length:Int) AR,∀b,walk (.bP (pre++AR)) b r.1=some (r.2.2.2,b+r.2.1)
 | [],pre,r,h,b=>by simp[tabs]at h
 | s::AR,pre,r,h,b=>by
  simp only[tabs,dD,bt]at h;rcases h with⟨r0,h0,rfl⟩ | h
  ·have:=Ae s r0 h0 (b+((iV pre).length:Int));simp only[nt,walk,AQ];simp[this]
   lia
  ·have:=vw AR (pre++[s]) r (by simpa[sM,iV]using h) b
   simpa using this
end
noncomputable def cp(n:Int):Nat:=97+(n%26).toNat
def lt(n:Int):Str:=⟨#[cp n]⟩
def fw(l:List Nat):Str:=⟨l.toArray⟩
theorem vx{a b:List Nat}(h:fw a=fw b):a=b:=by
 have:a.toArray=b.toArray:=c9 Str.cps h;simpa using this
theorem CP(a b:List Nat):fw a++fw b=fw (a++b):=by
 show Str.append _ _=_;unfold Str.append fw;simp
theorem Yy(n:Int):lt n=fw [cp n]:=rfl
theorem EF:(Str.ofString "")=fw []:=by decide +kernel
theorem EG(l:List Nat):(fw l).length=l.length:=by
 unfold fw Str.length;simp
theorem CQ:∀m:Fin 26,atI (Str.ofString "abcdefghijklmnopqrstuvwxyz").cps.toList ((m:Nat):Int)=some (97+(m:Nat)):=by decide +kernel
theorem GF(n:Int):bL (.str "abcdefghijklmnopqrstuvwxyz") (.int (n%26))=some (.str (lt n)):=by
 have h0:=j8 n (show(26:Int)≠0 by decide)
 have h1:=lN n (show(0:Int)<26 by decide)
 obtain⟨m,hm⟩:=Int.eq_ofNat_of_zero_le h0;have:=CQ ⟨m,by lia⟩
 show(if(Str.ofString "abcdefghijklmnopqrstuvwxyz").length<=f6 then(atI (Str.ofString "abcdefghijklmnopqrstuvwxyz").cps.toList (n%26)).map λc=>PV.str ⟨#[c]⟩else none)=_
 rw[if_pos (by decide +kernel),hm,this]
 show some (PV.str ⟨#[97+m]⟩)=some (PV.str ⟨#[cp n]⟩);unfold cp;rw[hm,eM]
theorem Uh{a b:Int}(h:cp a=cp b):a%26=b%26:=by
 unfold cp at h;have h0:=j8 a (show(26:Int)≠0 by decide)
 have h1:=j8 b (show(26:Int)≠0 by decide)
 lia
end oR
namespace EH
open PySem L2 L2.PL
theorem jd{α:Type} [DecidableEq α]:∀(l U:List α),l.Nodup->(∀x∈l,x∈U)->l.length<=U.length
 | [],_,_,_=>dP _
 | x::l,U,hn,hs=>by
  rw[c8]at hn;have hx:x∈U:=hs x bE;have h1:=jd l (U.erase x) hn.2 λy hy=>(List.mem_erase_of_ne (λz=>hn.1 (by rw[<-z];exact hy))).mpr (hs y (bx _ hy))
  have h2:=List.length_erase_of_mem hx;have h3:0<U.length:=List.length_pos_of_mem hx;rw[aW]
  lia
theorem Af{ks:List (List b8)}{k:List b8}:JI ks k=true↔k∈ks:=by
 unfold JI;simp only[List.any_eq_true,jq];exact⟨λ⟨x,h,e⟩=>e▸h,λh=>⟨k,h,rfl⟩⟩
theorem gx(c:Int):∀(fs:List (List b8)) (told:eU),∃more:eU,cQ told c fs=told++more/\(∀t∈more,t.2=c/\t.1∈fs)
 | [],told=>⟨[],by rw[dE];rfl,λ_ z=>nomatch z⟩
 | f::fs,told=>by
  obtain⟨more,h1,h2⟩:=gx c fs (eL told c f);show ∃m,cQ (eL told c f) c fs=told++m/\_
  by_cases h:JI (told.map (·.1)) f=true
  ·have e:eL told c f=told:=by unfold eL;rw[if_pos h]
   rw[e]at h1 ⊢;exact⟨more,h1,λt ht=>⟨(h2 t ht).1,bx _ (h2 t ht).2⟩⟩
  ·have e:eL told c f=told++[(f,c)]:=by unfold eL;rw[if_neg h]
   rw[e]at h1 ⊢;refine⟨(f,c)::more,by rw[h1];simp,λt ht=>?_⟩
   rcases aZ.mp ht with rfl | ht
   ·exact⟨rfl,bE⟩
   ·exact⟨(h2 t ht).1,bx _ (h2 t ht).2⟩
theorem sN(c:Int):∀(fs:List (List b8)) (told:eU),(told.map (·.1)).Nodup->((cQ told c fs).map (·.1)).Nodup
 | [],_,h=>h
 | f::fs,told,h=>by
  refine sN c fs (eL told c f) ?_;unfold eL;split
  ·exact h
  ·rename_i hm;rw[dO];refine vS.mpr ⟨h,by simp,λa ha b hb z=>?_⟩
   simp at hb;subst z;rw[hb]at ha;exact hm (Af.mpr ha)
theorem oI(c:Int):∀(fs:List (List b8)) (told:eU),∀f∈fs,f∈(cQ told c fs).map (·.1)
 | [],_,_,h=>nomatch h
 | g::fs,told,f,h=>by
  rcases aZ.mp h with rfl | h
  ·obtain⟨more,h1,_⟩:=gx c fs (eL told c f);show f∈(cQ (eL told c f) c fs).map (·.1);rw[h1,dO];refine gH _ ?_;unfold eL;split
   ·rename_i hm;exact Af.mp hm
   ·rw[dO];exact d7 _ (by simp)
  ·exact oI c fs (eL told c g) f h
section
variable (out:List b8->Option (List (List b8))) (eu:List (List b8))
def QE(told:eU):Prop:=∀(i:Nat) (f:List b8) (c:Int),told[i]?=some (f,c)->(c = -1/\f∈eu)\/∃(j:Nat) (g:List b8) (d:Int) (fs:List (List b8)),j<i/\c=(j:Int)/\told[j]?=some (g,d)/\out g=some fs/\f∈fs
def CS(told:eU)(k:Nat):Prop:=∀(j:Nat) (g:List b8) (d:Int),j<k->told[j]?=some (g,d)->∃fs,out g=some fs/\∀f∈fs,f∈told.map (·.1)
theorem GG:QE out eu (cQ [] (-1) eu):=by
 obtain⟨more,h1,h2⟩:=gx (-1) eu [];rw[gW]at h1;intro i f c e;rw[h1]at e;obtain⟨h3,h4⟩:=h2 _ (cP e);exact .inl ⟨h3,h4⟩
theorem K7{told:eU}{k:Nat}{g:List b8}{d:Int}{fs:List (List b8)}(h:QE out eu told)(hk:told[k]?=some (g,d))(ho:out g=some fs):QE out eu (cQ told (k:Int) fs):=by
 obtain⟨more,h1,h2⟩:=gx (k:Int) fs told;have dW:k<told.length:=(cM.mp hk).1;have old:∀{j:Nat} {x:List b8×Int},told[j]?=some x->(told++more)[j]?=some x:=λ{j x} e=>by
  rw[gi (cM.mp e).1];exact e
 intro i f c e;rw[h1]at e ⊢;by_cases hi:i<told.length
 ·rw[gi hi]at e;rcases h i f c e with z | ⟨j,g',d',QZ,z1,z2,z3,z4,z5⟩
  ·exact .inl z
  ·exact .inr ⟨j,g',d',QZ,z1,z2,old z3,z4,z5⟩
 ·rw[jk (by lia)]at e
  obtain⟨h3,h4⟩:=h2 _ (cP e);exact .inr ⟨k,g,d,fs,by lia,h3,old hk,ho,h4⟩
theorem GH{told:eU}{k:Nat}{g:List b8}{d:Int}{fs:List (List b8)}(h:CS out told k)(hk:told[k]?=some (g,d))(ho:out g=some fs):CS out (cQ told (k:Int) fs) (k+1):=by
 obtain⟨more,h1,h2⟩:=gx (k:Int) fs told;have dW:k<told.length:=(cM.mp hk).1;intro j g' d' hj e;rw[h1]at e;rw[gi (by lia)]at e
 by_cases hjk:j=k
 ·subst hjk;rw[hk]at e;cases e;exact⟨fs,ho,oI (j:Int) fs told⟩
 ·obtain⟨QZ,z1,z2⟩:=h j g' d' (by lia) e
  refine⟨QZ,z1,λf hf=>?_⟩
  rw[h1,dO];exact gH _ (z2 f hf)
theorem pC(U:List (List b8))(B:Nat)(hB:U.length+B<f6)(hU:∀g∈U,∃fs,out g=some fs/\(∀f∈fs,f∈U)/\fs.length<=B):∀(n k:Nat) (told:eU),U.length<n+k->k<=told.length->(told.map (·.1)).Nodup->(∀t∈told,t.1∈U)->QE out eu told->CS out told k ->
  ∃res,fz out n k told=some res/\(res.map (·.1)).Nodup/\(∀t∈res,t.1∈U)/\QE out eu res/\CS out res res.length/\∃more,res=told++more
 | n,k,told,hn,hk,nd,sub,why,done=>by
  have cD:told.length<=U.length:=by
   have:=jd (told.map (·.1)) U nd λx hx=>by
    obtain⟨t,ht,rfl⟩:=bt.mp hx;exact sub t ht
   rwa [aH]at this
  cases n with
  | zero=>lia
  | succ n =>
   cases ht:told[k]? with
   | none =>
    have hkl:told.length<=k:=qz.mp ht;refine⟨told,?_,nd,sub,why,?_,[],by simp⟩
    ·show(match told[k]? with | none=>some told | some t=>_)=_
     rw[ht]
    ·have:k=told.length:=by lia
     rw[<-this];exact done
   | some t =>
    obtain⟨g,d⟩:=t;have hg:g∈U:=sub (g,d) (cP ht);obtain⟨fs,h1,h2,h3⟩:=hU g hg;obtain⟨more,m1,m2⟩:=gx (k:Int) fs told;have dW:k<told.length:=(cM.mp ht).1;obtain⟨res,r1,r2,r3,r4,r5,QF,r6⟩:=pC U B hB hU n (k+1) (cQ told (k:Int) fs) (by lia) (by rw[m1,bY];lia) (sN _ _ _ nd) (λt ht'=>by
     rw[m1]at ht';rcases dD.mp ht' with z | z
     ·exact sub t z
     ·exact h2 _ (m2 t z).2) (K7 out eu why ht h1) (GH out done ht h1)
    refine⟨res,?_,r2,r3,r4,r5,more++QF,by rw[r6,m1,iK]⟩
    show(match told[k]? with | none=>some told | some t=>(out t.1).bind λfs=>if told.length+fs.length<f6 then fz out n (k+1) (cQ told k fs)else none)=_
    rw[ht];show((out g).bind λfs=>if told.length+fs.length<f6 then fz out n (k+1) (cQ told k fs)else none)=_
    rw[h1,aY,if_pos (by lia)]
    exact r1
theorem sS(U:List (List b8))(B:Nat)(hB:U.length+B<f6)(hn:U.length<vh)(hU:∀g∈U,∃fs,out g=some fs/\(∀f∈fs,f∈U)/\fs.length<=B)(hf:∀f∈eu,f∈U) :
  ∃res,fz out vh 0 (cQ [] (-1) eu)=some res/\(res.map (·.1)).Nodup/\(∀t∈res,t.1∈U)/\QE out eu res/\CS out res res.length/\∀f∈eu,f∈res.map (·.1):=by
 obtain⟨more,h1,h2⟩:=gx (-1) eu [];obtain⟨res,r1,r2,r3,r4,r5,QF,r6⟩:=pC out eu U B hB hU vh 0 (cQ [] (-1) eu) (by lia) (dP _) (sN _ _ _ nZ) (λt ht=>by
  rw[h1,gW]at ht;exact hf _ (h2 t ht).2) (GG out eu) (λj g d hj=>absurd hj (nW _))
 exact⟨res,r1,r2,r3,r4,r5,λf hff=>by rw[r6,dO];exact gH _ (oI _ _ _ f hff)⟩
end
theorem EI:∀ks:List b8,F6 (ks.map ma)=some ks
 | []=>rfl
 | k::ks=>by
  rw[bC];show(FZ (ma k)).bind _=_;have:FZ (ma k)=some k:=by cases k<;>rfl
  rw[this,aY,EI ks];rfl
theorem OO{ks:List b8}(h:ks.length<1000):jQ (fG ks)=some ks:=by
 show(if(ks.map ma).length<1000 then F6 (ks.map ma)else none)=_
 rw[aH,if_pos h,EI]
theorem oJ:∀{fs:List (List b8)},(∀f∈fs,f.length<1000)->factsOf (fs.map fG)=some fs
 | [],_=>rfl
 | f::fs,h=>by
  rw[bC];show(jQ (fG f)).bind _=_;rw[OO (h f bE),aY,oJ λg hg=>h g (bx _ hg)]
  rfl
theorem EJ{fb:FE}{xg:aC}{f:List b8}{fs:List (List b8)}(h:fb (.val (fG f)::xg)=some (.aA (fs.map fG)))(hl:∀x∈fs,x.length<1000):xf fb xg f=some fs:=by
 unfold xf;rw[h,aY];exact oJ hl
theorem sT{fe fb:FE}{link:List (Option Nat)}{ρ:aC}{fk:List (List b8)}{told:eU}(h:fe ρ=some (.aA (fk.map fG)))(hl:∀x∈fk,x.length<1000)(hn:fk.length<f6)(hs:fz (xf fb (bM link ρ)) vh 0 (cQ [] (-1) fk)=some told):jA fe fb link ρ=some (told.map toldP):=by
 unfold jA;rw[h,aY];show(factsOf (fk.map fG)).bind _=_;rw[oJ hl,aY,if_pos hn,hs];rfl
end EH
namespace cu
open PySem L2 L2.PL oR
def acV:List Str:=["function","listed","follow","sources"]
def jH:List (Str×Str):=[("put","put_acts"),("set","set_acts"),("fill","put_acts"),("copy","copy_acts"),("move","move_acts"),("drop","drop_acts"),("lend","lend_acts"),("sole","lend_acts"),("call","call_acts"),("if","if_acts"),("go","go_acts"),("say","say_acts"),("give","give_acts")]
abbrev kI(n:Int):FE:=cK (.int n)
abbrev kS(s:Str):FE:=cK (.str s)
abbrev CF:=Str->av->cg
theorem rq{x:Str}{st:ay}{f:CF->FS}{n:Nat}(h:bg.defs.lookup x=some st)(hf:∀c:CT,er gD (iU bg st c) (bH st)=some (f (cN c)))(hn:(bI st).length=n)(k:Nat)(ps:av):run bg (k+1) x ps=p7 (f (run bg k)) n ps:=by
 rw[<-hn];exact Ky h (hf _) ps
noncomputable def OP:List (Str×Nat):=("leaves",1)::("check_part",2)::("part",2)::("first",2)::("is_copied",1)::("kind_of",2)::("is_holder",1)::("shape_of",1)::("spread",2)::("tell_new",4)::("row_nexts",2)::("acts",2)::("nexts",2)::("come_to",2)::("arrivals",1)::("touched",1)::("touches",3)::("is_lending",1)::("is_of_call",1)::("touch",4)::("touch_whole",4)::("at_acts",2)::("operand_acts",2)::("target_acts",2)::("put_acts",2)::("set_acts",2)::("copy_acts",2)::("move_acts",2)::("drop_acts",2)::("lend_acts",2)::("call_acts",2)::("arg_act",3)::("owner_act",2)::("if_acts",2)::("go_acts",2)::("say_acts",2)::("give_acts",2)::("held",2)::("source_holders",2)::("count_leaves_of",2)::("held_at_first",1)::("_law_cell_at",2)::("_law_mixed",2)::("_law_names",2)::("_law_shape",1)::("_law_leaves",1)::("_law_parts",1)::("_law_whole",1)::("_law_params",2)::("_law_rows",1)::("_law_due",1)::("_law_came",2)::("law",1)::[]
def nu(c:CF):NR :=
 [("function",NS (ak (rd 1) (rd 2) bL)),
 ("listed",NS (aK (aX 2 (c "acts")) (af (rd 1) (af (rd 2) ar)))),
 ("follow",NS (aK (aX 2 (c "nexts")) (af (rd 1) (af (rd 2) ar)))),
 ("sources",NS (cB (dI [none,none,some 1] (dz (ak (ak (rd 1) (rd 2) bL) (kI 4) bL)) (aD 1) (aK (aX 2 (c "source_holders")) (af (rd 2) (af (rd 1) ar))))))]
theorem xQ(c:CT):nj gD (UT bg kj c) (gw kj) (bH kj)=some (nu (cN c)):=by kernel_rfl
theorem GI(c:CT)(ps:av)(hl:ps.length+1=3):vp bg c "Course" ps=sd (nu (cN c)) [] (ps.map .val++List.replicate (3-(ps.length+1)) .un):=XZ (st:=kj) (by kernel_rfl) (xQ c) ps (hl.trans (by kernel_rfl))
noncomputable def CU(c:CF):FS :=
 (gK 1 (af (aK (aX 1 (c "leaves")) (af (rd 2) ar)) ar) l7)
noncomputable def K8(c:CF):FS :=
 (bq (jZ (mN (toB (ak (ak (rd 0) (kI 0) bL) (kS "rec") BZ)))
  (cy (cj (af (rd 0) ar)))
  (λρ=>some (.nx ρ)))
  (bq (l6 1 (dy ar))
  (bq (gA (dz (ak (rd 0) (kI 1) bL)) (aD 2) (CU c))
  (zj [1] (cy (dq rK (af (rd 1) ar)))))))
def CV:=rq (x:="leaves") (st:=yB) (f:=K8) (n:=3) (by kernel_rfl) (λc=>by kernel_rfl) (by kernel_rfl)
noncomputable def fY(c:CF):FS :=
 (bq (jZ (toB (ak (ak (rd 0) (kI 0) bL) (kS "rec") BZ))
  (λ_=>none)
  (λρ=>some (.nx ρ)))
  (jZ (g9 (toB (chain (kI 0) (rd 1) (dq eF (af (ak (rd 0) (kI 1) bL) ar)) L6 FD)))
  (λ_=>none)
  (λρ=>some (.nx ρ))))
def sU:=rq (x:="check_part") (st:=mC) (f:=fY) (n:=2) (by kernel_rfl) (λc=>by kernel_rfl) (by kernel_rfl)
noncomputable def nv(c:CF):FS :=
 (bq (o9 (aK (aX 2 (c "check_part")) (af (rd 2) (af (rd 3) ar))))
  (ck (ak (ak (rd 2) (kI 1) bL) (rd 3) bL) (aD 2)))
noncomputable def CW(c:CF):FS :=
 (bq (ck (rd 0) (aD 2))
  (bq (gA (dz (rd 1)) (aD 3) (nv c))
  (cy (rd 2))))
def K9:=rq (x:="part") (st:=HQ) (f:=CW) (n:=4) (by kernel_rfl) (λc=>by kernel_rfl) (by kernel_rfl)
noncomputable def k8(c:CF):FS :=
 (bq (o9 (aK (aX 2 (c "check_part")) (af (rd 2) (af (rd 4) ar))))
  (bq (ck (ak (rd 3) (dq B9 (af (cB (dI [none,none] (dz (cutE (ak (rd 2) (kI 1) bL) Hb (e9 (rd 4)))) (aD 1) (dq eF (af (aK (aX 1 (c "leaves")) (af (rd 1) ar)) ar)))) ar)) Oi) (aD 3))
  (ck (ak (ak (rd 2) (kI 1) bL) (rd 4) bL) (aD 2))))
noncomputable def xR(c:CF):FS :=
 (bq (ck (rd 0) (aD 2))
  (bq (ck (kI 0) (aD 3))
  (bq (gA (dz (rd 1)) (aD 4) (k8 c))
  (cy (rd 3)))))
def GJ:=rq (x:="first") (st:=Dr) (f:=xR) (n:=5) (by kernel_rfl) (λc=>by kernel_rfl) (by kernel_rfl)
noncomputable def iD(c:CF):FS :=
 (jZ (toB (ak (rd 2) (rd 1) mq))
  (cy (rd 3))
  (λρ=>some (.nx ρ)))
theorem sW(c:CF)(ρ:aC):iD c ρ=(jZ (toB (ak (rd 2) (rd 1) mq))
  (cy (rd 3))
  (λρ=>some (.nx ρ))) ρ:=rfl
noncomputable def oK(c:CF):FS :=
 (bq (gA (dz (ak (ak (rd 0) (kI 1) bL) (ak (rd 0) (kI 3) bL) cI)) (fD 2 (bB (aD 2) (bB (aD 3) eH))) (iD c))
  (λ_=>none))
def Ag:=rq (x:="kind_of") (st:=uE) (f:=oK) (n:=4) (by kernel_rfl) (λc=>by kernel_rfl) (by kernel_rfl)
noncomputable def Ah(c:CF):FS :=
 (cy (ak (ak (rd 0) (kI 0) bL) (cK (.aI [(.str "lent"),(.str "sole")])) (FF false)))
def ur:=rq (x:="is_holder") (st:=oS) (f:=Ah) (n:=1) (by kernel_rfl) (λc=>by kernel_rfl) (by kernel_rfl)
noncomputable def CY(c:CF):FS :=
 (cy (IM (toB (aK (aX 1 (c "is_holder")) (af (rd 0) ar))) (ak (rd 0) (kI 1) bL) (rd 0)))
def xS:=rq (x:="shape_of") (st:=qQ) (f:=CY) (n:=1) (by kernel_rfl) (λc=>by kernel_rfl) (by kernel_rfl)
noncomputable def Ai(c:CF):FS :=
 (bq (ck (ak (rd 0) (rd 1) bL) (aD 2))
  (bq (jZ (toB (ak (ak (rd 2) (kI 0) bL) (kS "give") mq))
  (cy (cj ar))
  (λρ=>some (.nx ρ)))
  (bq (jZ (toB (ak (ak (rd 2) (kI 0) bL) (kS "go") mq))
  (cy (cj (af (ak (rd 2) (kI 1) bL) ar)))
  (λρ=>some (.nx ρ)))
  (bq (jZ (toB (ak (ak (rd 2) (kI 0) bL) (kS "if") mq))
  (cy (dq rK (af (SW (af (ak (rd 1) (kI 1) cI) (af (ak (rd 2) (kI 3) bL) ar))) ar)))
  (λρ=>some (.nx ρ)))
  (cy (cj (af (ak (rd 1) (kI 1) cI) ar)))))))
def uu:=rq (x:="row_nexts") (st:=oT) (f:=Ai) (n:=3) (by kernel_rfl) (λc=>by kernel_rfl) (by kernel_rfl)
noncomputable def ny(c:CF):FS :=
 (bq (ck (FP jH OP c (ak (rd 5) (kI 0) bL) (af (rd 2) (af (rd 5) ar))) (aD 6))
  (gK 3 (af (cB (dI [none,none,some 4] (dz (WC (rd 6) (cB (dy (af (cK (.aI [(.str "rest"),(.str ""),(.bl false),(.int 0),(.int 0),(.str "")])) ar))))) (aD 1) (ak (cj (af (rd 2) ar)) (rd 1) cI))) ar) l7))
noncomputable def Ui(c:CF):FS :=
 (bq (ck (ak (rd 0) (rd 1) bL) (aD 2))
  (bq (l6 3 (dy ar))
  (bq (gA (iA (ak (rd 2) (kI 4) bL)) (fD 2 (bB (aD 4) (bB (aD 5) eH))) (ny c))
  (oo 3))))
def La:=rq (x:="acts") (st:=HS) (f:=Ui) (n:=7) (by kernel_rfl) (λc=>by kernel_rfl) (by kernel_rfl)
noncomputable def je(c:CF):FS :=
 (jZ (mN (wK (toB (ak (ak (rd 4) (kI 1) cI) (ot (dq eF (af (rd 2) ar))) FD)) (toB (ak (ak (ak (rd 2) (ak (rd 4) (kI 1) cI) bL) (kI 0) bL) (ak (rd 5) (kI 0) bL) mq))))
  (gK 6 (af (cj (af (ak (rd 4) (kI 1) cI) ar)) ar) rH)
  (zj [3] (gK 6 (af (dq rK (af (cB (dI [none,none,some 3] (dz (aK (aX 2 (c "row_nexts")) (af (ak (ak (rd 0) (rd 1) bL) (kI 4) bL) (af (ak (rd 5) (kI 0) bL) ar)))) (aD 1) (getD 2 (rd 1)))) ar)) ar) rH)))
noncomputable def k9(c:CF):FS :=
 (Tj 3 (ak (rd 5) (kI 0) bL) (rd 4))
noncomputable def OQ(c:CF):FS :=
 (bq (ck (aK (aX 2 (c "acts")) (af (rd 0) (af (rd 1) ar))) (aD 2))
  (bq (Th 3)
  (bq (gA (iA (rd 2)) (fD 2 (bB (aD 4) (bB (aD 5) eH))) (k9 c))
  (bq (l6 6 (dy ar))
  (bq (gA (iA (rd 2)) (fD 2 (bB (aD 4) (bB (aD 5) eH))) (je c))
  (oo 6))))))
def GL:=rq (x:="nexts") (st:=Ds) (f:=OQ) (n:=7) (by kernel_rfl) (λc=>by kernel_rfl) (by kernel_rfl)
noncomputable def GN(c:CF):FS :=
 (cy (dq D5 (af (cB (dI [none,none] (dz (aK (aX 1 (c "arrivals")) (af (aK (aX 2 (c "nexts")) (af (rd 0) (af (rd 1) ar))) ar))) (aD 1) (ak (rd 1) (kI 0) bL))) ar)))
def Aj:=rq (x:="come_to") (st:=uF) (f:=GN) (n:=2) (by kernel_rfl) (λc=>by kernel_rfl) (by kernel_rfl)
noncomputable def CZ(c:CF):FS :=
 (cy (cB (jA (cB (dy (af (cj (af (kI 0) ar)) ar))) (cB (dI [none,none] (dz (ak (rd 1) (ak (rd 0) (kI 0) bL) bL)) (aD 1) (cj (af (rd 1) ar)))) [some 0])))
def jI:=rq (x:="arrivals") (st:=qR) (f:=CZ) (n:=1) (by kernel_rfl) (λc=>by kernel_rfl) (by kernel_rfl)
noncomputable def xT(c:CF):FS :=
 (cy (ak (ak (rd 0) (kI 1) bL) (cK (.aI [(.str "lend"),(.str "sole")])) (FF false)))
def sX:=rq (x:="is_lending") (st:=mD) (f:=xT) (n:=1) (by kernel_rfl) (λc=>by kernel_rfl) (by kernel_rfl)
noncomputable def xU(c:CF):FS :=
 (cy (TN (rd 0)))
def sY:=rq (x:="is_of_call") (st:=mE) (f:=xU) (n:=1) (by kernel_rfl) (λc=>by kernel_rfl) (by kernel_rfl)
noncomputable def xV(c:CF):FS :=
 (bq (ck (aK (aX 1 (c "shape_of")) (af (aK (aX 2 (c "kind_of")) (af (rd 0) (af (ak (rd 2) (kI 0) bL) ar))) ar)) (aD 4))
  (bq (ck (dq eF (af (aK (aX 1 (c "leaves")) (af (aK (aX 2 (c "part")) (af (rd 4) (af (ak (rd 2) (kI 2) bL) ar))) ar)) ar)) (aD 5))
  (cy (cj (af (rd 1) (af (ak (rd 2) (kI 0) bL) (af (ak (rd 2) (kI 1) bL) (af (aK (aX 2 (c "first")) (af (rd 4) (af (ak (rd 2) (kI 2) bL) ar))) (af (rd 5) (af (rd 3) ar))))))))))
def GO:=rq (x:="touch") (st:=Dt) (f:=xV) (n:=6) (by kernel_rfl) (λc=>by kernel_rfl) (by kernel_rfl)
noncomputable def iX(c:CF):FS :=
 (cy (aK (aX 4 (c "touch")) (af (rd 0) (af (rd 1) (af (cj (af (rd 2) (af (aK (aX 1 (c "is_holder")) (af (aK (aX 2 (c "kind_of")) (af (rd 0) (af (rd 2) ar))) ar)) (af (cj ar) (af (cK .cE) ar))))) (af (rd 3) ar))))))
def p8:=rq (x:="touch_whole") (st:=ly) (f:=iX) (n:=4) (by kernel_rfl) (λc=>by kernel_rfl) (by kernel_rfl)
noncomputable def oM(c:CF):FS :=
 (bq (jZ (g9 (toB (DX .str (ak (rd 1) (kI 3) bL))))
  (cy (cB (dy ar)))
  (λρ=>some (.nx ρ)))
  (cy (cB (dy (af (aK (aX 4 (c "touch_whole")) (af (rd 0) (af (kS "read") (af (ak (rd 1) (kI 3) bL) (af (kS "") ar))))) ar)))))
def Ak:=rq (x:="at_acts") (st:=uG) (f:=oM) (n:=2) (by kernel_rfl) (λc=>by kernel_rfl) (by kernel_rfl)
noncomputable def ik(c:CF):FS :=
 (bq (jZ (g9 (toB (DX .tuple (rd 1))))
  (cy (cB (dy ar)))
  (λρ=>some (.nx ρ)))
  (cy (ak (aK (aX 2 (c "at_acts")) (af (rd 0) (af (rd 1) ar))) (cB (dy (af (aK (aX 4 (c "touch")) (af (rd 0) (af (kS "read") (af (rd 1) (af (kS "") ar))))) ar))) cI)))
def oN:=rq (x:="operand_acts") (st:=ki) (f:=ik) (n:=2) (by kernel_rfl) (λc=>by kernel_rfl) (by kernel_rfl)
noncomputable def C0(c:CF):FS :=
 (cy (aK (aX 2 (c "operand_acts")) (af (rd 0) (af (ak (rd 1) (kI 1) bL) ar))))
def xW:=rq (x:="say_acts") (st:=qS) (f:=C0) (n:=2) (by kernel_rfl) (λc=>by kernel_rfl) (by kernel_rfl)
noncomputable def Al(c:CF):FS :=
 (bq (jZ (toB (ak (ak (rd 1) (kI 1) bL) (kS "") mq))
  (cy (cB (dy ar)))
  (λρ=>some (.nx ρ)))
  (bq (jZ (toB (aK (aX 1 (c "is_holder")) (af (aK (aX 2 (c "kind_of")) (af (rd 0) (af (ak (rd 1) (kI 1) bL) ar))) ar)))
  (cy (cB (dy (af (aK (aX 4 (c "touch_whole")) (af (rd 0) (af (kS "give") (af (ak (rd 1) (kI 1) bL) (af (kS "") ar))))) ar))))
  (λρ=>some (.nx ρ)))
  (cy (cB (dy (af (aK (aX 2 (c "owner_act")) (af (rd 0) (af (ak (rd 1) (kI 1) bL) ar))) ar))))))
def uv:=rq (x:="give_acts") (st:=oU) (f:=Al) (n:=2) (by kernel_rfl) (λc=>by kernel_rfl) (by kernel_rfl)
noncomputable def Am(c:CF)(d:Str->Ob->av->cg)(m:Str->av->Option (List (Str×Fd))):FS :=
 (gK 2 (af (ei (jX 1 (d "newly_lent")) (uk 4) (af (rd 3) ar)) ar) l7)
noncomputable def Lb(c:CF)(d:Str->Ob->av->cg)(m:Str->av->Option (List (Str×Fd))):FS :=
 (bq (JH 4 (W9 acV 2 (m "Course") (af (rd 0) (af (rd 1) ar))))
  (bq (Js 2 (rM (aX 1 (c "held_at_first")) (af (ak (rd 0) (rd 1) bL) ar)))
  (bq (gA (dz (aK (aX 2 (c "come_to")) (af (rd 0) (af (rd 1) ar)))) (aD 3) (Am c d m))
  (zj [2] (cy (cB (jA (rd 2) (ei (jX 1 (d "held_behind")) (uk 1) (af (rd 0) ar)) [some 4])))))))
theorem Lc(c:CT):er gD (iU bg wd c) (bH wd)=some (Lb (cN c) (cO c) (vp bg c)):=by kernel_rfl
theorem Ld(k:Nat)(ps:av):run bg (k+1) "held" ps=p7 (Lb (run bg k) (jD bg k) (vp bg (eV bg k))) 5 ps:=Ky (st:=wd) (by kernel_rfl) (Lc _) ps
noncomputable def oO(c:CF):FS :=
 (bq (jZ (toB (ak (ak (rd 1) (kI 0) bL) (kS "call") BZ))
  (cy (cB (dy ar)))
  (λρ=>some (.nx ρ)))
  (bq (ck (ak (cB (pe [none,none,some 1] (dz (rd 0)) (aD 1) (toB (ak (ak (rd 1) (kI 0) bL) (ak (rd 2) (kI 2) bL) mq)) (rd 1))) (kI 0) bL) (aD 2))
  (bq (jZ (zb (toB (ak (ak (rd 2) (kI 2) bL) (cK .cE) Zh)) (g9 (toB (aK (aX 1 (c "is_holder")) (af (ak (rd 2) (kI 2) bL) ar)))))
  (cy (cB (dy ar)))
  (λρ=>some (.nx ρ)))
  (cy (cB (pe [none,none,none,some 2] (iA (ak (rd 2) (kI 1) bL)) (fD 2 (bB (aD 1) (bB (aD 2) eH))) (toB (ak (ak (rd 2) (kI 0) bL) (ak (ak (rd 3) (kI 2) bL) (kI 2) bL) (FF false))) (dq Jv (af (rd 1) ar))))))))
def ml:=rq (x:="source_holders") (st:=iZ) (f:=oO) (n:=3) (by kernel_rfl) (λc=>by kernel_rfl) (by kernel_rfl)
noncomputable def nz(c:CF):FS :=
 (cy (dq eF (af (aK (aX 1 (c "leaves")) (af (aK (aX 1 (c "shape_of")) (af (aK (aX 2 (c "kind_of")) (af (rd 0) (af (rd 1) ar))) ar)) ar)) ar)))
def lu:=rq (x:="count_leaves_of") (st:=iw) (f:=nz) (n:=2) (by kernel_rfl) (λc=>by kernel_rfl) (by kernel_rfl)
noncomputable def d5(c:CF):FS :=
 (jZ (mN (toB (aK (aX 1 (c "is_holder")) (af (ak (rd 3) (kI 1) bL) ar))))
  (bq (ck (aK (aX 2 (c "count_leaves_of")) (af (rd 0) (af (ak (rd 3) (kI 0) bL) ar))) (aD 4))
  (gK 1 (af (cB (dI [none,none,some 2,some 3] (jU (af (rd 4) ar)) (aD 1) (cj (af (kI 0) (af (ak (rd 3) (kI 0) bL) (af (rd 1) (af (ak (Jk (kI 1)) (rd 2) BW) (af (rd 1) ar)))))))) ar) l7))
  (λρ=>some (.nx ρ)))
noncomputable def p9(c:CF):FS :=
 (bq (l6 1 (dy ar))
  (bq (gA (iA (ak (rd 0) (kI 1) bL)) (fD 2 (bB (aD 2) (bB (aD 3) eH))) (d5 c))
  (oo 1)))
def nA:=rq (x:="held_at_first") (st:=jO) (f:=p9) (n:=5) (by kernel_rfl) (λc=>by kernel_rfl) (by kernel_rfl)
noncomputable def sZ(c:CF)(d:Str->Ob->av->cg)(m:Str->av->Option (List (Str×Fd))):FS :=
 (gK 3 (af (cB (dI [none,none,none,some 2,some 4,some 1] (iA (aK (aX 1 (c "touched")) (af (rd 2) ar))) (fD 2 (bB (aD 1) (bB (aD 2) eH))) (cj (af (rd 4) (af (ak (rd 3) (kI 6) bL) (af (rd 1) (af (rd 5) (af (rd 2) ar)))))))) ar) l7)
noncomputable def nC(c:CF)(d:Str->Ob->av->cg)(m:Str->av->Option (List (Str×Fd))):FS :=
 (bq (ck (ak (r9 (uk 0) "listed") (rd 1) bL) (aD 2))
  (bq (jZ (mN (zb (g9 (toB (aK (aX 1 (c "is_lending")) (af (rd 2) ar)))) (toB (ei (jX 2 (d "is_through")) (uk 0) (af (rd 1) (af (ak (rd 2) (kI 6) bL) ar))))))
  (cy (cB (dy ar)))
  (λρ=>some (.nx ρ)))
  (bq (l6 3 (dy ar))
  (bq (gA (dz (ak (r9 (uk 0) "follow") (rd 1) bL)) (aD 4) (sZ c d m))
  (oo 3)))))
theorem s9(c:CT):er gD (iU bg gP c) (bH gP)=some (nC (cN c) (cO c) (vp bg c)):=by kernel_rfl
theorem tf(k:Nat)(o:Ob)(ps:av)(hl:ps.length+1=2):jD bg (k+1) "newly_lent" o ps=oF (nC (run bg k) (jD bg k) (vp bg (eV bg k))) 5 o ps:=qr (st:=gP) (by kernel_rfl) (s9 _) o ps (hl.trans (by kernel_rfl))
noncomputable def nD(c:CF):FS :=
 (cy (uf (ak (rd 1) (kI 0) Wt) (uf (ak (ak (r9 (uk 0) "listed") (rd 1) bL) (kI 3) bL) (ak (ak (ak (r9 (uk 0) "listed") (rd 1) bL) (kI 2) bL) (rd 2) mq))))
theorem tj(c:CT):er gD (iU bg gQ c) (bH gQ)=some (nD (cN c)):=by kernel_rfl
theorem tm(k:Nat)(o:Ob)(ps:av)(hl:ps.length+1=3):jD bg (k+1) "is_through" o ps=oF (nD (run bg k)) 3 o ps:=qr (st:=gQ) (by kernel_rfl) (tj _) o ps (hl.trans (by kernel_rfl))
noncomputable def jR(c:CF)(d:Str->Ob->av->cg)(m:Str->av->Option (List (Str×Fd))):FS :=
 (bq (ck (ak (ak (ak (r9 (uk 0) "listed") (rd 5) bL) (kI 0) bL) (ak (rd 2) (kI 0) bL) mq) (aD 6))
  (zj [3] (gK 4 (af (cB (pe [none,none,some 5,some 6] (dz (rd 3)) (aD 1) (zb (toB (rd 3)) (g9 (toB (aK (aX 1 (c "is_of_call")) (af (ak (rd 1) (kI 0) bL) ar))))) (ak (cj (af (rd 2) ar)) (rd 1) cI))) ar) l7)))
noncomputable def lI(c:CF)(d:Str->Ob->av->cg)(m:Str->av->Option (List (Str×Fd))):FS :=
 (bq (ck (ak (r9 (uk 0) "listed") (ak (rd 1) (kI 0) bL) bL) (aD 2))
  (bq (l6 3 (dy ar))
  (bq (jZ (mN (wK (toB (ak (ak (rd 1) (kI 1) bL) (ak (rd 2) (kI 6) bL) BZ)) (g9 (toB (ei (jX 2 (d "is_through")) (uk 0) (af (ak (rd 1) (kI 3) bL) (af (ak (rd 2) (kI 6) bL) ar)))))))
  (gK 3 (af (cutE (rd 1) (e9 (kI 1)) Hb) ar) rH)
  (λρ=>some (.nx ρ)))
  (bq (gK 3 (af (ei (jX 2 (d "passed_on")) (uk 0) (af (rd 2) (af (rd 1) ar))) ar) l7)
  (bq (l6 4 (dy ar))
  (bq (gA (dz (ak (r9 (uk 0) "follow") (ak (rd 1) (kI 0) bL) bL)) (aD 5) (jR c d m))
  (oo 4)))))))
theorem qa(c:CT):er gD (iU bg gy c) (bH gy)=some (lI (cN c) (cO c) (vp bg c)):=by kernel_rfl
theorem qb(k:Nat)(o:Ob)(ps:av)(hl:ps.length+1=2):jD bg (k+1) "held_behind" o ps=oF (lI (run bg k) (jD bg k) (vp bg (eV bg k))) 7 o ps:=qr (st:=gy) (by kernel_rfl) (qa _) o ps (hl.trans (by kernel_rfl))
noncomputable def pE(c:CF)(d:Str->Ob->av->cg)(m:Str->av->Option (List (Str×Fd))):FS :=
 (bq (jZ (zb (toB (ak (ak (rd 1) (kI 6) bL) (kS "") mq)) (toB (ei (jX 2 (d "is_through")) (uk 0) (af (ak (rd 2) (kI 3) bL) (af (ak (rd 1) (kI 6) bL) ar)))))
  (cy (cB (dy ar)))
  (λρ=>some (.nx ρ)))
  (cy (cB (dI [none,none,some 1,some 2] (dz (ei (jX 2 (d "leaves_given")) (uk 0) (af (rd 1) (af (rd 2) ar)))) (aD 1) (ak (cj (af (ak (rd 2) (kI 6) bL) (af (rd 1) ar))) (cutE (rd 3) (e9 (kI 3)) Hb) cI)))))
theorem uw(c:CT):er gD (iU bg ix c) (bH ix)=some (pE (cN c) (cO c) (vp bg c)):=by kernel_rfl
theorem ux(k:Nat)(o:Ob)(ps:av)(hl:ps.length+1=3):jD bg (k+1) "passed_on" o ps=oF (pE (run bg k) (jD bg k) (vp bg (eV bg k))) 3 o ps:=qr (st:=ix) (by kernel_rfl) (uw _) o ps (hl.trans (by kernel_rfl))
noncomputable def mm(c:CF):FS :=
 (bq (jZ (toB (ak (rd 1) (dq eF (af (rd 0) ar)) FD))
  (cy (ak (rd 0) (rd 1) bL))
  (λρ=>some (.nx ρ)))
  (cy (kI 0)))
def xX:=rq (x:="_law_cell_at") (st:=qU) (f:=mm) (n:=2) (by kernel_rfl) (λc=>by kernel_rfl) (by kernel_rfl)
noncomputable def Le(c:CF):FS :=
 (bq (ck (ak (cB (dy (af (cj (af (kI 48271) (af (kI 2147483647) ar))) (af (cj (af (kI 69621) (af (kI 998244353) ar))) (af (cj (af (kI 40692) (af (kI 1000000007) ar))) (af (cj (af (kI 16807) (af (kI 2147483629) ar))) ar)))))) (rd 1) bL) (fD 2 (bB (aD 2) (bB (aD 3) eH))))
  (cy (ak (ak (ak (ak (rd 0) (kI 1000000000039) fP) (rd 1) cI) (rd 2) gT) (rd 3) fP)))
def C1:=rq (x:="_law_mixed") (st:=yJ) (f:=Le) (n:=4) (by kernel_rfl) (λc=>by kernel_rfl) (by kernel_rfl)
noncomputable def jJ(c:CF):FS :=
 (ck (ak (rd 9) (ak (rd 2) (ak (ak (ak (rd 6) (rd 5) bL) (ak (rd 8) (dq B8 (af (ak (rd 5) (rd 4) mq) ar)) gT) cI) (kI 26) fP) bL) cI) (aD 9))
noncomputable def jK(c:CF):FS :=
 (bq (ck (kS "") (aD 9))
  (bq (gA (jU (af (rd 3) ar)) (aD 5) (jJ c))
  (gK 7 (af (rd 9) ar) rH)))
noncomputable def Lf(c:CF):FS :=
 (bq (ck (kS "abcdefghijklmnopqrstuvwxyz") (aD 2))
  (bq (ck (ak (kI 1) (ak (rd 0) (kI 8) fP) cI) (aD 3))
  (bq (ck (ak (ak (rd 0) (kI 8) hV) (rd 3) fP) (aD 4))
  (bq (ck (cB (dI [none,none,some 0] (jU (af (rd 3) ar)) (aD 1) (ak (ak (ak (rd 2) (ak (kI 64) (ak (ak (kI 9) (rd 1) gT) (rd 1) gT) cI) hV) (ak (kI 5) (rd 1) gT) cI) (kI 26) fP))) (aD 6))
  (bq (l6 7 (dy ar))
  (bq (gA (jU (af (rd 1) ar)) (aD 8) (jK c))
  (oo 7)))))))
def C2:=rq (x:="_law_names") (st:=yK) (f:=Lf) (n:=10) (by kernel_rfl) (λc=>by kernel_rfl) (by kernel_rfl)
noncomputable def Lg(c:CF):FS :=
 (bq (ck (cj (af (kS "strip") (af (ak (kI 1) (ak (ak (rd 0) (kI 7) hV) (kI 8) fP) cI) ar))) (aD 1))
  (bq (ck (cj (af (kS "rec") (af (cj (af (cj (af (kS "num") ar)) (af (cj (af (kS "num") ar)) ar))) ar))) (aD 2))
  (bq (ck (cB (dy (af (rd 2) (af (cj (af (kS "own") ar)) (af (rd 1) (af (cj (af (kS "num") ar)) (af (cj (af (kS "rec") (af (cj (af (cj (af (kS "num") ar)) (af (cj (af (kS "own") ar)) ar))) ar))) (af (cj (af (kS "rec") (af (cj (af (rd 1) (af (cj (af (kS "own") ar)) ar))) ar))) ar)))))))) (aD 3))
  (cy (ak (ak (rd 3) (cB (dy (af (cj (af (kS "rec") (af (cj (af (rd 2) (af (rd 1) ar))) ar))) ar))) cI) (ak (rd 0) (kI 7) fP) bL)))))
def C3:=rq (x:="_law_shape") (st:=yL) (f:=Lg) (n:=4) (by kernel_rfl) (λc=>by kernel_rfl) (by kernel_rfl)
noncomputable def iE(c:CF):FS :=
 (ck (ak (rd 1) (aK (aX 1 (c "_law_leaves")) (af (rd 2) ar)) cI) (aD 1))
noncomputable def GP(c:CF):FS :=
 (bq (jZ (toB (ak (ak (rd 0) (kI 0) bL) (kS "rec") BZ))
  (cy (cB (dy (af (rd 0) ar))))
  (λρ=>some (.nx ρ)))
  (bq (ck (cB (dy ar)) (aD 1))
  (bq (gA (dz (ak (rd 0) (kI 1) bL)) (aD 2) (iE c))
  (cy (rd 1)))))
def pF:=rq (x:="_law_leaves") (st:=uH) (f:=GP) (n:=3) (by kernel_rfl) (λc=>by kernel_rfl) (by kernel_rfl)
noncomputable def jL(c:CF):FS :=
 (ck (ak (rd 1) (cB (dI [none,none,none,some 2] (dz (aK (aX 1 (c "_law_parts")) (af (rd 3) ar))) (fD 2 (bB (aD 1) (bB (aD 2) eH))) (cj (af (ak (cj (af (rd 3) ar)) (rd 1) cI) (af (rd 2) ar))))) cI) (aD 1))
noncomputable def Lh(c:CF):FS :=
 (bq (ck (cB (dy (af (cj (af (cj ar) (af (rd 0) ar))) ar))) (aD 1))
  (bq (jZ (toB (ak (ak (rd 0) (kI 0) bL) (kS "rec") mq))
  (gA (iA (ak (rd 0) (kI 1) bL)) (fD 2 (bB (aD 2) (bB (aD 3) eH))) (jL c))
  (λρ=>some (.nx ρ)))
  (cy (rd 1))))
def tq:=rq (x:="_law_parts") (st:=yM) (f:=Lh) (n:=4) (by kernel_rfl) (λc=>by kernel_rfl) (by kernel_rfl)
noncomputable def Li(c:CF):FS :=
 (cy (uf (DX .int (rd 0)) (Fv (DX .bool (rd 0)))))
def C4:=rq (x:="_law_whole") (st:=yN) (f:=Li) (n:=1) (by kernel_rfl) (λc=>by kernel_rfl) (by kernel_rfl)
noncomputable def iG(c:CF):FS :=
 (bq (ck (aK (aX 2 (c "_law_mixed")) (af (aK (aX 2 (c "_law_cell_at")) (af (rd 0) (af (ak (kI 1) (rd 3) cI) ar))) (af (rd 3) ar))) (aD 4))
  (bq (ck (aK (aX 1 (c "_law_shape")) (af (rd 4) ar)) (aD 5))
  (bq (jZ (mN (toB (ak (ak (ak (rd 4) (kI 64) hV) (kI 4) fP) (kI 0) BZ)))
  (bq (ck (aK (aX 1 (c "_law_parts")) (af (rd 5) ar)) (aD 6))
  (ck (cj (af (ak (cB (dy (af (kS "lent") (af (kS "sole") ar)))) (ak (ak (rd 4) (kI 256) hV) (kI 2) fP) bL) (af (ak (ak (rd 6) (ak (ak (rd 4) (kI 512) hV) (ot (dq eF (af (rd 6) ar))) fP) bL) (kI 1) bL) ar))) (aD 5)))
  (λρ=>some (.nx ρ)))
  (gK 2 (af (cj (af (ak (rd 1) (rd 3) bL) (af (rd 5) ar))) ar) rH))))
noncomputable def GQ(c:CF):FS :=
 (bq (l6 2 (dy ar))
  (bq (gA (jU (af (ak (kI 1) (ak (aK (aX 2 (c "_law_mixed")) (af (aK (aX 2 (c "_law_cell_at")) (af (rd 0) (af (kI 5) ar))) (af (kI 0) ar))) (kI 4) fP) cI) ar)) (aD 3) (iG c))
  (oo 2)))
def An:=rq (x:="_law_params") (st:=uI) (f:=GQ) (n:=7) (by kernel_rfl) (λc=>by kernel_rfl) (by kernel_rfl)
noncomputable def OR(c:CF):FS :=
 (bq (ck (cB (dI [none,none] (dz (cutE (rd 0) (e9 (kI 8)) (e9 (kI 39)))) (aD 1) (cj (af (kS "say") (af (ak (ak (aK (aX 2 (c "_law_mixed")) (af (rd 1) (af (kI 0) ar))) (ak (rd 1) (ak (kI 10) (kI 22) pU) fP) gT) (ak (kI 10) (kI 30) pU) fP) ar))))) (aD 1))
  (cy (dq rK (af (ak (rd 1) (cB (dy (af (cj (af (kS "give") (af (kS "") ar))) ar))) cI) ar))))
def GR:=rq (x:="_law_rows") (st:=Du) (f:=OR) (n:=2) (by kernel_rfl) (λc=>by kernel_rfl) (by kernel_rfl)
noncomputable def Ao(c:CF):FS :=
 (Ge 1 (cj (af (ak (rd 3) (kI 0) bL) (af (rd 4) (af (ak (Jk (kI 1)) (rd 2) BW) (af (rd 4) ar))))) (cK (.bl true)))
noncomputable def kL(c:CF):FS :=
 (jZ (mN (toB (ak (ak (ak (rd 3) (kI 1) bL) (kI 0) bL) (cj (af (kS "lent") (af (kS "sole") ar))) (FF false))))
  (gA (jU (af (ot (dq eF (af (aK (aX 1 (c "_law_leaves")) (af (ak (ak (rd 3) (kI 1) bL) (kI 1) bL) ar)) ar))) ar)) (aD 4) (Ao c))
  (λρ=>some (.nx ρ)))
noncomputable def Uj(c:CF):FS :=
 (bq (Gd 1)
  (bq (gA (iA (rd 0)) (fD 2 (bB (aD 2) (bB (aD 3) eH))) (kL c))
  (Gp 1)))
def Lj:=rq (x:="_law_due") (st:=HU) (f:=Uj) (n:=5) (by kernel_rfl) (λc=>by kernel_rfl) (by kernel_rfl)
noncomputable def OS(c:CF):FS :=
 (bq (ck (ak (rd 0) (rd 1) bL) (fD 6 (bB (aD 2) (bB (aD 3) (bB (aD 4) (bB (aD 5) (bB (aD 6) (bB (aD 7) eH))))))))
  (bq (jZ (zb (g9 (toB (aK (aX 1 (c "_law_whole")) (af (rd 2) ar)))) (zb (g9 (toB (aK (aX 1 (c "_law_whole")) (af (rd 4) ar)))) (zb (g9 (toB (aK (aX 1 (c "_law_whole")) (af (rd 5) ar)))) (g9 (toB (aK (aX 1 (c "_law_whole")) (af (rd 6) ar)))))))
  (cy (cK (.bl false)))
  (λρ=>some (.nx ρ)))
  (bq (jZ (zb (g9 (toB (DX .str (rd 3)))) (g9 (toB (aK (aX 1 (c "_law_whole")) (af (rd 7) ar)))))
  (cy (cK (.bl false)))
  (λρ=>some (.nx ρ)))
  (bq (jZ (toB (ak (rd 2) (kI 0) mq))
  (cy (ak (rd 7) (Jk (kI 1)) mq))
  (λρ=>some (.nx ρ)))
  (cy (uf (chain (kI 0) (rd 7) (rd 1) L6 FD) (ak (cutE (ak (rd 0) (rd 7) bL) Hb (e9 (kI 5))) (cj (af (ak (rd 2) (kI 1) BW) (af (rd 3) (af (rd 4) (af (rd 5) (af (rd 6) ar)))))) mq)))))))
def GS:=rq (x:="_law_came") (st:=Dv) (f:=OS) (n:=8) (by kernel_rfl) (λc=>by kernel_rfl) (by kernel_rfl)
noncomputable def qw(c:CF):FS :=
 (bq (jZ (zb (g9 (toB (DX .tuple (ak (rd 5) (rd 7) bL)))) (zb (toB (ak (dq eF (af (ak (rd 5) (rd 7) bL) ar)) (kI 6) BZ)) (g9 (toB (aK (aX 2 (c "_law_came")) (af (rd 5) (af (rd 7) ar)))))))
  (cy (cK (.bl false)))
  (λρ=>some (.nx ρ)))
  (jZ (zb (inB true 6 (cutE (ak (rd 5) (rd 7) bL) (e9 (kI 1)) (e9 (kI 5)))) (g9 (toB (chain (kI 0) (ak (ak (rd 5) (rd 7) bL) (kI 0) bL) (dq eF (af (rd 3) ar)) L6 FD))))
  (cy (cK (.bl false)))
  (λρ=>some (.nx ρ))))
noncomputable def Lk(c:CF):FS :=
 (bq (ck (aK (aX 2 (c "_law_names")) (af (ak (aK (aX 2 (c "_law_cell_at")) (af (rd 0) (af (kI 0) ar))) (ak (kI 10) (kI 12) pU) fP) (af (kI 12) ar))) (aD 1))
  (bq (ck (aK (aX 2 (c "_law_params")) (af (rd 0) (af (rd 1) ar))) (aD 2))
  (bq (ck (aK (aX 1 (c "_law_rows")) (af (rd 0) ar)) (aD 3))
  (bq (ck (cj (af (ak (rd 1) (kI 11) bL) (af (cj ar) (af (cK .cE) (af (cj ar) (af (cj (af (cj (af (kS "give") (af (kS "") ar))) ar)) ar)))))) (aD 4))
  (bq (ck (aK (aX 2 (c "held")) (af (cj (af (rd 4) (af (cj (af (ak (rd 1) (kI 10) bL) (af (dq rK (af (rd 2) ar)) (af (cK .cE) (af (cj ar) (af (rd 3) ar)))))) ar))) (af (kI 1) ar))) (aD 5))
  (bq (jZ (g9 (toB (DX .list (rd 5))))
  (cy (cK (.bl false)))
  (λρ=>some (.nx ρ)))
  (bq (Gq 6 (aX 1 (c "_law_due")) (af (rd 2) ar))
  (bq (gA (jU (af (dq eF (af (rd 5) ar)) ar)) (aD 7) (qw c))
  (cy (uf (ak (Oe (cB (dI [none,none] (dz (rd 5)) (aD 1) (cutE (rd 1) Hb (e9 (kI 5)))))) (dq eF (af (rd 5) ar)) mq) (ak (dq eF (af (rd 5) ar)) (ak (N9 6) (dq eF (af (rd 3) ar)) gT) mq)))))))))))
def OT:=rq (x:="law") (st:=HV) (f:=Lk) (n:=8) (by kernel_rfl) (λc=>by kernel_rfl) (by kernel_rfl)
theorem ez{α:Type}{F:PV->bQ}{e:α->PV}{G:α->PV}:∀{l:List α},(∀x∈l,F (e x)=some (G x))->kx F (l.map e)=some (l.map G)
 | [],_=>rfl
 | x::r,h=>by
  rw[bC,kx,h x bE,ez λy hy=>h y (bx _ hy)]
  rfl
theorem GU(ns:List Int):B9 [.aA (ns.map .int)]=some (.int ns.sum):=by
 show(gM _).map _=_;rw[oG];rfl
@[simp] theorem Ll{x y:Str}:cI (.str x) (.str y)=sizeOk (x.length+y.length) (.str (x++y)):=rfl
def QG:Sh->Str
 | .num=>"num"
 | .own=>"own"
 | .dN _=>"strip"
 | .bP _=>"rec"
@[simp] theorem QH(s:Sh):bL (enc s) (.int 0)=some (.str (QG s)):=by cases s<;>simp[enc,QG]
inductive Kd where
 | ow (s:Sh) | ho (ags:Bool) (s:Sh)
noncomputable def hw(b:Bool):Str:=if b then "sole" else "lent"
def jf:Kd->PV
 | .ow s=>enc s
 | .ho b s=>.aI [.str (hw b),enc s]
def dM:Kd->Sh
 | .ow s=>s
 | .ho _ s=>s
noncomputable def qx:Kd->Bool
 | .ow _=>false
 | .ho _ _=>true
def kw:Kd->Str
 | .ow s=>QG s
 | .ho b _=>hw b
@[simp] theorem xY(k:Kd):bL (jf k) (.int 0)=some (.str (kw k)):=by cases k<;>simp[jf,kw]
theorem in2(x a b:Str):FF false (.str x) (.aI [.str a,.str b])=some (.bl (a==x || b==x)):=by
 show(if ll [PV.str a,.str b]<=i8 then some (PV.bl (Sv (.str x) [.str a,.str b]))else none)=_
 rw[if_pos (by simp[ll,nK])]
 simp[Sv,eqT]
theorem acW:((Str.ofString "lent")==(Str.ofString "num") || (Str.ofString "sole")==(Str.ofString "num"))=false:=by decide +kernel
theorem acX:((Str.ofString "lent")==(Str.ofString "own") || (Str.ofString "sole")==(Str.ofString "own"))=false:=by decide +kernel
theorem acY:((Str.ofString "lent")==(Str.ofString "strip") || (Str.ofString "sole")==(Str.ofString "strip"))=false:=by decide +kernel
theorem acZ:((Str.ofString "lent")==(Str.ofString "rec") || (Str.ofString "sole")==(Str.ofString "rec"))=false:=by decide +kernel
theorem ac0:((Str.ofString "lent")==(Str.ofString "lent") || (Str.ofString "sole")==(Str.ofString "lent"))=true:=by decide +kernel
theorem ac1:((Str.ofString "lent")==(Str.ofString "sole") || (Str.ofString "sole")==(Str.ofString "sole"))=true:=by decide +kernel
theorem Lm(k:Kd):((Str.ofString "lent")==kw k || (Str.ofString "sole")==kw k)=qx k:=by
 cases k with
 | ow s =>
  cases s with
  | num=>exact acW
  | own=>exact acX
  | dN n=>exact acY
  | bP ps=>exact acZ
 | ho b s =>
  cases b with
  | false=>exact ac0
  | true=>exact ac1
theorem EK(k:Kd):FF false (.str (kw k)) (.aI [.str "lent",.str "sole"])=some (.bl (qx k)):=by rw[in2,Lm]
abbrev Rk:=Str×Kd
def da(r:Rk):PV:=.aI [.str r.1,jf r.2]
def kM:List Rk->Str->Option Kd
 | [],_=>none
 | r::l,x=>if r.1=x then some r.2 else kM l x
theorem vy:∀(l:List Rk) (r:Rk),(l.map (·.1)).Nodup->r∈l->kM l r.1=some r.2
 | s::l,r,hn,h=>by
  rw[bC,c8]at hn;rcases aZ.mp h with rfl | h
  ·rw[kM,if_pos rfl]
  ·rw[kM,if_neg,vy l r hn.2 h];intro e;exact hn.1 (bt.mpr ⟨r,h,e.symm⟩)
def ac2:Option Kd->cg
 | some p=>some (.val (jf p))
 | none=>none
theorem GV(c:fZ)(f:Ent)(x:Str)(R:List Rk):∀(o2 o3:Ent),∃ρ,eZ (fD 2 (bB (aD 2) (bB (aD 3) eH))) (iD c) (R.map da) [f,.val (.str x),o2,o3]=some (match kM R x with | some p=>.rt (.val (jf p)) | none=>.nx ρ):=by
 induction R with
 | nil=>exact λo2 o3=>⟨_,rfl⟩
 | cons r R ih =>
  intro o2 o3;obtain⟨ρ,e⟩:=ih (.val (.str r.1)) (.val (jf r.2));refine⟨ρ,?_⟩;rw[bC,jc];have t:fD 2 (bB (aD 2) (bB (aD 3) eH)) (da r) [f,.val (.str x),o2,o3]=some [f,.val (.str x),.val (.str r.1),.val (jf r.2)]:=rfl;rw[t,aY,sW,kM];by_cases h:r.1=x
  ·simp[h]
  ·rw[if_neg h];simp[h];exact e
def xZ(nm res body:PV)(R1 R2:List Rk):PV:=.aI [nm,.aI (R1.map da),res,.aI (R2.map da),body]
theorem GW(k:Nat)(n res body:PV)(R1 R2:List Rk)(x:Str)(h:R1.length+R2.length<=1000):run bg (k+1) "kind_of" [xZ n res body R1 R2,.str x]=ac2 (kM (R1++R2) x):=by
 rw[Ag];obtain⟨ρ,e⟩:=GV (run bg k) (.val (xZ n res body R1 R2)) x (R1++R2) .un .un;have hs:cI (.aI (R1.map da)) (.aI (R2.map da))=some (.aI ((R1++R2).map da)):=by
  rw[dO];exact aT (by simp;lia)
 have a0:gA (dz (ak (ak (rd 0) (kI 1) bL) (ak (rd 0) (kI 3) bL) cI)) (fD 2 (bB (aD 2) (bB (aD 3) eH))) (iD (run bg k)) [.val (xZ n res body R1 R2),.val (.str x),.un,.un]=some (match kM (R1++R2) x with | some p=>.rt (.val (jf p)) | none=>.nx ρ):=by
  refine fS ?_ e;rw[EC,b2 (b2 rfl rfl rfl) (b2 rfl rfl rfl) hs];rfl
 rw[bO];show gf (oK (run bg k) [.val (xZ n res body R1 R2),.val (.str x),.un,.un])=_;unfold oK;cases hf:kM (R1++R2) x with
 | none =>
  rw[hf]at a0;rw[fA a0];rfl
 | some p =>
  rw[hf]at a0;rw[sL a0];rfl
theorem kO(k:Nat)(d:Kd):run bg (k+1) "is_holder" [jf d]=some (.val (.bl (qx d))):=by
 rw[ur];have h:=EK d;rw[bO];show gf (cy _ [.val (jf d)])=_;rw[rS (b2 (b2 rfl rfl (xY d)) rfl h)];rfl
theorem tu(k:Nat)(d:Kd):run bg (k+2) "shape_of" [jf d]=some (.val (enc (dM d))):=by
 rw[xS];have h:=kO k d;have t:IM (toB (aK (aX 1 (run bg (k+1) "is_holder")) (af (rd 0) ar))) (ak (rd 0) (kI 1) bL) (rd 0) [.val (jf d)]=some (enc (dM d)):=by
  have q:toB (aK (aX 1 (run bg (k+1) "is_holder")) (af (rd 0) ar)) [.val (jf d)]=some (qx d):=bT (gE (cA rfl rfl) rfl h rfl);rw[Oy,q];cases d with
  | ow s=>rfl
  | ho b s=>rfl
 rw[bO];show gf (cy _ [.val (jf d)])=_;rw[rS t];rfl
theorem LA:fu (run bg):=⟨λk ps=>CV k ps⟩
theorem EL{ps:List Sh}{i:Int}{y:Sh}(h0:0<=i)(hg:ps[i.toNat]?=some y):atI (c0 ps) i=some (enc y):=by
 have:=eE (xs:=c0 ps) (j:=i.toNat) (v:=enc y) (by rw[ig,cf,hg];rfl)
 rw[vR h0]at this;exact this
def ya{α:Type}:Option α->cg
 | some _=>some (.val .cE)
 | none=>none
theorem EM(k:Nat)(s:Sh)(i:Int):run bg (k+1) "check_part" [enc s,.int i]=ya (AQ s i):=by
 rw[sU];cases s with
 | num=>simp[fY,enc,AQ,ya,gf]
 | own=>simp[fY,enc,AQ,ya,gf]
 | dN n=>simp[fY,enc,AQ,ya,gf]
 | bP ps =>
  simp[fY,enc,gF];by_cases h0:0<=i
  ·by_cases h1:i<(ps.length:Int)
   ·have:i.toNat<ps.length:=by lia
    simp[h0,h1,AQ,di this,ya,gf]
   ·have:ps.length<=i.toNat:=by lia
    simp[h0,h1,AQ,jm this,ya,gf]
  ·simp[h0,AQ,ya,gf]
theorem Ap{s:Sh}{i:Int}{x:Sh×Int}(h:AQ s i=some x):∃ps,s=.bP ps/\0<=i/\ps[i.toNat]?=some x.1/\x.2=((iV (ps.take i.toNat)).length:Int):=by
 cases s with
 | bP ps =>
  simp only[AQ]at h;by_cases h0:0<=i
  ·rw[if_pos h0]at h;cases hg:ps[i.toNat]? with
   | none=>rw[hg]at h;simp at h
   | some y=>rw[hg]at h;simp at h;subst h;exact⟨ps,rfl,h0,hg,rfl⟩
  ·rw[if_neg h0]at h;cases h
 | num=>simp[AQ]at h
 | own=>simp[AQ]at h
 | dN n=>simp[AQ]at h
theorem vz(k:Nat)(S P:Ent):∀(p:List Int) (s:Sh) (a:Int) (o:Ent) (s':Sh) (a':Int),walk s a p=some (s',a')->∃o',eZ (aD 3) (nv (run bg (k+1))) (p.map .int) [S,P,.val (enc s),o]=some (.nx [S,P,.val (enc s'),o'])
 | [],s,a,o,s',a',h=>by
  simp[walk]at h;obtain⟨rfl,rfl⟩:=h;exact⟨o,by simp⟩
 | i::p,s,a,o,s',a',h=>by
  obtain⟨x,hx,hw⟩:=vO.mp (show(AQ s i).bind (λx=>walk x.1 (a+x.2) p)=some (s',a')from h)
  have hc:=EM k s i;rw[hx]at hc;obtain⟨ps,rfl,h0,hg,_⟩:=Ap hx;obtain⟨o',q⟩:=vz k S P p x.1 (a+x.2) (.val (.int i)) s' a' hw;refine⟨o',?_⟩;have rQ:=EL h0 hg;have body:nv (run bg (k+1)) [S,P,.val (enc (.bP ps)),.val (.int i)]=some (.nx [S,P,.val (enc x.1),.val (.int i)]):=by
   unfold nv;have a0:o9 (aK (aX 2 (run bg (k+1) "check_part")) (af (rd 2) (af (rd 3) ar))) [S,P,.val (enc (.bP ps)),.val (.int i)]=some (.nx [S,P,.val (enc (.bP ps)),.val (.int i)]):=by
    simp[hc,ya,gf]
   rw[fA a0];simp[enc,rQ]
  simp only[bC,jc];have:aD 3 (.int i) [S,P,.val (enc (.bP ps)),o]=some [S,P,.val (enc (.bP ps)),.val (.int i)]:=by simp
  rw[this,aY,body,aY,qt];exact q
theorem Uk(k:Nat)(s:Sh)(p:List Int)(x:Sh×Int)(h:walk s 0 p=some x):run bg (k+2) "part" [enc s,.aI (p.map .int)]=some (.val (enc x.1)):=by
 rw[K9];obtain⟨o',q⟩:=vz k (.val (enc s)) (.val (.aI (p.map .int))) p s 0 .un x.1 x.2 h;rw[bO];show gf (CW (run bg (k+1)) [.val (enc s),.val (.aI (p.map .int)),.un,.un])=_;unfold CW;have a0:ck (rd 0) (aD 2) [.val (enc s),.val (.aI (p.map .int)),.un,.un]=some (.nx [.val (enc s),.val (.aI (p.map .int)),.val (enc s),.un]):=aS rfl rfl;rw[fA a0,fA (fS rfl q),rS (p:=enc x.1) rfl];rfl
theorem OU(k:Nat)(ps:List Sh)(q:Nat)(hd:uq ps<=k)(hl:(iV ps).length<=1000)(hn:ps.length<=1000)(a b d:Ent) :
  dq B9 (af (cB (dI [none,none] (dz (cutE (ak (rd 2) (kI 1) bL) Hb (e9 (rd 4)))) (aD 1) (dq eF (af (aK (aX 1 (run bg (k+1) "leaves")) (af (rd 1) ar)) ar)))) ar) [a,b,.val (enc (.bP ps)),d,.val (.int (q:Int))]=some (.int ((iV (ps.take q)).length:Int)):=by
 have hm:∀s∈ps.take q,run bg (k+1) "leaves" [enc s]=some (.val (.aI (c0 (lv s)))):=λs hs=>fu.each (LA) ps k hd (by lia) s (A8 hs)
 have ac3:∀l:List Sh,(l.map λs=>((lv s).length:Int)).sum=((iV l).length:Int):=by
  intro l;induction l with
  | nil=>simp[iV]
  | cons s l ih=>simp[iV,ih]
 have uh:dz (cutE (ak (rd 2) (kI 1) bL) Hb (e9 (rd 4))) [a,b,.val (enc (.bP ps)),d,.val (.int (q:Int))]=some ((ps.take q).map enc):=by
  have Yz:=Ug (c0 ps) q;rw[ig,<-List.map_take]at Yz;simp[enc,ig,Yz]
 have e1:kx (λp=>(aD 1 p (bM [none,none] [a,b,.val (enc (.bP ps)),d,.val (.int (q:Int))])).bind (dq eF (af (aK (aX 1 (run bg (k+1) "leaves")) (af (rd 1) ar)) ar))) ((ps.take q).map enc)=some (((ps.take q).map λs=>((lv s).length:Int)).map .int):=by
  rw[eP];refine ez λs hs=>?_
  simp[hm s hs,gF]
 have e2:=GU ((ps.take q).map λs=>((lv s).length:Int))
 rw[ac3]at e2;refine bV (cA (fF ?_) rfl) e2;rw[z0,uh,aY,if_pos (lH (by simp;lia))]
 exact e1
theorem Ul{ps:List Sh}{y:Sh}(h:y∈ps):dp y<=uq ps:=by
 induction ps with
 | nil=>cases h
 | cons z zs ih =>
  simp only[uq];rcases aZ.mp h with rfl | hm
  ·lia
  ·have:=ih hm
   lia
theorem tw(k:Nat)(S P:Ent):∀(p:List Int) (s:Sh) (a:Int) (o:Ent) (s':Sh) (a':Int),(tab s).length<=500->dp s<=k->walk s a p=some (s',a')->∃o',eZ (aD 4) (k8 (run bg (k+1))) (p.map .int) [S,P,.val (enc s),.val (.int a),o]=some (.nx [S,P,.val (enc s'),.val (.int a'),o'])
 | [],s,a,o,s',a',_,_,h=>by
  simp[walk]at h;obtain⟨rfl,rfl⟩:=h;exact⟨o,by simp⟩
 | i::p,s,a,o,s',a',ht,hd,h=>by
  obtain⟨x,hx,hw⟩:=vO.mp (show(AQ s i).bind (λx=>walk x.1 (a+x.2) p)=some (s',a')from h)
  have hc:=EM k s i;rw[hx]at hc;obtain⟨ps,rfl,h0,hg,hx2⟩:=Ap hx;have pX:x.1∈ps:=cP hg;have SY:=GD pX;have htl:(tab (.bP ps)).length=iW ps+1:=by simp only[tab,aW,ij]
  have hll:=CO ps;have hnl:=Ab ps;have hdm:=Ul pX;have hdd:uq ps+1<=k:=by simpa only[dp]using hd
  obtain⟨o',q⟩:=tw k S P p x.1 (a+x.2) (.val (.int i)) s' a' (by lia) (by lia) hw
  refine⟨o',?_⟩;have Ln:=OU k ps i.toNat (by lia) (by lia) (by lia) S P (.val (.int a))
  rw[vR h0,<-hx2]at Ln;have rQ:=EL h0 hg;have body:k8 (run bg (k+1)) [S,P,.val (enc (.bP ps)),.val (.int a),.val (.int i)]=some (.nx [S,P,.val (enc x.1),.val (.int (a+x.2)),.val (.int i)]):=by
   unfold k8;have a0:o9 (aK (aX 2 (run bg (k+1) "check_part")) (af (rd 2) (af (rd 4) ar))) [S,P,.val (enc (.bP ps)),.val (.int a),.val (.int i)]=some (.nx [S,P,.val (enc (.bP ps)),.val (.int a),.val (.int i)]):=by
    simp[hc,ya,gf]
   rw[fA a0];have a1:ck (ak (rd 3) (dq B9 (af (cB (dI [none,none] (dz (cutE (ak (rd 2) (kI 1) bL) Hb (e9 (rd 4)))) (aD 1) (dq eF (af (aK (aX 1 (run bg (k+1) "leaves")) (af (rd 1) ar)) ar)))) ar)) Oi) (aD 3) [S,P,.val (enc (.bP ps)),.val (.int a),.val (.int i)]=some (.nx [S,P,.val (enc (.bP ps)),.val (.int (a+x.2)),.val (.int i)]):=aS (b2 rfl Ln rfl) rfl;rw[fA a1];exact aS (b2 (y:=.int i) (b2 (z:=some (.aI (c0 ps))) rfl rfl (by simp[enc])) rfl rQ) rfl
  simp only[bC,jc];have:aD 4 (.int i) [S,P,.val (enc (.bP ps)),.val (.int a),o]=some [S,P,.val (enc (.bP ps)),.val (.int a),.val (.int i)]:=by simp
  rw[this,aY,body,aY,qt];exact q
theorem OW(k:Nat)(s:Sh)(p:List Int)(x:Sh×Int)(ht:(tab s).length<=500)(hd:dp s<=k)(h:walk s 0 p=some x):run bg (k+2) "first" [enc s,.aI (p.map .int)]=some (.val (.int x.2)):=by
 rw[GJ];obtain⟨o',q⟩:=tw k (.val (enc s)) (.val (.aI (p.map .int))) p s 0 .un x.1 x.2 ht hd h;rw[bO];show gf (xR (run bg (k+1)) [.val (enc s),.val (.aI (p.map .int)),.un,.un,.un])=_;unfold xR;have a0:ck (rd 0) (aD 2) [.val (enc s),.val (.aI (p.map .int)),.un,.un,.un]=some (.nx [.val (enc s),.val (.aI (p.map .int)),.val (enc s),.un,.un]):=aS rfl rfl;have a1:ck (kI 0) (aD 3) [.val (enc s),.val (.aI (p.map .int)),.val (enc s),.un,.un]=some (.nx [.val (enc s),.val (.aI (p.map .int)),.val (enc s),.val (.int 0),.un]):=aS rfl rfl;rw[fA a0,fA a1,fA (fS rfl q),rS (p:=.int x.2) rfl];rfl
mutual
theorem Lo:∀(s:Sh),∀r∈tab s,r.2.2.1=sz r.2.2.2
 | .num,r,h=>by simp[tab]at h;subst h;simp[sz,lv]
 | .own,r,h=>by simp[tab]at h;subst h;simp[sz,lv]
 | .dN n,r,h=>by simp[tab]at h;subst h;simp[sz,lv]
 | .bP ps,r,h=>by
  simp only[tab,aZ]at h;rcases h with rfl | h
  ·simp[sz,lv]
  ·exact EN ps 0 0 r h
theorem EN:∀(l:List Sh) (k:Nat) (a:Int),∀r∈tabs k a l,r.2.2.1=sz r.2.2.2
 | [],_,_,r,h=>by simp[tabs]at h
 | s::l,k,a,r,h=>by
  simp only[tabs,dD,bt]at h;rcases h with⟨r0,h0,rfl⟩ | h
  ·exact Lo s r0 h0
  ·exact EN l _ _ r h
end
mutual
theorem yb:∀(s:Sh),∀r∈tab s,dp r.2.2.2<=dp s/\(lv r.2.2.2).length<=(lv s).length
 | .num,r,h=>by simp[tab]at h;subst h;simp
 | .own,r,h=>by simp[tab]at h;subst h;simp
 | .dN n,r,h=>by simp[tab]at h;subst h;simp
 | .bP ps,r,h=>by
  simp only[tab,aZ]at h;rcases h with rfl | h
  ·simp
  ·have:=EO ps 0 0 r h;simp only[dp,lv]
   lia
theorem EO:∀(l:List Sh) (k:Nat) (a:Int),∀r∈tabs k a l,dp r.2.2.2<=uq l/\(lv r.2.2.2).length<=(iV l).length
 | [],_,_,r,h=>by simp[tabs]at h
 | s::l,k,a,r,h=>by
  simp only[tabs,dD,bt]at h;simp only[uq,iV,bY];rcases h with⟨r0,h0,rfl⟩ | h
  ·have:=yb s r0 h0;simp only[nt]
   lia
  ·have:=EO l _ _ r h
   lia
end
structure jY where
 w:Str
 n:Str
 t:Bool
 f:Int
 m:Int
 k:Str
def yc(a:jY):PV:=.aI [.str a.w,.str a.n,.bl a.t,.int a.f,.int a.m,.str a.k]
noncomputable def lJ:jY:=⟨"rest","",false,0,0,""⟩
def F8(x:Str)(th:Bool)(p:List Int)(at_:PV):PV:=.aI [.str x,.bl th,.aI (p.map .int),at_]
def Aq(s:Sh):Prop:=(tab s).length<=100/\dp s<=3
def Lp(R:Nat->fZ)(F:PV)(ks:List Rk):Prop:=∀k,∀r∈ks,run bg (k+1) "kind_of" [F,.str r.1]=some (.val (jf r.2))
def tA(w x:Str)(d:Kd)(r:Rw)(t:Str):jY:=⟨w,x,qx d,r.2.1,r.2.2.1,t⟩
theorem ER{F:PV}{ks:List Rk}(hF:Lp (run bg) F ks)(k:Nat)(hk:3<=k)(w t:Str){x:Str}{d:Kd}(hx:(x,d)∈ks)(hs:Aq (dM d)){r:Rw}(hr:r∈tab (dM d))(a:PV):run bg (k+3) "touch" [F,.str w,F8 x (qx d) r.1 a,.str t]=some (.val (yc (tA w x d r t))):=by
 rw[GO];have hw:=Ae (dM d) r hr 0;have hd:=yb (dM d) r hr;have hl:=K5 (dM d);have h1:=hF (k+1) (x,d) hx;have h2:=tu k d;have h3:=Uk k (dM d) r.1 _ hw;have h4:=fu.all (LA) r.2.2.2 (k+1) (by have:=hs.2;lia) (by have:=hs.1;lia)
 have h5:=OW k (dM d) r.1 _ (by have:=hs.1;lia) (by have:=hs.2;lia) hw
 have h6:=Lo (dM d) r hr;have e4:r.2.1=0+r.2.1:=by lia
 rw[bO];show gf (xV (run bg (k+2)) [.val F,.val (.str w),.val (F8 x (qx d) r.1 a),.val (.str t),.un,.un])=_;unfold xV;have a0:ck (aK (aX 1 (run bg (k+2) "shape_of")) (af (aK (aX 2 (run bg (k+2) "kind_of")) (af (rd 0) (af (ak (rd 2) (kI 0) bL) ar))) ar)) (aD 4) [.val F,.val (.str w),.val (F8 x (qx d) r.1 a),.val (.str t),.un,.un]=some (.nx [.val F,.val (.str w),.val (F8 x (qx d) r.1 a),.val (.str t),.val (enc (dM d)),.un]) :=
  aS (gE (cA (gE (cA rfl (cA (b2 rfl rfl rfl) rfl)) rfl h1 rfl) rfl) rfl h2 rfl) rfl
 have a1:ck (dq eF (af (aK (aX 1 (run bg (k+2) "leaves")) (af (aK (aX 2 (run bg (k+2) "part")) (af (rd 4) (af (ak (rd 2) (kI 2) bL) ar))) ar)) ar)) (aD 5) [.val F,.val (.str w),.val (F8 x (qx d) r.1 a),.val (.str t),.val (enc (dM d)),.un]=some (.nx [.val F,.val (.str w),.val (F8 x (qx d) r.1 a),.val (.str t),.val (enc (dM d)),.val (.int r.2.2.1)]):=by
  refine aS (bV (cA (gE (cA (gE (cA rfl (cA (b2 rfl rfl rfl) rfl)) rfl h3 rfl) rfl) rfl h4 rfl) rfl) ?_) rfl;rw[h6];simp[sz,gF]
 rw[fA a0,fA a1];have a2:cj (af (rd 1) (af (ak (rd 2) (kI 0) bL) (af (ak (rd 2) (kI 1) bL) (af (aK (aX 2 (run bg (k+2) "first")) (af (rd 4) (af (ak (rd 2) (kI 2) bL) ar))) (af (rd 5) (af (rd 3) ar)))))) [.val F,.val (.str w),.val (F8 x (qx d) r.1 a),.val (.str t),.val (enc (dM d)),.val (.int r.2.2.1)]=some (yc (tA w x d r t)):=by
  refine tU (cA rfl (cA (b2 rfl rfl rfl) (cA (b2 rfl rfl rfl) (cA (gE (cA rfl (cA (b2 rfl rfl rfl) rfl)) rfl h5 rfl) (cA rfl (cA rfl rfl)))))) ?_ |>.trans ?_
  ·simp
  ·show some (PV.aI [.str w,.str x,.bl (qx d),.int (0+r.2.1),.int r.2.2.1,.str t])=_;rw[<-e4];rfl
 rw[rS a2];rfl
theorem Lq(s:Sh):(([],0,sz s,s):Rw)∈tab s:=by
 obtain⟨L,e⟩:=Aa s;rw[e];exact bE
theorem uy{F:PV}{ks:List Rk}(hF:Lp (run bg) F ks)(k:Nat)(hk:3<=k)(w t:Str){x:Str}{d:Kd}(hx:(x,d)∈ks)(hs:Aq (dM d)):run bg (k+4) "touch_whole" [F,.str w,.str x,.str t]=some (.val (yc (tA w x d ([],0,sz (dM d),dM d) t))):=by
 rw[p8];have h1:=hF (k+2) (x,d) hx;have h2:=kO (k+2) d;have h3:=ER hF k hk w t hx hs (Lq (dM d)) .cE;rw[bO];show gf (iX (run bg (k+3)) [.val F,.val (.str w),.val (.str x),.val (.str t)])=_;unfold iX;exact eW (rS (gE (cA rfl (cA rfl (cA (tU (cA rfl (cA (gE (cA (gE (cA rfl (cA rfl rfl)) rfl h1 rfl) rfl) rfl h2 rfl) (cA rfl (cA rfl rfl)))) (by simp)) (cA rfl rfl)))) rfl h3 rfl))
inductive Lr (ks:List Rk):PV->Prop
 | cE:Lr ks .cE
 | int (i:Int):Lr ks (.int i)
 | str (y:Str) (h:(y,Kd.ow .num)∈ks):Lr ks (.str y)
def atA:PV->List jY
 | .str y=>[⟨"read",y,false,0,1,""⟩]
 | _=>[]
theorem GX{F:PV}{ks:List Rk}(hF:Lp (run bg) F ks)(k:Nat)(hk:3<=k)(x:Str)(th:Bool)(p:List Int){a:PV}(ha:Lr ks a):run bg (k+5) "at_acts" [F,F8 x th p a]=some (.val (.aA ((atA a).map yc))):=by
 rw[Ak,bO];show gf (oM (run bg (k+4)) [.val F,.val (F8 x th p a)])=_;unfold oM;cases ha with
 | cE=>exact eW (sL (iT rfl (rS rfl)))
 | int i=>exact eW (sL (iT rfl (rS rfl)))
 | str y h =>
  have h1:=uy hF k hk "read" "" h ⟨by simp[dM,tab],by simp[dM,dp]⟩
  have e:tA "read" y (.ow .num) ([],0,sz (dM (.ow .num)),dM (.ow .num)) ""=⟨"read",y,false,0,1,""⟩:=by
   simp[tA,qx,dM,sz,lv]
  rw[e]at h1;exact eW (sq (iF rfl rfl) (rS (fF (lS (cA (gE (cA rfl (cA rfl (cA (b2 rfl rfl rfl) (cA rfl rfl)))) rfl h1 rfl) rfl) (by show 1<=100000;decide)))))
structure Sp where
 x:Str
 d:Kd
 r:Rw
 a:PV
def ac4(s:Sp):PV:=F8 s.x (qx s.d) s.r.1 s.a
structure ac5 (ks:List Rk) (s:Sp):Prop where
 mem:(s.x,s.d)∈ks
 ok:Aq (dM s.d)
 row:s.r∈tab (dM s.d)
 at_:Lr ks s.a
def spA(w:Str)(s:Sp)(t:Str):jY:=tA w s.x s.d s.r t
inductive Op where
 | n (i:Int) | s (s:Sp)
def Um:Op->PV
 | .n i=>.int i
 | .s s=>ac4 s
def YA(ks:List Rk):Op->Prop
 | .n _=>True
 | .s s=>ac5 ks s
def opA:Op->List jY
 | .n _=>[]
 | .s s=>atA s.a++[spA "read" s ""]
theorem Uo(a:PV):(atA a).length<=1:=by
 unfold atA;split<;>simp
theorem tx{F:PV}{ks:List Rk}(hF:Lp (run bg) F ks)(k:Nat)(hk:3<=k){o:Op}(ho:YA ks o):run bg (k+6) "operand_acts" [F,Um o]=some (.val (.aA ((opA o).map yc))):=by
 rw[oN,bO];show gf (ik (run bg (k+5)) [.val F,.val (Um o)])=_;unfold ik;cases o with
 | n i=>exact eW (sL (iT rfl (rS rfl)))
 | s s =>
  obtain⟨h1,h2,h3,h4⟩:=ho;have e1:=GX hF k hk s.x (qx s.d) s.r.1 h4;have e2:=ER hF (k+2) (by lia) "read" "" h1 h2 h3 s.a
  have hl:=Uo s.a;refine eW (sq (iF rfl rfl) (rS ?_));refine(b2 (gE (cA rfl (cA rfl rfl)) rfl e1 rfl) (fF (lS (cA (gE (cA rfl (cA rfl (cA rfl (cA rfl rfl)))) rfl e2 rfl) rfl) (by simp))) (aL (by simp;lia))).trans ?_
  rw[opA,dO];rfl
section
def yd(as:List jY):PV:=.aA (as.map yc)
section
variable {F:PV} {ks:List Rk} (hF:Lp (run bg) F ks) (k:Nat) (hk:3<=k)
include hF hk
theorem C5(w:Str){a:Op}(ha:YA ks a):run bg (k+7) "say_acts" [F,.aI [.str w,Um a]]=some (.val (yd (opA a))):=by
 rw[xW,bO];have h1:=tx hF k hk ha;exact eW (rS (gE (cA rfl (cA (b2 rfl rfl rfl) rfl)) rfl h1 rfl))
omit hF hk in
theorem ye(w:Str):run bg (k+7) "give_acts" [F,.aI [.str w,.str ""]]=some (.val (yd [])):=by
 rw[uv,bO];have q:mq (.str "") (.str "")=some (.bl true):=by rw[xM];rfl
 exact eW (sL (iT (bT (b2 (b2 rfl rfl rfl) rfl q)) (rS rfl)))
end
def iY(i:Nat)(a:jY):PV:=.aI [.int i,.str a.w,.str a.n,.bl a.t,.int a.f,.int a.m,.str a.k]
def il:List jY->List jY
 | []=>[lJ]
 | a::r=>a::r
structure Ls (c:fZ) (F p:PV) (as:List jY):Prop where
 ex:∃w fn rest,p=.aI (.str w::rest)/\jH.lookup w=some fn/\OP.lookup fn=some 2/\∃e,c fn [F,p]=some e/\l0 e=some (yd as)
 few:as.length<=20
theorem GY{c:fZ}{F p:PV}{as:List jY}(M:Ls c F p as)(i:Nat)(told:av)(hl:told.length<=90000)(x0 x1 x6:Ent):ny c [x0,x1,.val F,.own told,.val (.int (i:Int)),.val p,x6]=some (.nx [x0,x1,.val F,.own (told++(il as).map (iY i)),.val (.int (i:Int)),.val p,.val (yd as)]):=by
 obtain⟨w,fn,rest,rfl,h1,h2,e,h3,h4⟩:=M.ex;have hf:=M.few;unfold ny;have ht:FP jH OP c (ak (rd 5) (kI 0) bL) (af (rd 2) (af (rd 5) ar)) [x0,x1,.val F,.own told,.val (.int (i:Int)),.val (.aI (.str w::rest)),x6]=some (yd as):=by
  have hk:ak (rd 5) (kI 0) bL [x0,x1,.val F,.own told,.val (.int (i:Int)),.val (.aI (.str w::rest)),x6]=some (.str w):=b2 rfl rfl Qz;rw[Ox,hk,aY,KL,h1,aY,h2,aY];exact gE (cA rfl (cA rfl rfl)) rfl h3 h4
 have a0:ck (FP jH OP c (ak (rd 5) (kI 0) bL) (af (rd 2) (af (rd 5) ar))) (aD 6) [x0,x1,.val F,.own told,.val (.int (i:Int)),.val (.aI (.str w::rest)),x6]=some (.nx [x0,x1,.val F,.own told,.val (.int (i:Int)),.val (.aI (.str w::rest)),.val (yd as)]):=aS ht rfl;refine sq a0 ?_;have ho:WC (rd 6) (cB (dy (af (cK (.aI [(.str "rest"),(.str ""),(.bl false),(.int 0),(.int 0),(.str "")])) ar))) [x0,x1,.val F,.own told,.val (.int (i:Int)),.val (.aI (.str w::rest)),.val (yd as)]=some (yd (il as)):=by
  cases as with
  | nil=>rfl
  | cons a r=>rfl
 have hor:(il as).length<=20:=by
  cases as with
  | nil=>simp[il]
  | cons a r=>exact hf
 refine mX rfl (fF (cV (sV ho rfl) (by simp only[aH];lia) (?_:_=some ((il as).map (iY i))))) (by simp only[aH];lia)
 refine ez λa _=>?_
 show(aD 1 (yc a) [Ent.un,.un,.val (.int (i:Int))]).bind _=_;have t:aD 1 (yc a) [Ent.un,.un,.val (.int (i:Int))]=some [.un,.val (yc a),.val (.int (i:Int))]:=rfl;rw[t,aY];exact b2 (tU (cA rfl rfl) (by simp)) rfl (aT (by simp))
def yf:Nat->List (List jY)->av
 | _,[]=>[]
 | i,as::r=>(il as).map (iY i)++yf (i+1) r
theorem vA{c:fZ}{F:PV}(x0 x1:Ent):∀(L:List (PV×List jY)) (i:Nat) (told:av) (x4 x5 x6:Ent),(∀q∈L,Ls c F q.1 q.2)->told.length+20*L.length<=90000 ->
  ∃vB Ar x6',eZ (fD 2 (bB (aD 4) (bB (aD 5) eH))) (ny c) (fg i (L.map (·.1))) [x0,x1,.val F,.own told,x4,x5,x6]=some (.nx [x0,x1,.val F,.own (told++yf i (L.map (·.2))),vB,Ar,x6'])
 | [],i,told,x4,x5,x6,_,_=>⟨x4,x5,x6,by simp[fg,yf]⟩
 | (p,as)::L,i,told,x4,x5,x6,h,hz=>by
  have M:=h (p,as) bE;have hf:=M.few;simp only[aW]at hz;have hor:((il as).map (iY i)).length<=20:=by
   rw[aH];cases as with
   | nil=>simp[il]
   | cons a r=>exact hf
  obtain⟨vB,Ar,x6',e⟩:=vA x0 x1 L (i+1) (told++(il as).map (iY i)) (.val (.int (i:Int))) (.val p) (.val (yd as)) (λq hq=>h q (bx _ hq)) (by rw[bY];lia)
  refine⟨vB,Ar,x6',?_⟩;have:=GY M i told (by lia) x0 x1 x6
  rw[bC,bC,fg,yf,<-iK];exact fC (d6:=[x0,x1,.val F,.own told,.val (.int (i:Int)),.val p,x6]) rfl this e
theorem Up(k:Nat){F:PV}{fs:av}{i:Int}(hi:atI fs i=some F){n res:PV}{R1 R2:List Rk}{L:List (PV×List jY)} (hF:F=xZ n res (.aI (L.map (·.1))) R1 R2) (hL:∀q∈L,Ls (run bg k) F q.1 q.2) (hz:L.length<=4000):run bg (k+1) "acts" [.aI fs,.int i]=some (.own (yf 0 (L.map (·.2)))):=by
 rw[La,bO];obtain⟨x4,x5,x6,e⟩:=vA (.val (.aI fs)) (.val (.int i)) L 0 [] .un .un .un hL (by simp;lia)
 rw[gW]at e;have hr:ak (rd 2) (kI 4) bL [.val (.aI fs),.val (.int i),.val F,.own [],.un,.un,.un]=some (.aI (L.map (·.1))):=by rw[hF];exact b2 rfl rfl rfl
 have he:iA (ak (rd 2) (kI 4) bL) [.val (.aI fs),.val (.int i),.val F,.own [],.un,.un,.un]=some (fg 0 (L.map (·.1))):=by
  show((ak (rd 2) (kI 4) bL) _).bind _=_;rw[hr];rfl
 exact GC (sq (aS (b2 rfl rfl hi) rfl) (sq (sO rfl (by simp)) (sq (fS he e) (CL rfl))))
theorem nE(k:Nat)(n:Int):run bg (k+1) "_law_whole" [.int n]=some (.val (.bl true)):=by
 rw[C4,bO];rfl
def cell(ns:List Int)(i:Nat):Int:=ns.getD i 0
theorem C6(k:Nat)(ns:List Int)(i:Nat):run bg (k+1) "_law_cell_at" [vq ns,.int (i:Int)]=some (.val (.int (cell ns i))):=by
 rw[xX];by_cases h:i<ns.length
 ·have:atI (ns.map PV.int) (i:Int)=some (.int (cell ns i)):=eE (by rw[cf,di h];simp[cell,h])
  simp[mm,vq,h,this]
 ·have:cell ns i=0:=by simp[cell,List.getD,jm (Bj h)]
  simp[mm,vq,h,this]
theorem jM{i j:Int}(h:0<j):fP (.int i) (.int j)=some (.int (i%j)):=by rw[K2,if_pos h]
theorem Uq{i j:Int}(h:0<j/\j<1073741824):hV (.int i) (.int j)=some (.int (i/j)):=by rw[GA,if_pos h]
theorem QI(s:Sh):(QG s==(Str.ofString "rec")) = !mj s:=by
 cases s with
 | num=>exact s_1
 | own=>exact s_2
 | dN n=>exact s_3
 | bP ps=>exact qG _
theorem Lu(s:Sh):BZ (.str (QG s)) (.str "rec")=some (.bl (mj s)):=by rw[xN,QI];simp
theorem Lv(s:Sh):mq (.str (QG s)) (.str "rec")=some (.bl (!mj s)):=by rw[xM,QI]
mutual
theorem ES:∀(s:Sh),∀r∈tab s,(tab r.2.2.2).length<=(tab s).length
 | .num,r,h=>by simp[tab]at h;subst h;simp[tab]
 | .own,r,h=>by simp[tab]at h;subst h;simp[tab]
 | .dN n,r,h=>by simp[tab]at h;subst h;simp[tab]
 | .bP ps,r,h=>by
  have hl:(tab (.bP ps)).length=iW ps+1:=by simp only[tab,aW,ij]
  simp only[tab,aZ]at h;rcases h with rfl | h
  ·exact aR _
  ·have:=vC ps 0 0 r h
   lia
theorem vC:∀(l:List Sh) (k:Nat) (a:Int),∀r∈tabs k a l,(tab r.2.2.2).length<=iW l
 | [],_,_,r,h=>by simp[tabs]at h
 | s::l,k,a,r,h=>by
  simp only[tabs,dD,bt]at h;simp only[iW];rcases h with⟨r0,h0,rfl⟩ | h
  ·have:=ES s r0 h0;simp only[nt]
   lia
  ·have:=vC l _ _ r h
   lia
end
theorem Lw(k:Nat)(a:Int)(s:Sh)(l:List Sh):tabs k a (s::l)=(tab s).map (nt k a)++tabs (k+1) (a+sz s) l:=rfl
mutual
def pos:Sh->Bool
 | .dN n=>decide (0<n)
 | .bP ps=>Lx ps
 | _=>true
def Lx:List Sh->Bool
 | []=>true
 | s::r=>pos s&&Lx r
end
mutual
theorem As:∀(s:Sh),pos s=true->∀r∈tab s,pos r.2.2.2=true
 | .num,h,r,hr=>by simp[tab]at hr;subst hr;exact h
 | .own,h,r,hr=>by simp[tab]at hr;subst hr;exact h
 | .dN n,h,r,hr=>by simp[tab]at hr;subst hr;exact h
 | .bP ps,h,r,hr=>by
  simp only[tab,aZ]at hr;rcases hr with rfl | hr
  ·exact h
  ·exact vD ps (by simpa only[pos]using h) 0 0 r hr
theorem vD:∀(l:List Sh),Lx l=true->∀(k:Nat) (a:Int),∀r∈tabs k a l,pos r.2.2.2=true
 | [],_,_,_,r,hr=>by simp[tabs]at hr
 | s::l,h,k,a,r,hr=>by
  simp only[Lx,aE]at h;simp only[tabs,dD,bt]at hr;rcases hr with⟨r0,h0,rfl⟩ | hr
  ·exact As s h.1 r0 h0
  ·exact vD l h.2 _ _ r hr
end
def QJ(s:Sh):Prop:=Aq s/\pos s=true
abbrev nP:PV:=.aI [.str "num"]
abbrev oP:PV:=.aI [.str "own"]
abbrev sP(n:Int):PV:=.aI [.str "strip",.int n]
abbrev tP:PV:=.aI [.str "rec",.aI [nP,nP]]
theorem vE{α:Type}{F:PV->Option bQ}{e:α->PV}{G:α->PV}{f:α->Bool}:∀{l:List α},(∀x∈l,F (e x)=some (if f x=true then some (G x)else none))->ku F (l.map e)=some ((l.filter f).map G)
 | [],_=>rfl
 | x::r,h=>by
  have ih:=vE λy hy=>h y (bx _ hy)
  rw[bC];show(F (e x)).bind _=_;rw[h x bE,aY,ih];cases hf:f x with
  | true=>simp[hf]
  | false=>simp[hf]
variable {ks:List Rk}
theorem OX{α:Type}(N:List α)(e:α->PV)(m:Int)(h:0<N.length):∃s∈N,atI (N.map e) (m%((N.map e).length:Int))=some (e s):=by
 rw[aH];have Zs:=j8 m (show(N.length:Int)≠0 by lia)
 have hj1:=lN m (show(0:Int)<(N.length:Int) by lia)
 obtain⟨j,hj⟩:=Int.eq_ofNat_of_zero_le Zs;have UQ:j<N.length:=by lia
 refine⟨N[j],vV UQ,?_⟩;rw[hj];exact eE (by rw[cf,di UQ];rfl)
end
theorem Ur{s:Sh}(h:Aq s){r:Rw}(hr:r∈tab s):Aq r.2.2.2:=by
 have h1:=ES s r hr;have h2:=(yb s r hr).1;have h3:=h.1;have h4:=h.2;exact⟨by lia,by lia⟩
def eN(q:Nat×jY):PV:=iY q.1 q.2
def ir:Nat->List (List jY)->List (Nat×jY)
 | _,[]=>[]
 | i,as::r=>(il as).map (λa=>(i,a))++ir (i+1) r
theorem tH:∀(L:List (List jY)) (i:Nat),yf i L=(ir i L).map eN
 | [],_=>rfl
 | as::L,i=>by
  rw[yf,ir,dO,eP,tH L (i+1)];rfl
theorem Au:∀(L:List (List jY)) (i:Nat),∀q∈ir i L,i<=q.1/\q.1<i+L.length
 | [],_,_,h=>nomatch h
 | as::L,i,q,h=>by
  rw[ir,dD]at h;rw[aW];rcases h with h | h
  ·obtain⟨a,_,rfl⟩:=bt.mp h;show i<=i/\i<i+(L.length+1)
   lia
  ·have:=Au L (i+1) q h
   lia
theorem Av:∀(L:List (List jY)) (i j:Nat),i<=j->j<i+L.length->∃a,(j,a)∈ir i L
 | [],_,_,h1,h2=>by simp at h2;lia
 | as::L,i,j,h1,h2=>by
  rw[aW]at h2;by_cases e:j=i
  ·subst e;obtain⟨a,ha⟩:∃a,a∈il as:=by
    cases as with
    | nil=>exact⟨lJ,bE⟩
    | cons a r=>exact⟨a,bE⟩
   exact⟨a,by rw[ir];exact gH _ (bt.mpr ⟨a,ha,rfl⟩)⟩
  ·obtain⟨a,ha⟩:=Av L (i+1) j (by lia) (by lia)
   exact⟨a,by rw[ir];exact d7 _ ha⟩
def U5(N:Nat)(kvs:List (b8×PV)):Prop:=∀q∈kvs,∃m:Nat,q.2=.int (m:Int)/\m<N
theorem C7(kvs:List (b8×PV))(k:b8)(p:PV):(dh (kvs++[(k,p)]) k).isSome=true:=by
 unfold dh;rw[Bd,List.find?_isSome];exact⟨(k,p),by simp,by simp⟩
theorem tJ(kvs ms:List (b8×PV))(k:b8)(h:(dh kvs k).isSome=true):(dh (kvs++ms) k).isSome=true:=by
 unfold dh at h ⊢;rw[Bd,List.find?_isSome]at h ⊢;obtain⟨x,h1,h2⟩:=h;exact⟨x,gH _ h1,h2⟩
theorem Ly{N:Nat}{kvs:List (b8×PV)}(h:U5 N kvs){k:b8}(hk:(dh kvs k).isSome=true):∃m:Nat,dh kvs k=some (.int (m:Int))/\m<N:=by
 unfold dh at hk ⊢;cases e:kvs.find? λkv=>decide (kv.1=k)with
 | none=>rw[e]at hk;cases hk
 | some q =>
  obtain⟨m,h1,h2⟩:=h q (List.mem_of_find?_eq_some e);exact⟨m,by rw[nX,h1],h2⟩
def yg:List (Nat×jY)->Nat->List (b8×PV)->List (b8×PV)
 | [],_,kvs=>kvs
 | (j,_)::as,i,kvs=>match dh kvs (.inl (j:Int))with
  | some _=>yg as (i+1) kvs
  | none=>yg as (i+1) (kvs++[(.inl (j:Int),.int (i:Int))])
theorem kP(c:fZ)(P I A:PV):∀(as:List (Nat×jY)) (i:Nat) (kvs:List (b8×PV)) (x4 x5:Ent),U5 i kvs->kvs.length<=i->i+as.length<=90000 ->
  (∃vB Ar,eZ (fD 2 (bB (aD 4) (bB (aD 5) eH))) (k9 c) (fg i (as.map eN)) [.val P,.val I,.val A,.cq (.k kvs),x4,x5,.un]=some (.nx [.val P,.val I,.val A,.cq (.k (yg as i kvs)),vB,Ar,.un]))/\U5 (i+as.length) (yg as i kvs)/\(∃ms,yg as i kvs=kvs++ms)/\∀q∈as,(dh (yg as i kvs) (.inl (q.1:Int))).isSome=true
 | [],i,kvs,x4,x5,h,_,_=>⟨⟨x4,x5,rfl⟩,h,⟨[],by simp[yg]⟩,λ_ z=>nomatch z⟩
 | (j,a)::as,i,kvs,x4,x5,h,hl,hz=>by
  rw[aW]at hz;have wq:fD 2 (bB (aD 4) (bB (aD 5) eH)) (Jn (.int (i:Int)) (iY j a)) [.val P,.val I,.val A,.cq (.k kvs),x4,x5,.un]=some [.val P,.val I,.val A,.cq (.k kvs),.val (.int (i:Int)),.val (iY j a),.un]:=rfl;have hb:k9 c [.val P,.val I,.val A,.cq (.k kvs),.val (.int (i:Int)),.val (iY j a),.un]=(match dh kvs (.inl (j:Int))with
    | some _=>some (.nx [.val P,.val I,.val A,.cq (.k kvs),.val (.int (i:Int)),.val (iY j a),.un])
    | none=>some (.nx [.val P,.val I,.val A,.cq (.k (kvs++[(.inl (j:Int),.int (i:Int))])),.val (.int (i:Int)),.val (iY j a),.un])):=by
   unfold k9;have hc:kvs.length<f6/\(([.val P,.val I,.val A,.cq (.k kvs),.val (.int (i:Int)),.val (iY j a),.un]:aC).set 3 .un).all Ed=true:=⟨by have:=sG;lia,rfl⟩
   show(if(kvs.length<f6/\(([.val P,.val I,.val A,.cq (.k kvs),.val (.int (i:Int)),.val (iY j a),.un]:aC).set 3 .un).all Ed=true)then _ else _)=_
   rw[if_pos hc];rfl
  cases e:dh kvs (.inl (j:Int))with
  | some v =>
   have ek:yg ((j,a)::as) i kvs=yg as (i+1) kvs:=by rw[yg,e]
   rw[e]at hb;obtain⟨⟨y4,y5,h1⟩,h2,⟨ms,h3⟩,h4⟩:=kP c P I A as (i+1) kvs (.val (.int (i:Int))) (.val (iY j a)) (λq hq=>by obtain⟨m,z1,z2⟩:=h q hq;exact⟨m,z1,by lia⟩) (by lia) (by lia)
   rw[ek];refine⟨⟨y4,y5,fC wq hb h1⟩,?_,⟨ms,h3⟩,λq hq=>?_⟩
   ·rw[aW,show i+(as.length+1)=i+1+as.length by lia];exact h2
   ·rcases aZ.mp hq with rfl | hq
    ·rw[h3];exact tJ _ _ _ (by rw[e];rfl)
    ·exact h4 q hq
  | none =>
   have ek:yg ((j,a)::as) i kvs=yg as (i+1) (kvs++[(.inl (j:Int),.int (i:Int))]):=by rw[yg,e]
   rw[e]at hb;obtain⟨⟨y4,y5,h1⟩,h2,⟨ms,h3⟩,h4⟩:=kP c P I A as (i+1) (kvs++[(.inl (j:Int),.int (i:Int))]) (.val (.int (i:Int))) (.val (iY j a)) (λq hq=>by
    rcases dD.mp hq with hq | hq
    ·obtain⟨m,z1,z2⟩:=h q hq;exact⟨m,z1,by lia⟩
    ·rw[dt]at hq;subst hq;exact⟨i,rfl,by lia⟩) (by rw[bY];simp;lia) (by lia)
   rw[ek];refine⟨⟨y4,y5,fC wq hb h1⟩,?_,⟨(.inl (j:Int),.int (i:Int))::ms,by rw[h3];simp⟩,λq hq=>?_⟩
   ·rw[aW,show i+(as.length+1)=i+1+as.length by lia];exact h2
   ·rcases aZ.mp hq with rfl | hq
    ·rw[h3];exact tJ _ _ _ (C7 _ _ _)
    ·exact h4 q hq
def nT(l:List Nat):PV:=.aI (l.map λm:Nat=>PV.int (m:Int))
def tK(c:fZ)(rows:PV)(n:Nat)(nx:Nat->List Nat):Prop:=∀j:Nat,j<n->c "row_nexts" [rows,.int (j:Int)]=some (.val (nT (nx j)))/\(nx j).length<=2/\∀m∈nx j,m<n
def lK(kvs:List (b8×PV))(m:Nat):Nat:=match dh kvs (.inl (m:Int))with
 | some (.int v)=>v.toNat
 | _=>0
theorem Aw{N:Nat}{kvs:List (b8×PV)}(h:U5 N kvs){m:Nat} (hk:(dh kvs (.inl (m:Int))).isSome=true):dh kvs (.inl (m:Int))=some (.int (lK kvs m:Int))/\lK kvs m<N:=by
 obtain⟨v,h1,h2⟩:=Ly h hk;have e:lK kvs m=v:=by unfold lK;rw[h1];rfl
 rw[e];exact⟨h1,h2⟩
def oQ(as:List (Nat×jY))(kvs:List (b8×PV))(nx:Nat->List Nat)(i:Nat)(q:Nat×jY):List Nat:=if as[i+1]?.map (·.1)=some q.1 then [i+1]else(nx q.1).map (lK kvs)
def Hg(as:List (Nat×jY))(kvs:List (b8×PV))(nx:Nat->List Nat):Nat->List (Nat×jY)->List (List Nat)
 | _,[]=>[]
 | i,q::bs=>oQ as kvs nx i q::Hg as kvs nx (i+1) bs
inductive GZ (kvs:List (b8×PV)):Ent->Prop
 | d:GZ kvs (.cq (.k kvs))
 | o:GZ kvs (.ob (.dct (.k kvs)))
section
variable {c:fZ} {fs:av} {I:Int} {nm res rows:PV} {R1 R2:List Rk} {n:Nat} {as:List (Nat×jY)} {kvs:List (b8×PV)} {nx:Nat->List Nat}
theorem C8(hP:atI fs I=some (xZ nm res rows R1 R2))(hR:tK c rows n nx)(hk:U5 as.length kvs) (hf:∀j:Nat,j<n->(dh kvs (.inl (j:Int))).isSome=true) (hl:as.length<=90000)
  (i:Nat) (q:Nat×jY) (hq:as[i]?=some q) (hr:∀q∈as,q.1<n) {D:Ent} (hD:GZ kvs D) (told:av) (ht:told.length<=90000) :
  ∃(D':Ent),je c [.val (.aI fs),.val (.int I),.val (.aA (as.map eN)),D,.val (.int (i:Int)),.val (eN q),.own told]=some (.nx [.val (.aI fs),.val (.int I),.val (.aA (as.map eN)),D',.val (.int (i:Int)),.val (eN q),.own (told++[nT (oQ as kvs nx i q)])])/\GZ kvs D'/\(oQ as kvs nx i q).length<=2/\∀m∈oQ as kvs nx i q,m<as.length:=by
 have hi:i<as.length:=(cM.mp hq).1;have UP:fO none [.val (.aI fs),.val (.int I),.val (.aA (as.map eN)),D,.val (.int (i:Int)),.val (eN q),.own told]=[.val (.aI fs),.val (.int I),.val (.aA (as.map eN)),.ob (.dct (.k kvs)),.val (.int (i:Int)),.val (eN q),.val (.aA told)]:=by
  cases hD<;>rfl
 have Hd:fO (some [3]) [.val (.aI fs),.val (.int I),.val (.aA (as.map eN)),D,.val (.int (i:Int)),.val (eN q),.own told]=[.val (.aI fs),.val (.int I),.val (.aA (as.map eN)),.ob (.dct (.k kvs)),.val (.int (i:Int)),.val (eN q),.own told]:=by
  cases hD<;>rfl
 have dW:∀x6:Ent,toB (ak (ak (rd 4) (kI 1) cI) (ot (dq eF (af (rd 2) ar))) FD) [.val (.aI fs),.val (.int I),.val (.aA (as.map eN)),.ob (.dct (.k kvs)),.val (.int (i:Int)),.val (eN q),x6]=some (decide (((i:Int)+1)<(as.length:Int))):=λx6=>by
  refine bT (b2 (x:=.int ((i:Int)+1)) (y:=.int (as.length:Int)) rfl ?_ rfl);show some (PV.int (((as.map eN).length:Nat):Int))=_;rw[aH]
 have go:∀b:Bool,mN (wK (toB (ak (ak (rd 4) (kI 1) cI) (ot (dq eF (af (rd 2) ar))) FD)) (toB (ak (ak (ak (rd 2) (ak (rd 4) (kI 1) cI) bL) (kI 0) bL) (ak (rd 5) (kI 0) bL) mq))) [.val (.aI fs),.val (.int I),.val (.aA (as.map eN)),D,.val (.int (i:Int)),.val (eN q),.own told]=some b->(b=true↔as[i+1]?.map (·.1)=some q.1) ->
  ∃(D':Ent),je c [.val (.aI fs),.val (.int I),.val (.aA (as.map eN)),D,.val (.int (i:Int)),.val (eN q),.own told]=some (.nx [.val (.aI fs),.val (.int I),.val (.aA (as.map eN)),D',.val (.int (i:Int)),.val (eN q),.own (told++[nT (oQ as kvs nx i q)])])/\GZ kvs D'/\(oQ as kvs nx i q).length<=2/\∀m∈oQ as kvs nx i q,m<as.length:=λb hb h1=>by
  unfold je;cases b with
  | true =>
   have h2:=h1.mp rfl;have h3:i+1<as.length:=by
    cases z:as[i+1]? with
    | none=>rw[z]at h2;cases h2
    | some _=>exact(cM.mp z).1
   have en:oQ as kvs nx i q=[i+1]:=if_pos h2;rw[en];refine⟨D,iT hb (mA rfl (tU (cA rfl rfl) (by simp)) (by lia)),hD,by simp,λm hm=>?_⟩
   simp at hm;lia
  | false =>
   obtain⟨r1,r2,r3⟩:=hR q.1 (hr q (cP hq));have en:oQ as kvs nx i q=(nx q.1).map (lK kvs):=if_neg λz=>nomatch h1.mpr z
   have m1:kx (λp=>(aD 1 p (bM [none,none,some 3] [.val (.aI fs),.val (.int I),.val (.aA (as.map eN)),.ob (.dct (.k kvs)),.val (.int (i:Int)),.val (eN q),.own told])).bind (getD 2 (rd 1))) ((nx q.1).map λm:Nat=>PV.int (m:Int))=some ((nx q.1).map λm=>PV.int (lK kvs m:Int)):=ez λm hm=>(Aw hk (hf m (r3 m hm))).1
   rw[en];refine⟨.ob (.dct (.k kvs)),iF hb ?_,.o,by rw[aH];exact r2,λm hm=>?_⟩
   ·show gK 6 _ rH (fO (some [3]) _)=_;rw[Hd];refine mA rfl (bV (cA (fF (cV (sV (gE (cA (b2 (b2 rfl rfl hP) rfl rfl) (cA (b2 rfl rfl Qz) rfl)) rfl r1 rfl) rfl) ?_ m1)) rfl) ?_) (by lia)
    ·rw[aH];lia
    ·unfold nT;rw[eP];rfl
   ·obtain⟨x,hx,rfl⟩:=bt.mp hm;exact(Aw hk (hf x (r3 x hx))).2
 by_cases h:i+1<as.length
 ·obtain⟨q',DC⟩:∃q',as[i+1]?=some q':=⟨_,di h⟩
  refine go (decide ((q'.1:Int)=(q.1:Int))) ?_ (by rw[DC];simp only[jq,nX,Option.some.injEq];lia)
  show wK _ _ (fO none _)=_;rw[UP];show(toB _ _).bind _=_;rw[dW,aY,if_pos (by rw[jq];lia)]
  have e0:ak (rd 2) (ak (rd 4) (kI 1) cI) bL [.val (.aI fs),.val (.int I),.val (.aA (as.map eN)),.ob (.dct (.k kvs)),.val (.int (i:Int)),.val (eN q),.val (.aA told)]=some (eN q'):=b2 (y:=.int (((i+1:Nat):Nat):Int)) rfl (by rfl) (eE (by rw[cf,DC];rfl))
  exact bT (b2 (x:=.int (q'.1:Int)) (y:=.int (q.1:Int)) (b2 e0 rfl rfl) (b2 rfl rfl rfl) jE)
 ·refine go false ?_ ⟨(λz=>nomatch z),λz=>by rw[jm (by lia)]at z;cases z⟩
  show wK _ _ (fO none _)=_;rw[UP];show(toB _ _).bind _=_;rw[dW,aY,if_neg (by rw[jq];lia)]
theorem tL(hP:atI fs I=some (xZ nm res rows R1 R2))(hR:tK c rows n nx)(hk:U5 as.length kvs) (hf:∀j:Nat,j<n->(dh kvs (.inl (j:Int))).isSome=true) (hl:as.length<=40000) (hr:∀q∈as,q.1<n):∀(bs pre:List (Nat×jY)) (told:av) (D x4 x5:Ent),as=pre++bs->GZ kvs D->told.length=pre.length ->
  ∃(D' vB Ar:Ent),eZ (fD 2 (bB (aD 4) (bB (aD 5) eH))) (je c) (fg pre.length (bs.map eN)) [.val (.aI fs),.val (.int I),.val (.aA (as.map eN)),D,x4,x5,.own told]=some (.nx [.val (.aI fs),.val (.int I),.val (.aA (as.map eN)),D',vB,Ar,.own (told++(Hg as kvs nx pre.length bs).map nT)])/\(Hg as kvs nx pre.length bs).length=bs.length/\∀l∈Hg as kvs nx pre.length bs,l.length<=2/\∀m∈l,m<as.length
 | [],pre,told,D,x4,x5,_,hD,_=>⟨D,x4,x5,by simp[fg,Hg],rfl,λ_ z=>nomatch z⟩
 | q::bs,pre,told,D,x4,x5,e,hD,ht=>by
  have SY:pre.length<=as.length:=by rw[e,bY];lia
  have hq:as[pre.length]?=some q:=by rw[e];simp
  obtain⟨D1,h1,h2,h3,h4⟩:=C8 hP hR hk hf (by lia) pre.length q hq hr hD told (by lia)
  obtain⟨D2,y4,y5,h5,h6,h7⟩:=tL hP hR hk hf hl hr bs (pre++[q]) (told++[nT (oQ as kvs nx pre.length q)]) D1 (.val (.int (pre.length:Int))) (.val (eN q)) (by rw[e];simp) h2 (by simp[ht])
  rw[show(pre++[q]).length=pre.length+1 by simp]at h5 h6 h7
  refine⟨D2,y4,y5,?_,by simp[Hg,h6],λx hx=>?_⟩
  ·rw[bC,fg,Hg,bC,show told++nT (oQ as kvs nx pre.length q)::(Hg as kvs nx (pre.length+1) bs).map nT=told++[nT (oQ as kvs nx pre.length q)]++(Hg as kvs nx (pre.length+1) bs).map nT by simp]
   exact fC rfl h1 h5
  ·rcases aZ.mp hx with rfl | hx
   ·exact⟨h3,h4⟩
   ·exact h7 x hx
end
def nF(L:List (List jY))(nx:Nat->List Nat):List (List Nat):=Hg (ir 0 L) (yg (ir 0 L) 0 []) nx 0 (ir 0 L)
theorem OY(k:Nat){fs:av}{I:Int}{nm res rows:PV}{R1 R2:List Rk}{L:List (List jY)}{nx:Nat->List Nat}(hP:atI fs I=some (xZ nm res rows R1 R2))(hA:run bg k "acts" [.aI fs,.int I]=some (.own (yf 0 L)))(hR:tK (run bg k) rows L.length nx)(hz:(ir 0 L).length<=40000) :
  run bg (k+1) "nexts" [.aI fs,.int I]=some (.own ((nF L nx).map nT))/\(nF L nx).length=(ir 0 L).length/\∀l∈nF L nx,l.length<=2/\∀m∈l,m<(ir 0 L).length:=by
 rw[tH]at hA;obtain⟨⟨x4,x5,h1⟩,h2,-,h4⟩:=kP (run bg k) (.aI fs) (.int I) (.aA ((ir 0 L).map eN)) (ir 0 L) 0 [] .un .un (λ_ z=>nomatch z) (by simp) (by lia)
 rw[gn]at h2;obtain⟨D',y4,y5,g1,g2,g3⟩:=tL (as:=ir 0 L) hP hR h2 (λj hj=>by
  obtain⟨a,ha⟩:=Av L 0 j (dP _) (by lia)
  exact h4 _ ha) hz (λq hq=>by have:=Au L 0 q hq;lia) (ir 0 L) [] [] (.cq (.k (yg (ir 0 L) 0 []))) x4 x5 rfl .d rfl
 refine⟨?_,g2,g3⟩;rw[GL,bO];rw[gW]at g1;exact GC (sq (aS (gE (cA rfl (cA rfl rfl)) rfl hA rfl) rfl) (sq (eS:=[.val (.aI fs),.val (.int I),.val (.aA ((ir 0 L).map eN)),.cq (.k []),.un,.un,.un]) rfl (sq (fS rfl h1) (sq (sO rfl (by simp)) (sq (fS rfl g1) (CL rfl))))))
end cu
namespace cu
open PySem L2 L2.PL oR EH
def kN(n:Nat):List b8:=[.inl (n:Int)]
def iN(n:Nat):PV:=.int (n:Int)
structure Us (ls:List (List Nat)) (N:Nat):Prop where
 len:ls.length=N
 ok:∀l∈ls,l.length<=2/\∀m∈l,m<N
 pos:0<N
 few:N<64
abbrev C9(ls:List (List Nat)):List b8->Option (List (List b8)):=xf (cB (dI [none,none] (dz (ak (rd 1) (ak (rd 0) (kI 0) bL) bL)) (aD 1) (cj (af (rd 1) ar)))) [.val (.aA (ls.map nT))]
theorem OZ{ls:List (List Nat)}{n:Nat}{l:List Nat}(hl:ls[n]?=some l)(h2:l.length<=2):C9 ls (kN n)=some (l.map kN):=by
 refine EJ ?_ λx hx=>?_
 ·rw[eP];refine fF (cV (sV (b2 (x:=.aA (ls.map nT)) (y:=.int (n:Int)) rfl rfl (eE (v:=nT l) (by rw[cf,hl];rfl))) rfl) ?_ ?_)
  ·rw[aH];lia
  ·exact ez λm _=>rfl
 ·obtain⟨m,_,rfl⟩:=bt.mp hx;show 1<1000
  lia
theorem Ut{a b:Nat}(h:kN a=kN b):a=b:=by
 unfold kN at h;injection h with h _
 injection h with h
 exact Int.ofNat.inj h
theorem Dc(k:Nat){ls:List (List Nat)}{N:Nat}(H:Us ls N):∃(told:eU) (ns:List Nat),run bg (k+1) "arrivals" [.aA (ls.map nT)]=some (.val (.aA (told.map toldP)))/\told.map (·.1)=ns.map kN/\ns.Nodup/\(∀n∈ns,n<N)/\QE (C9 ls) [kN 0] told/\CS (C9 ls) told told.length/\0∈ns:=by
 have hU:∀g∈(List.range N).map kN,∃fs,C9 ls g=some fs/\(∀f∈fs,f∈(List.range N).map kN)/\fs.length<=2:=λg hg=>by
  obtain⟨n,hn,rfl⟩:=bt.mp hg;rw[du]at hn;obtain⟨l,hl⟩:∃l,ls[n]?=some l:=⟨_,di (by rw[H.len];exact hn)⟩
  obtain⟨h1,h2⟩:=H.ok l (cP hl);refine⟨_,OZ hl h1,λf hf=>?_,by rw[aH];exact h1⟩
  obtain⟨m,hm,rfl⟩:=bt.mp hf;exact bt.mpr ⟨m,du.mpr (h2 m hm),rfl⟩
 have cD:((List.range N).map kN).length=N:=by simp
 have hf:=H.few;obtain⟨told,t1,t2,t3,t4,t5,t6⟩:=sS (C9 ls) [kN 0] ((List.range N).map kN) 2 (by rw[cD,sG];lia) (by rw[cD];show N<5000;lia) hU (λf hf=>by
  rw[dt]at hf;subst hf;exact bt.mpr ⟨0,du.mpr H.pos,rfl⟩)
 have QK:∀f∈told.map (·.1),∃n,n<N/\f=kN n:=λf hf=>by
  obtain⟨t,ht,rfl⟩:=bt.mp hf;obtain⟨n,hn,e⟩:=bt.mp (t3 t ht);exact⟨n,du.mp hn,e.symm⟩
 obtain⟨ns,e1,e2⟩:∃ns:List Nat,told.map (·.1)=ns.map kN/\∀n∈ns,n<N:=by
  revert QK
  generalize told.map (·.1)=fs
  intro QK;induction fs with
  | nil=>exact⟨[],rfl,λ_ z=>nomatch z⟩
  | cons f fs ih =>
   obtain⟨n,hn,rfl⟩:=QK f bE;obtain⟨ns,q1,q2⟩:=ih λg hg=>QK g (bx _ hg)
   exact⟨n::ns,by rw[bC,q1],λm hm=>(aZ.mp hm).elim (λz=>by rw[z];exact hn) (q2 m)⟩
 refine⟨told,ns,?_,e1,?_,e2,t4,t5,?_⟩
 ·rw[jI,bO];refine eW (rS (fF (sT (fk:=[kN 0]) (ρ:=[.val (.aA (ls.map nT))]) rfl (λx hx=>?_) (by rw[sG];simp) t1)))
  rw[dt]at hx;subst hx;show 1<1000
  lia
 ·rw[e1]at t2;unfold List.Nodup at t2 ⊢;rw[qD]at t2;exact t2.imp λh z=>h (by rw[z])
 ·have:=t6 (kN 0) (by simp)
  rw[e1]at this;obtain⟨n,hn,e⟩:=bt.mp this;rw[<-Ut e];exact hn
theorem G0{ls:List (List Nat)}{N:Nat}(H:Us ls N):∃(told:eU) (ns cs:List Nat),(∀(k:Nat) (p q:PV) (e:Ent),run bg (k+1) "nexts" [p,q]=some e->l0 e=some (.aA (ls.map nT))->run bg (k+2) "come_to" [p,q]=some (.val (.aA (cs.map iN))))/\cs.map (λn:Nat=>(n:Int))=gh (ns.map λn:Nat=>(n:Int))/\(∀n,n∈cs↔n∈ns)/\ns.Nodup/\(∀n∈ns,n<N)/\told.map (·.1)=ns.map kN/\QE (C9 ls) [kN 0] told/\CS (C9 ls) told told.length/\0∈ns:=by
 obtain⟨told,ns,a1,a2,a3,a4,a5,a6,a7⟩:=Dc 0 H;have Ct:(ns.map λn:Nat=>(n:Int)).Nodup:=by
  unfold List.Nodup at a3 ⊢;rw[qD];exact a3.imp λh z=>h (Int.ofNat.inj z)
 have hl:ns.length<=N:=by
  have:=jd ns (List.range N) a3 λn hn=>du.mpr (a4 n hn)
  rwa [fQ]at this
 have hf:=H.few;have pX:∀i,i∈gh (ns.map λn:Nat=>(n:Int))↔∃n∈ns,(n:Int)=i:=λi=>by
  rw[(gr _).mem_iff,bt]
 have hcs:((gh (ns.map λn:Nat=>(n:Int))).map Int.toNat).map (λn:Nat=>(n:Int))=gh (ns.map λn:Nat=>(n:Int)):=by
  rw[eP]
  conv=>rhs;rw[<-List.map_id (gh (ns.map λn:Nat=>(n:Int)))]
  refine List.map_congr_left λi hi=>?_
  obtain⟨n,_,rfl⟩:=(pX i).mp hi;rfl
 refine⟨told,ns,(gh (ns.map λn:Nat=>(n:Int))).map Int.toNat,?_,hcs,λn=>?_,a3,a4,a2,a5,a6,a7⟩
 ·intro k p q e hx he;have b1:run bg (k+1) "arrivals" [.aA (ls.map nT)]=some (.val (.aA (told.map toldP))):=by
   rw[<-a1,jI,jI];rfl
  rw[Aj,bO];have hv:aK (aX 1 (run bg (k+1) "arrivals")) (af (aK (aX 2 (run bg (k+1) "nexts")) (af (rd 0) (af (rd 1) ar))) ar) [.val p,.val q]=some (.aA (told.map toldP)):=gE (cA (gE (cA rfl (cA rfl rfl)) rfl hx he) rfl) rfl b1 rfl;have hm:kx (λp'=>(aD 1 p' (bM [none,none] [.val p,.val q])).bind (ak (rd 1) (kI 0) bL)) (told.map toldP)=some (ns.map iN):=by
   have e:told.map toldP=(told.map λt=>(t.1,t.2)).map toldP:=by rw[eP];rfl
   clear hv b1 a1 a5 a6 hx he
   revert a2
   clear a3 a4 a7 Ct hl pX hcs e;induction told generalizing ns with
   | nil =>
    intro a2;cases ns with
    | nil=>rfl
    | cons _ _=>cases a2
   | cons t r ih =>
    intro a2;cases ns with
    | nil=>cases a2
    | cons n ns =>
     rw[bC,bC]at a2;injection a2 with a2 a3
     rw[bC,kx,ih _ a3];obtain⟨f,c⟩:=t;subst a2;rfl
  refine eW (rS (bV (cA (fF (cV (sV hv rfl) ?_ hm)) rfl) ?_))
  ·have:=c9 List.length a2;rw[aH,aH]at this;rw[aH,this];lia
  ·have hn:gM (ns.map iN)=some (ns.map λn:Nat=>(n:Int)):=by
    have:=oG (ns.map λn:Nat=>(n:Int))
    rwa [eP]at this
   show(gM (ns.map iN)).bind _=_;rw[hn,aY,if_pos (by rw[aH];lia)]
   conv=>lhs;rw[<-hcs,eP]
   rfl
 ·constructor
  ·intro hn;obtain⟨i,hi,rfl⟩:=bt.mp hn;obtain⟨m,hm,rfl⟩:=(pX i).mp hi;exact hm
  ·intro hn;exact bt.mpr ⟨(n:Int),(pX _).mpr ⟨n,hn,rfl⟩,rfl⟩
theorem nG{c:fZ}(S:Ent):∀(ps:List Sh) (told:av) (x2:Ent),(∀s∈ps,c "_law_leaves" [enc s]=some (.val (.aA (c0 (lv s)))))->told.length+(iV ps).length<=90000->∃Hh,eZ (aD 2) (iE c) (c0 ps) [S,.val (.aA told),x2]=some (.nx [S,.val (.aA (told++c0 (iV ps))),Hh])
 | [],told,x2,_,_=>⟨x2,by simp[c0,iV]⟩
 | s::ps,told,x2,h,hz=>by
  simp only[iV,bY]at hz;have hb:iE c [S,.val (.aA told),.val (enc s)]=some (.nx [S,.val (.aA (told++c0 (lv s))),.val (enc s)]):=by
   unfold iE;exact aS (b2 rfl (gE (cA rfl rfl) rfl (h s bE) rfl) (aL (by rw[gF];lia))) rfl
  obtain⟨Hh,e⟩:=nG S ps (told++c0 (lv s)) (.val (enc s)) (λt ht=>h t (bx _ ht)) (by rw[bY,gF];lia)
  refine⟨Hh,?_⟩;have ex:told++c0 (iV (s::ps))=told++c0 (lv s)++c0 (iV ps):=by
   simp only[iV,ig,dO,iK]
  rw[ex];show eZ _ _ (enc s::c0 ps) _=_;exact fC rfl hb e
theorem jN(k:Nat){s:Sh}(h:mj s=true):run bg (k+1) "_law_leaves" [enc s]=some (.val (.aA [enc s])):=by
 rw[pF,bO];have h0:ak (rd 0) (kI 0) bL [.val (enc s),.un,.un]=some (.str (QG s)):=b2 rfl rfl (xY (.ow s));exact eW (sL (iT (bT (b2 h0 rfl ((Lu s).trans (by rw[h])))) (rS rfl)))
mutual
theorem vF:∀(s:Sh) (k:Nat),dp s<=k->(lv s).length<=90000->run bg (k+1) "_law_leaves" [enc s]=some (.val (.aA (c0 (lv s))))
 | .num,k,_,_=>by rw[jN k rfl];simp[lv,c0]
 | .own,k,_,_=>by rw[jN k rfl];simp[lv,c0]
 | .dN n,k,_,_=>by rw[jN k rfl];simp[lv,c0]
 | .bP ps,0,hd,_=>by simp[dp]at hd
 | .bP ps,k+1,hd,hz=>by
  simp only[dp]at hd;simp only[lv]at hz;rw[pF,bO];have h0:ak (rd 0) (kI 0) bL [.val (enc (.bP ps)),.un,.un]=some (.str (QG (.bP ps))):=b2 rfl rfl (xY (.ow (.bP ps)));obtain⟨Hh,e⟩:=nG (c:=run bg (k+1)) (.val (enc (.bP ps))) ps [] .un (kQ ps k (by lia) hz) (by simp;lia)
  rw[gW]at e;refine eW (sq (iF (bT (b2 h0 rfl (Lu (.bP ps)))) rfl) (sq (aS (fF rfl) rfl) (sq (fS (sV (b2 rfl rfl rfl) rfl) e) (rS ?_))));simp only[lv];rfl
theorem kQ:∀(ps:List Sh) (k:Nat),uq ps<=k->(iV ps).length<=90000->∀s∈ps,run bg (k+1) "_law_leaves" [enc s]=some (.val (.aA (c0 (lv s))))
 | [],_,_,_,s,hs=>by cases hs
 | p::r,k,hd,hz,s,hs=>by
  simp only[uq]at hd;simp only[iV,bY]at hz;rcases aZ.mp hs with e | e
  ·rw[e];exact vF p k (by lia) (by lia)
  ·exact kQ r k (by lia) (by lia) s e
end
def mxA:Nat->Int×Int
 | 0=>(48271,2147483647)
 | 1=>(69621,998244353)
 | 2=>(40692,1000000007)
 | _=>(16807,2147483629)
def yh(c:Int)(i:Nat):Int:=(c%1000000000039+(i:Int))*(mxA i).1%(mxA i).2
theorem Lz(c:Int)(i:Nat):0<=yh c i:=j8 _ (by
 unfold mxA;split<;>decide)
theorem yi(k:Nat)(c:Int){i:Nat}(hi:i<4):run bg (k+1) "_law_mixed" [.int c,.int (i:Int)]=some (.val (.int (yh c i))):=by
 rw[C1,bO];have h0:=j8 c (show(1000000000039:Int)≠0 by decide)
 have h1:=lN c (show(0:Int)<1000000000039 by decide)
 have hm:fP (.int c) (.int 1000000000039)=some (.int (c%1000000000039)):=jM (by decide)
 match i,hi with
 | 0,_=>exact eW (sq (aS (p:=.aI [.int 48271,.int 2147483647]) rfl rfl) (rS (b2 (b2 (b2 (b2 rfl rfl hm) rfl rfl) rfl (jF (by decide))) rfl (jM (by decide)))))
 | 1,_=>exact eW (sq (aS (p:=.aI [.int 69621,.int 998244353]) rfl rfl) (rS (b2 (b2 (b2 (b2 rfl rfl hm) rfl rfl) rfl (jF (by decide))) rfl (jM (by decide)))))
 | 2,_=>exact eW (sq (aS (p:=.aI [.int 40692,.int 1000000007]) rfl rfl) (rS (b2 (b2 (b2 (b2 rfl rfl hm) rfl rfl) rfl (jF (by decide))) rfl (jM (by decide)))))
 | 3,_=>exact eW (sq (aS (p:=.aI [.int 16807,.int 2147483629]) rfl rfl) (rS (b2 (b2 (b2 (b2 rfl rfl hm) rfl rfl) rfl (jF (by decide))) rfl (jM (by decide)))))
 | n+4,h=>lia
abbrev Ax:PV:=.str "abcdefghijklmnopqrstuvwxyz"
def Uu(B:List Int)(pl q i:Nat):Nat:=cp (B.getD i 0+(q:Int)*(if i=pl then 1 else 0))
def Dd(B:List Int)(pl q:Nat):Str:=fw ((List.range B.length).map (Uu B pl q))
section
variable (c:fZ) (x0 x1:Ent) (B:List Int) (pl q:Nat)
theorem Ay(F:av)(i:Nat)(hi:i<B.length)(N:List Nat)(hN:N.length<=100)(hq:q<=100):jJ c [x0,x1,.val Ax,.val (iN B.length),.val (iN pl),.val (iN i),.val (.aA (B.map .int)),.own F,.val (iN q),.val (.str (fw N))]=some (.nx [x0,x1,.val Ax,.val (iN B.length),.val (iN pl),.val (iN i),.val (.aA (B.map .int)),.own F,.val (iN q),.val (.str (fw (N++[Uu B pl q i])))]):=by
 unfold jJ;have hb:atI (B.map PV.int) (i:Int)=some (.int (B.getD i 0)):=eE (by rw[cf,AV,di hi];rfl)
 have he:B8 [.bl (decide ((i:Int)=(pl:Int)))]=some (.int (if i=pl then 1 else 0)):=by
  by_cases h:i=pl
  ·rw[eO (by lia),if_pos h];rfl
  ·rw[dY (by lia),if_neg h];rfl
 have hm:gT (.int (q:Int)) (.int (if i=pl then 1 else 0))=some (.int ((q:Int)*(if i=pl then 1 else 0))):=jF (by split<;>decide)
 have hs:cI (.str (fw N)) (.str (lt (B.getD i 0+(q:Int)*(if i=pl then 1 else 0))))=some (.str (fw (N++[Uu B pl q i]))):=by
  rw[Ll,Yy,CP,EG,EG,oH (lH (by simp;lia))]
  rfl
 refine aS (b2 (x:=.str (fw N)) rfl (b2 (x:=Ax) rfl (b2 (b2 (b2 (x:=.aA (B.map .int)) (y:=.int (i:Int)) rfl rfl hb) (b2 (x:=.int (q:Int)) rfl (bV (cA (b2 (x:=.int (i:Int)) (y:=.int (pl:Int)) rfl rfl jE) rfl) he) hm) nq) rfl (jM (by decide))) (GF _)) hs) rfl
theorem pG(F:av)(hq:q<=100):∀(AR pre:List Nat) (x5:Ent),List.range B.length=pre++AR->B.length<=50->∃Ar,eZ (aD 5) (jJ c) (AR.map fun(i:Nat)=>PV.int (0+(i:Int))) [x0,x1,.val Ax,.val (iN B.length),.val (iN pl),x5,.val (.aA (B.map .int)),.own F,.val (iN q),.val (.str (fw (pre.map (Uu B pl q))))]=some (.nx [x0,x1,.val Ax,.val (iN B.length),.val (iN pl),Ar,.val (.aA (B.map .int)),.own F,.val (iN q),.val (.str (Dd B pl q))])
 | [],pre,x5,e,_=>⟨x5,by unfold Dd;rw[e,dE];rfl⟩
 | i::AR,pre,x5,e,hl=>by
  have hi:i<B.length:=du.mp (by rw[e];simp)
  have hp:pre.length<=B.length:=by
   have:=c9 List.length e;rw[fQ,bY]at this
   lia
  have hb:=Ay c x0 x1 B pl q F i hi (pre.map (Uu B pl q)) (by rw[aH];lia) hq
  obtain⟨Ar,h⟩:=pG F hq AR (pre++[i]) (.val (iN i)) (by rw[e];simp) hl
  rw[dO]at h;refine⟨Ar,?_⟩;rw[bC,lT];exact fC rfl hb h
theorem G1(F:av)(hF:F.length<=100)(hq:q<=100)(hl:B.length<=50)(x5 x9:Ent):∃Ar,jK c [x0,x1,.val Ax,.val (iN B.length),.val (iN pl),x5,.val (.aA (B.map .int)),.own F,.val (iN q),x9]=some (.nx [x0,x1,.val Ax,.val (iN B.length),.val (iN pl),Ar,.val (.aA (B.map .int)),.own (F++[.str (Dd B pl q)]),.val (iN q),.val (.str (Dd B pl q))]):=by
 obtain⟨Ar,h⟩:=pG c x0 x1 B pl q F hq (List.range B.length) [] x5 rfl hl;refine⟨Ar,?_⟩;unfold jK;have e0:ck (kS "") (aD 9) [x0,x1,.val Ax,.val (iN B.length),.val (iN pl),x5,.val (.aA (B.map .int)),.own F,.val (iN q),x9]=some (.nx [x0,x1,.val Ax,.val (iN B.length),.val (iN pl),x5,.val (.aA (B.map .int)),.own F,.val (iN q),.val (.str (fw []))]):=by
  rw[<-EF];rfl
 have hr:jU (af (rd 3) ar) [x0,x1,.val Ax,.val (iN B.length),.val (iN pl),x5,.val (.aA (B.map .int)),.own F,.val (iN q),.val (.str (fw []))]=some ((List.range B.length).map fun(i:Nat)=>PV.int (0+(i:Int))):=by
  rw[jG (j:=(B.length:Int)) rfl (by lia),eM]
 exact sq e0 (sq (fS hr h) (mA (ps:=F) rfl rfl (by lia)))
end
theorem tM(c:fZ)(x0 x1:Ent)(B:List Int)(pl:Nat)(hl:B.length<=50):∀(qs:List Nat) (F:av) (x5 x8 x9:Ent),(∀q∈qs,q<=100)->F.length+qs.length<=100->∃Ar x8' x9',eZ (aD 8) (jK c) (qs.map fun(i:Nat)=>PV.int (0+(i:Int))) [x0,x1,.val Ax,.val (iN B.length),.val (iN pl),x5,.val (.aA (B.map .int)),.own F,x8,x9]=some (.nx [x0,x1,.val Ax,.val (iN B.length),.val (iN pl),Ar,.val (.aA (B.map .int)),.own (F++qs.map λq=>PV.str (Dd B pl q)),x8',x9'])
 | [],F,x5,x8,x9,_,_=>⟨x5,x8,x9,by simp⟩
 | q::qs,F,x5,x8,x9,hq,hz=>by
  rw[aW]at hz;obtain⟨y5,h⟩:=G1 c x0 x1 B pl q F (by lia) (hq q bE) hl x5 x9
  obtain⟨z5,z8,z9,h2⟩:=tM c x0 x1 B pl hl qs (F++[.str (Dd B pl q)]) y5 (.val (iN q)) (.val (.str (Dd B pl q))) (λr hr=>hq r (bx _ hr)) (by simp;lia)
  refine⟨z5,z8,z9,?_⟩;rw[bC,lT,bC,show F++PV.str (Dd B pl q)::qs.map (λq=>PV.str (Dd B pl q))=F++[PV.str (Dd B pl q)]++qs.map (λq=>PV.str (Dd B pl q)) by simp]
  exact fC rfl h h2
theorem O0{B:List Int}{pl q q':Nat}(hp:pl<B.length)(h1:q<26)(h2:q'<26)(h:Dd B pl q=Dd B pl q'):q=q':=by
 have h:=vx h;have at_:∀q:Nat,((List.range B.length).map (Uu B pl q))[pl]?=some (cp (B.getD pl 0+(q:Int))):=λq=>by
  rw[cf,nQ hp];simp[Uu]
 have e:=c9 (λl=>l[pl]?) h
 simp only[at_]at e;have:=Uh (bo e)
 lia
def vG(C:Int):Nat:=(1+C%8).toNat
def L8(C:Int):List Int:=(List.range (vG C)).map fun(i:Nat)=>(C/(64+9*(i:Int)*i)+5*(i:Int))%26
def Uv(C:Int):Nat:=(C/8%(vG C:Int)).toNat
theorem nH(C:Int):(L8 C).length=vG C:=by simp[L8]
theorem tN(C:Int):1<=vG C/\vG C<=8/\(vG C:Int)=1+C%8:=by unfold vG;lia
theorem LB(C:Int):Uv C<(L8 C).length/\(Uv C:Int)=C/8%(vG C:Int):=by
 have h:=tN C;have h0:=j8 (C/8) (show(vG C:Int)≠0 by lia)
 have h1:=lN (C/8) (show(0:Int)<(vG C:Int) by lia)
 rw[nH];unfold Uv
 lia
def vH(C:Int)(q:Nat):Str:=Dd (L8 C) (Uv C) q
theorem O1{C:Int}{q q':Nat}(h1:q<26)(h2:q'<26)(h:vH C q=vH C q'):q=q':=O0 (LB C).1 h1 h2 h
theorem Uw(C:Int)(q:Nat):(vH C q==(Str.ofString ""))=false:=by
 rw[EF,iH];intro h;have:=c9 List.length (vx h);rw[aH,fQ,nH]at this;have:=tN C;simp at *
 lia
theorem G2(C:Int)(x1 x2 x4 x5 x6 x7 x8 x9:Ent):cB (dI [none,none,some 0] (jU (af (rd 3) ar)) (aD 1) (ak (ak (ak (rd 2) (ak (kI 64) (ak (ak (kI 9) (rd 1) gT) (rd 1) gT) cI) hV) (ak (kI 5) (rd 1) gT) cI) (kI 26) fP)) [.val (.int C),x1,x2,.val (iN (vG C)),x4,x5,x6,x7,x8,x9]=some (.aA ((L8 C).map .int)):=by
 have hl:=tN C;have hr:jU (af (rd 3) ar) [.val (.int C),x1,x2,.val (iN (vG C)),x4,x5,x6,x7,x8,x9]=some ((List.range (vG C)).map fun(i:Nat)=>PV.int (0+(i:Int))):=by
  rw[jG (j:=(vG C:Int)) rfl (by lia),eM]
 have hm:kx (λp=>(aD 1 p [Ent.un,.un,.val (.int C)]).bind (ak (ak (ak (rd 2) (ak (kI 64) (ak (ak (kI 9) (rd 1) gT) (rd 1) gT) cI) hV) (ak (kI 5) (rd 1) gT) cI) (kI 26) fP)) ((List.range (vG C)).map fun(i:Nat)=>PV.int (0+(i:Int)))=some ((L8 C).map .int):=by
  unfold L8;rw[eP];refine ez λi hi=>?_
  have hi:=du.mp hi;have hi7:i<=7:=by lia
  rw[lT];have h9:gT (.int 9) (.int (i:Int))=some (.int (9*(i:Int))):=jF (by lia)
  have hmm:gT (.int (9*(i:Int))) (.int (i:Int))=some (.int (9*(i:Int)*i)):=jF (by lia)
  have h5:gT (.int 5) (.int (i:Int))=some (.int (5*(i:Int))):=jF (by lia)
  have Zq:0<=9*(i:Int)*i/\9*(i:Int)*i<=441:=by
   have:i=0\/i=1\/i=2\/i=3\/i=4\/i=5\/i=6\/i=7:=by lia
   rcases this with rfl | rfl | rfl | rfl | rfl | rfl | rfl | rfl<;>simp
  show(aD 1 (.int (i:Int)) [Ent.un,.un,.val (.int C)]).bind _=_;have t:aD 1 (.int (i:Int)) [Ent.un,.un,.val (.int C)]=some [.un,.val (.int (i:Int)),.val (.int C)]:=rfl;rw[t,aY];exact b2 (b2 (b2 rfl (b2 rfl (b2 (b2 rfl rfl h9) rfl hmm) rfl) (Uq (by lia))) (b2 rfl rfl h5) rfl) rfl (jM (by lia))
 exact fF (cV hr (by simp;lia) hm)
theorem O2(k:Nat)(C:Int):run bg (k+1) "_law_names" [.int C,.int 12]=some (.own ((List.range 12).map λq=>.str (vH C q))):=by
 have hl:=tN C;have hp:=LB C;rw[C2,bO];obtain⟨x5,x8,x9,h⟩:=tM (run bg k) (.val (.int C)) (.val (.int 12)) (L8 C) (Uv C) (by rw[nH];lia) (List.range 12) [] .un .un .un (λq hq=>by have:=du.mp hq;lia) (by simp)
 rw[nH,gW]at h;have a1:ck (ak (kI 1) (ak (rd 0) (kI 8) fP) cI) (aD 3) [.val (.int C),.val (.int 12),.val Ax,.un,.un,.un,.un,.un,.un,.un]=some (.nx [.val (.int C),.val (.int 12),.val Ax,.val (iN (vG C)),.un,.un,.un,.un,.un,.un]):=by
  unfold iN;rw[hl.2.2];exact aS (b2 rfl (b2 rfl rfl (jM (by decide))) rfl) rfl
 have a2:ck (ak (ak (rd 0) (kI 8) hV) (rd 3) fP) (aD 4) [.val (.int C),.val (.int 12),.val Ax,.val (iN (vG C)),.un,.un,.un,.un,.un,.un]=some (.nx [.val (.int C),.val (.int 12),.val Ax,.val (iN (vG C)),.val (iN (Uv C)),.un,.un,.un,.un,.un]):=by
  unfold iN;rw[hp.2];exact aS (b2 (b2 rfl rfl (Uq (by decide))) rfl (jM (by lia))) rfl
 have hr:jU (af (rd 1) ar) [.val (.int C),.val (.int 12),.val Ax,.val (iN (vG C)),.val (iN (Uv C)),.un,.val (.aA ((L8 C).map .int)),.own [],.un,.un]=some ((List.range 12).map fun(i:Nat)=>PV.int (0+(i:Int))):=jG (j:=12) rfl (by decide)
 exact GC (sq (aS rfl rfl) (sq a1 (sq a2 (sq (aS (G2 C _ _ _ _ _ _ _ _) rfl) (sq (sO rfl (by simp)) (sq (fS hr h) (CL rfl)))))))
def G3(c:Int):Sh:=match(c%7).toNat with
 | 0=>.bP [.num,.num]
 | 1=>.own
 | 2=>.dN (1+c/7%8)
 | 3=>.num
 | 4=>.bP [.num,.own]
 | 5=>.bP [.dN (1+c/7%8),.own]
 | _=>.bP [.bP [.num,.num],.dN (1+c/7%8)]
def tQ(s:Sh):Prop:=QJ s/\(lv s).length<=3
theorem O3(c:Int):tQ (G3 c):=by
 have h8:0<1+c/7%8/\1+c/7%8<=8:=by lia
 have:c%7=0\/c%7=1\/c%7=2\/c%7=3\/c%7=4\/c%7=5\/c%7=6:=by lia
 unfold G3;rcases this with h | h | h | h | h | h | h<;>rw[h]<;>simp[tQ,QJ,Aq,tab,tabs,dp,uq,pos,Lx,lv,iV,h8]
theorem LC{s:Sh}(h:tQ s){r:Rw}(hr:r∈tab s):tQ r.2.2.2:=by
 obtain⟨⟨h1,h2⟩,h3⟩:=h;exact⟨⟨Ur h1 hr,As s h2 r hr⟩,b0 (yb s r hr).2 h3⟩
theorem O4(k:Nat)(c:Int):run bg (k+1) "_law_shape" [.int c]=some (.val (enc (G3 c))):=by
 rw[C3,bO];obtain⟨n,hn⟩:∃n,n=1+c/7%8:=⟨_,rfl⟩
 have a1:ck (cj (af (kS "strip") (af (ak (kI 1) (ak (ak (rd 0) (kI 7) hV) (kI 8) fP) cI) ar))) (aD 1) [.val (.int c),.un,.un,.un]=some (.nx [.val (.int c),.val (sP n),.un,.un]):=by
  rw[hn];exact aS (tU (cA rfl (cA (b2 rfl (b2 (b2 rfl rfl (Uq (by decide))) rfl (jM (by decide))) rfl) rfl)) (by simp)) rfl
 have hi:bL (.aA ([tP,oP,sP n,nP,.aI [.str "rec",.aI [nP,oP]],.aI [.str "rec",.aI [sP n,oP]]]++[.aI [.str "rec",.aI [tP,sP n]]])) (.int (c%7))=some (enc (G3 c)):=by
  have:c%7=0\/c%7=1\/c%7=2\/c%7=3\/c%7=4\/c%7=5\/c%7=6:=by lia
  unfold G3;rcases this with h | h | h | h | h | h | h<;>rw[h,hn]<;>rfl
 exact eW (sq a1 (sq (aS (p:=tP) rfl rfl) (sq (aS (p:=.aA [tP,oP,sP n,nP,.aI [.str "rec",.aI [nP,oP]],.aI [.str "rec",.aI [sP n,oP]]]) rfl rfl) (rS (b2 (b2 (x:=.aA [tP,oP,sP n,nP,.aI [.str "rec",.aI [nP,oP]],.aI [.str "rec",.aI [sP n,oP]]]) (y:=.aA [.aI [.str "rec",.aI [tP,sP n]]]) rfl rfl (aL (by simp))) (b2 rfl rfl (jM (by decide))) hi)))))
def jg(r:Rw):PV:=.aI [.aI (r.1.map .int),enc r.2.2.2]
theorem tV(c:fZ)(S:Ent):∀(AR:List Sh) (i:Nat) (acc:List Rw) (a:Int) (o2 o3:Ent),(∀s∈AR,c "_law_parts" [enc s]=some (.val (.aA ((tab s).map jg))))->acc.length+iW AR<=1000 ->
  ∃o2' YB,eZ (fD 2 (bB (aD 2) (bB (aD 3) eH))) (jL c) (fg i (c0 AR)) [S,.val (.aA (acc.map jg)),o2,o3]=some (.nx [S,.val (.aA ((acc++tabs i a AR).map jg)),o2',YB])
 | [],i,acc,a,o2,o3,_,_=>⟨o2,o3,by simp[c0,fg,tabs]⟩
 | s::AR,i,acc,a,o2,o3,h,hz=>by
  have h1:=h s bE;simp only[iW]at hz;obtain⟨o2',YB,e⟩:=tV c S AR (i+1) (acc++(tab s).map (nt i a)) (a+sz s) (.val (.int (i:Int))) (.val (enc s)) (λs hs=>h s (bx _ hs)) (by rw[bY,aH];lia)
  refine⟨o2',YB,?_⟩;rw[Lw,<-iK];have hp:∀r∈tab s,r.1.length<=1000:=λr hr=>by have:=EE s r hr;have:=QD s;lia
  have hm:kx (λp=>(fD 2 (bB (aD 1) (bB (aD 2) eH)) p (bM [none,none,none,some 2] [S,.val (.aA (acc.map jg)),.val (.int (i:Int)),.val (enc s)])).bind (cj (af (ak (cj (af (rd 3) ar)) (rd 1) cI) (af (rd 2) ar)))) ((tab s).map jg)=some (((tab s).map (nt i a)).map jg):=by
   rw[eP];refine ez λr hr=>?_
   have hl:=hp r hr;have t:fD 2 (bB (aD 1) (bB (aD 2) eH)) (jg r) (bM [none,none,none,some 2] [S,.val (.aA (acc.map jg)),.val (.int (i:Int)),.val (enc s)])=some [.un,.val (.aI (r.1.map .int)),.val (enc r.2.2.2),.val (.int (i:Int))]:=rfl;rw[t,aY];exact tU (cA (b2 (tU (cA rfl rfl) (by simp)) rfl (aT (by simp only[aW,j9,aH];lia))) (cA rfl rfl)) (by simp)
  have body:jL c [S,.val (.aA (acc.map jg)),.val (.int (i:Int)),.val (enc s)]=some (.nx [S,.val (.aA ((acc++(tab s).map (nt i a)).map jg)),.val (.int (i:Int)),.val (enc s)]):=by
   unfold jL;rw[dO];exact aS (b2 rfl (fF (cV (sV (gE (cA rfl rfl) rfl h1 rfl) rfl) (by simp only[aH];lia) hm)) (aL (by simp only[aH];lia))) rfl
  exact fC (d6:=[S,.val (.aA (acc.map jg)),.val (.int (i:Int)),.val (enc s)]) rfl body e
theorem pI(s:Sh)(x1 x2 x3:Ent):ck (cB (dy (af (cj (af (cj ar) (af (rd 0) ar))) ar))) (aD 1) [.val (enc s),x1,x2,x3]=some (.nx [.val (enc s),.val (.aA [jg ([],0,sz s,s)]),x2,x3]):=aS (fF (lS (cA (tU (cA rfl (cA rfl rfl)) (by simp)) rfl) (by simp))) rfl
theorem mn(k:Nat){s:Sh}(h:mj s=true):run bg (k+1) "_law_parts" [enc s]=some (.val (.aA ((tab s).map jg))):=by
 rw[tq,bO];have he:=Lv s;rw[h]at he;rw[K4 h];exact eW (sq (pI s .un .un .un) (sq (iF (bT (b2 (b2 rfl rfl (QH s)) rfl he)) rfl) (rS rfl)))
theorem G4(k:Nat){ps:List Sh} (h:∀s∈ps,run bg k "_law_parts" [enc s]=some (.val (.aA ((tab s).map jg)))) (hl:iW ps<=900):run bg (k+1) "_law_parts" [enc (.bP ps)]=some (.val (.aA ((tab (.bP ps)).map jg))):=by
 rw[tq,bO];have he:=Lv (.bP ps);obtain⟨o2,o3,e⟩:=tV (run bg k) (.val (enc (.bP ps))) ps 0 [([],0,sz (.bP ps),.bP ps)] 0 .un .un h (by simp;lia)
 have ht:tab (.bP ps)=[([],0,sz (.bP ps),.bP ps)]++tabs 0 0 ps:=by simp[tab,sz,lv]
 rw[ht];refine eW (sq (pI (.bP ps) .un .un .un) (sq (iT (bT (b2 (b2 rfl rfl (QH (.bP ps))) rfl he)) (fS ?_ e)) (rS rfl)));show((ak (rd 0) (kI 1) bL) _).bind _=_;rw[b2 rfl rfl (show bL (enc (.bP ps)) (.int 1)=some (.aI (c0 ps)) by simp[enc])]
 rfl
mutual
theorem ET:∀(s:Sh) (k:Nat),dp s<=k->(tab s).length<=900->run bg (k+1) "_law_parts" [enc s]=some (.val (.aA ((tab s).map jg)))
 | .num,k,_,_=>mn k rfl
 | .own,k,_,_=>mn k rfl
 | .dN n,k,_,_=>mn k rfl
 | .bP ps,0,hd,_=>by simp[dp]at hd
 | .bP ps,k+1,hd,hz=>by
  have hl:(tab (.bP ps)).length=iW ps+1:=by simp only[tab,aW,ij]
  have t7:uq ps<=k:=by simp only[dp]at hd;lia
  exact G4 (k+1) (λs hs=>Az ps k t7 (by lia) s hs) (by lia)
theorem Az:∀(ps:List Sh) (k:Nat),uq ps<=k->iW ps<=900->∀s∈ps,run bg (k+1) "_law_parts" [enc s]=some (.val (.aA ((tab s).map jg)))
 | [],_,_,_,s,hs=>by cases hs
 | p::r,k,hd,hz,s,hs=>by
  simp only[uq]at hd;simp only[iW]at hz;rcases aZ.mp hs with e | e
  ·rw[e];exact ET p k (by lia) (by lia)
  ·exact Az r k (by lia) (by lia) s e
end
def sg:Nat->Nat->List (Nat×jY)
 | _,0=>[]
 | i,n+1=>(i,lJ)::sg (i+1) n
theorem nI:∀(n i:Nat),ir i (List.replicate n [])=sg i n
 | 0,_=>rfl
 | n+1,i=>by
  rw[List.replicate_succ,ir,nI n];rfl
theorem yj:∀(n i:Nat),(sg i n).length=n
 | 0,_=>rfl
 | n+1,i=>by rw[sg,aW,yj n]
theorem LD:∀(n i j:Nat),j<n->(sg i n)[j]?=some (i+j,lJ)
 | 0,_,_,h=>absurd h (nW _)
 | n+1,i,0,_=>rfl
 | n+1,i,j+1,h=>by
  show(sg (i+1) n)[j]?=_;rw[LD n (i+1) j (by lia),show i+1+j=i+(j+1) by lia]
def sk(n:Nat):List (b8×PV):=(List.range n).map λj:Nat=>(Sum.inl (j:Int),.int (j:Int))
theorem EU(n:Nat):sk (n+1)=sk n++[(Sum.inl (n:Int),.int (n:Int))]:=by
 unfold sk;rw[List.range_succ,dO];rfl
theorem yk(m:Nat):∀n:Nat,dh (sk n) (.inl (m:Int))=if m<n then some (.int (m:Int))else none
 | 0=>rfl
 | n+1=>by
  have ih:=yk m n;unfold dh at ih ⊢;rw[EU,List.find?_append,List.find?_singleton];by_cases h:m<n
  ·rw[if_pos h]at ih;rw[show(if m<n+1 then some (PV.int (m:Int))else none)=some (PV.int (m:Int))from if_pos (by lia)]
   cases z:(sk n).find? (λkv=>decide (kv.1=Sum.inl (m:Int)))with
   | none=>rw[z]at ih;cases ih
   | some q=>rw[z]at ih;exact ih
  ·rw[if_neg h]at ih;cases z:(sk n).find? (λkv=>decide (kv.1=Sum.inl (m:Int)))with
   | some q=>rw[z]at ih;cases ih
   | none =>
    by_cases e:n=m
    ·subst e;rw[show(if n<n+1 then some (PV.int (n:Int))else none)=some (PV.int (n:Int))from if_pos (by lia)]
     simp
    ·have hne:¬(Sum.inl (n:Int):b8)=Sum.inl (m:Int):=λw=>by
      injection w with w
      lia
     rw[show(if m<n+1 then some (PV.int (m:Int))else none)=none from if_neg (by lia)]
     simp[hne]
theorem LF:∀(n i:Nat),yg (sg i n) i (sk i)=sk (i+n)
 | 0,i=>rfl
 | n+1,i=>by
  rw[sg,yg,yk i i,if_neg (gY _)];show yg (sg (i+1) n) (i+1) (sk i++[(.inl (i:Int),.int (i:Int))])=_;rw[<-EU,LF n (i+1),show i+1+n=i+(n+1) by lia]
def nL(N i:Nat):List Nat:=if i+1<N then [i+1]else []
theorem De{N i:Nat}:(nL N i).length<=2/\∀m∈nL N i,m<N:=by
 unfold nL;split
 ·exact⟨by simp,λm hm=>by rw[dt]at hm;lia⟩
 ·exact⟨by simp,λ_ z=>nomatch z⟩
theorem LG(N:Nat):∀(n i:Nat),i+n=N->Hg (sg 0 N) (sk N) (nL N) i (sg i n)=(List.range' i n).map (nL N)
 | 0,i,_=>rfl
 | n+1,i,h=>by
  rw[sg,Hg,LG N n (i+1) (by lia),List.range'_succ,bC]
  congr 1
  unfold oQ;rw[if_neg (λz=>by
   by_cases w:i+1<N
   ·rw[LD N 0 (i+1) w]at z;have z:=bo z;simp only at z
    lia
   ·rw[jm (by rw[yj];lia)]at z
    cases z)]
  show(nL N i).map (lK (sk N))=nL N i;unfold nL;split
  ·rename_i w;show [lK (sk N) (i+1)]=[i+1];unfold lK;rw[yk,if_pos w];rfl
  ·rfl
theorem LH(N:Nat):nF (List.replicate N []) (nL N)=(List.range N).map (nL N):=by
 unfold nF;rw[nI,show yg (sg 0 N) 0 []=sk N from(LF N 0).trans (by rw[gn]),LG N N 0 (gn _),List.range_eq_range']
abbrev Df(i:Int):PV:=.aI [.str "say",.int i]
abbrev YC:PV:=.aI [.str "give",.str ""]
abbrev dU(is:List Int):av:=is.map Df++[YC]
theorem O5(k:Nat)(is:List Int):tK (run bg (k+1)) (.aI (dU is)) (is.length+1) (nL (is.length+1)):=λi hi=>by
 refine⟨?_,De⟩;have len:(dU is).length=is.length+1:=by simp
 obtain⟨p,hp⟩:∃p,(dU is)[i]?=some p:=⟨_,di (by lia)⟩
 have ha:atI (dU is) (i:Int)=some p:=eE hp;rw[uu,bO];have a1:ck (ak (rd 0) (rd 1) bL) (aD 2) [.val (.aI (dU is)),.val (.int (i:Int)),.un]=some (.nx [.val (.aI (dU is)),.val (.int (i:Int)),.val p]):=aS (b2 (x:=.aI (dU is)) (y:=.int (i:Int)) rfl rfl ha) rfl;have k1:ak (rd 1) (kI 1) cI [.val (.aI (dU is)),.val (.int (i:Int)),.val p]=some (iN (i+1)):=b2 rfl rfl nq;have w:∀s v:Str,bL p (.int 0)=some (.str s)->toB (ak (ak (rd 2) (kI 0) bL) (kS v) mq) [.val (.aI (dU is)),.val (.int (i:Int)),.val p]=some (s==v):=λs v h0=>bT (b2 (b2 (x:=p) (y:=.int 0) rfl rfl h0) rfl xM)
 unfold nL;by_cases h:i<is.length
 ·rw[gi (by rw[aH];exact h),cf,di h]at hp
  cases hp;have ww:=λv=>w "say" v rfl
  rw[if_pos (by lia)]
  exact eW (sq a1 (sq (iF ((ww "give").trans (by kernel_rfl)) rfl) (sq (iF ((ww "go").trans (by kernel_rfl)) rfl) (sq (iF ((ww "if").trans (by kernel_rfl)) rfl) (rS (tU (ps:=[iN (i+1)]) (cA k1 rfl) (by simp)))))))
 ·have e:i=is.length:=by lia
  rw[jk (by rw[aH];lia),aH,e,Nat.sub_self]at hp
  cases hp;rw[if_neg (by lia)]
  exact eW (sq a1 (sL (iT ((w "give" "give" rfl).trans (by kernel_rfl)) (rS rfl))))
theorem LI(K:Nat)(h:12<=K)(F:PV)(i:Int):Ls (run bg K) F (Df i) []:=by
 obtain⟨k,rfl,h3⟩:∃k,K=k+7/\3<=k:=⟨K-7,by lia,by lia⟩
 exact⟨⟨"say","say_acts",[.int i],rfl,by kernel_rfl,by kernel_rfl,_,C5 (ks:=[]) (F:=F) (λ_ _ z=>nomatch z) k h3 "say" (a:=.n i) trivial,rfl⟩,by simp⟩
theorem G5(K:Nat)(h:12<=K)(F:PV):Ls (run bg K) F YC []:=by
 obtain⟨k,rfl⟩:∃k,K=k+7:=⟨K-7,by lia⟩
 exact⟨⟨"give","give_acts",[.str ""],rfl,by kernel_rfl,by kernel_rfl,_,ye k "give",rfl⟩,by simp⟩
theorem LJ{fa fb:FE}{ρ:aC}{b:Bool}{c:Bool}(h1:fa ρ=some (.bl b))(h2:b=true->fb ρ=some (.bl c)):uf fa fb ρ=some (.bl (b&&c)):=by
 rw[Ov,h1];cases b with
 | true=>exact h2 rfl
 | false=>rfl
theorem YD{ga gb:eR}{ρ:aC}(h1:ga ρ=some true):zb ga gb ρ=some true:=by
 rw[KI,h1];rfl
theorem AA{ga gb:eR}{ρ:aC}{b:Bool}(h1:ga ρ=some false)(h2:gb ρ=some b):zb ga gb ρ=some b:=by
 rw[KI,h1,aY,if_neg (by simp),h2]
theorem YE{ga gb:eR}{ρ:aC}{b:Bool}(h1:ga ρ=some true)(h2:gb ρ=some b):wK ga gb ρ=some b:=by
 rw[Ot,h1,aY,if_pos rfl,h2]
abbrev Pt:=Str×Nat×Nat
def kH(n:Nat)(p:Pt):List b8:=[.inl (n:Int),.inr p.1,.inl (p.2.1:Int),.inl (-1-(p.2.2:Int)),.inl (p.2.1:Int)]
def pS(p:Pt):av:=[.str p.1,.int (p.2.1:Int),.int (-1-(p.2.2:Int)),.int (p.2.1:Int)]
def pH(n:Nat)(p:Pt):PV:=.aI (iN n::pS p)
section
variable {F:PV} {N:Nat} {S:PV}
def EV(F:PV)(N:Nat)(S:PV):Ob:=.IL [("function",.pv F),("listed",.pv (.aA ((sg 0 N).map eN))),("follow",.pv (.aA (((List.range N).map (nL N)).map nT))),("sources",.pv S)]
theorem AB:JD "listed" (EV F N S)=some (.aA ((sg 0 N).map eN)):=by kernel_rfl
theorem LK:JD "follow" (EV F N S)=some (.aA (((List.range N).map (nL N)).map nT)):=by kernel_rfl
theorem Ux{n:Nat}(h:n<N):bL (.aA ((sg 0 N).map eN)) (.int (n:Int))=some (iY n lJ):=eE (by rw[cf,LD N 0 n h,gn];rfl)
theorem ada{n:Nat}(h:n<N):bL (.aA (((List.range N).map (nL N)).map nT)) (.int (n:Int))=some (nT (nL N n)):=eE (by rw[cf,cf,nQ h];rfl)
theorem G6(k:Nat){l:Int}(hl:l<0)(v:PV):jD bg (k+1) "is_through" (EV F N S) [.int l,v]=some (.val (.bl false)):=by
 rw[tm _ _ _ rfl,qu];refine eW (rS ?_);exact LJ (b:=false) (c:=false) (b2 (x:=.int l) (y:=.int 0) rfl rfl (by rw[ON,dY (by lia)])) λz=>nomatch z
theorem G7(k n:Nat):run bg (k+1) "is_lending" [iY n lJ]=some (.val (.bl false)):=by
 rw[sX,bO];exact eW (rS (b2 (x:=.str "rest") (y:=.aI [.str "lend",.str "sole"]) rfl rfl (by kernel_rfl)))
theorem O6(k:Nat){n:Nat}(h:n<N):jD bg (k+2) "newly_lent" (EV F N S) [.int (n:Int)]=some (.val (.aA [])):=by
 rw[tf _ _ _ rfl,qu];obtain⟨o,ho⟩:∃o,o=EV F N S:=⟨_,rfl⟩
 have e:=AB (F:=F) (N:=N) (S:=S);rw[<-ho]at e ⊢;refine eW (sq (eS:=[.ob o,.val (.int (n:Int)),.val (iY n lJ),.un,.un]) (aS (b2 (fV rfl e) rfl (Ux h)) rfl) (sL (iT (YD (nB (b:=false) (bT (gE (cA rfl rfl) rfl (G7 k n) rfl)))) (rS (fF (lS rfl (by simp)))))))
theorem LL(k n:Nat)(v:PV):jD bg (k+1) "passed_on" (EV F N S) [iY n lJ,v]=some (.val (.aA [])):=by
 rw[ux _ _ _ rfl,qu];exact eW (sL (iT (YD (bT (b2 (x:=.str "") (y:=.str "") rfl rfl (by kernel_rfl)))) (rS (fF (lS rfl (by simp))))))
theorem G8(k:Nat)(x:Str):run bg (k+1) "is_of_call" [.str x]=some (.val (.bl (Txt.isdigit x))):=by
 rw[sY,bO];exact eW (rS rfl)
theorem LM(k:Nat){n:Nat}(hn:n<N)(p:Pt)(hx:(p.1==(Str.ofString ""))=false)(hd:Txt.isdigit p.1=false):jD bg (k+2) "held_behind" (EV F N S) [pH n p]=some (.own ((nL N n).map λm=>pH m p)):=by
 rw[qb _ _ _ rfl,qu];obtain⟨o,ho⟩:∃o,o=EV F N S:=⟨_,rfl⟩
 have e:=AB (F:=F) (N:=N) (S:=S);have e':=LK (F:=F) (N:=N) (S:=S);have th:=G6 (F:=F) (N:=N) (S:=S) k (l:=-1-(p.2.2:Int)) (by lia) (.str "")
 have ps:=LL (F:=F) (N:=N) (S:=S) k n (pH n p);rw[<-ho]at e e' th ps ⊢;obtain⟨A,hA⟩:∃A,A=iY n lJ:=⟨_,rfl⟩
 have a6:bL A (.int 6)=some (.str ""):=by rw[hA];rfl
 have a0:bL A (.int 0)=some (.int (n:Int)):=by rw[hA];rfl
 have la:=Ux hn;rw[<-hA]at la ps;refine GC (sq (eS:=[.ob o,.val (pH n p),.val A,.un,.un,.un,.un]) (aS (b2 (fV rfl e) (b2 (x:=pH n p) (y:=.int 0) rfl rfl rfl) la) rfl) ?_);refine sq (eS:=[.ob o,.val (pH n p),.val A,.own [],.un,.un,.un]) (sO rfl (by simp)) ?_
 refine sq (eS:=[.ob o,.val (pH n p),.val A,.own [.aI (pS p)],.un,.un,.un]) (iT ?_ (mA (ps:=[]) rfl rfl (by simp))) ?_
 ·refine YE (bT (b2 (x:=.str p.1) (y:=.str "") (b2 (x:=pH n p) (y:=.int 1) rfl rfl rfl) (b2 (x:=A) rfl rfl a6) (by rw[xN];exact c9 (λb=>some (PV.bl (!b))) hx))) (nB (b:=false) (bT (clO rfl (cA (b2 (x:=pH n p) (y:=.int 3) rfl rfl rfl) (cA (b2 (x:=A) rfl rfl a6) rfl)) rfl th rfl)))
 refine sq (eS:=[.ob o,.val (pH n p),.val A,.own [.aI (pS p)],.un,.un,.un]) (mX (ps:=[.aI (pS p)]) (qs:=[]) rfl (clO rfl (cA rfl (cA rfl rfl)) rfl ps rfl) (by simp)) ?_
 refine sq (eS:=[.ob o,.val (pH n p),.val A,.own [.aI (pS p)],.own [],.un,.un]) (sO rfl (by simp)) ?_
 have hs:dz (ak (r9 (uk 0) "follow") (ak (rd 1) (kI 0) bL) bL) [.ob o,.val (pH n p),.val A,.own [.aI (pS p)],.own [],.un,.un]=some ((nL N n).map iN):=sV (p:=nT (nL N n)) (b2 (fV rfl e') (b2 (x:=pH n p) (y:=.int 0) rfl rfl rfl) (ada hn)) rfl;unfold nL at hs ⊢;by_cases h:n+1<N
 ·rw[if_pos h]at hs ⊢;have hc:eZ (aD 5) (jR (run bg (k+1)) (jD bg (k+1)) (vp bg (eV bg (k+1)))) [iN (n+1)] [.ob o,.val (pH n p),.val A,.own [.aI (pS p)],.own [],.un,.un]=some (.nx [.ob o,.val (pH n p),.val A,.val (.aA [.aI (pS p)]),.own [pH (n+1) p],.val (iN (n+1)),.val (.bl false)]):=by
   refine fC (d6:=[.ob o,.val (pH n p),.val A,.own [.aI (pS p)],.own [],.val (iN (n+1)),.un]) rfl ?_ rfl;refine sq (eS:=[.ob o,.val (pH n p),.val A,.own [.aI (pS p)],.own [],.val (iN (n+1)),.val (.bl false)]) (aS (b2 (x:=.int ((n+1:Nat):Int)) (y:=.int (n:Int)) (b2 (x:=iY (n+1) lJ) (y:=.int 0) (b2 (fV rfl e) rfl (Ux h)) rfl rfl) (b2 (x:=A) rfl rfl a0) (by rw[jE,dY (by lia)])) rfl) ?_
   show gK _ _ _ [.ob o,.val (pH n p),.val A,.val (.aA [.aI (pS p)]),.own [],.val (iN (n+1)),.val (.bl false)]=_;refine mX (ps:=[]) (qs:=[pH (n+1) p]) rfl (fF (cT (ps:=[.aI (pS p)]) rfl (by simp) ?_)) (by simp)
   refine vE (e:=λq:PV=>q) (l:=[.aI (pS p)]) (f:=λ_=>true) (G:=λ_=>pH (n+1) p) λq hq=>?_
   rw[dt]at hq;subst hq;have t:aD 1 (.aI (pS p)) (bM [none,none,some 5,some 6] [.ob o,.val (pH n p),.val A,.val (.aA [.aI (pS p)]),.own [],.val (iN (n+1)),.val (.bl false)])=some [.un,.val (.aI (pS p)),.val (iN (n+1)),.val (.bl false)]:=rfl;rw[t,aY];have g:zb (toB (rd 3)) (g9 (toB (aK (aX 1 (run bg (k+1) "is_of_call")) (af (ak (rd 1) (kI 0) bL) ar)))) [.un,.val (.aI (pS p)),.val (iN (n+1)),.val (.bl false)]=some true:=AA (bT rfl) (nB (b:=false) (bT (gE (cA (b2 (x:=.aI (pS p)) (y:=.int 0) rfl rfl rfl) rfl) rfl ((G8 k p.1).trans (by rw[hd])) rfl)))
   rw[g];rfl
  exact sq (fS hs hc) (CL rfl)
 ·rw[if_neg h]at hs ⊢;exact sq (fS hs rfl) (CL rfl)
end
theorem AD(k:Nat)(P:PV){r:PV}{s:Str}(h0:bL r (.int 0)=some (.str s))(h:(s==(Str.ofString "call"))=false):run bg (k+1) "source_holders" [P,r]=some (.val (.aA [])):=by
 rw[ml,bO];exact eW (sL (iT (bT (b2 (x:=.str s) (y:=.str "call") (b2 (x:=r) rfl rfl h0) rfl (by rw[xN];exact c9 (λb=>some (PV.bl (!b))) h))) (rS (fF (lS rfl (by simp))))))
theorem fdC{f:Str}{g:aC->Option Fd}{r:NR}{fs out:List (Str×Fd)}{ρ:aC}{d:Fd}(h:g (.ob (.IL fs)::ρ)=some d)(hn:f∉fs.map (·.1))(hr:sd r (fs++[(f,d)]) ρ=some out):sd ((f,g)::r) fs ρ=some out:=by
 show(g _).bind _=_;rw[h,aY,if_neg hn];exact hr
theorem pvS{fe:FE}{ρ:aC}{p:PV}(h:fe ρ=some p):NS fe ρ=some (.pv p):=by
 unfold NS;rw[h];rfl
theorem adb(K:Nat){fs rows L W:av}{F:PV}(rQ:atI fs 1=some F)(h4:bL F (.int 4)=some (.aI rows))(h1:run bg K "acts" [.aI fs,.int 1]=some (.own L))(h2:run bg K "nexts" [.aI fs,.int 1]=some (.own W))(h3:∀r∈rows,run bg K "source_holders" [.aI fs,r]=some (.val (.aA [])))(hl:rows.length<=1000) :
  vp bg (eV bg K) "Course" [.aI fs,.int 1]=some ([("function",.pv F),("listed",.pv (.aA L)),("follow",.pv (.aA W)),("sources",.pv (.aA (rows.map λ_=>.aA [])))]:List (Str×Fd)):=by
 rw[GI _ _ rfl];show sd (nu (run bg K)) [] [.val (.aI fs),.val (.int 1)]=_;unfold nu;refine fdC (pvS (b2 (x:=.aI fs) (y:=.int 1) rfl rfl rQ)) (by simp) ?_
 refine fdC (pvS (gE (cA rfl (cA rfl rfl)) rfl h1 rfl)) (show(Str.ofString "listed")∉[Str.ofString "function"] by decide +kernel) ?_
 refine fdC (pvS (gE (cA rfl (cA rfl rfl)) rfl h2 rfl)) (show(Str.ofString "follow")∉[Str.ofString "function",Str.ofString "listed"] by decide +kernel) ?_
 refine fdC (d:=.pv (.aA (rows.map λ_=>.aA []))) (pvS (fF (cV (ps:=rows.map λq=>q) (sV (p:=.aI rows) (b2 (x:=F) (b2 (x:=.aI fs) (y:=.int 1) rfl rfl rQ) rfl h4) (by rw[List.map_id'];rfl)) (by rw[aH];lia) (ez λr hr=>?_)))) (show(Str.ofString "sources")∉[Str.ofString "function",Str.ofString "listed",Str.ofString "follow"] by decide +kernel) rfl
 show(some [Ent.un,.val r,.val (.aI fs)]).bind _=_;rw[aY];exact gE (cA rfl (cA rfl rfl)) rfl (h3 r hr) rfl
def yo(d:Kd):Nat:=(lv (dM d)).length
def vI:Nat->List Rk->List Pt
 | _,[]=>[]
 | i,r::R=>(if qx r.2=true then(List.range (yo r.2)).map λj=>(r.1,j,i)else [])++vI (i+1) R
theorem Dg{d:Kd}(h:Aq (dM d)):yo d<=100:=b0 (K5 _) h.1
theorem YF(k:Nat)(hk:2<=k){nm res body:PV}{R1 R2:List Rk}{x:Str}{d:Kd}(hf:kM (R1++R2) x=some d)(hl:R1.length+R2.length<=1000)(hd:Aq (dM d)):run bg (k+3) "count_leaves_of" [xZ nm res body R1 R2,.str x]=some (.val (.int (yo d:Int))):=by
 rw[lu,bO];have h1:run bg (k+2) "kind_of" [xZ nm res body R1 R2,.str x]=some (.val (jf d)):=(GW (k+1) nm res body R1 R2 x hl).trans (by rw[hf];rfl)
 have h3:=fu.all LA (dM d) (k+1) (b0 hd.2 (by lia)) (by have:=Dg hd;unfold yo at this;lia)
 exact eW (rS (bV (as:=[.aI (c0 (lv (dM d)))]) (cA (gE (cA (gE (cA (gE (cA rfl (cA rfl rfl)) rfl h1 rfl) rfl) rfl (tu k d) rfl) rfl) rfl h3 rfl) rfl) (by rw[K3,gF];rfl)))
theorem AE(k:Nat)(hk:2<=k){nm res body:PV}{R1:List Rk}(hn:(R1.map (·.1)).Nodup)(ho:∀r∈R1,Aq (dM r.2))(hl:R1.length<=100):∀(R:List Rk) (i:Nat) (told:av) (x2 x3 x4:Ent),(∀r∈R,r∈R1)->told.length+100*R.length<=90000 ->
  ∃Hh AS vB,eZ (fD 2 (bB (aD 2) (bB (aD 3) eH))) (d5 (run bg (k+3))) (fg i (R.map da)) [.val (xZ nm res body R1 []),.own told,x2,x3,x4]=some (.nx [.val (xZ nm res body R1 []),.own (told++(vI i R).map (pH 0)),Hh,AS,vB])
 | [],i,told,x2,x3,x4,_,_=>⟨x2,x3,x4,by simp only[vI,n0,dE];rfl⟩
 | (x,d)::R,i,told,x2,x3,x4,hR,hz=>by
  rw[aW]at hz;have hm:((x,d):Rk)∈R1:=hR (x,d) bE;have od:Aq (dM d):=ho _ hm;have SY:yo d<=100:=Dg od;obtain⟨F,hF⟩:∃F,F=xZ nm res body R1 []:=⟨_,rfl⟩
  have hf:kM (R1++[]) x=some d:=by rw[dE];exact vy R1 (x,d) hn hm
  have hcn:=YF k hk (nm:=nm) (res:=res) (body:=body) hf (by simp;lia) od
  rw[<-hF]at hcn ⊢;have hb:∃y4,d5 (run bg (k+3)) [.val F,.own told,.val (iN i),.val (da (x,d)),x4]=some (.nx [.val F,.own (told++(if qx d=true then(List.range (yo d)).map λj=>((x,j,i):Pt)else []).map (pH 0)),.val (iN i),.val (da (x,d)),y4]):=by
   unfold d5;have hc:mN (toB (aK (aX 1 (run bg (k+3) "is_holder")) (af (ak (rd 3) (kI 1) bL) ar))) [.val F,.own told,.val (iN i),.val (da (x,d)),x4]=some (qx d):=bT (gE (cA (b2 (x:=da (x,d)) (y:=.int 1) rfl rfl rfl) rfl) rfl (kO (k+2) d) rfl);cases hh:qx d with
   | false=>exact⟨x4,iF (hc.trans (by rw[hh])) (by simp)⟩
   | true =>
    refine⟨.val (.int (yo d:Int)),iT (hc.trans (by rw[hh])) (sq (eS:=[.val F,.own told,.val (iN i),.val (da (x,d)),.val (.int (yo d:Int))]) (aS (gE (cA rfl (cA (b2 (x:=da (x,d)) (y:=.int 0) rfl rfl rfl) rfl)) rfl hcn rfl) rfl) ?_)⟩
    rw[if_pos rfl,eP];refine mX rfl (fF (cV (jG (j:=(yo d:Int)) rfl (by lia)) (by simp;lia) ?_)) (by simp;lia)
    rw[eM];refine ez (e:=λi:Nat=>PV.int (0+(i:Int))) λj _=>?_
    show some (PV.aI [.int 0,.str x,.int (0+(j:Int)),.int (-1-(i:Int)),.int (0+(j:Int))])=_;rw[lT];rfl
  obtain⟨y4,e1⟩:=hb;obtain⟨Hh,AS,vB,e2⟩:=AE k hk (nm:=nm) (res:=res) (body:=body) hn ho hl R (i+1) (told++(if qx d=true then(List.range (yo d)).map λj=>((x,j,i):Pt)else []).map (pH 0)) (.val (iN i)) (.val (da (x,d))) y4 (λr hr=>hR r (bx _ hr)) (by
   rw[bY,aH];split
   ·rw[aH,fQ];lia
   ·rw[j9];lia)
  refine⟨Hh,AS,vB,?_⟩;rw[<-hF]at e2;rw[iK,<-dO]at e2;exact fC (d6:=[.val F,.own told,.val (iN i),.val (da (x,d)),x4]) rfl e1 e2
theorem YG(k:Nat)(hk:2<=k){nm res body:PV}{R1:List Rk}(hn:(R1.map (·.1)).Nodup)(ho:∀r∈R1,Aq (dM r.2))(hl:R1.length<=100):run bg (k+4) "held_at_first" [xZ nm res body R1 []]=some (.own ((vI 0 R1).map (pH 0))):=by
 rw[nA,bO];obtain⟨x2,x3,x4,e⟩:=AE k hk (nm:=nm) (res:=res) (body:=body) hn ho hl R1 0 [] .un .un .un (λ_ h=>h) (by simp;lia)
 rw[gW]at e;have he:iA (ak (rd 0) (kI 1) bL) [.val (xZ nm res body R1 []),.own [],.un,.un,.un]=some (fg 0 (R1.map da)):=rfl;exact GC (sq (sO rfl (by simp)) (sq (fS he e) (CL rfl)))
theorem ym:∀{R:List Rk} {i:Nat} {p:Pt},p∈vI i R->∃r∈R,p.1=r.1
 | r::R,i,p,h=>by
  unfold vI at h;rcases dD.mp h with h | h
  ·split at h
   ·obtain⟨j,_,rfl⟩:=bt.mp h;exact⟨r,bE,rfl⟩
   ·cases h
  ·obtain⟨q,hq,e⟩:=ym h;exact⟨q,bx _ hq,e⟩
theorem yn:∀{R:List Rk} {i:Nat},(∀r∈R,yo r.2<=3)->(vI i R).length<=3*R.length
 | [],_,_=>by simp[vI]
 | r::R,i,h=>by
  have:=yn (i:=i+1) λq hq=>h q (bx _ hq)
  have:=h r bE;unfold vI;rw[bY,aW];split
  ·rw[aH,fQ];lia
  ·rw[j9];lia
theorem LN:∀{R:List Rk} {i:Nat},(R.map (·.1)).Nodup->(vI i R).Nodup
 | [],_,_=>nZ
 | r::R,i,h=>by
  rw[bC,c8]at h;unfold vI;rw[vS];refine⟨?_,LN h.2,λp hp q hq e=>?_⟩
  ·split
   ·unfold List.Nodup;rw[qD];have:(List.range (yo r.2)).Nodup:=qE;exact this.imp λhne e=>hne (c9 (λz:Pt=>z.2.1) e)
   ·exact nZ
  ·obtain⟨r',hr,e1⟩:=ym hq;split at hp
   ·obtain⟨j,_,rfl⟩:=bt.mp hp;exact h.1 (bt.mpr ⟨r',hr,by rw[<-e1,<-e]⟩)
   ·cases hp
theorem LO{n m:Nat}{p q:Pt}(h:kH n p=kH m q):n=m/\p=q:=by
 unfold kH at h;injection h with e1 e2
 injection e2 with e2 e3
 injection e3 with e3 e4
 injection e4 with e4 _
 injection e1 with e1
 injection e2 with e2
 injection e3 with e3
 injection e4 with e4
 exact⟨by lia,lX e2 (lX (show p.2.1=q.2.1 by lia) (show p.2.2=q.2.2 by lia))⟩
section
variable {D:List Pt} {told:eU} {N:Nat}
def tW(D:List Pt)(l:List Nat):List (List b8):=l.flatMap λn=>D.map (kH n)
theorem jh{l:List Nat}{f:List b8}:f∈tW D l↔∃n∈l,∃p∈D,f=kH n p:=by
 unfold tW;rw[List.mem_flatMap];constructor
 ·rintro⟨n,hn,h⟩
  obtain⟨p,hp,rfl⟩:=bt.mp h;exact⟨n,hn,p,hp,rfl⟩
 ·rintro⟨n,hn,p,hp,rfl⟩
  exact⟨n,hn,bt.mpr ⟨p,hp,rfl⟩⟩
theorem tX(D:List Pt):∀l:List Nat,(tW D l).length=l.length*D.length
 | []=>by simp[tW]
 | a::l=>by
  have:=tX D l;unfold tW at this ⊢;rw[List.flatMap_cons,bY,aH,aW,Nat.succ_mul]
  lia
theorem EW(hD:D.Nodup):∀l:List Nat,l.Nodup->(tW D l).Nodup
 | [],_=>nZ
 | a::l,h=>by
  rw[c8]at h;unfold tW;rw[List.flatMap_cons,vS];refine⟨?_,EW hD l h.2,λf hf g hg e=>?_⟩
  ·unfold List.Nodup at hD ⊢;rw[qD];exact hD.imp λhne e=>hne (LO e).2
  ·obtain⟨p,_,rfl⟩:=bt.mp hf;obtain⟨b,hb,q,_,rfl⟩:=jh.mp hg;exact h.1 (by rw[(LO e).1];exact hb)
theorem told_len(hD:D.Nodup)(hn:(told.map (·.1)).Nodup)(h1:∀t∈told,∃n p,t.1=kH n p/\n<N/\p∈D)(h2:∀n,n<N->∀p∈D,kH n p∈told.map (·.1)):told.length=N*D.length:=by
 have a:=jd (told.map (·.1)) (tW D (List.range N)) hn λf hf=>by
  obtain⟨t,ht,rfl⟩:=bt.mp hf;obtain⟨n,p,e,e1,e2⟩:=h1 t ht;exact jh.mpr ⟨n,du.mpr e1,p,e2,e⟩
 have b:=jd (tW D (List.range N)) (told.map (·.1)) (EW hD _ qE) λf hf=>by
  obtain⟨n,hn,p,hp,rfl⟩:=jh.mp hf;exact h2 n (du.mp hn) p hp
 rw[tX,fQ,aH]at a b
 lia
def EX(told:eU)(i n:Nat)(p:Pt)(c:Int):Prop:=(n=0/\c = -1)\/∃m jj d,n=m+1/\c=((jj:Nat):Int)/\jj<i/\told[jj]?=some (kH m p,d)
end
theorem vJ(k:Nat){F S:PV}{N:Nat}(P I:PV)(ps:av):∀(cs:List Nat) (x3:Ent),(∀c∈cs,c<N)->ps.length<=90000 ->
  ∃AS,eZ (aD 3) (Am (run bg (k+2)) (jD bg (k+2)) (vp bg (eV bg (k+2)))) (cs.map iN) [.val P,.val I,.own ps,x3,.ob (EV F N S)]=some (.nx [.val P,.val I,.own ps,AS,.ob (EV F N S)])/\(AS=x3\/∃p,AS=.val p)
 | [],x3,_,_=>⟨x3,rfl,.inl rfl⟩
 | c::cs,x3,h,hl=>by
  obtain⟨AS,e,hv⟩:=vJ k (F:=F) (S:=S) P I ps cs (.val (iN c)) (λd hd=>h d (bx _ hd)) hl
  refine⟨AS,?_,.inr (hv.elim (λz=>⟨_,z⟩) id)⟩
  have r:=O6 (F:=F) (S:=S) k (h c bE);obtain⟨o,ho⟩:∃o,o=EV F N S:=⟨_,rfl⟩
  rw[<-ho]at e r ⊢;refine fC (d6:=[.val P,.val I,.own ps,.val (iN c),.ob o]) rfl ?_ e;have:=mX (n:=2) (ps:=ps) (qs:=[]) (fa:=ei (jX 1 (jD bg (k+2) "newly_lent")) (uk 4) (af (rd 3) ar)) (ρ:=[.val P,.val I,.own ps,.val (iN c),.ob o]) rfl (clO rfl (cA rfl rfl) rfl r rfl) (by rw[j9];lia)
  rw[dE]at this;exact this
abbrev Uy(k:Nat)(o:Ob):List b8->Option (List (List b8)):=xf (ei (jX 1 (jD bg (k+2) "held_behind")) (uk 1) (af (rd 0) ar)) [.ob o]
theorem O7(k:Nat){F S:PV}{N n:Nat}(hn:n<N)(p:Pt)(hx:(p.1==(Str.ofString ""))=false)(hd:Txt.isdigit p.1=false):Uy k (EV F N S) (kH n p)=some ((nL N n).map λm=>kH m p):=by
 have r:=LM (F:=F) (S:=S) k hn p hx hd;obtain⟨o,ho⟩:∃o,o=EV F N S:=⟨_,rfl⟩
 rw[<-ho]at r ⊢;refine EJ ?_ λf hf=>?_
 ·rw[eP];exact clO rfl (cA rfl rfl) rfl r rfl
 ·obtain⟨m,_,rfl⟩:=bt.mp hf;show 5<1000
  lia
theorem O8(K:Nat)(hK:20<=K){F0 nm res:PV}{R1:List Rk}{is:List Int}(hi:is.length<=31)(hR:∀r∈R1,Aq (dM r.2))(hn:(R1.map (·.1)).Nodup)(h3:∀r∈R1,yo r.2<=3)(hz:R1.length<=4)(hne:∀r∈R1,(r.1==(Str.ofString ""))=false/\Txt.isdigit r.1=false) :
  ∃told:eU,run bg K "held" [.aI [F0,xZ nm res (.aI (dU is)) R1 []],.int 1]=some (.val (.aA (told.map toldP)))/\(told.map (·.1)).Nodup /\
   (∀i f c,told[i]?=some (f,c)->∃n p,f=kH n p/\EX told i n p c/\n<is.length+1/\p∈vI 0 R1)/\∀n,n<is.length+1->∀p∈vI 0 R1,kH n p∈told.map (·.1):=by
 obtain⟨K,rfl⟩:∃m,K=m+3:=⟨K-3,by lia⟩
 obtain⟨F,hF⟩:∃F,F=xZ nm res (.aI (dU is)) R1 []:=⟨_,rfl⟩
 obtain⟨fs,Hd⟩:∃fs,fs=[F0,F]:=⟨_,rfl⟩
 have rQ:atI fs 1=some F:=by rw[Hd];rfl
 have YH:atI fs 1=some (xZ nm res (.aI (dU is)) R1 []):=by rw[rQ,hF]
 obtain⟨N,hN⟩:∃N,N=is.length+1:=⟨_,rfl⟩
 have cD:(dU is).length=N:=by rw[hN];simp
 have e1:((dU is).map λp=>(p,([]:List jY))).map (·.1)=dU is:=by rw[eP];exact List.map_id _
 have e2:((dU is).map λp=>(p,([]:List jY))).map (·.2)=List.replicate N []:=by
  rw[eP,<-cD];exact List.map_const' ..
 have QL:∀m,13<=m->run bg m "acts" [.aI fs,.int 1]=some (.own (yf 0 (List.replicate N []))):=λm hm=>by
  obtain⟨m,rfl⟩:∃q,m=q+1:=⟨m-1,by lia⟩
  have:=Up m (L:=(dU is).map λp=>(p,([]:List jY))) YH (by rw[e1]) (λq hq=>by
   obtain⟨p,hp,rfl⟩:=bt.mp hq;rcases dD.mp hp with z | z
   ·obtain⟨i,_,rfl⟩:=bt.mp z;exact LI m (by lia) _ i
   ·rw[dt]at z;subst z;exact G5 m (by lia) _) (by rw[aH,cD];lia)
  rw[e2]at this;exact this
 have Dh:∀m,14<=m->run bg m "nexts" [.aI fs,.int 1]=some (.own (((List.range N).map (nL N)).map nT))/\Us ((List.range N).map (nL N)) N:=λm hm=>by
  obtain⟨m,rfl⟩:∃q,m=q+2:=⟨m-2,by lia⟩
  have hro:tK (run bg (m+1)) (.aI (dU is)) (List.replicate N ([]:List jY)).length (nL N):=by
   rw[j5,hN];exact O5 m is
  obtain⟨h1,h2,h3⟩:=OY (m+1) YH (QL (m+1) (by lia)) hro (by rw[nI,yj];lia)
  rw[LH]at h1 h2 h3;rw[nI,yj]at h2 h3;exact⟨h1,⟨h2,h3,by lia,by lia⟩⟩
 have H:=(Dh 14 (by lia)).2
 obtain⟨_,ms,cs,hct,hso,pX,hmd,hin,_⟩:=G0 H;have YI:∀m,15<=m->run bg m "come_to" [.aI fs,.int 1]=some (.val (.aA (cs.map iN))):=λm hm=>by
  obtain⟨m,rfl⟩:∃q,m=q+2:=⟨m-2,by lia⟩
  exact hct m _ _ _ (Dh (m+1) (by lia)).1 rfl
 have hcs:∀c∈cs,c<N:=λc hc=>hin c ((pX c).mp hc)
 have hmk:=adb (K+2) (rows:=dU is) rQ (by rw[hF];rfl) (by rw[<-nI,<-tH];exact QL (K+2) (by lia)) (Dh (K+2) (by lia)).1 (λr hr=>by
  rcases dD.mp hr with z | z
  ·obtain⟨i,_,rfl⟩:=bt.mp z;exact AD (K+1) _ (s:="say") rfl (by decide +kernel)
  ·rw[dt]at z;subst z;exact AD (K+1) _ (s:="give") rfl (by decide +kernel)) (by lia) (L:=(sg 0 N).map eN)
 obtain⟨S,hS⟩:∃S,S=PV.aA ((dU is).map λ_=>.aA []):=⟨_,rfl⟩
 obtain⟨o,ho⟩:∃o,o=EV F N S:=⟨_,rfl⟩
 obtain⟨D,hD⟩:∃D,D=vI 0 R1:=⟨_,rfl⟩
 have hDl:D.length<=12:=by
  have:=yn (i:=0) h3;rw[hD]
  lia
 have hDn:∀p∈D,(p.1==(Str.ofString ""))=false/\Txt.isdigit p.1=false:=λp hp=>by
  rw[hD]at hp;obtain⟨r,hr,e⟩:=ym hp;rw[e];exact hne r hr
 have hUl:(tW D (List.range N)).length<=32*12:=by
  rw[tX,fQ];exact Nat.mul_le_mul (by lia) hDl
 have F9:∀n,n<N->∀p∈D,Uy K o (kH n p)=some ((nL N n).map λm=>kH m p):=λn hn p hp=>by
  rw[ho];exact O7 K hn p (hDn p hp).1 (hDn p hp).2
 obtain⟨told,t1,t2,t3,t4,t5,t6⟩:=sS (Uy K o) (D.map (kH 0)) (tW D (List.range N)) 2 (by rw[sG];lia) (by show _<5000;lia) (λg hg=>by
  obtain⟨n,hn,p,hp,rfl⟩:=jh.mp hg;refine⟨_,F9 n (du.mp hn) p hp,λf hf=>?_,?_⟩
  ·obtain⟨m,hm,rfl⟩:=bt.mp hf;exact jh.mpr ⟨m,du.mpr (De.2 m hm),p,hp,rfl⟩
  ·rw[aH];exact De.1) (λf hf=>by
  obtain⟨p,hp,rfl⟩:=bt.mp hf;exact jh.mpr ⟨0,du.mpr (by lia),p,hp,rfl⟩)
 refine⟨told,?_,t2,?_,?_⟩
 ·have ade:vp bg (eV bg (K+2)) "Course" [.aI fs,.int 1]=some ([("function",.pv F),("listed",.pv (.aA ((sg 0 N).map eN))),("follow",.pv (.aA (((List.range N).map (nL N)).map nT))),("sources",.pv S)]:List (Str×Fd)):=by rw[hS];exact hmk
  have YJ:=YG (K-2) (by lia) (nm:=nm) (res:=res) (body:=.aI (dU is)) hn hR (by lia)
  rw[<-hF,<-hD,show K-2+4=K+2 by lia]at YJ
  obtain⟨AS,e,hv⟩:=vJ K (F:=F) (S:=S) (N:=N) (.aI fs) (.int 1) (D.map (pH 0)) cs .un hcs (by rw[aH];lia)
  rw[<-hF,<-Hd,Ld,bO];rw[<-ho]at e;refine eW (sq (eS:=[.val (.aI fs),.val (.int 1),.un,.un,.ob o]) (aO (by rw[ho];exact mO (cA rfl (cA rfl rfl)) rfl ade (by kernel_rfl)) (by simp)) ?_)
  refine sq (eS:=[.val (.aI fs),.val (.int 1),.own (D.map (pH 0)),.un,.ob o]) (sR (clQ (cA (b2 (x:=.aI fs) (y:=.int 1) rfl rfl rQ) rfl) rfl YJ rfl) (by simp)) ?_
  refine sq (fS (sV (gE (cA rfl (cA rfl rfl)) rfl (YI (K+2) (by lia)) rfl) rfl) e) ?_
  rw[OB,show fO (some [2]) [.val (.aI fs),.val (.int 1),.own (D.map (pH 0)),AS,.ob o]=[.val (.aI fs),.val (.int 1),.val (.aA (D.map (pH 0))),AS,.ob o] by rcases hv with rfl | ⟨p,rfl⟩<;>rfl]
  refine rS (fF (sT (fk:=D.map (kH 0)) (by rw[eP];rfl) (λf hf=>?_) (by rw[aH,sG];lia) t1))
  obtain⟨p,_,rfl⟩:=bt.mp hf;show 5<1000
  lia
 ·rw[<-hN,<-hD];intro i;induction i using Nat.strongRecOn with
  | _ i ih =>
   intro f c ht;rcases t4 i f c ht with⟨z1,z2⟩ | ⟨jj,g,d,QZ,z1,z2,z3,z4,z5⟩
   ·obtain⟨p,hp,rfl⟩:=bt.mp z2;exact⟨0,p,rfl,.inl ⟨rfl,z1⟩,by lia,hp⟩
   ·obtain⟨m,p,rfl,_,hm,hp⟩:=ih jj z1 g d z3;rw[F9 m hm p hp]at z4;cases z4;unfold nL at z5;split at z5
    ·rename_i dW;obtain⟨n,UI,rfl⟩:=bt.mp z5;rw[dt]at UI;subst UI;exact⟨m+1,p,rfl,.inr ⟨m,jj,d,rfl,z2,z1,z3⟩,dW,hp⟩
    ·cases z5
 ·rw[<-hN,<-hD];intro n;induction n with
  | zero=>exact λ_ p hp=>t6 _ (bt.mpr ⟨p,hp,rfl⟩)
  | succ n ih =>
   intro UI p hp;obtain⟨⟨f,c⟩,hc,e⟩:=bt.mp (ih (by lia) p hp)
   obtain⟨i,hi'⟩:=lM hc;simp only at e;subst e;obtain⟨QZ,f1,f2⟩:=t5 i _ c (cM.mp hi').1 hi';rw[F9 n (by lia) p hp]at f1
   cases f1;refine f2 _ (bt.mpr ⟨n+1,?_,rfl⟩);unfold nL;rw[if_pos UI];exact dt.mpr rfl
noncomputable def kD(p:Pt):List b8:=[.inr p.1,.inl (p.2.1:Int),.inl (-1-(p.2.2:Int)),.inl (p.2.1:Int)]
def pP(p:Pt):PV:=.aI (pS p)
theorem Uz{p q:Pt}(h:kD p=kD q):p=q:=by
 unfold kD at h;injection h with e1 e2
 injection e2 with e2 e3
 injection e3 with e3 _
 injection e1 with e1
 injection e2 with e2
 injection e3 with e3
 exact lX e1 (lX (show p.2.1=q.2.1 by lia) (show p.2.2=q.2.2 by lia))
def kd(P:List Pt):List (List b8×PV):=P.map λp=>(kD p,.bl true)
theorem LP(P:List Pt)(p:Pt):su (kd P) (kD p)=decide (p∈P):=by
 unfold su kd;rw[List.any_map,Bool.eq_iff_iff,List.any_eq_true,jq];constructor
 ·rintro⟨q,hq,z⟩
  rw[<-Uz (nS z)];exact hq
 ·exact λh=>⟨p,h,eO rfl⟩
theorem YK(p:Pt):jQ (pP p)=some (kD p):=rfl
theorem O9{fk fv:FE}{ρ:aC}{i:Nat}{P:List Pt}{p:Pt} (h0:ρ[i]?=some (.cq (.t (kd P)))) (h1:fk ρ=some (pP p)) (h2:fv ρ=some (.bl true)) (h3:p∉P) (hl:P.length<=90000) (ho:(ρ.set i .un).all (hZ false)=true):Ge i fk fv ρ=some (.nx (ρ.set i (.cq (.t (kd (P++[p])))))):=by
 unfold Ge;rw[h2,aY,h1,aY,h0];show(jQ (pP p)).bind _=_;rw[YK,aY,if_pos ⟨QC (by unfold kd;rw[aH];lia),ho⟩]
 unfold N8;rw[LP,dY h3,if_neg (by simp)]
 unfold kd;rw[dO];rfl
theorem Pb{fe:FE}{ρ:aC}{p:PV}(h:fe (fO none ρ)=some p)(hp:kz p=true):ot fe ρ=some p:=by
 unfold ot;rw[h,aY,if_pos hp]
theorem LQ(c:fZ)(S:PV)(x:Str)(d:Kd)(i:Nat):∀(L:List Nat) (P:List Pt) (x4:Ent),(∀j∈L,(x,j,i)∉P)->L.Nodup->P.length+L.length<=90000->(hZ false x4=true) ->
  ∃vB,eZ (aD 4) (Ao c) (L.map fun(i:Nat)=>.int (0+(i:Int))) [.val S,.cq (.t (kd P)),.val (iN i),.val (da (x,d)),x4]=some (.nx [.val S,.cq (.t (kd (P++L.map λj=>(x,j,i)))),.val (iN i),.val (da (x,d)),vB])/\hZ false vB=true
 | [],P,x4,_,_,_,h4=>⟨x4,by simp only[n0,dE];rfl,h4⟩
 | j::L,P,x4,hn,hd,hz,h4=>by
  rw[c8]at hd;rw[aW]at hz;obtain⟨vB,e,h5⟩:=LQ c S x d i L (P++[(x,j,i)]) (.val (iN j)) (λm hm z=>by
   rcases dD.mp z with z | z
   ·exact hn m (bx _ hm) z
   ·have z:=dt.mp z;have:m=j:=c9 (λq:Pt=>q.2.1) z
    subst this;exact hd.1 hm) hd.2 (by rw[bY];show P.length+1+L.length<=90000;lia) rfl
  refine⟨vB,?_,h5⟩;rw[iK]at e;rw[bC,show(PV.int (0+(j:Int)))=iN j by rw[lT];rfl]
  exact fC (d6:=[.val S,.cq (.t (kd P)),.val (iN i),.val (da (x,d)),.val (iN j)]) rfl (O9 (p:=(x,j,i)) rfl (tU (cA (b2 (x:=da (x,d)) (y:=.int 0) rfl rfl rfl) (cA rfl (cA (b2 (x:=.int (-1)) (y:=.int (i:Int)) rfl rfl rfl) (cA rfl rfl)))) (show 4<=100000 by lia)) rfl (hn j bE) (by lia) rfl) e
theorem AF(k:Nat)(hk:3<=k)(S:PV):∀(R:List Rk) (i:Nat) (P:List Pt) (x2 x3 x4:Ent),(∀r∈R,Aq (dM r.2))->(R.map (·.1)).Nodup->(∀r∈R,∀q,(r.1,q)∉P)->P.length+100*R.length<=90000->hZ false x4=true ->
  ∃Hh AS vB,eZ (fD 2 (bB (aD 2) (bB (aD 3) eH))) (kL (run bg (k+1))) (fg i (R.map da)) [.val S,.cq (.t (kd P)),x2,x3,x4]=some (.nx [.val S,.cq (.t (kd (P++vI i R))),Hh,AS,vB])
 | [],i,P,x2,x3,x4,_,_,_,_,_=>⟨x2,x3,x4,by simp only[vI,dE];rfl⟩
 | (x,d)::R,i,P,x2,x3,x4,ho,hn,hP,hz,h4=>by
  rw[bC,c8]at hn;rw[aW]at hz;have od:Aq (dM d):=ho (x,d) bE;have SY:yo d<=100:=Dg od;obtain⟨D0,U6⟩:∃D0,D0=if qx d=true then(List.range (yo d)).map λj=>((x,j,i):Pt)else []:=⟨_,rfl⟩
  have hb:∃y4,kL (run bg (k+1)) [.val S,.cq (.t (kd P)),.val (iN i),.val (da (x,d)),x4]=some (.nx [.val S,.cq (.t (kd (P++D0))),.val (iN i),.val (da (x,d)),y4])/\hZ false y4=true:=by
   unfold kL;have hc:mN (toB (ak (ak (ak (rd 3) (kI 1) bL) (kI 0) bL) (cj (af (kS "lent") (af (kS "sole") ar))) (FF false))) [.val S,.cq (.t (kd P)),.val (iN i),.val (da (x,d)),x4]=some (qx d):=bT (b2 (x:=.str (kw d)) (y:=.aI [.str "lent",.str "sole"]) (b2 (x:=jf d) (b2 (x:=da (x,d)) (y:=.int 1) rfl rfl rfl) rfl (xY d)) rfl (EK d));cases hh:qx d with
   | false =>
    refine⟨x4,iF (hc.trans (by rw[hh])) ?_,h4⟩
    rw[U6,hh,if_neg (by simp),dE]
   | true =>
    rw[U6,hh,if_pos rfl];obtain⟨y4,e,h5⟩:=LQ (run bg (k+1)) S x d i (List.range (yo d)) P x4 (λj _=>hP (x,d) bE _) qE (by rw[fQ];lia) h4
    refine⟨y4,iT (hc.trans (by rw[hh])) (fS ?_ e),h5⟩
    obtain⟨b,s,rfl⟩:∃b s,d=.ho b s:=by cases d with | ow s=>cases hh | ho b s=>exact⟨b,s,rfl⟩
    have hlv:aK (aX 1 (run bg (k+1) "_law_leaves")) (af (ak (ak (rd 3) (kI 1) bL) (kI 1) bL) ar) (fO none [.val S,.cq (.t (kd P)),.val (iN i),.val (da (x,.ho b s)),x4])=some (.aA (c0 (lv s))) :=
     gE (cA (b2 (x:=jf (.ho b s)) (y:=.int 1) (b2 (x:=da (x,.ho b s)) (y:=.int 1) rfl rfl rfl) rfl rfl) rfl) rfl (vF s k (b0 (show dp s<=3 from od.2) hk) (by have:(lv s).length<=100:=SY;lia)) rfl
    have:=jG (ts:=af (ot (dq eF (af (aK (aX 1 (run bg (k+1) "_law_leaves")) (af (ak (ak (rd 3) (kI 1) bL) (kI 1) bL) ar)) ar))) ar) (ρ:=[.val S,.cq (.t (kd P)),.val (iN i),.val (da (x,.ho b s)),x4]) (j:=((yo (.ho b s):Nat):Int)) (cA (Pb (bV (as:=[.aA (c0 (lv s))]) (cA hlv rfl) (by rw[sJ,gF];rfl)) rfl) rfl) (by lia)
    rw[eM]at this;exact this
  obtain⟨y4,e1,h5⟩:=hb;obtain⟨Hh,AS,vB,e2⟩:=AF k hk S R (i+1) (P++D0) (.val (iN i)) (.val (da (x,d))) y4 (λr hr=>ho r (bx _ hr)) hn.2 (λr hr q z=>by
   rcases dD.mp z with z | z
   ·exact hP r (bx _ hr) q z
   ·rw[U6]at z;split at z
    ·obtain⟨j,_,e⟩:=bt.mp z;have:x=r.1:=c9 Prod.fst e;exact hn.1 (bt.mpr ⟨r,hr,this.symm⟩)
    ·cases z) (by
   rw[bY,U6];split
   ·rw[aH,fQ];lia
   ·rw[j9];lia) h5
  refine⟨Hh,AS,vB,?_⟩;rw[iK,U6]at e2;rw[U6]at e1;exact fC (d6:=[.val S,.cq (.t (kd P)),.val (iN i),.val (da (x,d)),x4]) rfl e1 e2
theorem YL(k:Nat)(hk:3<=k){R:List Rk}(ho:∀r∈R,Aq (dM r.2))(hn:(R.map (·.1)).Nodup)(hz:R.length<=100):run bg (k+2) "_law_due" [.aA (R.map da)]=some (.cq (.t (kd (vI 0 R)))):=by
 rw[Lj,bO];obtain⟨x2,x3,x4,e⟩:=AF k hk (.aA (R.map da)) R 0 [] .un .un .un ho hn (λ_ _ _ z=>nomatch z) (by simp;lia) rfl
 rw[gW]at e;have he:iA (rd 0) [.val (.aA (R.map da)),.cq (.t (kd [])),.un,.un,.un]=some (fg 0 (R.map da)):=rfl;show gf (bq (Gd 1) _ _)=_;have:bq (Gd 1) (bq (gA (iA (rd 0)) (fD 2 (bB (aD 2) (bB (aD 3) eH))) (kL (run bg (k+1)))) (Gp 1)) [.val (.aA (R.map da)),.un,.un,.un,.un]=some (.rt (.cq (.t (kd (vI 0 R))))):=sq (eS:=[.val (.aA (R.map da)),.cq (.t (kd [])),.un,.un,.un]) rfl (sq (fS he e) rfl);exact c9 gf this
def fct(n:Nat)(p:Pt)(c:Int):PV:=.aI (iN n::pS p++[.int c])
theorem told_at{told:eU}{i n:Nat}{p:Pt}{c:Int}(h:told[i]?=some (kH n p,c)):atI (told.map toldP) (i:Int)=some (fct n p c):=eE (by rw[cf,h];rfl)
theorem LR{fa fb fc:FE}{ρ:aC}{f j g:Nat}(h1:fa ρ=some (.int (f:Int)))(h2:fb ρ=some (.int (j:Int)))(h3:fc ρ=some (.int (g:Int))):chain fa fb fc L6 FD ρ=some (.bl (decide (f<=j)&&decide (j<g))):=by
 rw[KN,h1,h2];simp only[aY];have e:L6 (.int (f:Int)) (.int (j:Int))=some (.bl (decide (f<=j))):=by
  show some (PV.bl (decide ((f:Int)<=(j:Int))))=_;simp
 rw[e,aY];by_cases hfj:f<=j
 ·rw[eO hfj,KO,h3,aY,OM];simp
 ·rw[dY hfj,KP];simp
theorem LU{p:PV}(h:nK p<=i8):mq p p=some (.bl true):=by rw[Ue h,mR]
theorem UA(k:Nat){told:eU}{i n:Nat}{p:Pt}{c:Int}(ht:told[i]?=some (kH n p,c))(h:EX told i n p c):run bg (k+2) "_law_came" [.aA (told.map toldP),iN i]=some (.val (.bl true)):=by
 rw[GS,bO];obtain⟨ρ,L9⟩:∃ρ,ρ=[Ent.val (.aA (told.map toldP)),.val (iN i),.val (iN n),.val (.str p.1),.val (iN p.2.1),.val (.int (-1-(p.2.2:Int))),.val (iN p.2.1),.val (.int c)]:=⟨_,rfl⟩
 have a0:ck (ak (rd 0) (rd 1) bL) (fD 6 (bB (aD 2) (bB (aD 3) (bB (aD 4) (bB (aD 5) (bB (aD 6) (bB (aD 7) eH))))))) [.val (.aA (told.map toldP)),.val (iN i),.un,.un,.un,.un,.un,.un]=some (.nx ρ):=by
  rw[L9];exact aS (b2 (x:=.aA (told.map toldP)) (y:=.int (i:Int)) rfl rfl (told_at ht)) rfl
 have w2:aK (aX 1 (run bg (k+1) "_law_whole")) (af (rd 2) ar) ρ=some (.bl true):=by rw[L9];exact gE (cA rfl rfl) rfl (nE k _) rfl
 have w4:aK (aX 1 (run bg (k+1) "_law_whole")) (af (rd 4) ar) ρ=some (.bl true):=by rw[L9];exact gE (cA rfl rfl) rfl (nE k _) rfl
 have w5:aK (aX 1 (run bg (k+1) "_law_whole")) (af (rd 5) ar) ρ=some (.bl true):=by rw[L9];exact gE (cA rfl rfl) rfl (nE k _) rfl
 have w6:aK (aX 1 (run bg (k+1) "_law_whole")) (af (rd 6) ar) ρ=some (.bl true):=by rw[L9];exact gE (cA rfl rfl) rfl (nE k _) rfl
 have w7:aK (aX 1 (run bg (k+1) "_law_whole")) (af (rd 7) ar) ρ=some (.bl true):=by rw[L9];exact gE (cA rfl rfl) rfl (nE k _) rfl
 have w3:DX .str (rd 3) ρ=some (.bl true):=by rw[L9];rfl
 have hc:toB (ak (rd 2) (kI 0) mq) ρ=some (decide ((n:Int)=0)):=by rw[L9];exact bT (b2 (x:=.int (n:Int)) rfl rfl jE)
 have a1:=AA (nB (bT w2)) (AA (nB (bT w4)) (AA (nB (bT w5)) (nB (bT w6))));have a2:=AA (nB (bT w3)) (nB (bT w7));rcases h with⟨h0,h1⟩ | ⟨m,jj,d,h0,h1,h2,h3⟩
 ·refine eW (sq a0 (sq (iF a1 rfl) (sq (iF a2 rfl) (sL (iT (hc.trans (by rw[h0];rfl)) (rS ?_))))))
  rw[L9,h1];exact b2 (x:=.int (-1)) (y:=.int (-1)) rfl rfl (by rw[jE];rfl)
 ·refine eW (sq a0 (sq (iF a1 rfl) (sq (iF a2 rfl) (sq (iF (hc.trans (by rw[dY (by lia)])) rfl) (rS ?_)))))
  rw[L9,h1,h0];refine(LJ (b:=true) ((LR (f:=0) (j:=jj) (g:=i) rfl rfl rfl).trans (by rw[eO (dP _),eO h2];rfl)) λ_=>?_)
  refine b2 (x:=pH m p) (y:=pH m p) ?_ (tU (cA (b2 (x:=.int ((m+1:Nat):Int)) (y:=.int 1) rfl rfl ?_) (cA rfl (cA rfl (cA rfl (cA rfl rfl))))) (show 5<=100000 by lia)) (LU (Nat.le_of_ble_eq_true rfl))
  ·rw[Ez,b2 (x:=.aA (told.map toldP)) (y:=.int (jj:Int)) rfl rfl (told_at h3)];rfl
  ·rw[K1];exact c9 (λz=>some (PV.int z)) (show((m+1:Nat):Int)-1=(m:Int) by lia)
section
variable {D:List Pt} {told:eU} {N:Nat}
abbrev LW(v0 v1 v2 v4:PV)(rows:av)(told:eU)(D:List Pt)(x7:Ent):aC:=[.val v0,.val v1,.val v2,.val (.aI rows),.val v4,.val (.aA (told.map toldP)),.cq (.t (kd D)),x7]
theorem LV(k:Nat){v0 v1 v2 v4:PV}{rows:av}(hr:rows.length=N){i n:Nat}{p:Pt}{c:Int}(ht:told[i]?=some (kH n p,c))(hf:EX told i n p c)(hn:n<N)(hd:p∈D):qw (run bg (k+2)) (LW v0 v1 v2 v4 rows told D (.val (iN i)))=some (.nx (LW v0 v1 v2 v4 rows told D (.val (iN i)))):=by
 unfold qw;have rQ:ak (rd 5) (rd 7) bL (LW v0 v1 v2 v4 rows told D (.val (iN i)))=some (fct n p c):=b2 (x:=.aA (told.map toldP)) (y:=.int (i:Int)) rfl rfl (told_at ht);have h1:DX .tuple (ak (rd 5) (rd 7) bL) (LW v0 v1 v2 v4 rows told D (.val (iN i)))=some (.bl true):=by rw[T8,rQ];rfl
 have h2:ak (dq eF (af (ak (rd 5) (rd 7) bL) ar)) (kI 6) BZ (LW v0 v1 v2 v4 rows told D (.val (iN i)))=some (.bl false):=b2 (x:=.int 6) (y:=.int 6) (bV (as:=[fct n p c]) (cA rQ rfl) rfl) rfl (by rw[xK];rfl)
 have h3:aK (aX 2 (run bg (k+2) "_law_came")) (af (rd 5) (af (rd 7) ar)) (LW v0 v1 v2 v4 rows told D (.val (iN i)))=some (.bl true):=gE (cA rfl (cA rfl rfl)) rfl (UA k ht hf) rfl;have h4:chain (kI 0) (ak (ak (rd 5) (rd 7) bL) (kI 0) bL) (dq eF (af (rd 3) ar)) L6 FD (LW v0 v1 v2 v4 rows told D (.val (iN i)))=some (.bl true):=by
  refine(LR (f:=0) (j:=n) (g:=N) rfl (b2 (x:=fct n p c) rQ rfl rfl) (bV (as:=[.aI rows]) (cA rfl rfl) ?_)).trans ?_
  ·show some (PV.int (rows.length:Int))=_;rw[hr]
  ·rw[eO (dP _),eO hn];rfl
 refine sq (iF (AA (nB (bT h1)) (AA (bT h2) (nB (bT h3)))) rfl) (iF (AA ?_ (nB (bT h4))) rfl)
 ·unfold inB;have hk:cutE (ak (rd 5) (rd 7) bL) (e9 (kI 1)) (e9 (kI 5)) (LW v0 v1 v2 v4 rows told D (.val (iN i)))=some (pP p):=by
   rw[Ez,rQ];rfl
  rw[hk,aY,YK,aY];show some (!su (kd D) (kD p))=_;rw[LP,eO hd];rfl
theorem AG(k:Nat){v0 v1 v2 v4:PV}{rows:av}(hr:rows.length=N)(hall:∀i f c,told[i]?=some (f,c)->∃n p,f=kH n p/\EX told i n p c/\n<N/\p∈D):∀(L:List Nat) (x7:Ent),(∀i∈L,i<told.length) ->
  ∃x7',eZ (aD 7) (qw (run bg (k+2))) (L.map fun(i:Nat)=>.int (0+(i:Int))) (LW v0 v1 v2 v4 rows told D x7)=some (.nx (LW v0 v1 v2 v4 rows told D x7'))
 | [],x7,_=>⟨x7,rfl⟩
 | i::L,x7,h=>by
  obtain⟨x7',e⟩:=AG k hr hall L (.val (iN i)) λm hm=>h m (bx _ hm)
  refine⟨x7',?_⟩;obtain⟨⟨f,c⟩,ht⟩:∃t,told[i]?=some t:=⟨_,di (h i bE)⟩
  obtain⟨n,p,rfl,g1,g2,g3⟩:=hall i f c ht;rw[bC,show(PV.int (0+(i:Int)))=iN i by rw[lT];rfl]
  exact fC (d6:=LW v0 v1 v2 v4 rows told D (.val (iN i))) rfl (LV k hr ht g1 g2 g3) e
theorem sQ{n:Nat}{c:av->cg}{ts:bG}{ρ:aC}{as:av}{i:Nat}{kvs:List (List b8×PV)}(h1:ts ρ=some as)(hn:as.length=n)(hc:c as=some (.cq (.t kvs)))(hi:i<ρ.length):Gq i (aX n c) ts ρ=some (.nx (ρ.set i (.cq (.t kvs)))):=by
 unfold Gq;rw[h1,aY];show(if as.length=n then c as else none).bind _=_
 rw[if_pos hn,hc,aY];exact if_pos hi
theorem AH:∀{told:eU},(∀t∈told,∃n p,t.1=kH n p)->factsOf (told.map λt=>fG t.1)=some (told.map (·.1))
 | [],_=>rfl
 | t::told,h=>by
  obtain⟨n,p,e⟩:=h t bE;have i:=AH λq hq=>h q (bx _ hq)
  show(jQ (fG t.1)).bind (λk=>(factsOf (told.map λt=>fG t.1)).map λks=>k::ks)=_
  rw[i,e];show some (kH n p::_)=some (t.1::_);rw[e]
end
abbrev NM(C:Int):PV:=.aA ((List.range 12).map λq=>.str (vH C q))
theorem LX(C:Int){q:Nat}(h:q<12):bL (NM C) (.int (q:Int))=some (.str (vH C q)):=eE (by rw[cf,nQ h];rfl)
theorem Di:∀m:Fin 26,Unicode.isDigit (97+(m:Nat))=false:=by decide +kernel
theorem Pc(C:Int)(q:Nat):Txt.isdigit (vH C q)=false:=by
 have hl:=tN C;have e:∃a l,vH C q=fw (cp a::l):=by
  unfold vH Dd;obtain⟨m,hm⟩:∃m,(L8 C).length=m+1:=⟨vG C-1,by rw[nH];lia⟩
  rw[hm,List.range_succ_eq_map,bC];exact⟨_,_,rfl⟩
 obtain⟨a,l,e⟩:=e;rw[e];have hd:Unicode.isDigit (cp a)=false:=by
  have h1:=lN a (show(0:Int)<26 by decide)
  exact Di ⟨(a%26).toNat,by lia⟩
 unfold Txt.isdigit fw;simp[hd]
theorem Dj(k:Nat)(hk:3<=k)(C:Int)(ns:List Int){i:Nat}(hi:i<4)(acc:av)(ha:acc.length<=100)(o4 o5 o6:Ent):∃(d:Kd) (o4' o5' o6':Ent),iG (run bg (k+1)) [.val (vq ns),.val (NM C),.own acc,.val (iN i),o4,o5,o6]=some (.nx [.val (vq ns),.val (NM C),.own (acc++[da (vH C i,d)]),.val (iN i),o4',o5',o6'])/\tQ (dM d):=by
 obtain⟨S,hS⟩:∃S,S=vq ns:=⟨_,rfl⟩
 have kl:run bg (k+1) "_law_cell_at" [S,.int ((1+i:Nat):Int)]=some (.val (.int (cell ns (1+i)))):=by rw[hS];exact C6 k ns (1+i)
 have hn:=LX C (q:=i) (by lia)
 obtain⟨NN,UB⟩:∃NN,NN=NM C:=⟨_,rfl⟩
 rw[<-UB]at hn;rw[<-UB,<-hS];have h1:cI (.int 1) (iN i)=some (.int ((1+i:Nat):Int)):=by
  show cI (.int 1) (.int (i:Int))=_;rw[nq];exact c9 (λz=>some (PV.int z)) (by lia)
 obtain⟨m,hm⟩:∃m,m=yh (cell ns (1+i)) i:=⟨_,rfl⟩
 have YM:=yi k (cell ns (1+i)) (i:=i) hi;rw[<-hm]at YM;have fs:=O3 m;have VP:=O4 k m;obtain⟨s,hs⟩:∃s,s=G3 m:=⟨_,rfl⟩
 rw[<-hs]at fs VP;unfold iG;by_cases hc:m/64%4=0
 ·refine⟨.ow s,.val (.int m),.val (enc s),o6,?_,fs⟩;refine sq (eS:=[.val S,.val NN,.own acc,.val (iN i),.val (.int m),o5,o6]) (aS (gE (cA (gE (cA rfl (cA (b2 rfl rfl h1) rfl)) rfl kl rfl) (cA rfl rfl)) rfl YM rfl) rfl) ?_;refine sq (eS:=[.val S,.val NN,.own acc,.val (iN i),.val (.int m),.val (enc s),o6]) (aS (gE (cA rfl rfl) rfl VP rfl) rfl) ?_;refine sq (eS:=[.val S,.val NN,.own acc,.val (iN i),.val (.int m),.val (enc s),o6]) (iF (bT (b2 (x:=.int (m/64%4)) (y:=.int 0) (b2 (b2 (x:=.int m) rfl rfl (Uq (by decide))) rfl (jM (by decide))) rfl (by rw[xK,eO hc];rfl))) rfl) ?_
  exact mA rfl (tU (cA (b2 (x:=NN) (y:=.int (i:Int)) rfl rfl hn) (cA rfl rfl)) (by simp)) (by lia)
 ·have hp:=ET s k (by have:=fs.1.1.2;lia) (by have:=fs.1.1.1;lia)
  obtain⟨r,hr,hra⟩:=OX (tab s) jg (m/512) (xP s);have hz:0<(((tab s).map jg).length:Int):=by have:=xP s;rw[aH];lia
  obtain⟨T,hT⟩:∃T,T=(tab s).map jg:=⟨_,rfl⟩
  rw[<-hT]at hp hra hz;obtain⟨b,hb⟩:∃b:Bool,bL (.aA [.str "lent",.str "sole"]) (.int (m/256%2))=some (.str (hw b)):=by
   have:m/256%2=0\/m/256%2=1:=by lia
   rcases this with h | h
   ·rw[h];exact⟨false,rfl⟩
   ·rw[h];exact⟨true,rfl⟩
  refine⟨.ho b r.2.2.2,.val (.int m),.val (jf (.ho b r.2.2.2)),.val (.aA T),?_,LC fs hr⟩;refine sq (eS:=[.val S,.val NN,.own acc,.val (iN i),.val (.int m),o5,o6]) (aS (gE (cA (gE (cA rfl (cA (b2 rfl rfl h1) rfl)) rfl kl rfl) (cA rfl rfl)) rfl YM rfl) rfl) ?_;refine sq (eS:=[.val S,.val NN,.own acc,.val (iN i),.val (.int m),.val (enc s),o6]) (aS (gE (cA rfl rfl) rfl VP rfl) rfl) ?_;refine sq (eS:=[.val S,.val NN,.own acc,.val (iN i),.val (.int m),.val (jf (.ho b r.2.2.2)),.val (.aA T)]) (iT (bT (b2 (x:=.int (m/64%4)) (y:=.int 0) (b2 (b2 (x:=.int m) rfl rfl (Uq (by decide))) rfl (jM (by decide))) rfl (by rw[xK,dY hc];rfl))) ?_) ?_
  ·refine sq (eS:=[.val S,.val NN,.own acc,.val (iN i),.val (.int m),.val (enc s),.val (.aA T)]) (aS (gE (cA rfl rfl) rfl hp rfl) rfl) ?_;exact aS (tU (cA (b2 (x:=.aA [.str "lent",.str "sole"]) rfl (b2 (b2 (x:=.int m) rfl rfl (Uq (by decide))) rfl (jM (by decide))) hb) (cA (b2 (b2 (x:=.aA T) rfl (b2 (b2 (x:=.int m) rfl rfl (Uq (by decide))) (show ot (dq eF (af (rd 6) ar)) _=some (.int (T.length:Int))from rfl) (jM hz)) hra) rfl rfl) rfl)) (by simp)) rfl
  ·exact mA rfl (tU (cA (b2 (x:=NN) (y:=.int (i:Int)) rfl rfl hn) (cA rfl rfl)) (by simp)) (by lia)
theorem pJ(k:Nat)(hk:3<=k)(C:Int)(ns:List Int):∀(L:List Nat) (acc:List Rk) (o3 o4 o5 o6:Ent),(∀i∈L,i<4)->acc.length+L.length<=100 ->
  ∃(R:List Rk) (YB o4' o5' o6':Ent),eZ (aD 3) (iG (run bg (k+1))) (L.map fun(i:Nat)=>.int (0+(i:Int))) [.val (vq ns),.val (NM C),.own (acc.map da),o3,o4,o5,o6]=some (.nx [.val (vq ns),.val (NM C),.own ((acc++R).map da),YB,o4',o5',o6'])/\R.map (·.1)=L.map (vH C)/\∀r∈R,tQ (dM r.2)
 | [],acc,o3,o4,o5,o6,_,_=>⟨[],o3,o4,o5,o6,by rw[dE];rfl,rfl,λ_ h=>nomatch h⟩
 | i::L,acc,o3,o4,o5,o6,hL,hz=>by
  rw[aW]at hz;obtain⟨d,p4,p5,p6,e1,f1⟩:=Dj k hk C ns (hL i bE) (acc.map da) (by rw[aH];lia) o4 o5 o6
  obtain⟨R,q3,q4,q5,q6,e2,e3,f2⟩:=pJ k hk C ns L (acc++[(vH C i,d)]) (.val (iN i)) p4 p5 p6 (λj hj=>hL j (bx _ hj)) (by rw[bY,List.length_singleton];lia)
  refine⟨(vH C i,d)::R,q3,q4,q5,q6,?_,by rw[bC,bC,e3],λr hr=>?_⟩
  ·rw[iK]at e2;rw[bC,show(PV.int (0+(i:Int)))=iN i by rw[lT];rfl]
   rw[dO]at e2;exact fC (d6:=[.val (vq ns),.val (NM C),.own (acc.map da),.val (iN i),o4,o5,o6]) rfl e1 e2
  ·rcases aZ.mp hr with rfl | hr
   ·exact f1
   ·exact f2 r hr
theorem LY(k:Nat)(hk:3<=k)(C:Int)(ns:List Int):∃(R:List Rk) (n:Nat),run bg (k+2) "_law_params" [vq ns,NM C]=some (.own (R.map da))/\R.map (·.1)=(List.range n).map (vH C)/\n<=4/\∀r∈R,tQ (dM r.2):=by
 have kl:run bg (k+1) "_law_cell_at" [vq ns,.int 5]=some (.val (.int (cell ns 5))):=C6 k ns 5;have YM:=yi k (cell ns 5) (i:=0) (by decide)
 obtain⟨n,hn⟩:∃n:Nat,1+yh (cell ns 5) 0%4=(n:Int):=⟨(1+yh (cell ns 5) 0%4).toNat,by lia⟩
 have h4:n<=4:=by lia
 obtain⟨R,q3,q4,q5,q6,e,e1,f⟩:=pJ k hk C ns (List.range n) [] .un .un .un .un (λi hi=>by have:=du.mp hi;lia) (by rw[fQ];simp;lia)
 refine⟨R,n,?_,e1,h4,f⟩;rw[An,bO];rw[gW]at e;have hr:jU (af (ak (kI 1) (ak (aK (aX 2 (run bg (k+1) "_law_mixed")) (af (aK (aX 2 (run bg (k+1) "_law_cell_at")) (af (rd 0) (af (kI 5) ar))) (af (kI 0) ar))) (kI 4) fP) cI) ar) [.val (vq ns),.val (NM C),.own [],.un,.un,.un,.un]=some ((List.range n).map fun(i:Nat)=>.int (0+(i:Int))):=by
  have:=jG (ts:=af (ak (kI 1) (ak (aK (aX 2 (run bg (k+1) "_law_mixed")) (af (aK (aX 2 (run bg (k+1) "_law_cell_at")) (af (rd 0) (af (kI 5) ar))) (af (kI 0) ar))) (kI 4) fP) cI) ar) (ρ:=[.val (vq ns),.val (NM C),.own [],.un,.un,.un,.un]) (j:=(n:Int)) (cA (b2 rfl (b2 (gE (cA (gE (cA rfl (cA rfl rfl)) rfl kl rfl) (cA rfl rfl)) rfl YM rfl) rfl (jM (by decide))) (by rw[nq,hn])) rfl) (by lia)
  rw[eM]at this;exact this
 exact GC (sq (sO rfl (by simp)) (sq (fS hr e) (CL rfl)))
theorem YN:pU (.int 10) (.int 12)=some (.int (10^12)):=by
 rw[sI,if_pos (by decide)]
 rfl
theorem YO:pU (.int 10) (.int 22)=some (.int (10^22)):=by
 rw[sI,if_pos (by decide)]
 rfl
theorem YQ:pU (.int 10) (.int 30)=some (.int (10^30)):=by
 rw[sI,if_pos (by decide)]
 rfl
theorem G9(ns:List Int):∃cs:List Int,jW (ns.map PV.int) (some 8) (some 39)=cs.map .int/\cs.length<=31:=by
 have e1:=HT.wC (ns.map PV.int).length 0 8;have e2:=HT.wC (ns.map PV.int).length (ns.map PV.int).length 39;unfold jW;rw[show(some 8:Option Int)=some ((8:Nat):Int)from rfl,show(some 39:Option Int)=some ((39:Nat):Int)from rfl,e1,e2,<-List.map_drop,<-List.map_take]
 exact⟨_,rfl,by rw[iL];lia⟩
def Dl(c:Int):Int:=yh c 0*(c%10^22)%10^30
theorem UC(k:Nat)(ns:List Int):∃is:List Int,run bg (k+2) "_law_rows" [vq ns]=some (.val (.aI (dU is)))/\is.length<=31:=by
 obtain⟨cs,hcs,hl⟩:=G9 ns;refine⟨cs.map Dl,?_,by rw[aH];exact hl⟩
 rw[GR,bO];obtain⟨S,hS⟩:∃S,S=vq ns:=⟨_,rfl⟩
 have adj:PQ (some 8) (some 39) S=some (.aA (cs.map .int)):=by
  rw[hS];show some (PV.aA (jW (ns.map .int) (some 8) (some 39)))=_;rw[hcs]
 rw[<-hS];have hm:∀c:Int,gT (.int (yh c 0)) (.int (c%10^22))=some (.int (yh c 0*(c%10^22))):=λc=>by
  have h0:=Lz c 0;have h1:yh c 0<2147483647:=lN _ (by decide)
  rw[z6];exact if_pos (.inl ⟨by unfold Jd;lia,by unfold Jd;lia⟩)
 have e:(cs.map Dl).map Df=cs.map λc=>Df (Dl c):=by rw[eP];rfl
 have hc:cB (dI [none,none] (dz (cutE (rd 0) (e9 (kI 8)) (e9 (kI 39)))) (aD 1) (cj (af (kS "say") (af (ak (ak (aK (aX 2 (run bg (k+1) "_law_mixed")) (af (rd 1) (af (kI 0) ar))) (ak (rd 1) (ak (kI 10) (kI 22) pU) fP) gT) (ak (kI 10) (kI 30) pU) fP) ar)))) [.val S,.un]=some (.aA ((cs.map Dl).map Df)):=by
  rw[e];refine fF (cV (ps:=cs.map .int) (sV (p:=.aA (cs.map .int)) adj rfl) (by rw[aH];lia) (ez λc _=>?_))
  have t:aD 1 (.int c) (bM [none,none] [.val S,.un])=some [.un,.val (.int c)]:=rfl;rw[t,aY];exact tU (cA rfl (cA (b2 (b2 (gE (cA rfl (cA rfl rfl)) rfl (yi k c (i:=0) (by decide)) rfl) (b2 rfl (b2 rfl rfl YO) (jM (by decide))) (hm c)) (b2 rfl rfl YQ) (jM (by decide))) rfl)) (by simp)
 refine eW (sq (eS:=[.val S,.val (.aA ((cs.map Dl).map Df))]) (aS hc rfl) (rS (bV (as:=[.aA (dU (cs.map Dl))]) (cA (b2 (x:=.aA ((cs.map Dl).map Df)) rfl (fF (lS (cA (tU (cA rfl (cA rfl rfl)) (by simp)) rfl) (by simp))) (aL (by simp;lia))) rfl) rfl)))
theorem LZ(ns:List Int)(h:ns.length<=63):run bg 30 "law" [vq ns]=some (.val (.bl true)):=by
 obtain⟨C,hC⟩:∃C,C=cell ns 0%10^12:=⟨_,rfl⟩
 have hn:=O2 28 C;obtain⟨R1,n,hpa,hnm,hn4,M3⟩:=LY 27 (by lia) C ns
 have hRl:R1.length=n:=by
  have:=c9 List.length hnm
  rwa [aH,aH,fQ]at this
 have hRn:(R1.map (·.1)).Nodup:=by
  rw[hnm];unfold List.Nodup;rw[qD];have:(List.range n).Nodup:=qE;exact List.Pairwise.imp_of_mem (λ{a b} ha hb hne e=>hne (O1 (by have:=du.mp ha;lia) (by have:=du.mp hb;lia) e)) this
 have hRx:∀r∈R1,(r.1==(Str.ofString ""))=false/\Txt.isdigit r.1=false:=λr hr=>by
  have:r.1∈R1.map (·.1):=bt.mpr ⟨r,hr,rfl⟩;rw[hnm]at this;obtain⟨q,_,e⟩:=bt.mp this;rw[<-e];exact⟨Uw C q,Pc C q⟩
 have hRk:∀r∈R1,Aq (dM r.2):=λr hr=>(M3 r hr).1.1
 have hR3:∀r∈R1,yo r.2<=3:=λr hr=>(M3 r hr).2
 obtain⟨is,L0,adn⟩:=UC 27 ns;obtain⟨F0,hF0⟩:∃F0,F0=PV.aI [.str (vH C 11),.aI [],.cE,.aI [],.aI [.aI [.str "give",.str ""]]]:=⟨_,rfl⟩
 obtain⟨told,t1,t2,t3,t4⟩:=O8 29 (by decide) (F0:=F0) (nm:=.str (vH C 10)) (res:=.cE) (R1:=R1) (is:=is) adn hRk hRn hR3 (by lia) hRx
 have QK:∀q∈told,∃n p,q.1=kH n p/\n<is.length+1/\p∈vI 0 R1:=λq hq=>by
  obtain⟨i,hi⟩:=lM hq;obtain⟨n,p,e,_,e1,e2⟩:=t3 i q.1 q.2 hi;exact⟨n,p,e,e1,e2⟩
 have hD:=LN (i:=0) hRn;have zm:=yn (i:=0) hR3;have htl:=told_len (N:=is.length+1) hD t2 QK t4;have htb:told.length<=32*12:=by
  rw[htl];exact Nat.mul_le_mul (by lia) (by lia)
 have UD:=YL 27 (by decide) hRk hRn (by lia)
 obtain⟨D,hDD⟩:∃D,D=vI 0 R1:=⟨_,rfl⟩
 rw[<-hDD]at t3 t4 UD htl;obtain⟨S,hS⟩:∃S,S=vq ns:=⟨_,rfl⟩
 have hc0:run bg 29 "_law_cell_at" [S,.int 0]=some (.val (.int (cell ns 0))):=by rw[hS];exact C6 28 ns 0
 obtain⟨NN,UB⟩:∃NN,NN=NM C:=⟨_,rfl⟩
 have n10:bL NN (.int 10)=some (.str (vH C 10)):=by rw[UB];exact LX C (q:=10) (by decide)
 have n11:bL NN (.int 11)=some (.str (vH C 11)):=by rw[UB];exact LX C (q:=11) (by decide)
 rw[hC]at hn;have fN:l0 (.own ((List.range 12).map λq=>.str (vH (cell ns 0%10^12) q)))=some NN:=by rw[UB,hC];rfl
 rw[<-UB]at hpa;have hl:(dU is).length=is.length+1:=by simp
 obtain⟨rows,hrw⟩:∃rows,rows=dU is:=⟨_,rfl⟩
 rw[<-hrw]at hl L0 t1;rw[<-hS]at hpa L0;obtain⟨L1,hL1⟩:∃L1,L1=PV.aA (R1.map da):=⟨_,rfl⟩
 rw[<-hL1]at UD;have fL:l0 (.own (R1.map da))=some L1:=by rw[hL1];rfl
 obtain⟨x7,hx7⟩:=AG (told:=told) (D:=D) (N:=is.length+1) 27 (v0:=S) (v1:=NN) (v2:=L1) (v4:=F0) (rows:=rows) hl t3 (List.range told.length) .un λi hi=>du.mp hi
 rw[OT,bO,<-hS];show gf (Lk (run bg 29) [.val S,.un,.un,.un,.un,.un,.un,.un])=_;refine eW ?_;unfold Lk;refine sq (eS:=[.val S,.val NN,.un,.un,.un,.un,.un,.un]) (aS (p:=NN) (gE (cA (b2 (gE (cA rfl (cA rfl rfl)) rfl hc0 rfl) (b2 rfl rfl YN) (jM (by decide))) (cA rfl rfl)) rfl hn fN) rfl) ?_
 refine sq (eS:=[.val S,.val NN,.val L1,.un,.un,.un,.un,.un]) (aS (p:=L1) (gE (cA rfl (cA rfl rfl)) rfl hpa fL) rfl) ?_;refine sq (eS:=[.val S,.val NN,.val L1,.val (.aI rows),.un,.un,.un,.un]) (aS (p:=.aI rows) (gE (cA rfl rfl) rfl L0 rfl) rfl) ?_;refine sq (eS:=[.val S,.val NN,.val L1,.val (.aI rows),.val F0,.un,.un,.un]) (aS (p:=F0) ?_ rfl) ?_
 ·rw[hF0];exact tU (cA (b2 (x:=NN) rfl rfl n11) (cA rfl (cA rfl (cA rfl (cA rfl rfl))))) (by simp)
 refine sq (eS:=[.val S,.val NN,.val L1,.val (.aI rows),.val F0,.val (.aA (told.map toldP)),.un,.un]) (aS (p:=.aA (told.map toldP)) (gE (as:=[.aI [F0,xZ (.str (vH C 10)) .cE (.aI rows) R1 []],.int 1]) (cA (tU (cA rfl (cA (tU (cA (b2 (x:=NN) rfl rfl n10) (cA (x:=.aI (R1.map da)) (bV (as:=[.aA (R1.map da)]) (cA (by rw[hL1];rfl) rfl) rfl) (cA rfl (cA rfl (cA rfl rfl))))) (by simp)) rfl)) (by simp)) (cA rfl rfl)) rfl t1 rfl) rfl) ?_
 refine sq (eS:=[.val S,.val NN,.val L1,.val (.aI rows),.val F0,.val (.aA (told.map toldP)),.un,.un]) (iF (nB (b:=true) (bT (fa:=DX .list (rd 5)) rfl)) rfl) ?_;refine sq (eS:=LW S NN L1 F0 rows told D .un) (sQ (as:=[L1]) (cA rfl rfl) rfl UD (by simp)) ?_
 have hr:jU (af (dq eF (af (rd 5) ar)) ar) (LW S NN L1 F0 rows told D .un)=some ((List.range told.length).map fun(i:Nat)=>PV.int (0+(i:Int))):=by
  have:=jG (ts:=af (dq eF (af (rd 5) ar)) ar) (ρ:=LW S NN L1 F0 rows told D .un) (j:=(told.length:Int)) (cA (bV (as:=[.aA (told.map toldP)]) (cA rfl rfl) (by rw[sJ,aH])) rfl) (by lia)
  rw[eM]at this;exact this
 refine sq (fS hr hx7) (rS ?_);have cD:dq eF (af (rd 5) ar) (LW S NN L1 F0 rows told D x7)=some (.int (told.length:Int)):=bV (as:=[.aA (told.map toldP)]) (cA rfl rfl) (by rw[sJ,aH])
 refine LJ (b:=true) (c:=true) (b2 (x:=.int (told.length:Int)) ?_ cD (by rw[jE,eO rfl])) λ_=>b2 cD (b2 (x:=.int ((kd D).length:Int)) (y:=.int (rows.length:Int)) rfl rfl (jF (by lia))) ?_
 ·have hk:cB (dI [none,none] (dz (rd 5)) (aD 1) (cutE (rd 1) Hb (e9 (kI 5)))) (LW S NN L1 F0 rows told D x7)=some (.aA (told.map λt=>fG t.1)):=by
   refine fF (cV (ps:=told.map toldP) (sV (p:=.aA (told.map toldP)) rfl rfl) (by rw[aH];lia) (ez λq hq=>?_))
   obtain⟨n,p,e,_⟩:=QK q hq;have e':q=(kH n p,q.2):=lX e rfl;rw[e'];rfl
  unfold Oe;rw[hk,aY];show(factsOf (told.map λt=>fG t.1)).bind _=_
  rw[AH λq hq=>by
   obtain⟨n,p,e,_⟩:=QK q hq;exact⟨n,p,e⟩,aY,aH]
  exact if_pos ⟨t2,by lia⟩
 ·rw[jE,eO];unfold kd;rw[aH,hl,htl]
  push_cast
  exact Int.mul_comm _ _
end cu
namespace cu
open PySem L2 L2.PL
noncomputable def adp:List Pos:=[⟨49,11,49,17⟩,⟨49,19,49,27⟩,⟨50,4,50,8⟩,⟨50,11,50,13⟩,⟨50,4,50,13⟩,⟨51,4,51,9⟩,⟨51,12,51,14⟩,⟨51,4,51,14⟩,⟨52,4,52,12⟩,⟨52,13,52,17⟩,⟨52,19,52,24⟩,⟨52,26,52,32⟩,⟨52,35,52,36⟩,⟨52,34,52,36⟩,⟨52,4,52,37⟩,⟨52,4,52,37⟩,⟨53,4,53,5⟩,⟨53,8,53,9⟩,⟨53,4,53,9⟩,⟨54,10,54,11⟩,⟨54,14,54,17⟩,⟨54,18,54,22⟩,⟨54,14,54,23⟩,⟨54,10,54,23⟩,⟨55,8,55,16⟩,⟨55,17,55,21⟩,⟨55,23,55,28⟩,⟨55,30,55,38⟩,⟨55,39,55,43⟩,⟨55,44,55,45⟩,⟨55,39,55,46⟩,⟨55,49,55,50⟩,⟨55,48,55,50⟩,⟨55,47,55,50⟩,⟨55,39,55,51⟩,⟨55,30,55,52⟩,⟨55,54,55,55⟩,⟨55,8,55,56⟩,⟨55,8,55,56⟩,⟨56,8,56,9⟩,⟨56,13,56,14⟩,⟨56,8,56,14⟩,⟨54,4,56,14⟩,⟨57,11,57,15⟩,⟨57,4,57,15⟩,⟨49,0,57,15⟩]
noncomputable def adq:List Pos:=[⟨58,13,58,17⟩,⟨58,19,58,24⟩,⟨58,26,58,31⟩,⟨58,33,58,37⟩,⟨59,8,59,12⟩,⟨59,16,59,21⟩,⟨60,11,60,15⟩,⟨60,23,60,28⟩,⟨60,11,60,28⟩,⟨61,12,61,17⟩,⟨61,18,61,22⟩,⟨61,12,61,23⟩,⟨61,26,61,30⟩,⟨61,12,61,30⟩,⟨62,12,62,16⟩,⟨62,12,62,23⟩,⟨62,24,62,28⟩,⟨62,32,62,36⟩,⟨62,31,62,38⟩,⟨62,24,62,38⟩,⟨62,12,62,39⟩,⟨62,12,62,39⟩,⟨60,8,62,39⟩,⟨59,4,62,39⟩,⟨58,0,62,39⟩]
theorem ads:KH bg:=⟨by kernel_rfl,.inr ⟨λi=>adp.getD i ⟨0,0,0,0⟩,λi=>adq.getD i ⟨0,0,0,0⟩,by kernel_rfl,by kernel_rfl,by kernel_rfl,by kernel_rfl⟩⟩
end cu
open PySem PySem.W PyProof.Rows PySem.Calls
theorem PySem.Challenge.cw_lendrule_k30_what_params_hold_holds : PySem.Challenge.rw_lendrule_k30_what_params_hold.Holds := by
 exact cu.fin λd h1 h2=>L2.PL.Gy (P:=cu.bg) (N:=30) (st:=cu.HV) (x:="_law_script") (l:=PySem.Challenge.rw_lendrule_k30_what_params_hold) (by kernel_rfl) (by kernel_rfl) rfl h1 h2 ⟨rfl,by decide,by decide⟩ cu.ads (λw h Y=>Y) cu.LZ
end
