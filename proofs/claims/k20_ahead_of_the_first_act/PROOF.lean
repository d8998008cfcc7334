import PyProof.Rows.All
import Wide.All
import OpenK.AllK
import Wide.FinOn
import Lean
import PyProof.EqAt
import PyProof.EqKinds
import PyProof.TupleCall
import PyProof.NeKinds
import PySem.Challenge.RW_lendrule_k20_ahead_of_the_first_act
set_option Elab.async false
set_option linter.all false
set_option maxRecDepth 100000
noncomputable section
section
open PySem PySem.Spec PyProof.Rows
def Gr:=@List.findIdx?_eq_some_iff_getElem
def nq:=@PyProof.Rows.slot_tuple_getitem
def Gs:=@List.length_filterMap_eq_countP
def zG:=@PyProof.Rows.callWith_builtin1
def Gu:=@List.eq_nil_of_length_eq_zero
def Gv:=@F.args_tuple_iterator_next_1
def Gw:=@PySem.F.slot_dict_setdefault
def uD:=@Array.getD_eq_getD_getElem?
def jL:=@PyProof.Rows.callWith_type1
def Gx:=@F.entry_tuple_iterator_next
def gP:=@List.getElem?_append_right
def Gy:=@Array.toList_setIfInBounds
def Gz:=@wpAny_newFunctionEnv_cells
def zH:=@List.getD_eq_getElem?_getD
def uE:=@F.slot_tuple_iterator_next
def GA:=@Calls.Name_function_global
def pJ:=@Array.getElem?_eq_getElem
def pK:=@List.getElem?_eq_none_iff
def cL:=@List.getElem?_eq_some_iff
def uF:=@Classical.byContradiction
def fX:=@List.getElem?_append_left
def zI:=@PySem.F.args_tuple_add_2
def jM:=@AutoSeq1.wpAny_loadPart'
def zJ:=@PySem.F.slot_list_append
def cx:=@List.getElem?_eq_getElem
def zK:=@Option.isSome_iff_exists
def zL:=@PySem.F.type_list_append
def uG:=@F.entry_set_update_loop
def jN:=@wpAny_callSpecial?_slot
def zM:=@PySem.F.entry_tuple_add
def jO:=@List.getElem?_replicate
def uH:=@Option.bind_eq_some_iff
def nr:=@PySem.F.plainAttrs_list
def zN:=@List.getElem?_cons_succ
def nt:=@F.plain_set_update_loop
def zO:=@Heap.get?_update_other
def nu:=@List.take_of_length_le
def zP:=@Array.toList_filterMap
def zQ:=@Calls.callWith_builtin
def zR:=@Array.getElem?_eq_none
def bW:=@List.getElem?_set_self
def je:=@Option.map_eq_some_iff
def zS:=@PySem.F.slot_tuple_add
def bR:=@Heap.get?_push_of_some
def zT:=@Obj.isFreed_of_fields
def gz:=@Array.getElem?_toList
def jf:=@List.getElem?_eq_none
def uI:=@Heap.get?_update_self
def jP:=@List.length_replicate
def eG:=@List.mem_append_right
def zU:=@List.mem_of_mem_take
def bE:=@List.mem_cons_of_mem
def bj:=@List.getElem?_set_ne
def iB:=@List.mem_append_left
def jg:=@List.getElem?_of_mem
def b9:=@List.mem_of_getElem?
def pM:=@Around.under_plainId
def dj:=@Heap.get?_push_size
def pN:=@List.map_congr_left
def zV:=@List.filterMap_cons
def lu:=@beq_eq_false_iff_ne
def eY:=@Array.length_toList
def uJ:=@Int.toNat_of_nonneg
def zW:=@List.length_flatMap
def jQ:=@List.getElem?_range
def dJ:=@PySem.mem_of_lookup
def jh:=@Heap.SameBut.update
def cy:=@Nat.lt_of_lt_of_le
def jR:=@Nat.lt_of_le_of_lt
def nv:=@Int.emod_lt_of_pos
def lx:=@wpAny_Call_Name_kw
def ny:=@Obj.data_mapFields
def ly:=@List.mem_filterMap
def dW:=@List.mem_singleton
def bz:=@List.mem_cons_self
def gQ:=@Bool.false_ne_true
def bX:=@List.length_append
def zX:=@tupleKind_room_in1
def zY:=@List.pairwise_cons
def d8:=@Bool.false_eq_true
def fY:=@List.length_range
def iC:=@List.map_inj_left
def bU:=@List.getElem?_map
def zZ:=@wpAny_storeSet_of
def pO:=@Classical.not_not
def z0:=@Obj.cls_mapFields
def fZ:=@List.append_assoc
def f6:=@wpAny_setState_of
def nz:=@Nat.lt_succ_of_lt
def lz:=@List.flatMap_cons
def pQ:=@of_decide_eq_true
def uK:=@wpAny_pyIter_list
def Aa:=@Option.isSome_map
def eZ:=@Int.toNat_natCast
def ji:=@wpAny_truthy_bool
def jk:=@decide_eq_true_eq
def Ab:=@PassesOwn.leaving
def iD:=@wpAny_newObj_type
def bh:=@List.size_toArray
def uL:=@List.nodup_append
def uM:=@List.reverse_cons
def uN:=@List.pairwise_map
def uO:=@List.getElem_mem
def bo:=@Option.bind_some
def uP:=@List.nodup_range
def iE:=@List.lookup_cons
def Ac:=@Bool.not_eq_true
def iG:=@wpAny_call_entry
def dt:=@List.all_eq_true
def uQ:=@Nat.lt_succ_self
def pS:=@beq_self_eq_true
def lA:=@List.length_drop
def gR:=@List.length_take
def aG:=@Bool.and_eq_true
def gA:=@List.mem_flatMap
def Ad:=@Option.getD_none
def dB:=@List.not_mem_nil
def Ae:=@wpAny_forIn_list
def jS:=@Around.in1_units
def Af:=@wpAny_isInstance
def Ag:=@wpAny_askSetting
def Ah:=@List.drop_length
def Ai:=@noFill_tuple_add
def Aj:=@Nat.min_eq_right
def aZ:=@List.length_cons
def Ak:=@Nat.le_of_not_lt
def gS:=@List.nil_append
def c9:=@List.map_append
def pT:=@List.length_nil
def jT:=@Int.emod_nonneg
def lB:=@codeAny_builtin
def nA:=@Option.map_some
def Al:=@Nat.min_eq_left
def lC:=@wpAny_passesOwn
def nC:=@Nat.not_lt_zero
def aB:=@List.length_map
def Am:=@codeAny_of_tree
def e9:=@decide_eq_false
def dM:=@List.mem_append
def cY:=@List.nodup_cons
def uR:=@List.of_mem_zip
def fH:=@List.append_nil
def An:=@List.mem_filter
def bg:=@Option.some.inj
def gT:=@List.length_set
def nD:=@List.find?_cons
def uS:=@wpAny_execs_nil
def Ao:=@wpAny_ite_split
def uT:=@wpAny_seqItems
def nE:=@List.nodup_nil
def uU:=@PySem.boot_len
def uV:=@Bool.and_false
def jl:=@Heap.size_push
def fg:=@decide_eq_true
def pU:=@wpAny_setField
def cZ:=@List.mem_range
def gU:=@Nat.lt_irrefl
def aX:=@List.mem_cons
def gB:=@List.all_cons
def f7:=@wpAny_holding
def jU:=@Prod.mk.injEq
def uW:=@Paired.length
def pV:=@Bool.not_true
def bJ:=@List.map_cons
def uX:=@List.any_cons
def jm:=@Int.zero_add
def aY:=@List.mem_map
def nF:=@Nat.ne_of_gt
def dX:=@List.map_map
def b8:=@Nat.ne_of_lt
def gC:=@Nat.zero_add
def uY:=@Nat.succ_mul
def iH:=@Nat.le_of_lt
def nG:=@Nat.le_of_eq
def pW:=@wpAny_typeOf
def bA:=@Heap.lt_size
def bY:=@Nat.le_trans
def jn:=@codeAny_mono
def pX:=@List.map_nil
def uZ:=@IsRange.new
def dY:=@Nat.zero_le
def pY:=@Nat.le_succ
def aR:=@Nat.le_refl
def jV:=@wpAny_field
def nH:=@call_meets
def ai:=@wpAny_bind
def pZ:=@wpAny_call
def jW:=@Nat.mod_lt
def p3:=@wpAny_rule
def lD:=@wpAny_mono
def aw:=@wpAny_pure
def bq:=@eq_of_beq
def dC:=@or_false
def du:=@if_false
def dw:=@congrArg
def eH:=@if_true
def dN:=@Ne.symm
abbrev cf:=Value->Shared->Prop
abbrev dy:=Str->Option Value
abbrev b6:=List Value
abbrev lE:=Option Value
abbrev ah:=PySem.W.Frag
abbrev aq:=PySem.Shared
abbrev ag:=PySem.Value
abbrev ab:=PySem.Addr
abbrev aj:=PySem.Expr
abbrev az:=PySem.Stmt
abbrev aM:=PySem.World
abbrev bD:=PySem.Around
abbrev bc:=PySem.Program
abbrev dk:=PySem.FuncData
end
namespace ou
end ou
section
namespace L2
open PySem PySem.Spec PyProof.Rows
abbrev bQ:=Sum Int Str
inductive V where
  | cM | bl (b:Bool) | int (i:Int) | str (x:Str) | Tz (b:Array UInt8) | YS (b:UInt64) | ref (a:ab) | ty (n:String)
  deriving DecidableEq
def RelV:V->ag->Prop
  | .cM,u=>u=Value.none
  | .bl b,u=>u=Value.bool b
  | .int i,u=>∃t,u=Value.int i t
  | .str x,u=>∃t,u=Value.str x t
  | .Tz b,u=>∃t,u=Value.bytes b t
  | .YS b,u=>∃t,u=Value.float b t
  | .ref a,u=>u=Value.ref a
  | .ty n,u=>u=Value.type n
abbrev Vals:List V->b6->Prop:=Paired RelV
inductive HO where
  /-- a list -/
  | ay (xs:List V)
  /-- a tuple (never Xg) -/
  | aJ (xs:List V)
  /-- a dict TC keys are ints and TF;one TC keys are tuples of ints and TF (NX empty one is acP) -/
  | dK (kvs:List (bQ×V)) | dT (xs:List (List bQ×ab×ag))
  /-- a set of ints: aN Xh,aN size -/
  | set (S:Int->Bool) (n:Nat)
  /-- an instance of NX class at C,aN dict at dx,aN Pn -/
  | Po (C dx:ab) (fs:List (Str×V))
  /-- NX dict of NX instance at x -/
  | own (x:ab)
  /-- NX dict of an S4 -/
  | xd (fs:List (Str×V))
  /-- a bound method,f of x -/
  | GB (f x:ab)
  /-- a range GC lo,lo+1,.. below hi -/
  | YT (lo hi:Int)
  /-- a TJ acQ is abG to NX GC (NX YU;a dict while a loop abH it): acR,never written while it is so -/
  | k0 (o:Obj) (u:HO)
  /-- a code TK table -/
  | wX (q:Str)
  /-- any other TJ,by what is true of aN one GC (a def of abI own: acS a S n:=HO.ext λh=>..) -/
  | ext (φ:Heap->Prop)
abbrev Hp:=ab->Option HO
def Rd(H:Hp)(a:ab)(u:HO):Prop:=H a=some u\/∃o,H a=some (.k0 o u)
def dD:List Str:=["arrivals","empties","needs","held"]
def gI(K:ah)(H:Hp)(a:ab)(xs:List V):Prop :=
  Rd H a (.aJ xs) \/
    ∃(o:Obj) (aN:Array ag) (n:Nat),K.lookup a=some o/\o.cls=.type "tuple"/\o.data=.seq aN n/\aN.size<=sizeLine/\Vals xs aN.toList
def m8(K:ah)(H:Hp)(a:ab)(xs:List V):Prop :=
  Rd H a (.ay xs)\/∃(aN:b6) (n:Nat),K.lookup a=some {cls:=.type "list",data:=.seq aN.toArray n}/\aN.length<=sizeLine/\Vals xs aN
structure S5 (K:ah) (C:ab):Prop where
  pg:W.plainGet K C Str.empty=true
  hd:W.hasDictIn K C=true
  po:W.plainOver K C=true
  sa:W.findIn K (.ref C) "__setattr__"=some (some (.builtin "object.__setattr__"))
def nI(K:ah)(C:ab)(f:Str):Prop:=W.findIn K (.ref C) f=some none
section
variable {X:Cx} {CX:Cg} {k:Nat} {f C:ab} {fd:dk} {ps:List Str} {sp:Sp} {K4:List V} {ds:b6} {E:XK} {x m:Str} {p pos u0:Pos} {e o:aj} {es:List aj} {ta:TE} {t:TA}
structure Mk (K:ah) (C f:ab):Prop where
  makes:W.makesIn K C=true
  init:W.findIn K (.ref C) "__init__"=some (some (.ref f))
  fn:W.isFn K (.ref f)=true
  kp:W.keepIn K (.ref C)=true
end
structure dA (N P:List Str) (sc:Scope):Prop where
  kind:sc.kind=.function
  co:sc.isCoroutine=false
  gen:sc.isGenerator=false
  nd:N.Nodup
  pre:N.take P.length=P
  par:∀x∈P,sc.names.lookup x=some .local\/sc.names.lookup x=some .cell
  nofree:∀y∈sc.names,y.2≠.free
def il(s:az):Arguments:=match s with
  | .FunctionDef _ a _ _ _ _ _ _ _ _=>a
  | _=>{posonlyargs:=[],args:=[],vararg:=none,kwonlyargs:=[],kw_defaults:=[],kwarg:=none,defaults:=[]}
def cw(s:az):List az:=match s with
  | .FunctionDef _ _ b _ _ _ _ _ _ _=>b
  | _=>[]
def aH(s:az):Scope:=match s with
  | .FunctionDef _ _ _ _ _ _ sc _ _ _=>sc
  | _=>{kind:=.function,names:=[],isGenerator:=false,isCoroutine:=false}
structure Ap (K:ah) (x qual:Str) (st:az) (f:ab) (fd:dk):Prop where
  ex:∃(oc:ag) (od:Option ab) (kV doc pm:ag) (an:Option ab) (df ct:ag) (rP:Array lE),
    fd=W.fnOf x qual (il st) (cw st) (aH st) .none kV doc pm an df ct/\K.lookup f=some ⟨oc,od,.func fd,rP⟩/\W.codeIn K df qual=true
  kp:W.keepIn K (.ref f)=true
section
variable {P:bc} {w:aM} {K:ah} {mg:dy} {base:Heap}
theorem GD{x qual:Str}{st:az}{f:ab}{oc:ag}{od an:Option ab}{rP:Array lE}{kV doc pm df ct:ag}(l:K.lookup f=some ⟨oc,od,.func (W.fnOf x qual (il st) (cw st) (aH st) .none kV doc pm an df ct),rP⟩)
    (c:W.codeIn K df qual=true) (k:W.keepIn K (.ref f)=true):Ap K x qual st f (W.fnOf x qual (il st) (cw st) (aH st) .none kV doc pm an df ct):=⟨⟨oc,od,kV,doc,pm,an,df,ct,rP,rfl,l,c⟩,k⟩
end
end L2
namespace L2.PL
open PySem PySem.Spec PyProof.Rows
inductive PV where
 | cM | bl (b:Bool) | int (i:Int) | str (x:Str) | aJ (xs:List PV) | ay (xs:List PV)
mutual
def cI(K:ah)(F:Hp):PV->V->Prop
 | .cM,v=>v=.cM
 | .bl b,v=>v=.bl b
 | .int i,v=>v=.int i
 | .str x,v=>v=.str x
 | .aJ ps,v=>∃a vs,v=.ref a/\gI K F a vs/\aP K F ps vs
 | .ay ps,v=>∃a vs,v=.ref a/\m8 K F a vs/\aP K F ps vs
def aP(K:ah)(F:Hp):List PV->List V->Prop
 | [],vs=>vs=[]
 | p::ps,vs=>∃v r,vs=v::r/\cI K F p v/\aP K F ps r
end
section
variable {K:ah} {F F' H H':Hp}
theorem aP.nil:aP K F [] []:=by simp[aP]
theorem aP.cons{p:PV}{ps:List PV}{v:V}{vs:List V}(h:cI K F p v)(t:aP K F ps vs):aP K F (p::ps) (v::vs):=by
 simp only[aP];exact⟨v,vs,rfl,h,t⟩
theorem c8{v:V}:cI K F .cM v↔v=.cM:=by simp only[cI]
theorem bN{b:Bool}{v:V}:cI K F (.bl b) v↔v=.bl b:=by simp only[cI]
theorem aF{i:Int}{v:V}:cI K F (.int i) v↔v=.int i:=by simp only[cI]
theorem cj{i:Str}{v:V}:cI K F (.str i) v↔v=.str i:=by simp only[cI]
theorem bt{ps:List PV}{v:V}:cI K F (.aJ ps) v↔∃a vs,v=.ref a/\gI K F a vs/\aP K F ps vs:=by simp only[cI]
end
def ClsAt(K:ah)(C:Str)(cls:ag):Prop:=W.nsIn K mainGlobals C=some (some cls)
section
variable {X:Cx} {H₀ aa:Hp}
def GF:b6:=[.type "ValueError",.type "Exception",.type "BaseException",.type "object"]
structure YV (K:ah) (C:ab):Prop where
 ga:W.findIn K (.ref C) "__getattribute__"=some (some (.builtin "BaseException.__getattribute__"))
 noHook:W.findIn K (.ref C) "__getattr__"=some none
 cl:W.findIn K (.ref C) "__class__"=some (some (.builtin "object.__class__"))
 get:W.specialIn K (.builtin "object.__class__") "__get__"=some (some (.builtin "getset_descriptor.__get__"))
 takes:W.takesIn K (.builtin "object.__class__")=some true
 obj:W.mroIn K C (.type "object")=some true
 acT:W.mroIn K C (.type "BaseException")=some true
def sM(K:ah)(C:Str):Prop:=∃Ca,ClsAt K C (.ref Ca)/\W.excIn K Ca GF "ValueError.__new__"=true/\YV K Ca
end
structure Pg where
 defs:List (Str×az)
 cons:List (Str×PV)
 dg:List Str
 exc:List Str:=[]
 sub:List ((Str×Str)×Bool):=[]
 tabs:List (Str×List (Str×Str)):=[]
 own:List (Str×List Str):=[]
 bI:List Str:=[]
 obs:List (Str×List Str):=[]
 cls:List (Str×az):=[]
 flds:List Str:=[]
 fy:List (Str×List (Str×PV)):=[]
 lX:List Str:=[]
 NY:List (Str×List Str):=[]
 dct:List (Str×List Str):=[]
 K5:List (Str×List Str):=[]
def params(st:az):List Str:=(il st).args.map λa=>a.arg
def TL:NameKind->Bool
 | .local=>true
 | .cell=>true
 | _=>false
def cb(st:az):List Str:=params st++((aH st).names.filter λy=>TL y.2&&!(params st).contains y.1).map λy=>y.1
structure GG (K:ah) (x:Str) (st:az):Prop where
 ex:∃f fd,W.nsIn K mainGlobals x=some (some (.ref f))/\Ap K x x st f fd/\∀us:b6,us.length=(params st).length->bindArgs fd ⟨us,[]⟩=pure ((params st).zip us)
 sc:dA (cb st) (params st) (aH st)
def Aq(K:ah)(C D:Str)(b:Bool):Prop:=∃cls dv,ClsAt K C cls/\(W.nsIn K mainGlobals D=some (some dv)\/(W.nsIn K mainGlobals D=some none/\bootBuiltins D=some dv/\D≠"__name__"))/\((∃Da,dv=.ref Da)\/∃T,dv=.type T)/\W.exmOne K cls dv=some b/\W.kitOne K cls dv=some b
theorem GH{K:ah}{C D:Str}{b:Bool}{cls:ag}{Da:ab}(a:W.nsIn K mainGlobals C=some (some cls))(d:W.nsIn K mainGlobals D=some (some (.ref Da)))(e:W.exmOne K cls (.ref Da)=some b)(k:W.kitOne K cls (.ref Da)=some b):Aq K C D b:=⟨cls,_,a,.inl d,.inl ⟨_,rfl⟩,e,k⟩
theorem GI{K:ah}{C D:Str}{b:Bool}{cls:ag}{T:String}(a:W.nsIn K mainGlobals C=some (some cls))(d:W.nsIn K mainGlobals D=some none)(v:bootBuiltins D=some (.type T))(n:D≠"__name__")(e:W.exmOne K cls (.type T)=some b)(k:W.kitOne K cls (.type T)=some b):Aq K C D b:=⟨cls,_,a,.inr ⟨d,v,n⟩,.inr ⟨_,rfl⟩,e,k⟩
theorem TM{K:ah}{C:Str}{Ca:ab}(a:W.nsIn K mainGlobals C=some (some (.ref Ca)))(q:W.excIn K Ca GF "ValueError.__new__"=true)(k1:W.findIn K (.ref Ca) "__getattribute__"=some (some (.builtin "BaseException.__getattribute__")))(k2:W.findIn K (.ref Ca) "__getattr__"=some none)
  (k3:W.findIn K (.ref Ca) "__class__"=some (some (.builtin "object.__class__"))) (k4:W.specialIn K (.builtin "object.__class__") "__get__"=some (some (.builtin "getset_descriptor.__get__"))) (k5:W.takesIn K (.builtin "object.__class__")=some true) (k6:W.mroIn K Ca (.type "object")=some true) (k7:W.mroIn K Ca (.type "BaseException")=some true):sM K C :=
 ⟨Ca,a,q,⟨k1,k2,k3,k4,k5,k6,k7⟩⟩
def Ec(K:ah)(P:Params)(T:Str)(rows:List (Str×Str)):Prop :=
 ∃a es n,W.nsIn K mainGlobals T=some (some (.ref a))/\K.lookup a=some ⟨.type "dict",none,.dict es n,#[]⟩/\W.KeysLit P es.toList/\∀d∈rows,∃f,W.nsIn K a d.1=some (some (.ref f))/\W.nsIn K mainGlobals d.2=some (some (.ref f))
theorem YW{K:ah}{P:Params}{T:Str}{rows:List (Str×Str)}{a:ab}{es:Array DictEntry}{n:Nat}(h1:W.nsIn K mainGlobals T=some (some (.ref a)))(h2:K.lookup a=some ⟨.type "dict",none,.dict es n,#[]⟩)(h3:W.KeysLit P es.toList)
  (h4:∀d∈rows,∃f,W.nsIn K a d.1=some (some (.ref f))/\W.nsIn K mainGlobals d.2=some (some (.ref f))):Ec K P T rows:=⟨a,es,n,h1,h2,h3,h4⟩
def flatIs:List PV->b6->Bool
 | [],[]=>true
 | .int i::r,.int j _::q=>(i==j)&&flatIs r q
 | .str x::r,.str y _::q=>(x==y)&&flatIs r q
 | .bl a::r,.bool b::q=>(a==b)&&flatIs r q
 | .cM::r,.none::q=>flatIs r q
 | _,_=>false
theorem lY{K:ah}:∀{ps:List PV} {us:b6},flatIs ps us=true->∃vs,Vals vs us/\∀F,aP K F ps vs
 | [],[],_=>⟨[],.nil,λ_=>.nil⟩
 | .int i::r,.int j t::q,h=>by
  simp only[flatIs,aG,beq_iff_eq]at h;obtain⟨vs,h1,h2⟩:=lY h.2;exact⟨.int i::vs,.cons ⟨t,by rw[h.1]⟩ h1,λF=>.cons (aF.mpr rfl) (h2 F)⟩
 | .str x::r,.str y t::q,h=>by
  simp only[flatIs,aG]at h;have e:=bq h.1;obtain⟨vs,h1,h2⟩:=lY h.2;exact⟨.str x::vs,.cons ⟨t,by rw[e]⟩ h1,λF=>.cons (cj.mpr rfl) (h2 F)⟩
 | .bl a::r,.bool b::q,h=>by
  simp only[flatIs,aG,beq_iff_eq]at h;obtain⟨vs,h1,h2⟩:=lY h.2;exact⟨.bl a::vs,.cons (by rw[h.1];rfl) h1,λF=>.cons (bN.mpr rfl) (h2 F)⟩
 | .cM::r,.none::q,h=>by
  simp only[flatIs]at h;obtain⟨vs,h1,h2⟩:=lY h;exact⟨.cM::vs,.cons rfl h1,λF=>.cons (c8.mpr rfl) (h2 F)⟩
theorem K6{K:ah}{g:ab}{x:Str}{a:ab}{ps:List PV}{us:b6}{n:Nat}{dd:Option ab}{sl:Array lE}(h1:W.nsIn K g x=some (some (.ref a)))(h2:K.lookup a=some ⟨.type "tuple",dd,.seq us.toArray n,sl⟩)(h3:flatIs ps us=true)(h4:us.length<=100) :
  ∃u v,W.nsIn K g x=some (some u)/\RelV v u/\∀F,cI K F (.aJ ps) v:=by
 obtain⟨vs,r,b⟩:=lY (K:=K) h3;exact⟨_,.ref a,h1,rfl,λF=>bt.mpr ⟨a,vs,rfl,.inr ⟨_,us.toArray,n,h2,rfl,rfl,by rw[bh];exact bY h4 (by decide),by simpa using r⟩,b F⟩⟩
theorem K7{K:ah}{g:ab}{x:Str}{y:Str}{t:Tok}(a:W.nsIn K g x=some (some (.str y t))):∃u v,W.nsIn K g x=some (some u)/\RelV v u/\∀F,cI K F (.str y) v:=⟨_,.str y,a,⟨t,rfl⟩,λF=>cj.mpr rfl⟩
def Pp(K:ah)(C:Str)(st:az)(flds:List Str):Prop:=∃Ca f fd,W.nsIn K mainGlobals C=some (some (.ref Ca))/\Mk K Ca f/\S5 K Ca/\(∀g∈flds,nI K Ca g)/\Ap K "__init__" (C++".__init__") st f fd/\(∀us:b6,us.length=(params st).length->bindArgs fd ⟨us,[]⟩=pure ((params st).zip us))/\dA (cb st) (params st) (aH st)
def wY(K:ah)(P:Params)(T:Str)(rows:List (Str×PV)):Prop :=
 ∃a es n,W.nsIn K mainGlobals T=some (some (.ref a))/\K.lookup a=some ⟨.type "dict",none,.dict es n,#[]⟩/\W.KeysLit P es.toList/\∀d∈rows,∃u v,W.nsIn K a d.1=some (some u)/\RelV v u/\∀F,cI K F d.2 v
def Pq(K:ah)(x:Str):Prop:=x∈dD/\∃c T,W.tabIn K x=some (c,T)/\W.codeHdIn K c T=true
def GJ(K:ah):Prop:=∃bm o,W.nsIn K mainGlobals "__builtins__"=some (some (.ref bm))/\bm≠builtinsNs/\bm≠mainGlobals/\K.lookup bm=some o/\o.cls=.type "module"/\o.dict=some builtinsNs/\o.data=.plain
structure lZ (K:ah) (h:Heap):Prop where
 at_:∀x∈dD,∀c T,W.tabIn K x=some (c,T)->W.codeHdIn K c T=true/\h.get? T=some {cls:=.none,data:=.fields #[]}/\K.lookup T=none
 nd:(dD.filterMap λx=>(W.tabIn K x).map (·.2)).Nodup
theorem lZ.keeps{K:ah}{h h':Heap}(t:lZ K h)(k:∀b o,h.get? b=some o->h'.get? b=some o):lZ K h':=⟨λx hx c T e=>let ⟨h1,h2,h3⟩:=t.at_ x hx c T e;⟨h1,k _ _ h2,h3⟩,t.nd⟩
theorem K8{K:ah}{g:ab}{x:Str}{i:Int}{t:Tok}(a:W.nsIn K g x=some (some (.int i t))):∃u v,W.nsIn K g x=some (some u)/\RelV v u/\∀F,cI K F (.int i) v:=⟨_,.int i,a,⟨t,rfl⟩,λF=>aF.mpr rfl⟩
structure GL (P:Pg) (w:aM) (K:ah):Prop where
 hd:∀d∈P.defs,GG K d.1 d.2
 hc:∀d∈P.cons,∃u v,W.nsIn K mainGlobals d.1=some (some u)/\RelV v u/\∀F,cI K F d.2 v
 hb:∀x∈P.dg,W.nsIn K mainGlobals x=some none
 he:∀C∈P.exc,sM K C
 hs:∀d∈P.sub,Aq K d.1.1 d.1.2 d.2
 ht:∀d∈P.tabs,Ec K w.params d.1 d.2
 hcl:∀d∈P.cls,Pp K d.1 d.2 P.flds
 hct:∀d∈P.fy,wY K w.params d.1 d.2
 YX:∀x∈P.lX,Pq K x
 hbm:P.lX≠[]->GJ K
def GN:ag->List ab
 | .ref a=>[a]
 | _=>[]
def Ci:Option Obj->List ab
 | some ⟨_,_,.dict es _,_⟩=>es.toList.flatMap λe=>GN e.val
 | some ⟨_,_,.func fd,_⟩=>GN fd.code
 | some ⟨_,_,.cls cd,_⟩=>cd.ns::cd.mro.flatMap GN
 | _=>[]
def fragOf(h:Heap):List ab->ah
 | []=>[]
 | a::r=>match h.get? a with
  | some o=>(a,o)::fragOf h r
  | none=>fragOf h r
theorem nJ(h:Heap):∀as:List ab,(fragOf h as).In h
 | []=>λ_ _ e=>by cases e
 | a::r=>λb o e=>by
  unfold fragOf at e;split at e
  ·rename_i o' ho;rw[iE]at e;cases z:b==a with
   | true =>
    rw[z]at e;cases e;rw[bq z];exact ho
   | false =>
    rw[z]at e;exact nJ h r b o e
  ·exact nJ h r b o e
def nsO:Option Obj->List ab
 | some ⟨_,_,.cls cd,_⟩=>[cd.ns]
 | _=>[]
def YY(h:Heap)(a:ab):List ab:=a::(Ci (h.get? a)++(nsO (h.get? a)).flatMap λb=>(Ci (h.get? b)).flatMap λc=>c::Ci (h.get? c))
def eK(h:Heap):ah:=fragOf h (mainGlobals::(Ci (h.get? mainGlobals)).flatMap (YY h))
def chFn(K:ah)(x:Str):Option dk:=match W.nsIn K mainGlobals x with
 | some (some (.ref f))=>(match K.lookup f with
  | some ⟨_,_,.func fd,_⟩=>(match W.codeIn K fd.code x with
   | true=>some {fd with kwdefaults:=.none,doc:=.none,pyModule:=.none,annotations:=none,code:=.none,closureTuple:=.none}
   | false=>none)
  | _=>none)
 | _=>none
def l6(x:Str)(st:az):dk:=W.fnOf x x (il st) (cw st) (aH st) .none .none .none .none none .none .none
theorem K9{K:ah}{x:Str}{st:az}(h:chFn K x=some (l6 x st)):∃f fd,W.nsIn K mainGlobals x=some (some (.ref f))/\Ap K x x st f fd:=by
 unfold chFn at h;split at h
 ·rename_i f hf;split at h
  ·rename_i oc od fd rP hl;split at h
   ·rename_i hc;have h:=bg h;obtain⟨a1,a2,a3,a4,a5,a6,a7,a8,a9,a10,a11,a12,a13,a14,a15⟩:=fd;unfold l6 at h;simp only[FuncData.mk.injEq]at h;obtain⟨e1,e2,e3,e4,e5,e6,e7,e8,-,-,-,-,-,-,YZ⟩:=h;subst e1 e2 e3 e4 e5 e6 e7 e8 YZ;exact⟨f,_,hf,GD hl hc (by unfold W.keepIn;dsimp only;rw[hl])⟩
   ·cases h
  ·cases h
 ·cases h
def sN(K:ah)(g:ab)(d:Str×PV):Bool:=match W.nsIn K g d.1 with
 | some (some (.int j _))=>(match d.2 with | .int i=>i==j | _=>false)
 | some (some (.str y _))=>(match d.2 with | .str x=>x==y | _=>false)
 | some (some (.ref a))=>(match K.lookup a with
  | some ⟨.type t,_,.seq us _,_⟩=>(match d.2 with | .aJ ps=>(t=="tuple")&&(flatIs ps us.toList&&decide (us.toList.length<=100)) | _=>false)
  | _=>false)
 | _=>false
theorem wZ{K:ah}{g:ab}{x:Str}{p:PV}(h:sN K g (x,p)=true):∃u v,W.nsIn K g x=some (some u)/\RelV v u/\∀F,cI K F p v:=by
 unfold sN at h;dsimp only at h
 split at h
 ·rename_i j t hn;split at h
  ·rename_i i;obtain rfl:=bq h;exact K8 hn
  ·cases h
 ·rename_i y t hn;split at h
  ·rename_i i;obtain rfl:=bq h;exact K7 hn
  ·cases h
 ·rename_i a hn;split at h
  ·rename_i t dd us n sl hl;split at h
   ·rename_i ps;rw[aG,aG]at h;obtain⟨h1,h2,h3⟩:=h;obtain rfl:=bq h1;obtain⟨us⟩:=us;exact K6 hn hl h2 (pQ h3)
   ·cases h
  ·cases h
 ·cases h
def w6(K:ah)(x:Str):Bool:=match W.nsIn K mainGlobals x with
 | some none=>true
 | _=>false
theorem GO{K:ah}{x:Str}(h:w6 K x=true):W.nsIn K mainGlobals x=some none:=by
 unfold w6 at h;split at h
 ·assumption
 ·cases h
abbrev OV:=Option lE
def w9(K:ah)(C:Str):Option (Bool×OV×OV×OV×OV×Option Bool×Option Bool×Option Bool):=match W.nsIn K mainGlobals C with
 | some (some (.ref a))=>some (W.excIn K a GF "ValueError.__new__",W.findIn K (.ref a) "__getattribute__",W.findIn K (.ref a) "__getattr__",W.findIn K (.ref a) "__class__",W.specialIn K (.builtin "object.__class__") "__get__",W.takesIn K (.builtin "object.__class__"),W.mroIn K a (.type "object"),W.mroIn K a (.type "BaseException"))
 | _=>none
def p4:Option (Bool×OV×OV×OV×OV×Option Bool×Option Bool×Option Bool):=some (true,some (some (.builtin "BaseException.__getattribute__")),some none,some (some (.builtin "object.__class__")),some (some (.builtin "getset_descriptor.__get__")),some true,some true,some true)
theorem GP{K:ah}{C:Str}(h:w9 K C=p4):sM K C:=by
 unfold w9 p4 at h;split at h
 ·rename_i a hn;have h:=bg h;simp only[jU]at h;obtain⟨h1,h2,h3,h4,h5,h6,h7,h8⟩:=h;exact TM hn h1 h2 h3 h4 h5 h6 h7 h8
 ·cases h
def xb(K:ah)(C D:Str):Option (Option Bool×Option Bool):=match W.nsIn K mainGlobals C with
 | some (some cls)=>(match W.nsIn K mainGlobals D with
  | some (some (.ref a))=>some (W.exmOne K cls (.ref a),W.kitOne K cls (.ref a))
  | some none=>(match bootBuiltins D with
   | some (.type T)=>(match decide (D="__name__")with
    | true=>none
    | false=>some (W.exmOne K cls (.type T),W.kitOne K cls (.type T)))
   | _=>none)
  | _=>none)
 | _=>none
theorem GQ{K:ah}{C D:Str}{b:Bool}(h:xb K C D=some (some b,some b)):Aq K C D b:=by
 unfold xb at h;split at h
 ·rename_i cls hc;split at h
  ·rename_i a hd;have h:=bg h;rw[jU]at h;exact GH hc hd h.1 h.2
  ·rename_i hd;split at h
   ·rename_i T hT;split at h
    ·cases h
    ·rename_i hD;have h:=bg h;rw[jU]at h;exact GI hc hd hT (of_decide_eq_false hD) h.1 h.2
   ·cases h
  ·cases h
 ·cases h
def Cj(e:DictEntry):Option Str×Int:=(match e.key with
 | .str x _=>some x
 | _=>none,e.hash)
def GR(K:ah)(a:ab)(d:Str×Str):Bool:=match W.nsIn K a d.1,W.nsIn K mainGlobals d.2 with
 | some (some (.ref f)),some (some (.ref g))=>f==g
 | _,_=>false
def xc(K:ah)(T:Str)(rows:List (Str×Str)):Option (ag×Option ab×Array lE×List (Option Str×Int)×Bool):=match W.nsIn K mainGlobals T with
 | some (some (.ref a))=>(match K.lookup a with
  | some ⟨c,dd,.dict es _,sl⟩=>some (c,dd,sl,es.toList.map Cj,rows.all (GR K a))
  | _=>none)
 | _=>none
def p5(P:Params)(rows:List (Str×Str)):Option (ag×Option ab×Array lE×List (Option Str×Int)×Bool):=some (.type "dict",none,#[],rows.map (λd=>(some d.1,PyData.keyHash P d.1)),true)
theorem p6{β:Type}{P:Params}:∀{es:List DictEntry} {rows:List (Str×β)},es.map Cj=rows.map (λd=>(some d.1,PyData.keyHash P d.1))->W.KeysLit P es
 | [],_,_=>trivial
 | _::_,[],h=>by cases h
 | e::es,d::rows,h=>by
  rw[bJ,bJ,List.cons.injEq]at h;obtain⟨h1,h2⟩:=h;refine⟨?_,p6 h2⟩;unfold Cj at h1;rw[jU]at h1;obtain⟨h3,h4⟩:=h1;split at h3
  ·rename_i x t hk;cases h3;exact⟨_,t,hk,h4⟩
  ·cases h3
theorem GS{K:ah}{a:ab}{d:Str×Str}(h:GR K a d=true):∃f,W.nsIn K a d.1=some (some (.ref f))/\W.nsIn K mainGlobals d.2=some (some (.ref f)):=by
 unfold GR at h;split at h
 ·rename_i f g h1 h2;obtain rfl:=bq h;exact⟨_,h1,h2⟩
 ·cases h
theorem GU{K:ah}{P:Params}{T:Str}{rows:List (Str×Str)}(h:xc K T rows=p5 P rows):Ec K P T rows:=by
 unfold xc p5 at h;split at h
 ·rename_i a hn;split at h
  ·rename_i c dd es n sl hl;have h:=bg h;simp only[jU]at h;obtain⟨rfl,rfl,rfl,h4,h5⟩:=h;exact YW hn hl (p6 h4) λd hd=>GS (dt.mp h5 d hd)
  ·cases h
 ·cases h
abbrev La:=Option (ag×Option ab×Array lE×List (Option Str×Int)×Bool)
def p7(K:ah)(T:Str)(rows:List (Str×PV)):La:=match W.nsIn K mainGlobals T with
 | some (some (.ref a))=>(match K.lookup a with
  | some ⟨c,dd,.dict es _,sl⟩=>some (c,dd,sl,es.toList.map Cj,rows.all (sN K a))
  | _=>none)
 | _=>none
def l7(P:Params)(rows:List (Str×PV)):La:=some (.type "dict",none,#[],rows.map (λd=>(some d.1,PyData.keyHash P d.1)),true)
theorem Ed{K:ah}{P:Params}{T:Str}{rows:List (Str×PV)}(h:p7 K T rows=l7 P rows):wY K P T rows:=by
 unfold p7 l7 at h;split at h
 ·rename_i a hn;split at h
  ·rename_i c dd es n sl hl;have h:=bg h;simp only[jU]at h;obtain⟨rfl,rfl,rfl,h4,h5⟩:=h;exact⟨a,es,n,hn,hl,p6 h4,λd hd=>wZ (dt.mp h5 d hd)⟩
  ·cases h
 ·cases h
def Ar(K:ah)(f:ab)(qual:Str):Option dk:=match K.lookup f with
 | some ⟨_,_,.func fd,_⟩=>(match W.codeIn K fd.code qual with
  | true=>some {fd with kwdefaults:=.none,doc:=.none,pyModule:=.none,annotations:=none,code:=.none,closureTuple:=.none}
  | false=>none)
 | _=>none
def GV(x qual:Str)(st:az):dk:=W.fnOf x qual (il st) (cw st) (aH st) .none .none .none .none none .none .none
theorem Ee{K:ah}{x qual:Str}{st:az}{f:ab}(h:Ar K f qual=some (GV x qual st)):∃fd,Ap K x qual st f fd:=by
 unfold Ar at h;split at h
 ·rename_i oc od fd rP hl;split at h
  ·rename_i hc;have h:=bg h;obtain⟨a1,a2,a3,a4,a5,a6,a7,a8,a9,a10,a11,a12,a13,a14,a15⟩:=fd;unfold GV at h;simp only[FuncData.mk.injEq]at h;obtain⟨e1,e2,e3,e4,e5,e6,e7,e8,-,-,-,-,-,-,YZ⟩:=h;subst e1 e2 e3 e4 e5 e6 e7 e8 YZ;exact⟨_,GD hl hc (by unfold W.keepIn;dsimp only;rw[hl])⟩
  ·cases h
 ·cases h
abbrev Pr:=Option (Bool×OV×List OV×Option dk)
def xf(K:ah)(flds:List Str)(C:Str):Pr:=match W.nsIn K mainGlobals C with
 | some (some (.ref a))=>(match W.findIn K (.ref a) "__init__" with
  | some (some (.ref f))=>some (W.makesIn K a&&(W.isFn K (.ref f)&&(W.keepIn K (.ref a)&&(W.plainGet K a Str.empty&&(W.hasDictIn K a&&W.plainOver K a)))),W.findIn K (.ref a) "__setattr__",flds.map (λg=>W.findIn K (.ref a) g),Ar K f (C++".__init__"))
  | _=>none)
 | _=>none
def p8(flds:List Str)(C:Str)(st:az):Pr:=some (true,some (some (.builtin "object.__setattr__")),flds.map (λ_=>some none),some (GV "__init__" (C++".__init__") st))
def u4:List Str->Bool
 | []=>true
 | x::r=>!r.contains x&&u4 r
theorem sS:∀{l:List Str},u4 l=true->l.Nodup
 | [],_=>nE
 | x::r,h=>by
  simp only[u4,aG,Bool.not_eq_true',List.contains_eq_mem,decide_eq_false_iff_not]at h;exact cY.mpr ⟨h.1,sS h.2⟩
def Y0:Option NameKind->Bool
 | some .local=>true
 | some .cell=>true
 | _=>false
def TN:NameKind->Bool
 | .free=>false
 | _=>true
def TQ:ScopeKind->Bool
 | .function=>true
 | _=>false
def Lb(st:az):Bool:=TQ (aH st).kind&&(!(aH st).isCoroutine&&(!(aH st).isGenerator&&(u4 (cb st)&&((params st).all (λx=>Y0 ((aH st).names.lookup x))&&(aH st).names.all λy=>TN y.2))))
theorem GW{st:az}(h:Lb st=true):dA (cb st) (params st) (aH st):=by
 unfold Lb at h;rw[aG,aG,aG,aG,aG]at h;obtain⟨h1,h2,h3,h4,h5,h6⟩:=h;refine⟨?_,by simpa using h2,by simpa using h3,sS h4,?_,λx hx=>?_,λy hy=>?_⟩
 ·cases z:(aH st).kind<;>rw[z]at h1<;>first | rfl | cases h1
 ·unfold cb;exact List.take_left
 ·have k:=dt.mp h5 x hx;cases z:(aH st).names.lookup x with
  | none=>rw[z]at k;cases k
  | some b =>
   rw[z]at k;cases b<;>first | exact .inl rfl | exact .inr rfl | cases k
 ·have k:=dt.mp h6 y hy;intro z;rw[z]at k;cases k
def Ck(P:Pg):Prop:=∀(kV doc pm:ag) (an:Option ab) (df ct:ag) (u:Nat->ag),
 P.defs.map (λd=>bindArgs (W.fnOf d.1 d.1 (il d.2) (cw d.2) (aH d.2) .none kV doc pm an df ct) ⟨(List.range (params d.2).length).map u,[]⟩)=P.defs.map λd=>pure ((params d.2).zip ((List.range (params d.2).length).map u))
theorem xg{us:b6}{n:Nat}(h:us.length=n):(List.range n).map (λi=>us.getD i .none)=us:=by
 subst h;apply List.ext_getElem
 ·simp
 ·intro i h1 h2;simp[zH,h2]
theorem Pt{K:ah}{x:Str}{st:az}{f:ab}{fd:dk}{P:Pg}(hb:Ck P)(hd:(x,st)∈P.defs)(F:Ap K x x st f fd)(us:b6)(hl:us.length=(params st).length):bindArgs fd ⟨us,[]⟩=pure ((params st).zip us):=by
 obtain⟨oc,od,kV,doc,pm,an,df,ct,rP,rfl,lk,sT⟩:=F.ex;have k:=iC.mp (hb kV doc pm an df ct λi=>us.getD i .none) (x,st) hd
 dsimp only at k
 rw[xg hl]at k;exact k
def Lc(P:Pg):Prop:=∀(kV doc pm:ag) (an:Option ab) (df ct:ag) (u:Nat->ag),
 P.cls.map (λd=>bindArgs (W.fnOf "__init__" (d.1++".__init__") (il d.2) (cw d.2) (aH d.2) .none kV doc pm an df ct) ⟨(List.range (params d.2).length).map u,[]⟩)=P.cls.map λd=>pure ((params d.2).zip ((List.range (params d.2).length).map u))
theorem GX{K:ah}{P:Pg}{C:Str}{st:az}(Pu:Lb st=true)(hb:Lc P)(hd:(C,st)∈P.cls)(h:xf K P.flds C=p8 P.flds C st):Pp K C st P.flds:=by
 unfold xf p8 at h;split at h
 ·rename_i a hn;split at h
  ·rename_i f hf;have h:=bg h;simp only[jU,aG]at h;obtain⟨⟨h1,h2,h3,h4,h5,h6⟩,h7,h8,h9⟩:=h;obtain⟨fd,F⟩:=Ee h9;refine⟨a,f,fd,hn,⟨h1,hf,h2,h3⟩,⟨h4,h5,h6,h7⟩,λg hg=>iC.mp h8 g hg,F,λus hl=>?_,GW Pu⟩
   obtain⟨oc,od,kV,doc,pm,an,df,ct,rP,rfl,lk,sT⟩:=F.ex;have k:=iC.mp (hb kV doc pm an df ct λi=>us.getD i .none) (C,st) hd
   dsimp only at k
   rw[xg hl]at k;exact k
  ·cases h
 ·cases h
abbrev Pw:=List (Option dk)×List (Option dk)×Bool×List (Option (Bool×OV×OV×OV×OV×Option Bool×Option Bool×Option Bool))×List (Option (Option Bool×Option Bool))×List La×List Pr×List La
def As(K:ah)(h:Heap)(x:Str):Bool:=match W.tabIn K x with
 | none=>true
 | some (c,T)=>W.codeHdIn K c T&&((K.lookup T).isNone&&(match h.get? T with
  | some ⟨.none,none,.fields vs,sl⟩=>vs.isEmpty&&sl.isEmpty
  | _=>false))
def Px(K:ah):Bool:=match W.nsIn K mainGlobals "__builtins__" with
 | some (some (.ref bm))=>!(bm==builtinsNs)&&(!(bm==mainGlobals)&&(match K.lookup bm with
  | some ⟨.type m,some d,.plain,_⟩=>(m=="module")&&(d==builtinsNs)
  | _=>false))
 | _=>false
def xh(P:Pg)(K:ah)(h:Heap):Bool:=dD.all (As K h)&&(decide (dD.filterMap λx=>(W.tabIn K x).map (·.2)).Nodup&&((P.lX.isEmpty || Px K)&&P.lX.all λx=>dD.contains x&&(W.tabIn K x).isSome))
theorem sU{K:ah}{h:Heap}{x:Str}{c T:ab}(e:As K h x=true)(t:W.tabIn K x=some (c,T)):W.codeHdIn K c T=true/\h.get? T=some {cls:=.none,data:=.fields #[]}/\K.lookup T=none:=by
 unfold As at e;rw[t]at e;simp only[aG]at e;obtain⟨h1,h2,h3⟩:=e;refine⟨h1,?_,by simpa using h2⟩
 split at h3
 ·rename_i vs sl z;rw[aG]at h3;rw[z];have e1:vs=#[]:=by simpa using h3.1
  have e2:sl=#[]:=by simpa using h3.2
  rw[e1,e2]
 ·cases h3
theorem Ld{K:ah}(e:Px K=true):GJ K:=by
 unfold Px at e;split at e
 ·rename_i bm hb;simp only[aG]at e;obtain⟨h1,h2,h3⟩:=e;split at h3
  ·rename_i m d sl z;rw[aG]at h3;obtain rfl:=bq h3.1;obtain rfl:=bq h3.2;exact⟨bm,_,hb,by simpa using h1,by simpa using h2,z,rfl,rfl,rfl⟩
  ·cases h3
 ·cases e
theorem GY{P:Pg}{K:ah}{h:Heap}(e:xh P K h=true):lZ K h/\(∀x∈P.lX,Pq K x)/\(P.lX≠[]->GJ K):=by
 unfold xh at e;simp only[aG]at e;obtain⟨h1,h2,h3,h4⟩:=e;have all:=dt.mp h1;refine⟨⟨λx hx c T t=>sU (all x hx) t,pQ h2⟩,λx hx=>?_,λz=>?_⟩
 ·have:=dt.mp h4 x hx;rw[aG]at this;have hm:x∈dD:=by simpa using this.1
  cases t:W.tabIn K x with
  | none=>rw[t]at this;cases this.2
  | some cT=>exact⟨hm,cT.1,cT.2,t,(sU (all x hm) t).1⟩
 ·rcases Bool.or_eq_true_iff.mp h3 with y | y
  ·exact absurd (List.isEmpty_iff.mp y) z
  ·exact Ld y
def Au(P:Pg)(K:ah)(hp:Heap):Pw:=((P.defs.take 26).map (λd=>chFn K d.1),(P.defs.drop 26).map (λd=>chFn K d.1),P.cons.all (sN K mainGlobals)&&(P.dg.all (w6 K)&&xh P K hp),P.exc.map (w9 K),P.sub.map (λd=>xb K d.1.1 d.1.2),P.tabs.map (λd=>xc K d.1 d.2),P.cls.map (λd=>xf K P.flds d.1),P.fy.map λd=>p7 K d.1 d.2)
def Av(P:Pg)(w:aM):Pw:=((P.defs.take 26).map (λd=>some (l6 d.1 d.2)),(P.defs.drop 26).map (λd=>some (l6 d.1 d.2)),true,P.exc.map (λ_=>p4),P.sub.map (λd=>some (some d.2,some d.2)),P.tabs.map (λd=>p5 w.params d.2),P.cls.map (λd=>p8 P.flds d.1 d.2),P.fy.map λd=>l7 w.params d.2)
theorem Ef{P:Pg}{w:aM}{K:ah}(Pu:P.defs.all (λd=>Lb d.2)=true)(TR:Ck P)(GZ:P.cls.all (λd=>Lb d.2)=true)(G0:Lc P){hp:Heap}(h:Au P K hp=Av P w):GL P w K/\lZ K hp:=by
 unfold Au Av at h;simp only[jU]at h;obtain⟨h1,h0,h2,h3,h4,h5,h6,h7⟩:=h;rw[aG,aG]at h2;obtain⟨l1,l2,l3⟩:=GY h2.2.2;refine⟨⟨λd hd=>?_,λd hd=>wZ (dt.mp h2.1 d hd),λx hx=>GO (dt.mp h2.2.1 x hx),λC hC=>GP (iC.mp h3 C hC),λd hd=>GQ (iC.mp h4 d hd),λd hd=>GU (iC.mp h5 d hd),λd hd=>GX (dt.mp GZ d hd) G0 hd (iC.mp h6 d hd),λd hd=>Ed (iC.mp h7 d hd),l2,l3⟩,l1⟩
 have hh:chFn K d.1=some (l6 d.1 d.2):=by
  have u6:=hd;rw[<-List.take_append_drop 26 P.defs]at u6;rcases dM.mp u6 with z | z
  ·exact iC.mp h1 d z
  ·exact iC.mp h0 d z
 obtain⟨f,fd,a,F⟩:=K9 hh;exact⟨⟨f,fd,a,F,λus hl=>Pt TR hd F us hl⟩,GW (dt.mp Pu d hd)⟩
theorem l8{α β γ:Type}{o:Option α}{f:α->β}{g:α->γ}{a:β}{b:γ}(h1:o.map f=some a)(h2:o.map g=some b):o.map (λs=>(f s,g s))=some (a,b):=by
 cases o with
 | none=>cases h1
 | some s=>cases h1;cases h2;rfl
def Le(P:Pg)(Pu:P.defs.all (λd=>Lb d.2)=true)(TR:Ck P)(GZ:P.cls.all (λd=>Lb d.2)=true)(G0:Lc P):W.Hook :=
 ⟨Pw,λs=>Au P (eK s.heap) s.heap,λw=>Av P w,λw h=>∃K:ah,K.In h/\GL P w K/\lZ K h,λw s e=>⟨_,nJ _ _,Ef Pu TR GZ G0 e⟩,λ_ _ _ ⟨K,a,b,c⟩ k=>⟨K,a.keeps k,b,c.keeps k⟩⟩
def l9(p:bc)(row:String)(b:Bool)(N:Nat)(w:aM):Option aq:=(W.fencedOpening treeTable p w N).bind λs₀=>W.topFrom treeTable p (w.withFollow row b) N s₀
theorem Eg{p q:bc}{loose:List Str}{Xt:aq->Bool}{α:Type}{Yf:aq->α}{Ya:aM->α}{N:Nat}{g0:Bool}(row:String)
  (h1:∀w,(l9 p row false N w).map (W.openSeen q loose (importedModules p.main.body) Xt g0)=some (W.openGood q loose)) (h2:∀w,(l9 p row true N w).map (W.openSeen q loose (importedModules p.main.body) Xt g0)=some (W.openGood q loose))
  (h3:∀w,(l9 p row false N w).map Yf=some (Ya (w.withFollow row false))) (h4:∀w,(l9 p row true N w).map Yf=some (Ya (w.withFollow row true))):W.LeftO p q loose Xt Yf Ya N g0:=by
 refine W.LeftO.of_split row λw=>?_
 obtain⟨sA,a1,a2⟩:=je.mp (h1 w);obtain⟨sB,b1,b2⟩:=je.mp (h2 w);obtain⟨sC,c1,c2⟩:=je.mp (h3 w);obtain⟨sD,d1,d2⟩:=je.mp (h4 w);rw[a1]at c1;rw[b1]at d1;cases c1;cases d1;obtain⟨s0,f0,tA⟩:=uH.mp a1;obtain⟨s1,f1,tB⟩:=uH.mp b1;rw[f0]at f1;cases f1;rw[f0,nA,tA,tB,nA,nA,a2,b2,c2,d2]
end L2.PL
namespace cn
open PySem L2 L2.PL ou
def top(i:Nat):az:=PySem.Challenge.pw_lendrule_k20_ahead_of_the_first_act.main.body.getD i (.Pass ⟨0,0,0,0⟩)
abbrev xi:az:=top 5
abbrev ma:az:=top 6
abbrev G1:az:=top 7
abbrev Cm:az:=top 8
abbrev xj:az:=top 9
abbrev Eh:az:=top 12
abbrev ov:az:=top 13
abbrev p9:az:=top 14
abbrev G2:az:=top 16
abbrev Aw:az:=top 17
abbrev ox:az:=top 28
abbrev G3:az:=top 29
abbrev Cn:az:=top 30
abbrev sW:az:=top 31
abbrev qa:az:=top 32
abbrev sX:az:=top 33
abbrev sY:az:=top 34
abbrev Co:az:=top 35
abbrev k8:az:=top 36
abbrev sZ:az:=top 37
abbrev jX:az:=top 38
abbrev rQ:az:=top 39
abbrev Ax:az:=top 40
abbrev Ay:az:=top 41
abbrev xk:az:=top 42
abbrev xl:az:=top 43
abbrev xm:az:=top 44
abbrev xo:az:=top 45
abbrev xq:az:=top 46
abbrev Ei:az:=top 47
abbrev xt:az:=top 48
abbrev Ej:az:=top 49
abbrev Ek:az:=top 50
abbrev qb:az:=top 51
abbrev oy:az:=top 52
abbrev s9:az:=top 55
abbrev iR:az:=top 56
abbrev tf:az:=top 57
abbrev k9:az:=top 58
abbrev Cp:az:=top 59
abbrev qc:az:=top 61
abbrev xu:az:=top 62
abbrev xw:az:=top 63
abbrev xx:az:=top 64
abbrev tj:az:=top 65
abbrev xy:az:=top 66
abbrev Cq:az:=top 67
abbrev xA:az:=top 68
abbrev Cr:az:=top 69
abbrev G4:az:=top 70
abbrev Cs:az:=top 71
abbrev G5:az:=top 72
def bK:Pg where
 defs:=(("leaves":Str),xi)::(("check_part":Str),ma)::(("part":Str),G1)::(("first":Str),Cm)::(("is_copied":Str),xj)::(("kind_of":Str),Eh)::(("is_holder":Str),ov)::(("shape_of":Str),p9)::(("spread":Str),G2)::(("tell_new":Str),Aw)::(("row_nexts":Str),ox)::(("acts":Str),G3)::(("nexts":Str),Cn)::(("come_to":Str),sW)::(("arrivals":Str),qa)::(("touched":Str),sX)::(("touches":Str),sY)::(("touch":Str),Co)::(("touch_whole":Str),k8)::(("at_acts":Str),sZ)::(("operand_acts":Str),jX)::(("target_acts":Str),rQ)::(("put_acts":Str),Ax)::(("set_acts":Str),Ay)::(("copy_acts":Str),xk)::(("move_acts":Str),xl)::(("drop_acts":Str),xm)::(("lend_acts":Str),xo)::(("call_acts":Str),xq)::(("arg_act":Str),Ei)::(("owner_act":Str),xt)::(("if_acts":Str),Ej)::(("go_acts":Str),Ek)::(("say_acts":Str),qb)::(("give_acts":Str),oy)::(("empties":Str),s9)::(("empty_at_first":Str),iR)::(("emptied":Str),tf)::(("stays_empty":Str),k9)::(("fills":Str),Cp)::(("_law_cell_at":Str),qc)::(("_law_mixed":Str),xu)::(("_law_names":Str),xw)::(("_law_shape":Str),xx)::(("_law_leaves":Str),tj)::(("_law_parts":Str),xy)::(("_law_lets":Str),Cq)::(("_law_whole":Str),xA)::(("_law_rows":Str),Cr)::(("_law_due":Str),G4)::(("_law_came":Str),Cs)::(("law":Str),G5)::[]
 cons:=[("HOLDER_WORDS",(.aJ [(.str "lent"),(.str "sole")])),("ROW",(.int 0)),("ACT",(.int 1)),("NAME",(.int 2)),("THROUGH",(.int 3)),("FIRST",(.int 4)),("MANY",(.int 5)),("TAKER",(.int 6)),("REST",(.aJ [(.str "rest"),(.str ""),(.bl false),(.int 0),(.int 0),(.str "")])),("HAND",(.aJ [(.str "hand"),(.str ""),(.bl false),(.int 0),(.int 0),(.str "")]))]
 dg:=["bool","enumerate","int","isinstance","len","list","range","set","sorted","str","sum","tuple"]
 exc:=["NoPart","NoName"]
 sub:=[]
 tabs:=[("MAKERS",[("put","put_acts"),("set","set_acts"),("fill","put_acts"),("copy","copy_acts"),("move","move_acts"),("drop","drop_acts"),("lend","lend_acts"),("sole","lend_acts"),("call","call_acts"),("if","if_acts"),("go","go_acts"),("say","say_acts"),("give","give_acts")])]
 own:=[]
 bI:=[]
 obs:=[]
 cls:=[]
 flds:=[]
 fy:=[]
 lX:=["arrivals","empties"]
 NY:=[("nexts",["firsts"])]
 dct:=[("law",["_law_due_here"]),("_law_due",["_law_due_here"])]
 K5:=[]
end cn
namespace cn
open PySem L2 L2.PL
theorem Pu:bK.defs.all (λd=>Lb d.2)=true:=by kernel_rfl
theorem TR:Ck bK:=by
 intro kV doc pm an df ct u;kernel_rfl
theorem GZ:bK.cls.all (λd=>Lb d.2)=true:=by kernel_rfl
theorem G0:Lc bK:=by
 intro kV doc pm an df ct u;kernel_rfl
def qv:bc:=W.view (W.OpenLaw.prog PySem.Challenge.rw_lendrule_k20_ahead_of_the_first_act) [72]
def lo:List Str:=(W.OpenLaw.prog PySem.Challenge.rw_lendrule_k20_ahead_of_the_first_act).boundNames.filter (· != "law")
def Xt(s:aq):Bool:=W.xlAt qv [] s&&W.recOk (W.RowW.records (W.OpenRow.toRowW (W.OpenLaw.row PySem.Challenge.rw_lendrule_k20_ahead_of_the_first_act))) s
abbrev hk:W.Hook:=Le bK Pu TR GZ G0
theorem e1(w:aM):(l9 (W.OpenLaw.prog PySem.Challenge.rw_lendrule_k20_ahead_of_the_first_act) "special-get-raises" false 5000 w).map (W.openSeen qv lo (importedModules (W.OpenLaw.prog PySem.Challenge.rw_lendrule_k20_ahead_of_the_first_act).main.body) Xt true)=some (W.openGood qv lo):=by kernel_rfl
theorem e2(w:aM):(l9 (W.OpenLaw.prog PySem.Challenge.rw_lendrule_k20_ahead_of_the_first_act) "special-get-raises" true 5000 w).map (W.openSeen qv lo (importedModules (W.OpenLaw.prog PySem.Challenge.rw_lendrule_k20_ahead_of_the_first_act).main.body) Xt true)=some (W.openGood qv lo):=by kernel_rfl
theorem Y1(w:aM):(l9 (W.OpenLaw.prog PySem.Challenge.rw_lendrule_k20_ahead_of_the_first_act) "special-get-raises" false 5000 w).map (λs:aq=>(bK.defs.take 26).map (λd=>chFn (eK s.heap) d.1))=some ((bK.defs.take 26).map (λd=>some (l6 d.1 d.2))):=by kernel_rfl
theorem Y2(w:aM):(l9 (W.OpenLaw.prog PySem.Challenge.rw_lendrule_k20_ahead_of_the_first_act) "special-get-raises" false 5000 w).map (λs:aq=>(bK.defs.drop 26).map (λd=>chFn (eK s.heap) d.1))=some ((bK.defs.drop 26).map (λd=>some (l6 d.1 d.2))):=by kernel_rfl
theorem Y3(w:aM):(l9 (W.OpenLaw.prog PySem.Challenge.rw_lendrule_k20_ahead_of_the_first_act) "special-get-raises" false 5000 w).map (λs:aq=>(bK.cons.all (sN (eK s.heap) mainGlobals)&&(bK.dg.all (w6 (eK s.heap))&&xh bK (eK s.heap) s.heap),bK.exc.map (w9 (eK s.heap)),bK.sub.map (λd=>xb (eK s.heap) d.1.1 d.1.2),bK.tabs.map (λd=>xc (eK s.heap) d.1 d.2),bK.cls.map (λd=>xf (eK s.heap) bK.flds d.1),bK.fy.map λd=>p7 (eK s.heap) d.1 d.2))=some ((true,bK.exc.map (λ_=>p4),bK.sub.map (λd=>some (some d.2,some d.2)),bK.tabs.map (λd=>p5 (w.withFollow "special-get-raises" false).params d.2),bK.cls.map (λd=>p8 bK.flds d.1 d.2),bK.fy.map λd=>l7 (w.withFollow "special-get-raises" false).params d.2)):=by kernel_rfl
theorem e3(w:aM):(l9 (W.OpenLaw.prog PySem.Challenge.rw_lendrule_k20_ahead_of_the_first_act) "special-get-raises" false 5000 w).map (W.Hook.obs hk)=some (W.Hook.val hk (w.withFollow "special-get-raises" false)):=l8 (Y1 w) (l8 (Y2 w) (Y3 w))
theorem Y4(w:aM):(l9 (W.OpenLaw.prog PySem.Challenge.rw_lendrule_k20_ahead_of_the_first_act) "special-get-raises" true 5000 w).map (λs:aq=>(bK.defs.take 26).map (λd=>chFn (eK s.heap) d.1))=some ((bK.defs.take 26).map (λd=>some (l6 d.1 d.2))):=by kernel_rfl
theorem Y5(w:aM):(l9 (W.OpenLaw.prog PySem.Challenge.rw_lendrule_k20_ahead_of_the_first_act) "special-get-raises" true 5000 w).map (λs:aq=>(bK.defs.drop 26).map (λd=>chFn (eK s.heap) d.1))=some ((bK.defs.drop 26).map (λd=>some (l6 d.1 d.2))):=by kernel_rfl
theorem Y6(w:aM):(l9 (W.OpenLaw.prog PySem.Challenge.rw_lendrule_k20_ahead_of_the_first_act) "special-get-raises" true 5000 w).map (λs:aq=>(bK.cons.all (sN (eK s.heap) mainGlobals)&&(bK.dg.all (w6 (eK s.heap))&&xh bK (eK s.heap) s.heap),bK.exc.map (w9 (eK s.heap)),bK.sub.map (λd=>xb (eK s.heap) d.1.1 d.1.2),bK.tabs.map (λd=>xc (eK s.heap) d.1 d.2),bK.cls.map (λd=>xf (eK s.heap) bK.flds d.1),bK.fy.map λd=>p7 (eK s.heap) d.1 d.2))=some ((true,bK.exc.map (λ_=>p4),bK.sub.map (λd=>some (some d.2,some d.2)),bK.tabs.map (λd=>p5 (w.withFollow "special-get-raises" true).params d.2),bK.cls.map (λd=>p8 bK.flds d.1 d.2),bK.fy.map λd=>l7 (w.withFollow "special-get-raises" true).params d.2)):=by kernel_rfl
theorem e4(w:aM):(l9 (W.OpenLaw.prog PySem.Challenge.rw_lendrule_k20_ahead_of_the_first_act) "special-get-raises" true 5000 w).map (W.Hook.obs hk)=some (W.Hook.val hk (w.withFollow "special-get-raises" true)):=l8 (Y4 w) (l8 (Y5 w) (Y6 w))
theorem ws:W.OpenLaw.wellSaid PySem.Challenge.rw_lendrule_k20_ahead_of_the_first_act=true:=by kernel_rfl
end cn
open PySem PySem.W PyProof.Rows PySem.Calls
set_option maxRecDepth 100000 in
set_option maxHeartbeats 0 in
theorem cn.fin(hc:∀d:DefRec,d.name="law"->d.params.defaults=[]->W.WalkO cn.qv cn.lo (XL cn.qv []) (Hook.says cn.hk) (W.OpenRow.toRowW (W.OpenLaw.row PySem.Challenge.rw_lendrule_k20_ahead_of_the_first_act)) d [] (λf vs=>PySem.call f vs)):PySem.Challenge.rw_lendrule_k20_ahead_of_the_first_act.Holds:=by
 w_on;refine W.holds_law cn.ws λac1=>?_
 refine W.holds_open (q:=cn.qv) (loose:=cn.lo) (Xt:=cn.Xt) (XP:=XL cn.qv []) (Yf:=Hook.obs cn.hk) (Ya:=Hook.val cn.hk) (YP:=Hook.says cn.hk) (N:=5000) (L2.PL.Eg "special-get-raises" cn.e1 cn.e2 cn.e3 cn.e4) (Hook.of _) (Hook.keeps _) (λs e=>xl_of s (Bool.and_eq_true_iff.mp e).1) XL.keeps (by rfl) (by rfl) (by rfl) (λs e=>recFacts_of (Bool.and_eq_true_iff.mp e).2) (by rfl) (by first | assumption | decide +kernel) (by decide +kernel) ⟨rfl,rfl,rfl,rfl,rfl,by decide +kernel⟩ ?hw (hc _ rfl rfl)
 case hw=>w_witness2
end
namespace L2
open PySem PySem.Spec PyProof.Rows
def tm:bQ->ag->Bool
  | .inl k,v=>Value.isInt k v
  | .inr x,v=>Value.isStrOf x v
def Y7(w:aM):bQ->Int
  | .inl k=>hashInt k
  | .inr x=>hashStr w x
theorem dm:∀{k:bQ} {v:ag},tm k v=true->(∃i t,k=Sum.inl i/\v=Value.int i t)\/(∃x t,k=Sum.inr x/\v=Value.str x t)
  | .inl i,v,h=>by
    obtain⟨t,e⟩:=Value.isInt_shape (k:=i) (v:=v) h;exact .inl ⟨i,t,rfl,e⟩
  | .inr x,v,h=>by
    obtain⟨t,e⟩:=Value.isStrOf_shape (x:=x) (v:=v) h;exact .inr ⟨x,t,rfl,e⟩
theorem El(i:Int)(t:Tok):tm (.inl i) (.int i t)=true:=by simp[tm,Value.isInt]
theorem Em(x:Str)(t:Tok):tm (.inr x) (.str x t)=true:=by simp[tm,Value.isStrOf]
theorem Py(a b:Int):decide ((Sum.inl a:bQ)=Sum.inl b)=(a==b):=by
  by_cases e:a=b
  · subst e;simp
  · have h:¬(Sum.inl a:bQ)=Sum.inl b:=λq=>e (Sum.inl.inj q)
    rw[e9 h];exact(lu.mpr e).symm
theorem Pz(a b:Str):decide ((Sum.inr a:bQ)=Sum.inr b)=decide (a=b):=by
  by_cases e:a=b
  · subst e;simp
  · have h:¬(Sum.inr a:bQ)=Sum.inr b:=λq=>e (Sum.inr.inj q)
    rw[e9 h,e9 e]
theorem PC(a:Int)(b:Str):decide ((Sum.inl a:bQ)=Sum.inr b)=false:=e9 (λq=>nomatch q)
theorem PD(a:Str)(b:Int):decide ((Sum.inr a:bQ)=Sum.inl b)=false:=e9 (λq=>nomatch q)
def et(prog:bc)(w:aM):PySem.KeyKind prog w bQ where
  is:=tm
  hash:=Y7 w
  inj:=λv a b ha hb=>by
    rcases dm ha with⟨i,t,rfl,rfl⟩ | ⟨x,t,rfl,rfl⟩
    · rcases dm hb with⟨j,u,rfl,e⟩ | ⟨y,u,rfl,e⟩
      · injection e with e1 _;rw[e1]
      · exact nomatch e
    · rcases dm hb with⟨j,u,rfl,e⟩ | ⟨y,u,rfl,e⟩
      · exact nomatch e
      · injection e with e1 _;rw[e1]
  byValue:=λk v h=>by
    rcases dm h with⟨i,t,rfl,rfl⟩ | ⟨x,t,rfl,rfl⟩<;>rfl
  pyHash:=λhv h=>by
    rcases dm hv with⟨i,t,rfl,rfl⟩ | ⟨x,t,rfl,rfl⟩
    · exact wpAny_pyHash_int h
    · exact wpAny_pyHash_str h
  eqBool:=λhu hv h=>by
    rcases dm hu with⟨i,t,rfl,rfl⟩ | ⟨x,t,rfl,rfl⟩
    · rcases dm hv with⟨j,u,rfl,rfl⟩ | ⟨y,u,rfl,rfl⟩
      · rw[Py]at h;exact wpAny_eqBool_int h
      · rw[PC]at h;exact SeqAt.EqAt.int_str i t y u _ _ _ _ h
    · rcases dm hv with⟨j,u,rfl,rfl⟩ | ⟨y,u,rfl,rfl⟩
      · rw[PD]at h;exact SeqAt.EqAt.str_int x t j u _ _ _ _ h
      · rw[Pz]at h;exact wpAny_eqBool_str h
  «strs» := λk x t v h=>by
    rcases dm h with⟨i,u,rfl,e⟩ | ⟨y,u,rfl,e⟩
    · exact nomatch e
    · injection e with e1 _
      subst e1;cases v<;>rfl
theorem xB(prog:bc)(w:aM)(i:Int)(t:Tok):(et prog w).is (.inl i) (.int i t)=true:=El i t
theorem xC(prog:bc)(w:aM)(x:Str)(t:Tok):(et prog w).is (.inr x) (.str x t)=true:=Em x t
theorem Vals.length{xs:List V}{us:b6}(r:Vals xs us):xs.length=us.length:=uW r
theorem Vals.get:∀{xs:List V} {us:b6} {i:Nat} {x:V},Vals xs us->xs[i]?=some x->∃u,us[i]?=some u/\RelV x u
  | _,_,_,_,.nil,e=>by simp at e
  | _,_,0,_,.cons r _,e=>by simp at e;subst e;exact⟨_,rfl,r⟩
  | _,_,i+1,x,.cons _ t,e=>by
    obtain⟨u,h1,h2⟩:=Vals.get (i:=i) (x:=x) t (by simpa using e)
    exact⟨u,by simpa using h1,h2⟩
theorem Vals.set{x:V}{u:ag}(r:RelV x u):∀{xs:List V} {us:b6} (i:Nat),Vals xs us->Vals (xs.set i x) (us.set i u)
  | _,_,_,.nil=>.nil
  | _,_,0,.cons _ t=>.cons r t
  | _,_,i+1,.cons q t=>.cons q (Vals.set r i t)
theorem Vals.append:∀{xs ys:List V} {us ws:b6},Vals xs us->Vals ys ws->Vals (xs++ys) (us++ws)
  | _,_,_,_,.nil,s=>s
  | _,_,_,_,.cons r t,s=>.cons r (Vals.append t s)
theorem Vals.take:∀{xs:List V} {us:b6} (n:Nat),Vals xs us->Vals (xs.take n) (us.take n)
  | _,_,0,_=>.nil
  | _,_,_+1,.nil=>.nil
  | _,_,n+1,.cons r t=>.cons r (Vals.take n t)
theorem Vals.drop:∀{xs:List V} {us:b6} (n:Nat),Vals xs us->Vals (xs.drop n) (us.drop n)
  | _,_,0,r=>r
  | _,_,_+1,.nil=>.nil
  | _,_,n+1,.cons _ t=>Vals.drop n t
def En:Option V->lE->Prop
  | some v,some u=>RelV v u
  | none,none=>True
  | _,_=>False
def KV{κ:Type}:List (κ×V)->List (κ×ag)->Prop:=Paired fun(p:κ×V) (q:κ×ag)=>p.1=q.1/\RelV p.2 q.2
def kV:bQ->V
  | .inl i=>.int i
  | .inr x=>.str x
def upd(H:Hp)(a:ab)(o:HO):Hp:=λb=>if b=a then some o else H b
theorem aC{H:Hp}{a:ab}{o:HO}:upd H a o a=some o:=by unfold upd;rw[if_pos rfl]
theorem upd_ne{H:Hp}{a b:ab}{o:HO}(h:b≠a):upd H a o b=H b:=by unfold upd;rw[if_neg h]
theorem u7{H:Hp}{a:ab}{o u:HO}:upd (upd H a o) a u=upd H a u:=by
  funext b;unfold upd;split<;>rfl
theorem G6{H:Hp}{a b:ab}{o u:HO}(h:H a=some o)(h':H b=some u)(d:o≠u):a≠b:=by
  intro e;subst e;rw[h]at h';exact d (bg h')
theorem ne_of_none{H:Hp}{a b:ab}{o:HO}(h:H a=some o)(h':H b=none):a≠b:=by
  intro e;subst e;rw[h]at h';cases h'
section
variable (P:bc) (w:aM)
def dE(H:Hp)(h:Heap)(a:ab):HO->Prop
  | .ay xs=>xs.length<=sizeLine/\∃(aN:b6) (n:Nat),Vals xs aN/\h.get? a=some {cls:=.type "list",data:=.seq aN.toArray n}
  | .aJ xs=>xs.length<=sizeLine/\∃aN:b6,Vals xs aN/\IsTup h a aN.toArray
  | .dK kvs=>kvs.length<=sizeLine/\(a==sysModules)=false/\∃vs,KV kvs vs/\h.DictOf (et P w) a vs
  | .dT xs=>xs.length<=sizeLine/\(a==sysModules)=false/\∃o es ep,h.get? a=some o/\o.ExactDict/\o.data=.dict es ep/\es.toList=xs.map (entryOfKey (tupleKind (et P w)))/\(xs.map (·.1)).Nodup
  | .set S n=>h.SetOf (intKind P w) a S n
  | .Po C dx fs=>H dx=some (.own a)/\fs.length<=1000/\dx≠a/\h.get? a=some (W.instObj C dx) /\
      ∃mA,h.Ns1 dx mA/\(∀f,En (fs.lookup f) (mA f))/\PySem.Within mA (fs.map (·.1))
  | .own _=>∃o,h.get? a=some o
  | .xd fs=>∃mA,h.Ns1 a mA/\∀f,En (fs.lookup f) (mA f)
  | .YT lo hi=>∃t u v,h.get? a=some {cls:=.type "range",data:=.fields #[.int lo t,.int hi u,.int 1 v]}
  | .k0 o u=>h.get? a=some o/\dE H h a u
  | .wX q=>∃ps:Array ag,h.get? a=some {cls:=.none,data:=.fields ps}/\TriplesOk ps.toList/\∀(pos:Pos) (cv:ag),codeAmong pos ps.toList=some cv ->
      ∃(c:ab) (oc:Obj) (u:HO) (vs:Array ag) (t:Tok),cv=.ref c/\H c=some (.k0 oc u)/\oc.data=.fields vs/\vs[1]?=some (.str q t)
  | .GB f x=>h.get? a=some (W.methodObj (.ref f) (.ref x))
  | .ext φ=>φ h/\(∃o,h.get? a=some o)/\∀h1 h2:Heap,φ h1->(∀o,h1.get? a=some o->h2.get? a=some o)->φ h2
def m9(H:Hp)(h:Heap):Prop:=∀a o,H a=some o->dE P w H h a o
end
section
variable {P:bc} {w:aM} {H H':Hp} {h h':Heap} {a:ab} {o:HO}
theorem dE.lt(x:dE P w H h a o):a<h.objs.size:=by
  cases o with
  | ay xs=>obtain⟨_,_,_,_,e⟩:=x;exact bA e
  | aJ xs=>obtain⟨_,_,_,p⟩:=x;exact p.lt
  | dK kvs=>obtain⟨_,_,_,_,o,_,_,e,_⟩:=x;exact bA e
  | dT kvs=>obtain⟨_,_,o,_,_,e,_⟩:=x;exact bA e
  | set S n=>obtain⟨o,_,_,_,e,_⟩:=x;exact bA e
  | Po C dx fs=>obtain⟨_,_,_,e,_⟩:=x;exact bA e
  | own y=>obtain⟨_,e⟩:=x;exact bA e
  | xd fs=>obtain⟨_,⟨_,_,_,e,_⟩,_⟩:=x;exact bA e
  | YT lo hi=>obtain⟨_,_,_,e⟩:=x;exact bA e
  | k0 ob u=>obtain⟨e,_⟩:=x;exact bA e
  | wX q=>obtain⟨_,e,_⟩:=x;exact bA e
  | GB f y=>exact bA (show h.get? a=some _ from x)
  | ext φ=>obtain⟨_,⟨_,e⟩,_⟩:=x;exact bA e
theorem Paired.G7{α β:Type}{F G:α->β->Prop}:∀{l₁:List α} {l₂:List β},Paired F l₁ l₂->(∀a b,F a b->G a b)->Paired G l₁ l₂
  | _,_,.nil,_=>.nil
  | _,_,.cons r t,f=>.cons (f _ _ r) (Paired.G7 t f)
theorem dE.xD(x:dE P w H h a o)(k:∀b u,(b=a\/H b=some (.own a))->h.get? b=some u->h'.get? b=some u)
    (ho:∀b,H b=some (.own a)->H' b=some (.own a)) (ht:∀b xs,H b=some (.aJ xs)->H' b=some (.aJ xs)) (hz:∀b ob u,H b=some (.k0 ob u)->H' b=some (.k0 ob u)):dE P w H' h' a o:=by
  induction o with
  | ay xs=>obtain⟨z,aN,n,r,e⟩:=x;exact⟨z,aN,n,r,k _ _ (.inl rfl) e⟩
  | aJ xs=>obtain⟨z,aN,r,ob,e,c⟩:=x;exact⟨z,aN,r,ob,k _ _ (.inl rfl) e,c⟩
  | dK kvs=>obtain⟨z,y,vs,r,ob,es,ep,e,c⟩:=x;exact⟨z,y,vs,r,ob,es,ep,k _ _ (.inl rfl) e,c⟩
  | dT kvs=>obtain⟨z,y,ob,es,ep,e,c⟩:=x;exact⟨z,y,ob,es,ep,k _ _ (.inl rfl) e,c⟩
  | set S n=>obtain⟨ob,es,ep,t,e,c⟩:=x;exact⟨ob,es,ep,t,k _ _ (.inl rfl) e,c⟩
  | Po C dx fs =>
    obtain⟨d,z,ne,e,mA,⟨od,es,ep,e2,c⟩,r⟩:=x;exact⟨ho _ d,z,ne,k _ _ (.inl rfl) e,mA,⟨od,es,ep,k _ _ (.inr d) e2,c⟩,r⟩
  | own y=>obtain⟨ob,e⟩:=x;exact⟨ob,k _ _ (.inl rfl) e⟩
  | xd fs=>obtain⟨mA,⟨od,es,ep,e,c⟩,r⟩:=x;exact⟨mA,⟨od,es,ep,k _ _ (.inl rfl) e,c⟩,r⟩
  | YT lo hi=>obtain⟨t,u,v,e⟩:=x;exact⟨t,u,v,k _ _ (.inl rfl) e⟩
  | k0 ob u ih=>obtain⟨e,q⟩:=x;exact⟨k _ _ (.inl rfl) e,ih q⟩
  | wX q =>
    obtain⟨ps,e,t,c⟩:=x;exact⟨ps,k _ _ (.inl rfl) e,t,λpos cv z=>let ⟨c,oc,u,vs,tk,h1,h2,h3⟩:=c pos cv z;⟨c,oc,u,vs,tk,h1,hz _ _ _ h2,h3⟩⟩
  | GB f y =>
    have e:h.get? a=some (W.methodObj (.ref f) (.ref y)):=x;show h'.get? a=some (W.methodObj (.ref f) (.ref y));exact k a _ (.inl rfl) e
  | ext φ=>obtain⟨p,⟨o,e⟩,st⟩:=x;exact⟨st _ _ p λo q=>k _ _ (.inl rfl) q,⟨o,k _ _ (.inl rfl) e⟩,st⟩
theorem m9.lt(x:m9 P w H h)(e:H a=some o):a<h.objs.size:=(x a o e).lt
theorem m9.fresh(x:m9 P w H h)(e:h.objs.size<=a):H a=none:=by
  cases q:H a with
  | none=>rfl
  | some u=>exact absurd (cy (x.lt q) e) (gU _)
theorem m9.kept(x:m9 P w H h)(k:∀b u,h.get? b=some u->h'.get? b=some u):m9 P w H h':=λa o e =>
  (x a o e).xD (λb u _ q=>k b u q) (λ_ q=>q) (λ_ _ q=>q) λ_ _ _ q=>q
theorem m9.laid(x:m9 P w H h)(k:∀b u,h.get? b=some u->h'.get? b=some u)(hp:h.objs.size<=a)(new:dE P w (upd H a o) h' a o):m9 P w (upd H a o) h':=λb u e=>by
  have hn:=x.fresh hp;by_cases hb:b=a
  · subst hb;rw[aC]at e;cases e;exact new
  · rw[upd_ne hb]at e
    exact(x b u e).xD (λc v _ q=>k c v q) (λc q=>by rw[upd_ne (ne_of_none q hn)];exact q) (λc xs q=>by rw[upd_ne (ne_of_none q hn)];exact q) λc ob v q=>by rw[upd_ne (ne_of_none q hn)];exact q
end
theorem Rd.ok{P:bc}{w:aM}{H:Hp}{h:Heap}{a:ab}{u:HO}(r:Rd H a u)(x:m9 P w H h):dE P w H h a u:=by
  rcases r with r | ⟨o,r⟩
  · exact x a u r
  · obtain⟨_,q⟩:=x a _ r
    exact q
def Xi:Option HO->Prop
  | some (.ay _)=>True
  | some (.dK _)=>True
  | some (.dT _)=>True
  | some (.set _ _)=>True
  | some (.Po _ _ _)=>True
  | some (.ext _)=>True
  | _=>False
section
variable {P:bc} {w:aM} {H:Hp} {h h':Heap} {x e:ab} {o':HO}
theorem m9.write(ok:m9 P w H h)(mu:Xi (H x))(he:e=x\/H e=some (.own x))(k:∀b u,b≠e->h.get? b=some u->h'.get? b=some u)(S6:∃u,h'.get? e=some u)
    (new:dE P w (upd H x o') h' x o'):m9 P w (upd H x o') h':=λb u q=>by
  have TU:∀c y,H c=some (.own y)->c≠x:=λc y r z=>by subst z;rw[r]at mu;exact mu
  have Y8:∀c xs,H c=some (.aJ xs)->c≠x:=λc xs r z=>by subst z;rw[r]at mu;exact mu
  have Y9:∀c ob v,H c=some (.k0 ob v)->c≠x:=λc ob v r z=>by subst z;rw[r]at mu;exact mu
  by_cases hb:b=x
  · subst hb;rw[aC]at q;cases q;exact new
  · rw[upd_ne hb]at q
    by_cases PF:b=e
    · have q':H b=some (.own x):=by
        rcases he with z | z
        · exact absurd (PF.trans z) hb
        · rw[PF];exact z
      rw[q]at q';cases q';obtain⟨v,hv⟩:=S6;exact⟨v,by rw[PF];exact hv⟩
    · refine(ok b u q).xD (λc v hc r=>k c v ?_ r) (λc r=>by rw[upd_ne (TU c b r)];exact r) (λc xs r=>by rw[upd_ne (Y8 c xs r)];exact r) λc ob v r=>by rw[upd_ne (Y9 c ob v r)];exact r
      rcases hc with rfl | hc
      · exact PF
      · rintro rfl
        rcases he with z | z
        · exact TU c b hc z
        · rw[hc]at z;cases z;exact hb rfl
end
structure Un (fs ex:List ab) (H H':Hp) (h h':Heap):Prop where
  keep:∀b o,h.get? b=some o->H b=none->b∉fs->b∉ex->h'.get? b=some o
  slot:∀b o,h.get? b=some o->H b=none->b∈fs->b∉ex->∃sl,h'.get? b=some {o with slots:=sl}
  free:∀b o,h.get? b=some o->H b=none->b∉ex->H' b=none
  there:∀b o,h.get? b=some o->b∉ex->∃o',h'.get? b=some o'
  tups:∀b xs,H b=some (.aJ xs)->H' b=some (.aJ xs)
  frzs:∀b o u,H b=some (.k0 o u)->H' b=some (.k0 o u)
  tbls:∀b q,H b=some (.wX q)->H' b=some (.wX q)
section
variable {fs S7 ex ex':List ab} {H H1 H2:Hp} {h h1 h2 h':Heap} {a x e:ab} {o:HO}
theorem Un.any(u:Un fs ex H H1 h h1){b:ab}{ob:Obj}(q:h.get? b=some ob)(n:H b=none)(hx:b∉ex):∃sl,h1.get? b=some {ob with slots:=sl}:=by
  by_cases hb:b∈fs
  · exact u.slot b ob q n hb hx
  · exact⟨ob.slots,u.keep b ob q n hb hx⟩
theorem Un.kept(k:∀b u,h.get? b=some u->h'.get? b=some u):Un fs ex H H h h' :=
  ⟨λb ob q _ _ _=>k b ob q,λb ob q _ _ _=>⟨ob.slots,k b ob q⟩,λ_ _ _ n _=>n,λb ob q _=>⟨ob,k b ob q⟩,λ_ _ q=>q,λ_ _ _ q=>q,λ_ _ q=>q⟩
theorem Un.refl:Un fs ex H H h h:=Un.kept λ_ _ q=>q
theorem Un.laid(k:∀b u,h.get? b=some u->h'.get? b=some u)(hp:h.objs.size<=a)(hn:H a=none):Un fs ex H (upd H a o) h h' where
  keep:=λb u q _ _ _=>k b u q
  slot:=λb u q _ _ _=>⟨u.slots,k b u q⟩
  free:=λb u q n _=>by rw[upd_ne (b8 (cy (bA q) hp))];exact n
  there:=λb u q _=>⟨u,k b u q⟩
  tups:=λb xs q=>by rw[upd_ne (ne_of_none q hn)];exact q
  frzs:=λb u xs q=>by rw[upd_ne (ne_of_none q hn)];exact q
  tbls:=λb ps q=>by rw[upd_ne (ne_of_none q hn)];exact q
theorem Un.write(mu:Xi (H x))(he:e=x\/H e=some (.own x))(k:∀b u,b≠e->h.get? b=some u->h'.get? b=some u)(S6:∃u,h'.get? e=some u):Un fs ex H (upd H x o) h h':=by
  have hx:∀b,H b=none->b≠x:=λb n z=>by subst z;rw[n]at mu;exact mu
  have hb:∀b,H b=none->b≠e:=λb n z=>by
    subst z;rcases he with r | r
    · exact hx b n r
    · rw[n]at r;cases r
  have hm:∀b u,H b=some u->¬Xi (some u)->b≠x:=λb u q nm z=>by subst z;rw[q]at mu;exact nm mu
  refine⟨λb u q n _ _=>k b u (hb b n) q,λb u q n _ _=>⟨u.slots,k b u (hb b n) q⟩,λb u q n _=>by rw[upd_ne (hx b n)];exact n,λb u q _=>?_,
    λb xs q=>by rw[upd_ne (hm b _ q λz=>z)];exact q,λb u xs q=>by rw[upd_ne (hm b _ q λz=>z)];exact q,λb ps q=>by rw[upd_ne (hm b _ q λz=>z)];exact q⟩
  by_cases PF:b=e
  · subst PF;exact S6
  · exact⟨u,k b u PF q⟩
end
def Xj(h:Heap)(H:Hp):List ab:=(List.range h.objs.size).filter λa=>(H a).isSome
def xE(h:Heap)(H:Hp):Heap:=W.hideAll h (Xj h H)
theorem Eo(h:Heap)(H:Hp):(xE h H).objs.size=h.objs.size:=W.hideAll_size _ _
theorem hidT_get{h:Heap}{H:Hp}{b:ab}{o:Obj}(e:h.get? b=some o)(n:H b=none):(xE h H).get? b=some o :=
  W.hideAll_get _ e λhm=>by
    have q:(H b).isSome=true:=(An.mp hm).2;rw[n]at q;simp at q
theorem of_hidT{h:Heap}{H:Hp}{b:ab}{o:Obj}(e:(xE h H).get? b=some o):h.get? b=some o/\H b=none:=by
  have e':h.get? b=some o:=W.of_hideAll (Xj h H) e;refine⟨e',?_⟩;cases q:H b with
  | none=>rfl
  | some x =>
    have hm:b∈Xj h H:=An.mpr ⟨cZ.mpr (bA e'),by simp[q]⟩
    have z:(xE h H).get? b=none:=W.hideAll_none (Xj h H) hm;rw[z]at e;cases e
structure Mod (K:ah) (mg:dy) (base:Heap):Prop where
  kin:K.In base
  glob:base.Ns mainGlobals mg
  blt:∃mb,base.Ns builtinsNs mb/\∀x:Str,x≠"__name__"->mb x=bootBuiltins x
  nolimit:base.NoLimit
structure Cx where
  prog:bc
  w:aM
  K:ah
  mg:dy
  base:Heap
  A:bD
  N:List Str
  s₀:aq
  H₀:Hp
  env:Env
  outer:List Env
  stack:List Env
  ex:List ab
  fn:Str->Bool
  calm:Bool
  pn:List (ab×Obj)
  xe:cf
def zA(l:List Env):List ab:=l.filterMap (·.frame)
abbrev Cx.fs(X:Cx):List ab:=zA X.outer
def S8(sc:Scope)(x:Str):Prop:=sc.names.lookup x=some .local\/sc.names.lookup x=some .cell\/sc.names.lookup x=some .free
def NZ(sc:Scope)(x:Str):Prop:=sc.names.lookup x=some .local\/sc.names.lookup x=some .cell
def Za(env:Env)(h:Heap)(m:dy)(x:Str)(u:ag):Prop :=
  (env.kindOf x=some .local/\m x=some u)\/((env.kindOf x=some .cell\/env.kindOf x=some .free)/\∃c,env.cells.lookup x=some c/\h.IsCell c (some u))
def rV(x:Str):Str:=x++".<locals>."++"<lambda>"
def qd(K:ah)(H:Hp):Prop:=∀x∈dD,∀c T,W.tabIn K x=some (c,T)->H T=some (.wX (rV x))
structure Cx.Ok (X:Cx):Prop where
  mod:Mod X.K X.mg X.base
  kind:X.env.scope.kind=.function
  glob:X.env.globals=mainGlobals
  blt:X.env.builtins=builtinsNs
  above:X.s₀.heap.objs.size<=X.env.locals
  inj:∀x y c,X.env.cells.lookup x=some c->X.env.cells.lookup y=some c->x=y
  has:∀x,(X.env.kindOf x=some .cell\/X.env.kindOf x=some .free)->∃c,X.env.cells.lookup x=some c
  cab:∀x c,X.fn x=true->X.env.cells.lookup x=some c->X.s₀.heap.objs.size<=c
  hd:X.calm=true->X.A.handled=none
  frames:X.A.frames=some X.stack
  stk:X.stack=X.outer\/(X.stack=X.env::X.outer/\X.env.frame=some X.env.locals)
  exf:∀b∈X.ex,b≠X.env.locals/\∀x c,X.env.cells.lookup x=some c->c≠b
  bs:∀b o,X.base.get? b=some o->X.s₀.heap.get? b=some o/\X.H₀ b=none
  bsz:X.base.objs.size<=X.s₀.heap.objs.size
  noex:∀b o,X.base.get? b=some o->b∉X.ex
  exfs:∀b∈X.ex,b∉X.fs
  funs:X.s₀.heap.FunFrames X.base X.outer
  frf:∀b∈X.fs,X.H₀ b=none
  tabs:qd X.K X.H₀
structure Inv (X:Cx) (af:List (ab×Obj)) (σ:List (Option V)) (H:Hp) (s:aq):Prop where
  ok:X.Ok
  os:s.os=X.s₀.os
  bare:AllBare s.gens
  base:Un X.fs X.ex X.H₀ H X.s₀.heap s.heap
  loc:∃m,s.heap.Ns X.env.locals m/\∀(i:Nat) (x:Str) (v:V),X.N[i]?=some x->σ[i]?=some (some v)->S8 X.env.scope x->∃u,RelV v u/\Za X.env s.heap m x u
  cell:∀x c,X.env.cells.lookup x=some c->∃v,s.heap.IsCell c v
  free:H X.env.locals=none
  freeC:∀x c,X.env.cells.lookup x=some c->H c=none
  pin:∀p∈X.pn++af,s.heap.get? p.1=some p.2/\H p.1=none/\p.1≠X.env.locals/\p.1∉X.fs/\∀v,p.2.data≠.cell v
  hok:m9 X.prog X.w H s.heap
  len:σ.length=X.N.length
section
variable {X:Cx} {af:List (ab×Obj)} {σ:List (Option V)} {H H':Hp} {s:aq} {h':Heap}
theorem Cx.Ok.Zb(ok:X.Ok){b:ab}{o:Obj}(e:X.base.get? b=some o):b∉X.fs:=λhb=>by
  have:=(ok.funs.mem hb).1;rw[e]at this;cases this
theorem Inv.bs(I:Inv X af σ H s):∀b o,X.base.get? b=some o->s.heap.get? b=some o/\H b=none:=λb o e =>
  ⟨I.base.keep b o (I.ok.bs b o e).1 (I.ok.bs b o e).2 (I.ok.Zb e) (I.ok.noex b o e),I.base.free b o (I.ok.bs b o e).1 (I.ok.bs b o e).2 (I.ok.noex b o e)⟩
theorem Inv.bk(I:Inv X af σ H s):∀b o,X.base.get? b=some o->s.heap.get? b=some o:=λb o e=>(I.bs b o e).1
theorem Inv.mod(I:Inv X af σ H s):Mod X.K X.mg X.base:=I.ok.mod
theorem Inv.wQ(I:Inv X af σ H s):X.K.In s.heap:=I.ok.mod.kin.keeps I.bk
theorem Inv.lt(I:Inv X af σ H s):X.env.locals<s.heap.objs.size:=let ⟨_,hn,_⟩:=I.loc;hn.lt
theorem Inv.sz(I:Inv X af σ H s):X.s₀.heap.objs.size<=s.heap.objs.size:=bY I.ok.above (iH I.lt)
theorem Inv.Zc(I:Inv X af σ H s){a:ab}(h:s.heap.objs.size<=a):a∉X.fs:=λhb=>by
  obtain⟨_,o,ho,_⟩:=I.ok.funs.mem hb;exact absurd (cy (bA ho) (bY I.sz h)) (gU _)
theorem Inv.PH(I:Inv X af σ H s):∀x c,X.env.cells.lookup x=some c->c≠X.env.locals:=λx c e z=>by
  obtain⟨v,o,ho,hd⟩:=I.cell x c e;obtain⟨m,⟨o',es,ep,rN,u6,_⟩,_⟩:=I.loc;rw[z,rN]at ho;cases ho;rw[u6]at hd;cases hd
theorem Inv.funs(I:Inv X af σ H s):s.heap.FunFrames X.base X.outer:=by
  have all:∀(l:List Env),(∀b∈zA l,b∈X.fs)->X.s₀.heap.FunFrames X.base l->s.heap.FunFrames X.base l:=by
    intro l;induction l with
    | nil=>intro _ _;trivial
    | cons env r ih =>
      intro hs hl;obtain⟨hk,⟨L,o,hf,hn,ho,hd⟩,hr⟩:=hl;have hL:L∈X.fs:=hs L (by unfold zA;rw[zV,hf];exact bz)
      obtain⟨sl,e⟩:=I.base.slot L o ho (I.ok.frf L hL) hL λz=>I.ok.exfs L z hL
      exact⟨hk,⟨L,_,hf,hn,e,hd⟩,ih (λb hb=>hs b (by unfold zA;rw[zV,hf];exact bE _ hb)) hr⟩
  exact all X.outer (λ_ hb=>hb) I.ok.funs
theorem Inv.stack(I:Inv X af σ H s):s.heap.FunFrames X.base X.stack:=by
  rcases I.ok.stk with e | ⟨e,hf⟩
  · rw[e];exact I.funs
  · rw[e]
    obtain⟨m,hn,_⟩:=I.loc;refine .cons (by rw[I.ok.kind];decide) hf hn ?_ I.funs
    exact Heap.get?_none_of_le (bY I.ok.bsz I.ok.above)
theorem Inv.Az(I:Inv X af σ H s):∀b∈zA X.stack,b∈X.env.locals::X.fs:=λb hb=>by
  rcases I.ok.stk with e | ⟨e,hf⟩
  · rw[e]at hb;exact bE _ hb
  · rw[e]at hb
    unfold zA at hb;rw[zV,hf]at hb;exact hb
theorem Inv.Ct(I:Inv X af σ H s):∀b∈zA X.stack,H b=none:=λb hb=>by
  rcases aX.mp (I.Az b hb)with e | hb
  · rw[e];exact I.free
  · obtain⟨_,o,ho,_⟩:=I.ok.funs.mem hb
    exact I.base.free b o ho (I.ok.frf b hb) λz=>I.ok.exfs b z hb
theorem Inv.tabs(I:Inv X af σ H s):qd X.K H:=λx hx c T e=>I.base.tbls T _ (I.ok.tabs x hx c T e)
theorem Inv.step{g':Array GenState}{t':Nat}{d':Drawn}{ch:List ab}(I:Inv X af σ H s)
    (KZ:∀b∈ch,(b∈X.ex\/X.s₀.heap.objs.size<=b)/\b≠X.env.locals/\(∀x c,X.env.cells.lookup x=some c->c≠b)/\∀p∈X.pn++af,p.1≠b)
    (keep:∀b o,b≠X.env.locals->b∉X.fs->b∉ch->s.heap.get? b=some o->H b=none->h'.get? b=some o)
    (slot:∀b o,b≠X.env.locals->b∈X.fs->b∉ch->s.heap.get? b=some o->H b=none->∃sl,h'.get? b=some {o with slots:=sl}) (free:∀b o,b∉ch->s.heap.get? b=some o->H b=none->H' b=none)
    (there:∀b o,b∉ch->s.heap.get? b=some o->∃o',h'.get? b=some o')
    (tups:∀b xs,H b=some (.aJ xs)->H' b=some (.aJ xs)) (frzs:∀b o u,H b=some (.k0 o u)->H' b=some (.k0 o u)) (tbls:∀b q,H b=some (.wX q)->H' b=some (.wX q))
    (ns:∀m,s.heap.Ns X.env.locals m->h'.Ns X.env.locals m) (hok:m9 X.prog X.w H' h') (hg:AllBare g') :
    Inv X af σ H' {s with heap:=h',gens:=g',drawn:=d',toks:=t'}:=by
  have neL:∀b o,X.s₀.heap.get? b=some o->b≠X.env.locals:=λb o e=>b8 (cy (bA e) I.ok.above)
  have Xk:∀b o,X.s₀.heap.get? b=some o->b∉X.ex->b∉ch:=λb o e hx hb=>by
    rcases(KZ b hb).1 with z | z
    · exact hx z
    · exact absurd (cy (bA e) z) (gU _)
  have cellK:∀x c,X.env.cells.lookup x=some c->∀v,s.heap.IsCell c v->h'.IsCell c v:=by
    rintro x c e v ⟨o,ho,hd⟩
    have TV:c∉ch:=λz=>(KZ c z).2.2.1 x c e rfl
    by_cases hc:c∈X.fs
    · obtain⟨sl,q⟩:=slot c o (I.PH x c e) hc TV ho (I.freeC x c e)
      exact⟨_,q,hd⟩
    · exact⟨o,keep c o (I.PH x c e) hc TV ho (I.freeC x c e),hd⟩
  refine⟨I.ok,I.os,hg,⟨λb o e n hb hx=>?_,λb o e n hb hx=>?_,λb o e n hx=>?_,λb o e hx=>?_,λb xs e=>tups b xs (I.base.tups b xs e),λb o xs e=>frzs b o xs (I.base.frzs b o xs e),λb ps e=>?_⟩,?_,λx c e=>?_,?_,λx c e=>?_,λp hp=>?_,hok,I.len⟩
  · exact keep b o (neL b o e) hb (Xk b o e hx) (I.base.keep b o e n hb hx) (I.base.free b o e n hx)
  · obtain⟨sl,e1⟩:=I.base.slot b o e n hb hx
    obtain⟨sl',e2⟩:=slot b _ (neL b o e) hb (Xk b o e hx) e1 (I.base.free b o e n hx);exact⟨sl',e2⟩
  · obtain⟨o',e1⟩:=I.base.there b o e hx
    exact free b o' (Xk b o e hx) e1 (I.base.free b o e n hx)
  · obtain⟨o',e1⟩:=I.base.there b o e hx
    exact there b o' (Xk b o e hx) e1
  · exact tbls b ps (I.base.tbls b ps e)
  · obtain⟨m,hn,hl⟩:=I.loc
    refine⟨m,ns m hn,λi x v e1 e2 e3=>?_⟩
    obtain⟨u,r,l⟩:=hl i x v e1 e2 e3;refine⟨u,r,?_⟩;rcases l with l | ⟨k,c,e,z⟩
    · exact .inl l
    · exact .inr ⟨k,c,e,cellK x c e _ z⟩
  · obtain⟨v,z⟩:=I.cell x c e
    exact⟨v,cellK x c e v z⟩
  · obtain⟨m,⟨o,_,_,ho,_⟩,_⟩:=I.loc
    exact free _ o (λz=>(KZ _ z).2.1 rfl) ho I.free
  · obtain⟨v,o,ho,hd⟩:=I.cell x c e
    exact free c o (λz=>(KZ c z).2.2.1 x c e rfl) ho (I.freeC x c e)
  · obtain⟨e,n,ne,nf,d⟩:=I.pin p hp
    have TV:p.1∉ch:=λz=>(KZ p.1 z).2.2.2 p hp rfl
    exact⟨keep p.1 p.2 ne nf TV e n,free p.1 p.2 TV e n,ne,nf,d⟩
theorem Inv.un{t':Nat}(I:Inv X af σ H s)(u:Un X.fs [] H H' s.heap h')(hok:m9 X.prog X.w H' h'):Inv X af σ H' {s with heap:=h',toks:=t'}:=by
  obtain⟨m,⟨o,es,ep,ho,r⟩,_⟩:=id I.loc;obtain⟨sl,hL⟩:=u.any ho I.free (by simp)
  exact I.step (g':=s.gens) (d':=s.drawn) (ch:=[]) (λ_ z=>nomatch z) (λb o _ hb _ e n=>u.keep b o e n hb (by simp)) (λb o _ hb _ e n=>u.slot b o e n hb (by simp)) (λb o _ e n=>u.free b o e n (by simp)) (λb o _ e=>u.there b o e (by simp)) u.tups u.frzs u.tbls (λm' hm=>by
    obtain⟨o',Ep,TX,rN,r'⟩:=hm;rw[ho]at rN;cases rN;exact⟨_,Ep,TX,hL,r'⟩) hok I.bare
theorem Inv.call{g':Array GenState}{t':Nat}{d':Drawn}{ch:List ab}(I:Inv X af σ H s)(u:Un (zA X.stack) ch H H' s.heap h')(hok:m9 X.prog X.w H' h')(hg:AllBare g')
    (KZ:∀b∈ch,(b∈X.ex\/X.s₀.heap.objs.size<=b)/\b≠X.env.locals/\(∀x c,X.env.cells.lookup x=some c->c≠b)/\∀p∈X.pn++af,p.1≠b) :
    Inv X af σ H' {s with heap:=h',gens:=g',drawn:=d',toks:=t'}:=by
  obtain⟨m,⟨o,es,ep,ho,r⟩,_⟩:=id I.loc;obtain⟨sl,hL⟩:=u.any ho I.free λz=>(KZ _ z).2.1 rfl
  exact I.step (ch:=ch) KZ (λb o hL hb hc e n=>u.keep b o e n (λz=>(aX.mp (I.Az b z)).elim hL hb) hc) (λb o _ _ hc e n=>u.any e n hc) (λb o hc e n=>u.free b o e n hc) (λb o hc e=>u.there b o e hc) u.tups u.frzs u.tbls (λm' hm=>by
    obtain⟨o',Ep,TX,rN,r'⟩:=hm;rw[ho]at rN;cases rN;exact⟨_,Ep,TX,hL,r'⟩) hok hg
theorem Inv.turned{t':Nat}{it:ab}(I:Inv X af σ H s)(k:∀b o,b≠it->s.heap.get? b=some o->h'.get? b=some o)(hn:H it=none)(hL:it≠X.env.locals)
    (h1:it∈X.ex\/X.s₀.heap.objs.size<=it) (h2:∀x c,X.env.cells.lookup x=some c->c≠it) (h3:∀p∈X.pn++af,p.1≠it):Inv X af σ H {s with heap:=h',toks:=t'}:=by
  have TY:∀b u,H b=some u->b≠it:=λb u e z=>by rw[z,hn]at e;cases e
  refine I.step (g':=s.gens) (d':=s.drawn) (ch:=[it]) (λb hb=>?_) (λb o _ _ hc e _=>k b o (λz=>hc (by simp[z])) e) (λb o _ _ hc e _=>⟨o.slots,k b o (λz=>hc (by simp[z])) e⟩) (λ_ _ _ _ n=>n)
    (λb o hc e=>⟨o,k b o (λz=>hc (by simp[z])) e⟩) (λ_ _ e=>e) (λ_ _ _ e=>e) (λ_ _ e=>e) (λm hm=>?_) (λb u e=>?_) I.bare
  · have e:b=it:=by simpa using hb
    subst e;exact⟨h1,hL,h2,h3⟩
  · obtain⟨o,es,ep,ho,r⟩:=hm
    exact⟨o,es,ep,k _ o (dN hL) ho,r⟩
  · refine(I.hok b u e).xD (λc v hc q=>k c v ?_ q) (λ_ q=>q) (λ_ _ q=>q) λ_ _ _ q=>q
    rcases hc with z | z
    · rw[z];exact TY b u e
    · exact TY c _ z
theorem Inv.tok(I:Inv X af σ H s)(t:Nat):Inv X af σ H {s with toks:=t}:=I.un (h':=s.heap) (t':=t) Un.refl I.hok
theorem Inv.kept{t':Nat}(I:Inv X af σ H s)(k:∀b u,s.heap.get? b=some u->h'.get? b=some u):Inv X af σ H {s with heap:=h',toks:=t'}:=I.un (Un.kept k) (I.hok.kept k)
theorem Inv.laid{a:ab}{o:HO}{t':Nat}(I:Inv X af σ H s)(k:∀b u,s.heap.get? b=some u->h'.get? b=some u)(hp:s.heap.objs.size<=a)(new:dE X.prog X.w (upd H a o) h' a o) :
    Inv X af σ (upd H a o) {s with heap:=h',toks:=t'}:=I.un (Un.laid k hp (I.hok.fresh hp)) (I.hok.laid k hp new)
theorem Inv.write{x e:ab}{o:HO}{t':Nat}(I:Inv X af σ H s)(mu:Xi (H x))(he:e=x\/H e=some (.own x))(k:∀b u,b≠e->s.heap.get? b=some u->h'.get? b=some u)(S6:∃u,h'.get? e=some u)
    (new:dE X.prog X.w (upd H x o) h' x o):Inv X af σ (upd H x o) {s with heap:=h',toks:=t'}:=I.un (Un.write mu he k S6) (I.hok.write mu he k S6 new)
theorem Inv.md{N0:List (ab×Obj)}(I:Inv X af σ H s)(h:∀p∈N0,s.heap.get? p.1=some p.2/\H p.1=none/\p.1≠X.env.locals/\p.1∉X.fs/\∀v,p.2.data≠.cell v):Inv X N0 σ H s :=
  ⟨I.ok,I.os,I.bare,I.base,I.loc,I.cell,I.free,I.freeC,λp hp=>(dM.mp hp).elim (λz=>I.pin p (iB _ z)) (h p),I.hok,I.len⟩
theorem xF{N:List Str}(hN:N.Nodup){i j:Nat}{x:Str}(a:N[i]?=some x)(b:N[j]?=some x):i=j:=by
  obtain⟨h1,e1⟩:=cL.mp a;obtain⟨h2,e2⟩:=cL.mp b;exact(List.getElem_inj hN).mp (e1.trans e2.symm)
theorem store_ok2{M:Model}{A:bD}{E:cf}{i:Nat}{x:Str}{v:V}{u:ag}{Q:Unit->aq->Prop}(I:Inv X af σ H s)(hN:X.N.Nodup)(hi:X.N[i]?=some x)(hx:NZ X.env.scope x)(r:RelV v u)
    (h:∀s',Inv X af (σ.set i (some v)) H s'->(∃a,Heap.SameBut a s.heap s'.heap/\(a=X.env.locals\/X.env.cells.lookup x=some a))->Q () s') (hf:X.fn x=true\/X.env.scope.names.lookup x=some .local:=by first | exact .inl rfl | exact .inr rfl | assumption):wpAny M A (storeName X.env x u) Q E s:=by
  obtain⟨m,hn,hl⟩:=id I.loc;have Zd:(X.env.scope.kind==.class || (X.env.scope.kind==.module&&X.env.locals != X.env.globals))=false:=by rw[I.ok.kind];rfl
  have TZ:i<σ.length:=by rw[I.len];exact(cL.mp hi).1
  have PH:=I.PH;have Cu:∀{a:ab} {h':Heap},(∃o,s.heap.get? a=some o/\H a=none)->Heap.SameBut a s.heap h'->m9 X.prog X.w H h':=λ{a h'} ha hs b ob e=>by
    obtain⟨_,_,qf⟩:=ha;refine(I.hok b ob e).xD (λc w' hc q=>(hs.2 c ?_).trans q) (λ_ q=>q) (λ_ _ q=>q) λ_ _ _ q=>q
    rintro rfl
    rcases hc with rfl | hc
    · rw[qf]at e;cases e
    · rw[qf]at hc;cases hc
  rcases hx with hk | hk
  · refine wpAny_storeName_local hk hn (λh' hn' hs=>?_) Zd
    obtain⟨oL,_,_,T1,_⟩:=id hn;refine h _ ⟨I.ok,I.os,I.bare,⟨λb o e n hb hx=>?_,λb o e n hb hx=>?_,I.base.free,λb o e hx=>?_,I.base.tups,I.base.frzs,I.base.tbls⟩,⟨_,hn',λj y v' e1 e2 e3=>?_⟩,λy c e=>?_,I.free,I.freeC,λp hp=>?_,Cu ⟨oL,T1,I.free⟩ hs,by simpa using I.len⟩ ⟨_,hs,.inl rfl⟩
    · exact(hs.2 b (b8 (cy (bA e) I.ok.above))).trans (I.base.keep b o e n hb hx)
    · obtain⟨sl,e1⟩:=I.base.slot b o e n hb hx
      exact⟨sl,(hs.2 b (b8 (cy (bA e) I.ok.above))).trans e1⟩
    · obtain⟨o',e1⟩:=I.base.there b o e hx
      exact⟨o',(hs.2 b (b8 (cy (bA e) I.ok.above))).trans e1⟩
    · by_cases hj:j=i
      · subst hj
        rw[hi]at e1;cases e1;rw[bW TZ]at e2;cases e2;exact⟨u,r,.inl ⟨hk,by simp⟩⟩
      · rw[bj (dN hj)]at e2
        obtain⟨u',r',q⟩:=hl j y v' e1 e2 e3;refine⟨u',r',?_⟩;rcases q with⟨k,e⟩ | ⟨k,c,e,z⟩
        · refine .inl ⟨k,?_⟩
          have:y≠x:=λe=>hj (xF hN e1 (e▸hi))
          simp[this,e]
        · exact .inr ⟨k,c,e,z.sameBut hs (PH y c e)⟩
    · obtain⟨w',z⟩:=I.cell y c e
      exact⟨w',z.sameBut hs (PH y c e)⟩
    · obtain⟨e,n,ne,nf,d⟩:=I.pin p hp
      exact⟨(hs.2 p.1 ne).trans e,n,ne,nf,d⟩
  · have T4:X.fn x=true:=by
      rcases hf with z | z
      · exact z
      · rw[z]at hk;cases hk
    obtain⟨c,hc⟩:=I.ok.has x (.inl hk);obtain⟨w',z⟩:=I.cell x c hc;refine wpAny_storeName_cell I.ok.kind hk hc z (λh' Cv hs=>?_)
    obtain⟨oc,Xl,Ze⟩:=id z;refine h {s with heap:=h'} ⟨I.ok,I.os,I.bare,⟨λb o e n hb hx=>?_,λb o e n hb hx=>?_,I.base.free,λb o e hx=>?_,I.base.tups,I.base.frzs,I.base.tbls⟩,⟨m,hn.sameBut hs (dN (PH x c hc)),λj y v' e1 e2 e3=>?_⟩,λy c' e=>?_,I.free,I.freeC,λp hp=>?_,Cu ⟨oc,Xl,I.freeC x c hc⟩ hs,by simpa using I.len⟩ ⟨c,hs,.inr hc⟩
    · exact(hs.2 b (b8 (cy (bA e) (I.ok.cab x c T4 hc)))).trans (I.base.keep b o e n hb hx)
    · obtain⟨sl,e1⟩:=I.base.slot b o e n hb hx
      exact⟨sl,(hs.2 b (b8 (cy (bA e) (I.ok.cab x c T4 hc)))).trans e1⟩
    · obtain⟨o',e1⟩:=I.base.there b o e hx
      exact⟨o',(hs.2 b (b8 (cy (bA e) (I.ok.cab x c T4 hc)))).trans e1⟩
    · by_cases hj:j=i
      · subst hj
        rw[hi]at e1;cases e1;rw[bW TZ]at e2;cases e2;exact⟨u,r,.inr ⟨.inl hk,c,hc,Cv⟩⟩
      · rw[bj (dN hj)]at e2
        obtain⟨u',r',q⟩:=hl j y v' e1 e2 e3;refine⟨u',r',?_⟩;rcases q with q | ⟨k,c',e,z'⟩
        · exact .inl q
        · refine .inr ⟨k,c',e,z'.sameBut hs ?_⟩
          rintro rfl
          exact hj (xF hN e1 (I.ok.inj _ _ _ e hc▸hi))
    · by_cases hcc:c'=c
      · subst hcc;exact⟨_,Cv⟩
      · obtain⟨w2,z2⟩:=I.cell y c' e
        exact⟨w2,z2.sameBut hs hcc⟩
    · obtain⟨e,n,ne,nf,d⟩:=I.pin p hp
      refine⟨(hs.2 p.1 ?_).trans e,n,ne,nf,d⟩;intro q;rw[q,Xl]at e;have q':oc=p.2:=bg e;exact d w' (by rw[<-q'];exact Ze)
theorem qg{M:Model}{A:bD}{E:cf}{i:Nat}{x:Str}{v:V}{u:ag}{Q:Unit->aq->Prop}(I:Inv X af σ H s)(hN:X.N.Nodup)(hi:X.N[i]?=some x)(hx:NZ X.env.scope x)(r:RelV v u)
    (h:∀s',Inv X af (σ.set i (some v)) H s'->Q () s') (hf:X.fn x=true\/X.env.scope.names.lookup x=some .local:=by first | exact .inl rfl | exact .inr rfl | assumption):wpAny M A (storeName X.env x u) Q E s :=
  store_ok2 I hN hi hx r (λs' I' _=>h s' I') hf
theorem Inv.T5{s':aq}{ch:List ab}(I:Inv X af σ H s)(ho:s'.os=s.os)(u:Un (zA X.stack) ch H H' s.heap s'.heap)(hok:m9 X.prog X.w H' s'.heap)(hg:AllBare s'.gens)
    (KZ:∀b∈ch,(b∈X.ex\/X.s₀.heap.objs.size<=b)/\b≠X.env.locals/\(∀x c,X.env.cells.lookup x=some c->c≠b)/\∀p∈X.pn++af,p.1≠b):Inv X af σ H' s':=by
  obtain⟨h',g',d',t',o'⟩:=s';have e:o'=s.os:=ho;subst e;exact I.call (g':=g') (t':=t') (d':=d') u hok hg KZ
end
abbrev XK:=ag->Option ab->Hp->Prop
abbrev St:=List (Option V)
abbrev VK:=V->Hp->Prop
abbrev TE:=St->Hp->VK->Prop
abbrev TT:=St->Hp->(Bool->Hp->Prop)->Prop
abbrev TA:=St->Hp->(List V->Hp->Prop)->Prop
structure jG where
  nx:St->Hp->Prop
  rt:VK
  bk:St->Hp->Prop:=λ_ _=>False
  ct:St->Hp->Prop:=λ_ _=>False
abbrev TS:=jG->St->Hp->Prop
def EP(X:Cx)(af:List (ab×Obj))(σ:St)(Q:VK)(u:ag)(s':aq):Prop:=∃v H',Inv X af σ H' s'/\RelV v u/\Q v H'
def TP(X:Cx)(af:List (ab×Obj))(σ:St)(Q:Bool->Hp->Prop)(b:Bool)(s':aq):Prop:=∃H',Inv X af σ H' s'/\Q b H'
def AP(X:Cx)(af:List (ab×Obj))(σ:St)(Q:List V->Hp->Prop)(us:b6)(s':aq):Prop:=∃vs H',Inv X af σ H' s'/\Vals vs us/\Q vs H'
def SP(X:Cx)(af:List (ab×Obj))(D:jG)(f:Flow)(s':aq):Prop :=
  match f with
  | .next=>∃cE H',Inv X af cE H' s'/\D.nx cE H'
  | .brk=>∃cE H',Inv X af cE H' s'/\D.bk cE H'
  | .cont=>∃cE H',Inv X af cE H' s'/\D.ct cE H'
  | .ret u=>∃v cE H',Inv X af cE H' s'/\RelV v u/\D.rt v H'
def PE(X:Cx)(e:aj)(t:TE):Prop :=
  ∀(af:List (ab×Obj)) (s:aq) (σ:St) (H:Hp) (Q:VK),Inv X af σ H s->t σ H Q->wpAny (model X.prog X.w) X.A (eval e X.env) (EP X af σ Q) X.xe s
def PT(X:Cx)(e:aj)(t:TT):Prop :=
  ∀(af:List (ab×Obj)) (s:aq) (σ:St) (H:Hp) (Q:Bool->Hp->Prop),Inv X af σ H s->t σ H Q->wpAny (model X.prog X.w) X.A (isTrue e X.env (eval e X.env)) (TP X af σ Q) X.xe s
def PW(X:Cx)(e:aj)(t:TT):Prop :=
  ∀(ip:Sem ag) (af:List (ab×Obj)) (s:aq) (σ:St) (H:Hp) (Q:Bool->Hp->Prop),Inv X af σ H s->t σ H Q->wpAny (model X.prog X.w) X.A (isTrue e X.env ip) (TP X af σ Q) X.xe s
theorem PW.pt{X:Cx}{e:aj}{t:TT}(h:PW X e t):PT X e t:=h _
def PA(X:Cx)(es:List aj)(t:TA):Prop :=
  ∀(pos:Pos) (af:List (ab×Obj)) (s:aq) (σ:St) (H:Hp) (Q:List V->Hp->Prop),Inv X af σ H s->t σ H Q->wpAny (model X.prog X.w) X.A (spliced (backTo pos (starEach es X.env))) (AP X af σ Q) X.xe s
def PS(X:Cx)(st:az)(t:TS):Prop :=
  ∀(af:List (ab×Obj)) (s:aq) (σ:St) (H:Hp) (D:jG),Inv X af σ H s->t D σ H->wpAny (model X.prog X.w) X.A (exec st X.env) (SP X af D) X.xe s
def oQ(X:Cx)(st:List az)(t:TS):Prop :=
  ∀(af:List (ab×Obj)) (s:aq) (σ:St) (H:Hp) (D:jG),Inv X af σ H s->t D σ H->wpAny (model X.prog X.w) X.A (execs st X.env) (SP X af D) X.xe s
theorem thn{α:Type}{t:Sem α}{Q Q':α->aq->Prop}{M:Model}{A:bD}{E:cf}{s:aq}(h:wpAny M A t Q E s)(hQ:∀a s,Q a s->Q' a s):wpAny M A t Q' E s:=lD h hQ λ_ _ x=>x
section
variable {X:Cx}
def iS(i:Nat):TE:=λσ H Q=>∃v,σ[i]?=some (some v)/\Q v H
def tC(v:V):TE:=λ_ H Q=>Q v H
theorem pe_var{i:Nat}{x:Str}{pos:Pos}(hN:X.N[i]?=some x)(hv:S8 X.env.scope x)(hd:(x==("__debug__":Str))=false:=by decide)(sT:(x==("__classdict__":Str))=false:=by decide):PE X (.Name x pos) (iS i):=by
  intro af s σ H Q I h;obtain⟨v,e,h⟩:=h;obtain⟨m,hn,hl⟩:=I.loc;obtain⟨u,r,l⟩:=hl i x v hN e hv;have fin:EP X af σ Q u s:=⟨v,H,I,r,h⟩;rcases l with⟨hk,hm⟩ | ⟨hk,c,hc,jY⟩
  · exact wpAny_Name (wpAny_loadName_local I.ok.kind hk hn hm fin) hd
  · rcases hk with hk | hk
    · exact wpAny_Name (wpAny_loadName_cell I.ok.kind hk hc jY fin) hd
    · exact wpAny_Name (wpAny_loadName_free I.ok.kind hk hc jY fin sT) hd
theorem u9{i j pos}:PE X (.Constant (.int i) j pos) (tC (.int i)):=λ_ _ _ H _ I h=>wpAny_Constant_int ⟨.int i,H,I.tok _,⟨_,rfl⟩,h⟩
theorem N1{b j pos}:PE X (.Constant (.bool b) j pos) (tC (.bl b)):=λ_ _ _ H _ I h=>Constant_bool ⟨.bl b,H,I,rfl,h⟩
theorem PJ{j pos}:PE X (.Constant .none j pos) (tC .cM):=λ_ _ _ H _ I h=>Constant_none ⟨.cM,H,I,rfl,h⟩
theorem PK{x j pos}:PE X (.Constant (.str x) j pos) (tC (.str x)):=λ_ _ _ H _ I h=>Calls.Constant_str ⟨.str x,H,I.tok _,⟨_,rfl⟩,h⟩
def Gl(X:Cx)(x:Str):Prop:=X.env.kindOf x=some .globalImplicit
theorem ld_glob{E:cf}{af:List (ab×Obj)}{s:aq}{σ:St}{H:Hp}{x:Str}{u:ag}{pos:Pos}{Q:cf}(I:Inv X af σ H s)(hg:Gl X x)(hm:X.mg x=some u)(h:Q u s)
    (hd:(x==("__debug__":Str))=false:=by decide):wpAny (model X.prog X.w) X.A (eval (.Name x pos) X.env) Q E s :=
  GA I.ok.kind hg (Calls.loadGlobal_global (by rw[I.ok.glob];exact I.mod.glob.keeps I.bk) hm h) hd
theorem ld_blt{E:cf}{af:List (ab×Obj)}{s:aq}{σ:St}{H:Hp}{x:Str}{u:ag}{pos:Pos}{Q:cf}(I:Inv X af σ H s)(hg:Gl X x)(hm:X.mg x=none)(hv:bootBuiltins x=some u)(h:Q u s)
    (hn:x≠"__name__":=by decide) (hd:(x==("__debug__":Str))=false:=by decide):wpAny (model X.prog X.w) X.A (eval (.Name x pos) X.env) Q E s:=by
  obtain⟨mb,h1,h2⟩:=I.mod.blt;exact GA I.ok.kind hg (Calls.loadGlobal_builtin (by rw[I.ok.glob];exact I.mod.glob.keeps I.bk) hm (by rw[I.ok.blt];exact h1.keeps I.bk) ((h2 x hn).trans hv) h) hd
theorem Cw{x:Str}{v:V}{u:ag}{pos:Pos}(hg:Gl X x)(hm:X.mg x=some u)(r:RelV v u)(hd:(x==("__debug__":Str))=false:=by decide):PE X (.Name x pos) (tC v) :=
  λ_ _ _ H _ I h=>ld_glob I hg hm ⟨v,H,I,r,h⟩ hd
theorem Lf{x:Str}{v:V}{u:ag}{pos:Pos}(hg:Gl X x)(hm:X.mg x=none)(hv:bootBuiltins x=some u)(r:RelV v u)(hn:x≠"__name__":=by decide)(hd:(x==("__debug__":Str))=false:=by decide):PE X (.Name x pos) (tC v) :=
  λ_ _ _ H _ I h=>ld_blt I hg hm hv ⟨v,H,I,r,h⟩ hn hd
variable {a b:aj} {ta tb:TE} {pos:Pos}
def tB(t:TE):TT:=λσ H Q=>t σ H λx H1=>∃c,x=.bl c/\Q c H1
theorem PM{e:aj}{t:TE}(h:PE X e t)(he:∀ip,isTrue e X.env ip=(do let v <-ip;standAt e.pos;holding [v] (truthy v)):=by intro _;rfl):PT X e (tB t):=by
  intro af s σ H Q I hw;refine isTrue_plain (thn (h af s σ H _ I hw) λv s1 ⟨x,H1,I1,r1,q1⟩=>?_) (he _)
  obtain⟨d,rfl,q⟩:=q1;cases r1;exact ji ⟨H1,I1,q⟩
variable {tA Xm:TT} {rest:List aj}
def Zf(t u:TT):TT:=λσ H Q=>t σ H λc H1=>if c=true then u σ H1 Q else Q false H1
def tOr(t u:TT):TT:=λσ H Q=>t σ H λc H1=>if c=true then Q true H1 else u σ H1 Q
def Zg(t:TT):TT:=λσ H Q=>t σ H λc H1=>Q (!c) H1
theorem Lg(ha:PT X a tA):PW X (.BoolOp .And [a] pos) tA:=by
  intro wh af s σ H Q I h;refine isTrue_and (thn (ha af s σ H Q I h) λc s1 e=>?_)
  cases c with
  | true=>exact isTrue_and_nil e
  | false=>exact e
theorem PN(ha:PT X a tA):PW X (.BoolOp .Or [a] pos) tA:=by
  intro wh af s σ H Q I h;refine isTrue_or (thn (ha af s σ H Q I h) λc s1 e=>?_)
  cases c with
  | false=>exact isTrue_or_nil e
  | true=>exact e
theorem PQ(ha:PT X a tA)(hb:PW X (.BoolOp .And (b::rest) pos) Xm):PW X (.BoolOp .And (a::b::rest) pos) (Zf tA Xm):=by
  intro wh af s σ H Q I h;refine isTrue_and (thn (ha af s σ H _ I h) λc s1 ⟨H1,I1,q1⟩=>?_)
  cases c with
  | true=>exact hb wh af s1 σ H1 Q I1 q1
  | false=>exact⟨H1,I1,q1⟩
theorem T6(ha:PT X a tA)(hb:PW X (.BoolOp .Or (b::rest) pos) Xm):PW X (.BoolOp .Or (a::b::rest) pos) (tOr tA Xm):=by
  intro wh af s σ H Q I h;refine isTrue_or (thn (ha af s σ H _ I h) λc s1 ⟨H1,I1,q1⟩=>?_)
  cases c with
  | true=>exact⟨H1,I1,q1⟩
  | false=>exact hb wh af s1 σ H1 Q I1 q1
theorem PR(ha:PT X a tA):PT X (.UnaryOp .Not a pos) (Zg tA):=by
  intro af s σ H Q I h;exact isTrue_not (ha af s σ H (λc H1=>Q (!c) H1) I h)
def T7(ta tb:TE):TE:=λσ H Q=>ta σ H λx H1=>∃c,x=.bl c/\if c=true then tb σ H1 Q else Q (.bl false) H1
def T8(ta:TE):TE:=λσ H Q=>ta σ H λx H1=>∃c,x=.bl c/\Q (.bl (!c)) H1
theorem PU{op}{t:TE}(h:PE X a t):PE X (.BoolOp op [a] pos) t:=λaf s σ H Q I hw=>BoolOp_one (h af s σ H Q I hw)
theorem PX(ha:PE X a ta)(hb:PE X (.BoolOp .And (b::rest) pos) tb):PE X (.BoolOp .And (a::b::rest) pos) (T7 ta tb):=by
  intro af s σ H Q I h;refine BoolOp_and (thn (ha af s σ H _ I h) λv s1 ⟨x,H1,I1,r1,q1⟩=>?_)
  obtain⟨c,rfl,q1⟩:=q1;cases r1;refine ji ?_;cases c with
  | true=>exact hb af s1 σ H1 Q I1 q1
  | false=>exact⟨.bl false,H1,I1,rfl,q1⟩
theorem PY(ha:PE X a ta):PE X (.UnaryOp .Not a pos) (T8 ta):=by
  intro af s σ H Q I h;refine UnaryOp_ (thn (ha af s σ H _ I h) λv s1 ⟨x,H1,I1,r1,q1⟩=>?_)
  obtain⟨c,rfl,q1⟩:=q1;cases r1;exact not_of (ji ⟨.bl (!c),H1,I1,rfl,q1⟩)
def tIf(t:TT)(ta tb:TE):TE:=λσ H Q=>t σ H λc H1=>if c=true then ta σ H1 Q else tb σ H1 Q
theorem G8{c:aj}(hc:PT X c tA)(ha:PE X a ta)(hb:PE X b tb):PE X (.IfExp c a b pos) (tIf tA ta tb):=by
  intro af s σ H Q I h;refine wpAny_IfExp (thn (hc af s σ H _ I h) λd s1 ⟨H1,I1,q1⟩=>?_)
  cases d with
  | true=>exact ha af s1 σ H1 Q I1 q1
  | false=>exact hb af s1 σ H1 Q I1 q1
end
def kQ(K:ah)(H:Hp)(a:ab)(xs:List V):Prop :=
  Rd H a (.ay xs) \/
    ∃(o:Obj) (aN:Array ag) (n:Nat),K.lookup a=some o/\o.cls=.type "list"/\o.dict=none/\o.data=.seq aN n/\aN.size<=sizeLine/\Vals xs aN.toList
theorem m8.sq{K:ah}{H:Hp}{a:ab}{xs:List V}(h:m8 K H a xs):kQ K H a xs:=by
  rcases h with h | ⟨aN,n,e,z,r⟩
  · exact .inl h
  · exact .inr ⟨_,aN.toArray,n,e,rfl,rfl,rfl,by simpa using z,by simpa using r⟩
def Zh:ag->Option V
  | .none=>some .cM
  | .bool b=>some (.bl b)
  | .int i _=>some (.int i)
  | .str x _=>some (.str x)
  | .bytes b _=>some (.Tz b)
  | .float b _=>some (.YS b)
  | .ref a=>some (.ref a)
  | .type n=>some (.ty n)
  | _=>none
theorem RelV.abs{x:V}{u:ag}(r:RelV x u):Zh u=some x:=by
  cases x with
  | cM=>cases r;rfl
  | bl _=>cases r;rfl
  | int _=>obtain⟨t,rfl⟩:=r;rfl
  | str _=>obtain⟨t,rfl⟩:=r;rfl
  | Tz _=>obtain⟨t,rfl⟩:=r;rfl
  | YS _=>obtain⟨t,rfl⟩:=r;rfl
  | ref _=>cases r;rfl
  | ty _=>cases r;rfl
theorem RelV.inj{x y:V}{u:ag}(r:RelV x u)(q:RelV y u):x=y:=bg (r.abs.symm.trans q.abs)
theorem Vals.inj:∀{xs ys:List V} {us:b6},Vals xs us->Vals ys us->xs=ys
  | _,_,_,.nil,.nil=>rfl
  | _,_,_,.cons r t,.cons r' t'=>by rw[r.inj r',Vals.inj t t']
section
variable {X:Cx} {af:List (ab×Obj)} {σ:St} {H:Hp} {s:aq} {a:ab} {xs ys:List V}
theorem kQ.of{K:ah}(h:H a=some (.ay xs)):kQ K H a xs:=.inl (.inl h)
theorem gI.of{K:ah}(h:H a=some (.aJ xs)):gI K H a xs:=.inl (.inl h)
theorem Inv.list(I:Inv X af σ H s)(h:kQ X.K H a xs):∃aN:b6,Vals xs aN/\PlainL s.heap a aN.toArray/\xs.length<=sizeLine:=by
  rcases h with h | ⟨o,aN,n,hk,hc,hd,hs,hz,r⟩
  · obtain⟨z,aN,n,r,e⟩:=h.ok I.hok
    exact⟨aN,r,⟨_,n,e,rfl,rfl,rfl⟩,z⟩
  · refine⟨aN.toList,r,⟨o,n,I.wQ a o hk,hc,hd,by simpa using hs⟩,?_⟩
    have e:=r.length;simp only[eY]at e
    lia
theorem Inv.tuple(I:Inv X af σ H s)(h:gI X.K H a xs):∃aN:b6,Vals xs aN/\IsTup s.heap a aN.toArray/\xs.length<=sizeLine:=by
  rcases h with h | ⟨o,aN,n,hk,hc,hs,hz,r⟩
  · obtain⟨z,aN,r,p⟩:=h.ok I.hok
    exact⟨aN,r,p,z⟩
  · refine⟨aN.toList,r,⟨o,I.wQ a o hk,hc,n,by simpa using hs⟩,?_⟩
    have e:=r.length;simp only[eY]at e
    lia
theorem Inv.qh(I:Inv X af σ H s)(h:kQ X.K H a xs)(h':kQ X.K H a ys):xs=ys:=by
  obtain⟨aN,r,⟨o,n,e,_,_,d⟩,_⟩:=I.list h;obtain⟨its',r',⟨o',n',e',_,_,d'⟩,_⟩:=I.list h';rw[e]at e';cases e';rw[d]at d';injection d' with d1 _
  have:aN=its':=by simpa using dw Array.toList d1
  subst this;exact r.inj r'
theorem Inv.nK(I:Inv X af σ H s)(h:gI X.K H a xs)(h':gI X.K H a ys):xs=ys:=by
  obtain⟨aN,r,⟨o,e,_,n,d⟩,_⟩:=I.tuple h;obtain⟨its',r',⟨o',e',_,n',d'⟩,_⟩:=I.tuple h';rw[e]at e';cases e';rw[d]at d';injection d' with d1 _
  have:aN=its':=by simpa using dw Array.toList d1
  subst this;exact r.inj r'
end
section
variable {X:Cx} {st:az} {rest:List az} {t u:TS} {e:aj} {te:TE} {pos:Pos}
def T9:TS:=λD σ H=>D.nx σ H
def Zi(t u:TS):TS:=λD σ H=>t {D with nx:=u D} σ H
theorem Cy:oQ X [] T9:=λ_ _ σ H _ I h=>uS ⟨σ,H,I,h⟩
theorem gn(h1:PS X st t)(h2:oQ X rest u):oQ X (st::rest) (Zi t u):=by
  intro af s σ H D I h;refine wpAny_execs_cons (thn (h1 af s σ H {D with nx:=u D} I h) λf s1 q=>?_)
  cases f with
  | next =>
    obtain⟨cE,H',I',q⟩:=q;exact h2 af s1 cE H' D I' q
  | ret v=>exact q
  | brk=>exact q
  | cont=>exact q
theorem ky(h1:PS X st t):oQ X [st] t:=by
  intro af s σ H D I h;refine wpAny_execs_cons (thn (h1 af s σ H D I h) λf s1 q=>?_)
  cases f with
  | next=>exact uS q
  | ret v=>exact q
  | brk=>exact q
  | cont=>exact q
theorem Inv.quiet{af:List (ab×Obj)}{σ:St}{H:Hp}{s:aq}(I:Inv X af σ H s):interactive X.env=false:=by simp[interactive,I.ok.kind]
def tDrop(te:TE):TS:=λD σ H=>te σ H λ_ H1=>D.nx σ H1
theorem gk(he:PE X e te)(hs:swapsWith e none pos.line X.env=pure false:=by rfl):PS X (.Expr e pos) (tDrop te):=by
  intro af s σ H D I h;exact wpAny_Expr_any (thn (he af s σ H _ I h) λv s1 ⟨x,H1,I1,r1,q1⟩=>⟨σ,H1,I1,q1⟩) I.quiet hs
def Zj(te:TE):TS:=λD σ H=>te σ H D.rt
theorem vb(he:PE X e te):PS X (.Return (some e) pos) (Zj te):=by
  intro af s σ H D I h;exact wpAny_Return_some (thn (he af s σ H _ I h) λv s1 ⟨x,H1,I1,r1,q1⟩=>⟨x,σ,H1,I1,r1,q1⟩)
def Ua:TS:=λD _ H=>D.rt .cM H
theorem Lh:PS X (.Return none pos) Ua:=λ_ _ σ H _ I h=>wpAny_Return_none ⟨.cM,σ,H,I,rfl,h⟩
def Zk(c:TT)(t u:TS):TS:=λD σ H=>c σ H λb H1=>if b=true then t D σ H1 else u D σ H1
theorem N2{c:aj}{a b:List az}{tc:TT}(hc:PT X c tc)(ha:oQ X a t)(hb:oQ X b u):PS X (.If c a b pos) (Zk tc t u):=by
  intro af s σ H D I h;refine wpAny_If (thn (hc af s σ H _ I h) λd s1 ⟨H1,I1,q1⟩=>?_)
  cases d with
  | true=>exact ha af s1 σ H1 D I1 q1
  | false=>exact hb af s1 σ H1 D I1 q1
def PZ:TS:=λ_ _ _=>False
theorem G9:PS X st PZ:=λ_ _ _ _ _ _ h=>h.elim
end
abbrev TG:=V->St->Hp->(St->Hp->Prop)->Prop
abbrev Li:=List V->St->Hp->(St->Hp->Prop)->Prop
def PG(X:Cx)(target:aj)(t:TG):Prop :=
  ∀(af:List (ab×Obj)) (s:aq) (σ:St) (H:Hp) (v:V) (u:ag) (Q:St->Hp->Prop),Inv X af σ H s->RelV v u->t v σ H Q ->
    wpAny (model X.prog X.w) X.A (assign target X.env u) (λ_ s'=>∃cE H',Inv X af cE H' s'/\Q cE H') X.xe s
def Gh(X:Cx)(ts:List aj)(t:Li):Prop :=
  ∀(af:List (ab×Obj)) (s:aq) (σ:St) (H:Hp) (vs:List V) (us:b6) (Q:St->Hp->Prop),Inv X af σ H s->Vals vs us->t vs σ H Q ->
    wpAny (model X.prog X.w) X.A (assignInOrder ((assignEach ts X.env).map (·.2)) us) (λ_ s'=>∃cE H',Inv X af cE H' s'/\Q cE H') X.xe s
abbrev Zl:=V->V->Hp->VK->Prop
def PIp(X:Cx)(op:Operator)(t:Zl):Prop :=
  ∀(af:List (ab×Obj)) (s:aq) (σ:St) (H:Hp) (x y:V) (v u:ag) (Q:VK),Inv X af σ H s->RelV x v->RelV y u->t x y H Q ->
    wpAny (model X.prog X.w) X.A (inplaceOp op v u) (EP X af σ Q) X.xe s
section
variable {X:Cx} {pos:Pos}
def gName(i:Nat):TG:=λv σ H Q=>Q (σ.set i (some v)) H
theorem Cz{i:Nat}{x:Str}(hN:X.N.Nodup)(hi:X.N[i]?=some x)(hx:NZ X.env.scope x)(hf:X.fn x=true\/X.env.scope.names.lookup x=some .local:=by first | exact .inl rfl | exact .inr rfl | assumption):PG X (.Name x pos) (gName i):=by
  intro af s σ H v u Q I r h;exact wpAny_assign_Name (qg I hN hi hx r (λs' I'=>⟨_,H,I',h⟩) hf)
def Zm:Li:=λvs σ H Q=>vs=[]/\Q σ H
def Ub(t:TG)(u:Li):Li:=λvs σ H Q=>∃v r,vs=v::r/\t v σ H λcE H'=>u r cE H' Q
theorem Lj:Gh X [] Zm:=by
  intro af s σ H vs us Q I r h;obtain⟨e,h⟩:=h;subst e;cases r;exact assignInOrder_nil ⟨σ,H,I,h⟩
theorem Ha{e:aj}{es:List aj}{t:TG}{u:Li}(h1:PG X e t)(h2:Gh X es u)
    (hs:(assignEach (e::es) X.env).map (·.2)=assign e X.env::(assignEach es X.env).map (·.2):=by rfl):Gh X (e::es) (Ub t u):=by
  intro af s σ H vs us Q I r h;obtain⟨v,vr,e1,h⟩:=h;subst e1;cases r with
  | cons r rr =>
    rw[hs];refine assignInOrder_cons (thn (h1 af s σ H _ _ _ I r h) λ_ s1 ⟨iU,H1,I1,q1⟩=>?_)
    exact h2 af s1 iU H1 _ _ Q I1 rr q1
def Zn(K:ah)(n:Nat)(t:Li):TG:=λv σ H Q=>∃a xs,v=.ref a/\gI K H a xs/\xs.length=n/\t xs σ H Q
theorem P5{es:List aj}{k:Nat}{t:Li}{n:Nat}(hc:X.calm=true)(h:Gh X es t)
    (hn:(assignEach es X.env).length=n:=by rfl) (vc:(assignEach es X.env).findIdx? (·.1)=none:=by rfl):PG X (.Tuple es k pos) (Zn X.K n t):=by
  intro af s σ H v u Q I r hw;obtain⟨a,xs,e1,hq,hl,hw⟩:=hw;subst e1;cases r;obtain⟨aN,rv,ht,hz⟩:=I.tuple hq;refine assign_Tuple_tuple (I.ok.hd hc) ht (by simp[hn,<-hl,rv.length]) vc λh' hx=>?_
  have I1:Inv X af σ H {s with heap:=h'}:=I.kept (t':=s.toks) λb o e=>hx b o (b8 (bA e)) e
  exact h af _ σ H xs _ Q I1 (by simpa using rv) hw
def lF(te:TE)(g:TG):TS:=λD σ H=>te σ H λx H1=>g x σ H1 D.nx
theorem P6{tg e:aj}{te:TE}{g:TG}(he:PE X e te)(hg:PG X tg g)(hs:swapsWithSole [tg] e pos.line X.env=pure false:=by rfl)(hw:swappedStores [tg] e X.env=pure none:=by rfl)
    (h1:(assignEach [tg] X.env).map (·.2)=[assign tg X.env]:=by rfl):PS X (.Assign [tg] e pos) (lF te g):=by
  intro af s σ H D I h;refine wpAny_Assign_stores (thn (he af s σ H _ I h) λv s1 ⟨x,H1,I1,r1,q1⟩=>?_) hs hw
  rw[h1];exact thn (hg af s1 σ H1 x v _ I1 r1 q1) λ_ s2 q=>q
theorem vd{i:Nat}{x:Str}{e:aj}{te:TE}{gp:Pos}(hN:X.N.Nodup)(hi:X.N[i]?=some x)(hx:NZ X.env.scope x)(he:PE X e te)(hs:swapsWith e (some (.Name x gp)) pos.line X.env=pure false:=by rfl)(hf:X.fn x=true\/X.env.scope.names.lookup x=some .local:=by first | exact .inl rfl | exact .inr rfl | assumption) :
    PS X (.Assign [.Name x gp] e pos) (lF te (gName i)):=by
  intro af s σ H D I h;refine wpAny_Assign_Name (thn (he af s σ H _ I h) λv s1 ⟨y,H1,I1,r1,q1⟩=>?_) hs
  exact qg I1 hN hi hx r1 (λs2 I2=>⟨_,H1,I2,q1⟩) hf
def Zo(i:Nat)(te:TE)(ti:Zl):TS:=λD σ H=>∃x,σ[i]?=some (some x)/\te σ H λy H1=>ti x y H1 λz H2=>D.nx (σ.set i (some z)) H2
theorem Hb{i:Nat}{x:Str}{e:aj}{te:TE}{op:Operator}{ti:Zl}{gp:Pos}(hN:X.N.Nodup)(hi:X.N[i]?=some x)(hx:NZ X.env.scope x)(he:PE X e te)(ho:PIp X op ti)(hf:X.fn x=true\/X.env.scope.names.lookup x=some .local:=by first | exact .inl rfl | exact .inr rfl | assumption) :
    PS X (.AugAssign (.Name x gp) op e pos) (Zo i te ti):=by
  intro af s σ H D I h;obtain⟨v,e1,h⟩:=h;obtain⟨m,hn,hl⟩:=I.loc;have rO:S8 X.env.scope x:=by rcases hx with k | k;exact .inl k;exact .inr (.inl k)
  obtain⟨u,r,l⟩:=hl i x v hi e1 rO;refine wpAny_AugAssign_Name ?_;have go:wpAny (model X.prog X.w) X.A (eval e X.env) (λw ve=>wpAny (model X.prog X.w) X.A (inplaceOp op u w) (λr Zp=>wpAny (model X.prog X.w) X.A (storeName X.env x r) (λ_=>SP X af D .next) X.xe Zp) X.xe ve) X.xe s:=by
    refine thn (he af s σ H _ I h) λw s1 ⟨y,H1,I1,r1,q1⟩=>?_
    refine thn (ho af s1 σ H1 v y u w _ I1 r r1 q1) λz s2 ⟨zv,H2,I2,r2,q2⟩=>?_
    exact qg I2 hN hi hx r2 (λs3 I3=>⟨_,H2,I3,q2⟩) hf
  rcases l with⟨hk,hm⟩ | ⟨hk,c,hc,jY⟩
  · exact wpAny_loadName_local I.ok.kind hk hn hm go
  · rcases hk with hk | hk
    · exact wpAny_loadName_cell I.ok.kind hk hc jY go
    · rcases hx with k | k
      · have:X.env.scope.names.lookup x=some .free:=hk
        rw[k]at this;cases this
      · have:X.env.scope.names.lookup x=some .free:=hk
        rw[k]at this;cases this
end
section
variable {X:Cx} {pos:Pos}
def P7(c:TT)(tb:TS):TS:=λD σ H=>∃W:Nat->St->Hp->Prop,(∃m,W m σ H)/\∀m σ H,W m σ H ->
  c σ H λb H1=>if b=true then ∃N:St->Hp->Prop,(∀cE H',N cE H'->∃m',m'<m/\W m' cE H')/\tb {D with nx:=N,ct:=N,bk:=D.nx} σ H1 else D.nx σ H1
theorem Hc{c:aj}{body:List az}{tc:TT}{tb:TS}(hp:PassesOwn (model X.prog X.w) X.A X.env X.xe)(hc:PT X c tc)(hb:oQ X body tb):PS X (.While c body [] pos) (P7 tc tb):=by
  intro af s σ H D I h;obtain⟨W,⟨m0,w0⟩,AA⟩:=h;refine wpAny_While (codeAny_whileLoop (λn s'=>∃cE H',Inv X af cE H' s'/\W n cE H') ?_ m0 ⟨σ,H,I,w0⟩)
  rintro n s1 ⟨iU,H1,I1,w1⟩
  refine lC hp (thn (hc af s1 iU H1 _ I1 (AA n iU H1 w1)) λb s2 ⟨H2,I2,q2⟩=>?_)
  cases b with
  | true =>
    obtain⟨N,hN,q2⟩:=q2;rw[if_pos rfl];refine lC hp (thn (hb af s2 iU H2 _ I2 q2) λf s3 q3=>?_)
    cases f with
    | next =>
      obtain⟨o8,H3,I3,n3⟩:=q3;obtain⟨m',hm,w3⟩:=hN o8 H3 n3;exact⟨m',hm,o8,H3,I3,w3⟩
    | cont =>
      obtain⟨o8,H3,I3,n3⟩:=q3;obtain⟨m',hm,w3⟩:=hN o8 H3 n3;exact⟨m',hm,o8,H3,I3,w3⟩
    | brk=>exact q3
    | ret v=>exact q3
  | false =>
    rw[if_neg gQ];exact uS ⟨iU,H2,I2,q2⟩
end
structure It where
  go:Nat->Hp->Prop
  yld:Nat->Hp->V->Hp->Prop
  stop:Nat->Hp->Prop
def vg(X:Cx)(af:List (ab×Obj))(H:Hp)(b:ab):Prop :=
  H b=none/\b≠X.env.locals/\b∉X.fs/\(b∈X.ex\/X.s₀.heap.objs.size<=b)/\(∀x c,X.env.cells.lookup x=some c->c≠b)/\∀p∈X.pn++af,p.1≠b
theorem Inv.Hd{X:Cx}{af:List (ab×Obj)}{σ:St}{H H':Hp}{s:aq}{b:ab}(I:Inv X af σ H s)(hb:s.heap.objs.size<=b)(hn:H' b=none):vg X af H' b:=by
  refine⟨hn,nF (cy I.lt hb),I.Zc hb,.inr (bY I.sz hb),λx c e z=>?_,λp hp z=>?_⟩
  · obtain⟨v,q⟩:=I.cell x c e
    exact absurd (cy q.lt (by rw[z];exact hb)) (gU _)
  · exact absurd (cy (bA (I.pin p hp).1) (by rw[z];exact hb)) (gU _)
structure Turn (P:bc) (w:aM) (K:ah) (tg:aj) (J:It) (fp:List ab) (it:ab) (tn:Nat->Heap->Prop):Prop where
  mem:it∈fp
  obj:∀i h,tn i h->∀b∈fp,∃o,h.get? b=some o/\∀v,o.data≠.cell v
  keep:∀i h h',tn i h->(∀b∈fp,∀o,h.get? b=some o->h'.get? b=some o)->tn i h'
  item:∀(X:Cx),X.prog=P->X.w=w->X.K=K->X.calm=true->∀(i:Nat) (af:List (ab×Obj)) (s:aq) (σ:St) (H:Hp) (E:cf),Inv X af σ H s->(∀b∈fp,vg X af H b)->tn i s.heap->J.go i H ->
    wpAny (model P w) X.A (pyNext (.ref it)) (λr s1=>∃u,r=some u /\
      wpAny (model P w) X.A (letOwnedTupleGo tg (.ref it) u) (λ_ s2=>∃x H',Inv X af σ H' s2/\RelV x u/\J.yld i H x H'/\tn (i+1) s2.heap/\∀b∈fp,H' b=none) E s1) E s
  done:∀(X:Cx),X.prog=P->X.w=w->X.K=K->X.calm=true->∀(i:Nat) (af:List (ab×Obj)) (s:aq) (σ:St) (H:Hp) (E:cf),Inv X af σ H s->(∀b∈fp,vg X af H b)->tn i s.heap->J.stop i H ->
    wpAny (model P w) X.A (pyNext (.ref it)) (λr s1=>r=none/\Inv X af σ H s1) E s
  self:∀(A:bD) (i:Nat) (s:aq) (Q:cf) (E:cf),tn i s.heap->Q (.ref it) s->wpAny (model P w) A (pyIter (.ref it)) Q E s
abbrev TI:=St->Hp->(It->Hp->Prop)->Prop
def PIE(X:Cx)(af:List (ab×Obj))(σ:St)(tg:aj)(R:It->Hp->Prop)(Zq:ag)(s2:aq):Prop :=
  ∃(it:ab) (fp:List ab) (tn:Nat->Heap->Prop) (J:It) (H':Hp),Zq=.ref it/\Inv X af σ H' s2/\Turn X.prog X.w X.K tg J fp it tn/\tn 0 s2.heap/\(∀b∈fp,vg X af H' b)/\R J H'
def PI(X:Cx)(tg iter:aj)(wi:TI):Prop :=
  ∀(af:List (ab×Obj)) (s:aq) (σ:St) (H:Hp) (R:It->Hp->Prop),Inv X af σ H s->wi σ H R ->
    wpAny (model X.prog X.w) X.A (eval iter X.env) (λv s1=>wpAny (model X.prog X.w) X.A (pyIter v) (PIE X af σ tg R) X.xe s1) X.xe s
theorem He{M:Model}{A:bD}{E:cf}{s:aq}{tg:aj}{it:ab}{u:ag}{o:Obj}{n:String}{vs:Array ag}{Q:Unit->aq->Prop}(ho:s.heap.get? it=some o)(hc:o.cls=.type n)(hd:o.data=.fields vs)
    (hn:["enumerate","zip","dict_itemiterator","dict_reverseitemiterator","odict_iterator","itertools.zip_longest","itertools.pairwise"].contains n=false) (hQ:Q () s):wpAny M A (letOwnedTupleGo tg (.ref it) u) Q E s:=by
  unfold letOwnedTupleGo;cases tg<;>first
    | exact aw hQ
    | (cases u<;>first
        | exact aw hQ
        | (refine ai (wpAny_load ho ?_)
           rw[hc,hd];show wpAny M A (if(["enumerate","zip","dict_itemiterator","dict_reverseitemiterator","odict_iterator","itertools.zip_longest","itertools.pairwise"].contains n&&vs[0]?==some (rawInt _))=true then _ else _) Q E s
           rw[if_neg (by intro h;rw[hn,Bool.false_and]at h;cases h)]
           exact aw hQ))
def S9(K:ah)(a:ab):It :=
  ⟨λi H=>∃xs x,kQ K H a xs/\xs[i]?=some x,λi H x H'=>H'=H/\∀xs,kQ K H a xs->xs[i]?=some x,λi H=>∃xs,kQ K H a xs/\xs.length<=i⟩
def Zr(K:ah)(a:ab):It :=
  ⟨λi H=>∃xs x,gI K H a xs/\xs[i]?=some x,λi H x H'=>H'=H/\∀xs,gI K H a xs->xs[i]?=some x,λi H=>∃xs,gI K H a xs/\xs.length<=i⟩
def Uc(lo:Int)(n:Nat):It:=⟨λi _=>i<n,λi H x H'=>H'=H/\x=.int (lo+i),λi _=>n<=i⟩
theorem Er{P:bc}{w:aM}{K:ah}{tg:aj}(a it:ab):Turn P w K tg (S9 K a) [it] it (λi h=>h.IsListIter it a i) where
  mem:=by simp
  obj:=λi h st b hb=>by
    have e:b=it:=by simpa using hb
    subst e;obtain⟨o,e,c,d⟩:=st;exact⟨o,e,λv z=>by rw[d]at z;cases z⟩
  keep:=λi h h' st k=>st.at λo e=>k it (by simp) o e
  item:=by
    intro X hP hw hK hc i af s σ H E I hf st hg;subst hP hw hK;obtain⟨xs,x,hq,hx⟩:=hg;obtain⟨aN,rv,p,hz⟩:=I.list hq;obtain⟨u,hu,ru⟩:=rv.get hx;obtain⟨f0,f1,f2,f3,f4,f5⟩:=hf it (by simp)
    refine wpAny_pyNext_list_item st p.isList (x:=u) (by simpa using hu) λh' ng sb=>?_
    have I1:Inv X af σ H {s with heap:=h'}:=I.turned (t':=s.toks) (λb o hb e=>(sb.2 b hb).trans e) f0 f1 f3 f4 f5
    obtain⟨o,e,c,d⟩:=id ng;exact⟨u,rfl,He (s:={s with heap:=h'}) e c d (by decide) ⟨x,H,I1,ru,⟨rfl,λys hy=>by rw[I.qh hy hq];exact hx⟩,ng,λb hb=>(hf b hb).1⟩⟩
  done:=by
    intro X hP hw hK hc i af s σ H E I hf st hg;subst hP hw hK;obtain⟨xs,hq,hx⟩:=hg;obtain⟨aN,rv,p,hz⟩:=I.list hq;obtain⟨f0,f1,f2,f3,f4,f5⟩:=hf it (by simp)
    have hl:=rv.length;exact wpAny_pyNext_list_end (I.ok.hd hc) st p.isList (by simp;lia) λh' eb=>⟨rfl,I.turned (t':=s.toks) (λb o hb e=>eb b o hb e) f0 f1 f3 f4 f5⟩
  self:=λ_ _ _ _ _ st h=>wpAny_pyIter_listiter st h
theorem AB{P:bc}{w:aM}{K:ah}{tg:aj}(a it:ab):Turn P w K tg (Zr K a) [it] it (λi h=>h.IsTupleIter it a i) where
  mem:=by simp
  obj:=λi h st b hb=>by
    have e:b=it:=by simpa using hb
    subst e;obtain⟨o,e,c,d⟩:=st;exact⟨o,e,λv z=>by rw[d]at z;cases z⟩
  keep:=λi h h' st k=>st.at λo e=>k it (by simp) o e
  item:=by
    intro X hP hw hK hc i af s σ H E I hf st hg;subst hP hw hK;obtain⟨xs,x,hq,hx⟩:=hg;obtain⟨aN,rv,p,hz⟩:=I.tuple hq;obtain⟨u,hu,ru⟩:=rv.get hx;obtain⟨f0,f1,f2,f3,f4,f5⟩:=hf it (by simp)
    refine wpAny_pyNext_tuple_item st (show s.heap.IsTuple a aN.toArray from p) (x:=u) (by simpa using hu) λh' ng sb=>?_
    have I1:Inv X af σ H {s with heap:=h'}:=I.turned (t':=s.toks) (λb o hb e=>(sb.2 b hb).trans e) f0 f1 f3 f4 f5
    obtain⟨o,e,c,d⟩:=id ng;exact⟨u,rfl,He (s:={s with heap:=h'}) e c d (by decide) ⟨x,H,I1,ru,⟨rfl,λys hy=>by rw[I.nK hy hq];exact hx⟩,ng,λb hb=>(hf b hb).1⟩⟩
  done:=by
    intro X hP hw hK hc i af s σ H E I hf st hg;subst hP hw hK;obtain⟨xs,hq,hx⟩:=hg;obtain⟨aN,rv,p,hz⟩:=I.tuple hq;obtain⟨f0,f1,f2,f3,f4,f5⟩:=hf it (by simp)
    have hl:=rv.length;exact wpAny_pyNext_tuple_end (I.ok.hd hc) st (show s.heap.IsTuple a aN.toArray from p) (by simp;lia) λh' eb=>⟨rfl,I.turned (t':=s.toks) (λb o hb e=>eb b o hb e) f0 f1 f3 f4 f5⟩
  self:=λ_ _ _ _ _ st h=>wpAny_pyIter_tupleiter st h
theorem AD{P:bc}{w:aM}{K:ah}{tg:aj}(it:ab)(lo:Int)(n:Nat):Turn P w K tg (Uc lo n) [it] it (λi h=>IsRangeIter h it (lo+(i:Nat)*1) ((n:Int)-(i:Nat)) 1) where
  mem:=by simp
  obj:=λi h st b hb=>by
    have e:b=it:=by simpa using hb
    subst e;exact⟨_,st,λv z=>by
      have z':Data.fields _=Data.cell v:=z;cases z'⟩
  keep:=λi h h' st k=>k it (by simp) _ st
  item:=by
    intro X hP hw hK hc i af s σ H E I hf st hg;subst hP hw hK;obtain⟨f0,f1,f2,f3,f4,f5⟩:=hf it (by simp)
    have W:=Walks.range (prog:=X.prog) (w:=X.w) (I.ok.hd hc) it lo 1 n;refine W.item i s _ _ hg st λv h' tk hv ng kk=>?_
    obtain⟨t,rfl⟩:=hv;have I1:Inv X af σ H {s with heap:=h',toks:=tk}:=I.turned (λb o hb e=>kk b o (by simpa using hb) e) f0 f1 f3 f4 f5
    refine⟨_,rfl,He (s:={s with heap:=h',toks:=tk}) (n:="range_iterator") ng rfl rfl (by decide) ⟨.int (lo+i),H,I1,⟨t,?_⟩,⟨rfl,rfl⟩,ng,λb hb=>(hf b hb).1⟩⟩
    rw[Int.mul_one]
  done:=by
    intro X hP hw hK hc i af s σ H E I hf st hg;subst hP hw hK;obtain⟨f0,f1,f2,f3,f4,f5⟩:=hf it (by simp)
    exact wpAny_pyNext_range_end (I.ok.hd hc) st (by have:n<=i:=hg;lia) λh' eb=>⟨rfl,I.turned (t':=s.toks) (λb o hb e=>eb b o hb e) f0 f1 f3 f4 f5⟩
  self:=λ_ _ _ _ _ st h=>wpAny_pyIter_rangeiter st h
section
variable {X:Cx} {tg:aj}
def Ud(K:ah)(tl:TE):TI:=λσ H R=>tl σ H λx H1=>∃a,x=.ref a/\(∃xs,kQ K H1 a xs)/\R (S9 K a) H1
def Zs(K:ah)(tl:TE):TI:=λσ H R=>tl σ H λx H1=>∃a,x=.ref a/\(∃xs,gI K H1 a xs)/\R (Zr K a) H1
theorem CA{l:aj}{tl:TE}(hl:PE X l tl):PI X tg l (Ud X.K tl):=by
  intro af s σ H R I h;refine thn (hl af s σ H _ I h) λv s1 ⟨x,H1,I1,r1,q1⟩=>?_
  obtain⟨a,e,⟨xs,hq⟩,q⟩:=q1;subst e;cases r1;obtain⟨aN,rv,p,hz⟩:=I1.list hq;refine uK p.isList ?_;refine⟨s1.heap.objs.size,[s1.heap.objs.size],_,_,H1,rfl,I1.kept (t':=s1.toks) λb o e=>bR _ e,Er a _,⟨_,dj _ rfl,rfl,rfl⟩,λb hb=>?_,q⟩
  have e:b=s1.heap.objs.size:=by simpa using hb
  subst e;exact I1.Hd (aR _) (I1.hok.fresh (aR _))
theorem P8{l:aj}{tl:TE}(hl:PE X l tl):PI X tg l (Zs X.K tl):=by
  intro af s σ H R I h;refine thn (hl af s σ H _ I h) λv s1 ⟨x,H1,I1,r1,q1⟩=>?_
  obtain⟨a,e,⟨xs,hq⟩,q⟩:=q1;subst e;cases r1;obtain⟨aN,rv,p,hz⟩:=I1.tuple hq;refine wpAny_pyIter_tuple (show s1.heap.IsTuple a aN.toArray from p) ?_
  refine⟨s1.heap.objs.size,[s1.heap.objs.size],_,_,H1,rfl,I1.kept (t':=s1.toks) λb o e=>bR _ e,AB a _,⟨_,dj _ rfl,rfl,rfl⟩,λb hb=>?_,q⟩
  have e:b=s1.heap.objs.size:=by simpa using hb
  subst e;exact I1.Hd (aR _) (I1.hok.fresh (aR _))
theorem xG{af:List (ab×Obj)}{σ:St}{H:Hp}{s:aq}{R:It->Hp->Prop}{E:cf}{lo hi:Int}{t u v:Tok}{tk:Nat}(I:Inv X af σ H s)(h1:-(2^62)<=lo)(h2:lo<2^62)(h3:-(2^62)<=hi)(h4:hi<2^62)
    (q:R (Uc lo (hi-lo).toNat) H):wpAny (model X.prog X.w) X.A (pyIter (.ref s.heap.objs.size)) (PIE X af σ tg R) E {s with heap:=s.heap.push {cls:=.type "range",data:=.fields #[.int lo t,.int hi u,.int 1 v]},toks:=tk}:=by
  refine wpAny_pyIter_range (uZ ..) (small_one h1 h2 h3 h4) ?_;have I1:Inv X af σ H {s with heap:=s.heap.push {cls:=.type "range",data:=.fields #[.int lo t,.int hi u,.int 1 v]},toks:=tk}:=I.kept λb o e=>bR _ e
  refine⟨(s.heap.push {cls:=.type "range",data:=.fields #[.int lo t,.int hi u,.int 1 v]}).objs.size,[(s.heap.push {cls:=.type "range",data:=.fields #[.int lo t,.int hi u,.int 1 v]}).objs.size],_,_,H,rfl,
    I1.kept (t':=tk) λb o e=>bR _ e,AD _ lo (hi-lo).toNat,?_,λb hb=>?_,q⟩
  · have e1:lo+((0:Nat):Int)*1=lo:=by simp
    have e2:(((hi-lo).toNat:Nat):Int)-((0:Nat):Int)=Builtin.Range.rangeSize lo hi 1:=by rw[rangeSize_one];split<;>lia
    show IsRangeIter _ _ (lo+((0:Nat):Int)*1) ((((hi-lo).toNat:Nat):Int)-((0:Nat):Int)) 1;rw[e1,e2];exact dj _ rfl
  · have e:b=(s.heap.push {cls:=.type "range",data:=.fields #[.int lo t,.int hi u,.int 1 v]}).objs.size:=by simpa using hb
    subst e;exact I1.Hd (aR _) (I1.hok.fresh (aR _))
def Ue(ta:TA):TI:=λσ H R=>ta σ H λvs H1=>∃j:Int,vs=[.int j] /\ -(2^62)<=j/\j<2^62/\R (Uc 0 j.toNat) H1
def Ug(ta:TA):TI:=λσ H R=>ta σ H λvs H1=>∃i j:Int,vs=[.int i,.int j]/\(-(2^62)<=i/\i<2^62 /\ -(2^62)<=j/\j<2^62)/\R (Uc i (j-i).toNat) H1
theorem Es{a:aj}{ta:TA}{p pos:Pos}(hg:Gl X "range")(hm:X.mg "range"=none)(ha:PA X [a] ta)(hs:starEach [a] X.env=[(false,eval a X.env)]:=by rfl):PI X tg (.Call (.Name "range" p) [a] [] pos) (Ue ta):=by
  intro af s σ H R I h;refine Call_ (ld_blt I hg hm boot_range (jL (thn (ha pos af s σ H _ I h) λus s1 ⟨vs,H1,I1,r1,q1⟩=>?_) hs rfl))
  obtain⟨j,e,q1,q2,q⟩:=q1;subst e;cases r1 with
  | cons r rr =>
    cases rr;obtain⟨t,rfl⟩:=r;exact call_range_1 (xG I1 (by lia) (by lia) q1 q2 (by simpa using q))
theorem Et{a b:aj}{ta:TA}{p pos:Pos}(hg:Gl X "range")(hm:X.mg "range"=none)(ha:PA X [a,b] ta)(hs:starEach [a,b] X.env=[(false,eval a X.env),(false,eval b X.env)]:=by rfl)(N3:starEach [b] X.env=[(false,eval b X.env)]:=by rfl) :
    PI X tg (.Call (.Name "range" p) [a,b] [] pos) (Ug ta):=by
  intro af s σ H R I h;refine Call_ (ld_blt I hg hm boot_range (jL (thn (ha pos af s σ H _ I h) λus s1 ⟨vs,H1,I1,r1,q1⟩=>?_) (by rw[hs,N3]) (by rw[N3];rfl)))
  obtain⟨i,j,e,⟨q1,q2,q3,q4⟩,q⟩:=q1;subst e;cases r1 with
  | cons r rr =>
    cases rr with
    | cons r' rr =>
      cases rr;obtain⟨t,rfl⟩:=r;obtain⟨t',rfl⟩:=r';exact call_range_2 (xG I1 q1 q2 q3 q4 q)
def Zt(wi:TI)(g:TG)(tb:TS):TS:=λD σ H=>wi σ H λJ H1=>∃W:Nat->Nat->St->Hp->Prop,(∃m,W 0 m σ H1)/\∀i m σ H,W i m σ H ->
  (J.stop i H/\D.nx σ H)\/(J.go i H/\∃N:St->Hp->Prop,(∀cE H',N cE H'->∃m',m'<m/\W (i+1) m' cE H')/\∀x H',J.yld i H x H'->g x σ H' λzB H2=>tb {D with nx:=N,ct:=N,bk:=D.nx} zB H2)
def qi(fp:List ab)(h:Heap):List (ab×Obj):=fp.filterMap λb=>(h.get? b).map λo=>(b,o)
theorem jo{fp:List ab}{h:Heap}{b:ab}{o:Obj}(hb:b∈fp)(e:h.get? b=some o):(b,o)∈qi fp h:=ly.mpr ⟨b,hb,by rw[e];rfl⟩
theorem Eu{fp:List ab}{h:Heap}{p:ab×Obj}(hp:p∈qi fp h):p.1∈fp/\h.get? p.1=some p.2:=by
  obtain⟨b,hb,e⟩:=ly.mp hp;cases q:h.get? b with
  | none=>rw[q]at e;cases e
  | some o =>
    rw[q]at e;have e':(b,o)=p:=bg e;subst e';exact⟨hb,q⟩
theorem Inv.pinned{af:List (ab×Obj)}{σ:St}{H:Hp}{s:aq}{fp:List ab}(I:Inv X af σ H s)(hf:∀b∈fp,vg X af H b)(ho:∀b∈fp,∃o,s.heap.get? b=some o/\∀v,o.data≠.cell v):Inv X (af++qi fp s.heap) σ H s :=
  I.md λp hp=>(dM.mp hp).elim (λz=>I.pin p (eG _ z)) λz=>by
    obtain⟨hb,e⟩:=Eu z;obtain⟨f0,f1,f2,_⟩:=hf p.1 hb;obtain⟨o,e',d⟩:=ho p.1 hb;rw[e]at e';cases e';exact⟨e,f0,f1,f2,d⟩
theorem Inv.qj{af pl:List (ab×Obj)}{σ:St}{H:Hp}{s:aq}(I:Inv X (af++pl) σ H s):Inv X af σ H s:=I.md λp hp=>I.pin p (eG _ (iB _ hp))
theorem Hf{iter:aj}{body:List az}{wi:TI}{g:TG}{tb:TS}{pos:Pos}(hp:PassesOwn (model X.prog X.w) X.A X.env X.xe)(hc:X.calm=true)(hi:PI X tg iter wi)(hg:PG X tg g)(hb:oQ X body tb)
    (hs:∀x,foldedSetIterable iter X.env x=pure x:=by intro _;rfl):PS X (.For tg iter body [] pos) (Zt wi g tb):=by
  intro af s σ H D I h;refine wpAny_For (thn (hi af s σ H _ I h) λv s1 h1=>thn h1 λZq s2 h2=>?_) hs
  obtain⟨it,fp,tn,J,H2,e,I2,T,Ta,f2,W,⟨m0,w0⟩,AA⟩:=h2;subst e;have AE:∀{H':Hp},(∀b∈fp,H' b=none)->∀b∈fp,vg X af H' b:=λhn b hb=>⟨hn b hb,(f2 b hb).2⟩
  refine codeAny_forLoop_any (λn s'=>∃i cE H',Inv X af cE H' s'/\tn i s'.heap/\(∀b∈fp,H' b=none)/\W i n cE H') ?_ m0 ⟨0,σ,H2,I2,Ta,λb hb=>(f2 b hb).1,w0⟩
  rintro n s3 ⟨i,o8,H3,I3,st3,fr3,w3⟩
  rcases AA i n o8 H3 w3 with⟨stop,qn⟩ | ⟨go,N,hN,step⟩
  · refine lC hp (thn (T.done X rfl rfl rfl hc i af s3 o8 H3 X.xe I3 (AE fr3) st3 stop) λr s4 ⟨hr,I4⟩=>?_)
    subst hr;exact uS ⟨o8,H3,I4,qn⟩
  · refine lC hp (thn (T.item X rfl rfl rfl hc i af s3 o8 H3 X.xe I3 (AE fr3) st3 go) λr s4 ⟨u,hr,h4⟩=>?_)
    subst hr;refine lC hp (thn h4 λ_ s5 ⟨x,H5,I5,r5,y5,P9,Zu⟩=>?_)
    have Zv:=I5.pinned (AE Zu) (T.obj _ _ P9);refine lC hp (thn (hg _ s5 o8 H5 x u _ Zv r5 (step x H5 y5)) λ_ s6 ⟨Xn,H6,I6,q6⟩=>?_)
    refine lC hp (thn (hb _ s6 Xn H6 _ I6 q6) λf s7 q7=>?_)
    have again:∀{Hg:St} {H7:Hp},Inv X (af++qi fp s5.heap) Hg H7 s7->N Hg H7->∃m,m<n/\∃i cE H',Inv X af cE H' s7/\tn i s7.heap/\(∀b∈fp,H' b=none)/\W i m cE H':=λ{Hg H7} I7 n7=>by
      obtain⟨m',hm,w7⟩:=hN Hg H7 n7;refine⟨m',hm,i+1,Hg,H7,I7.qj,T.keep _ _ _ P9 λb hb o e=>(I7.pin (b,o) (eG _ (eG _ (jo hb e)))).1,λb hb=>?_,w7⟩
      obtain⟨o,e,d⟩:=T.obj _ _ P9 b hb;exact(I7.pin (b,o) (eG _ (eG _ (jo hb e)))).2.1
    cases f with
    | next=>obtain⟨Hg,H7,I7,n7⟩:=q7;exact again I7 n7
    | cont=>obtain⟨Hg,H7,I7,n7⟩:=q7;exact again I7 n7
    | brk=>obtain⟨Hg,H7,I7,q7⟩:=q7;exact⟨Hg,H7,I7.qj,q7⟩
    | ret v=>obtain⟨x7,Hg,H7,I7,r7,q7⟩:=q7;exact⟨x7,Hg,H7,I7.qj,r7,q7⟩
end
theorem Hh{K:ah}{a:ab}{xs:List V}{g:TG}{tb:TS}{D:jG}{σ:St}{H:Hp}(Pv:Nat->St->Hp->Prop)(h0:Pv 0 σ H)(hl:∀i σ H,i<=xs.length->Pv i σ H->kQ K H a xs)
    (hs:∀i x σ H,xs[i]?=some x->Pv i σ H->g x σ H λzB H2=>tb {D with nx:=Pv (i+1),ct:=Pv (i+1),bk:=D.nx} zB H2) (hd:∀σ H,Pv xs.length σ H->D.nx σ H) :
    ∃W:Nat->Nat->St->Hp->Prop,(∃m,W 0 m σ H)/\∀i m σ H,W i m σ H ->
      ((S9 K a).stop i H/\D.nx σ H)\/((S9 K a).go i H/\∃N:St->Hp->Prop,(∀cE H',N cE H'->∃m',m'<m/\W (i+1) m' cE H')/\∀x H',(S9 K a).yld i H x H'->g x σ H' λzB H2=>tb {D with nx:=N,ct:=N,bk:=D.nx} zB H2):=by
  refine⟨λi m σ H=>m=xs.length-i/\i<=xs.length/\Pv i σ H,⟨xs.length,by simp,dY _,h0⟩,?_⟩
  rintro i m σ H ⟨rfl,hi,p⟩
  have q:=hl i σ H hi p;by_cases dU:i<xs.length
  · refine .inr ⟨⟨xs,xs[i],q,by simp[dU]⟩,Pv (i+1),λcE H' p'=>⟨xs.length-(i+1),by lia,rfl,dU,p'⟩,λx H' y=>?_⟩
    obtain⟨e,y⟩:=y;subst e;exact hs i x σ _ (y xs q) p
  · have e:i=xs.length:=by lia
    subst e;exact .inl ⟨⟨xs,q,aR _⟩,hd σ H p⟩
abbrev R2:=V->V->Hp->VK->Prop
def OpR(X:Cx)(f:ag->ag->Sem ag)(r:R2):Prop :=
  ∀(af:List (ab×Obj)) (s:aq) (σ:St) (H:Hp) (x y:V) (v u:ag) (Q:VK),Inv X af σ H s->RelV x v->RelV y u->r x y H Q ->
    wpAny (model X.prog X.w) X.A (f v u) (EP X af σ Q) X.xe s
def UnR(X:Cx)(f:ag->Sem ag)(r:V->Hp->VK->Prop):Prop :=
  ∀(af:List (ab×Obj)) (s:aq) (σ:St) (H:Hp) (x:V) (v:ag) (Q:VK),Inv X af σ H s->RelV x v->r x H Q ->
    wpAny (model X.prog X.w) X.A (f v) (EP X af σ Q) X.xe s
def jZ(X:Cx)(f:ag)(r:List V->Hp->VK->Prop):Prop :=
  ∀(af:List (ab×Obj)) (s:aq) (σ:St) (H:Hp) (xs:List V) (us:b6) (Q:VK),Inv X af σ H s->Vals xs us->r xs H Q ->
    wpAny (model X.prog X.w) X.A (call f us) (EP X af σ Q) X.xe s
def Zw(X:Cx)(r:V->Hp->(Bool->Hp->Prop)->Prop):Prop :=
  ∀(af:List (ab×Obj)) (s:aq) (σ:St) (H:Hp) (x:V) (v:ag) (Q:Bool->Hp->Prop),Inv X af σ H s->RelV x v->r x H Q ->
    wpAny (model X.prog X.w) X.A (truthy v) (TP X af σ Q) X.xe s
def Tb(r:R2)(ta tb:TE):TE:=λσ H Q=>ta σ H λx H1=>tb σ H1 λy H2=>r x y H2 Q
def tUn(r:V->Hp->VK->Prop)(ta:TE):TE:=λσ H Q=>ta σ H λx H1=>r x H1 Q
def rI(C:Int->Int->Prop)(g:Int->Int->V):R2:=λx y H Q=>∃i j,x=.int i/\y=.int j/\C i j/\Q (g i j) H
def AF(g:Int->Int->V):R2:=λx y H Q=>∃i j,x=.int i/\y=.int j/\Q (g i j) H
def rU(g:Int->V):V->Hp->VK->Prop:=λx H Q=>∃i,x=.int i/\Q (g i) H
section
variable {X:Cx} {a b c:aj} {ta tb tc:TE} {pos:Pos}
theorem Qa(ha:PE X a ta)(hb:PE X b tb){af:List (ab×Obj)}{s:aq}{σ:St}{H:Hp}{R:V->V->Hp->Prop}(I:Inv X af σ H s)
    (h:ta σ H λx H1=>tb σ H1 λy H2=>R x y H2) {Q:cf} {f:ag->ag->Sem ag}
    (hf:∀v u s2 x y H2,Inv X af σ H2 s2->RelV x v->RelV y u->R x y H2->wpAny (model X.prog X.w) X.A (f v u) Q X.xe s2) :
    wpAny (model X.prog X.w) X.A (eval a X.env) (λv s₁=>wpAny (model X.prog X.w) X.A (eval b X.env) (λu ve=>wpAny (model X.prog X.w) X.A (f v u) Q X.xe ve) X.xe s₁) X.xe s:=by
  refine thn (ha af s σ H _ I h) λv s1 ⟨x,H1,I1,r1,q1⟩=>?_
  refine thn (hb af s1 σ H1 _ I1 q1) λu s2 ⟨y,H2,I2,r2,q2⟩=>?_
  exact hf v u s2 x y H2 I2 r1 r2 q2
theorem N4{op:Operator}{r:R2}(ho:OpR X (binaryOp op) r)(ha:PE X a ta)(hb:PE X b tb):PE X (.BinOp a op b pos) (Tb r ta tb):=by
  intro af s σ H Q I h;exact wpAny_BinOp (Qa ha hb I h λv u s2 x y H2 I2 rx ry q=>ho af s2 σ H2 x y v u Q I2 rx ry q)
theorem N5{op:UnaryOp}{r:V->Hp->VK->Prop}(ho:UnR X (unaryOp op) r)(ha:PE X a ta):PE X (.UnaryOp op a pos) (tUn r ta):=by
  intro af s σ H Q I h;exact UnaryOp_ (thn (ha af s σ H _ I h) λv s1 ⟨x,H1,I1,r1,q1⟩=>ho af s1 σ H1 x v Q I1 r1 q1)
theorem Xo{f:ag->ag->Sem ag}{C:Int->Int->Prop}{g:Int->Int->Int}
    (rule:∀(i j:Int) (t u:Tok) (s:aq) (Q:cf) (E:cf),C i j->Q (.int (g i j) s.toks) {s with toks:=s.toks+1}->wpAny (model X.prog X.w) X.A (f (.int i t) (.int j u)) Q E s) :
    OpR X f (rI C λi j=>.int (g i j)):=by
  intro af s σ H x y v u Q I rx ry h;obtain⟨i,j,rfl,rfl,hc,q⟩:=h;obtain⟨t,rfl⟩:=rx;obtain⟨t',rfl⟩:=ry;exact rule i j t t' s _ _ hc ⟨.int (g i j),H,I.tok _,⟨_,rfl⟩,q⟩
theorem Lk{f:ag->ag->Sem ag}{g:Int->Int->Int}
    (rule:∀(i j:Int) (t u:Tok) (s:aq) (Q:cf) (E:cf),Q (.int (g i j) s.toks) {s with toks:=s.toks+1}->wpAny (model X.prog X.w) X.A (f (.int i t) (.int j u)) Q E s) :
    OpR X f (AF λi j=>.int (g i j)):=by
  intro af s σ H x y v u Q I rx ry h;obtain⟨i,j,rfl,rfl,q⟩:=h;obtain⟨t,rfl⟩:=rx;obtain⟨t',rfl⟩:=ry;exact rule i j t t' s _ _ ⟨.int (g i j),H,I.tok _,⟨_,rfl⟩,q⟩
theorem Ll{f:ag->ag->Sem ag}{g:Int->Int->Bool}
    (rule:∀(i j:Int) (t u:Tok) (s:aq) (Q:cf) (E:cf),Q (.bool (g i j)) s->wpAny (model X.prog X.w) X.A (f (.int i t) (.int j u)) Q E s) :
    OpR X f (AF λi j=>.bl (g i j)):=by
  intro af s σ H x y v u Q I rx ry h;obtain⟨i,j,rfl,rfl,q⟩:=h;obtain⟨t,rfl⟩:=rx;obtain⟨t',rfl⟩:=ry;exact rule i j t t' s _ _ ⟨.bl (g i j),H,I,rfl,q⟩
def Zx(i j:Int):Prop:=0<j/\j<1073741824
def Zy(i j:Int):Prop:=0<=j/\j<=1000000/\i.natAbs<2^64
def Qb(i j:Int):Prop:=(-(2^64)<i/\i<2^64)\/(-(2^64)<j/\j<2^64)
theorem Qb.ok{i j:Int}(h:Qb i j):IntMulOk i j:=by
  rcases h with⟨h1,h2⟩ | ⟨h1,h2⟩
  · exact .of_left (intBits_le_64 h1 h2)
  · exact .of_right (intBits_le_64 h1 h2)
theorem Qc:OpR X (binaryOp .Add) (AF λi j=>.int (i+j)):=Lk λ_ _ _ _ _ _ _ q=>add_int q
theorem Qd:OpR X (binaryOp .Sub) (AF λi j=>.int (i-j)):=Lk λ_ _ _ _ _ _ _ q=>sub_int q
theorem Qe:OpR X (binaryOp .Mult) (rI Qb λi j=>.int (i*j)):=Xo λ_ _ _ _ _ _ _ hc q=>mul_int q hc.ok
theorem Lm:OpR X (binaryOp .FloorDiv) (rI Zx λi j=>.int (i/j)):=Xo λi j _ _ _ _ _ hc q=>by
  have h1:(0:Int)<j:=hc.1;have h2:j<1073741824:=hc.2;exact floordiv_int (by lia) (by rw[Int.fdiv_eq_ediv_of_nonneg i (by lia)];exact q) (.inl (PyProof.noPylong_small (by lia)))
theorem Qf:OpR X (binaryOp .Mod) (rI (λ_ j=>0<j) λi j=>.int (i%j)):=Xo λi j _ _ _ _ _ hc q=>by
  have h1:(0:Int)<j:=hc;exact mod_int' (by lia) (by rw[Int.fmod_eq_emod_of_nonneg i (by lia)];exact q)
theorem Qg:OpR X (binaryOp .Pow) (rI Zy λi j=>.int (i^j.toNat)):=Xo λ_ _ _ _ _ _ _ hc q=>pow_int_small hc.1 hc.2.1 hc.2.2 q
theorem iop_add:OpR X (inplaceOp .Add) (AF λi j=>.int (i+j)):=Lk λ_ _ _ _ _ _ _ q=>iadd_int q
theorem Ln:OpR X (inplaceOp .Sub) (AF λi j=>.int (i-j)):=Lk λ_ _ _ _ _ _ _ q=>isub_int q
theorem unI{f:ag->Sem ag}{g:Int->Int}
    (rule:∀(i:Int) (t:Tok) (s:aq) (Q:cf) (E:cf),Q (.int (g i) s.toks) {s with toks:=s.toks+1}->wpAny (model X.prog X.w) X.A (f (.int i t)) Q E s) :
    UnR X f (rU λi=>.int (g i)):=by
  intro af s σ H x v Q I rx h;obtain⟨i,rfl,q⟩:=h;obtain⟨t,rfl⟩:=rx;exact rule i t s _ _ ⟨.int (g i),H,I.tok _,⟨_,rfl⟩,q⟩
theorem Hi:UnR X (unaryOp .USub) (rU λi=>.int (-i)):=unI λ_ _ _ _ _ q=>neg_int q
end
section
variable {X:Cx} {a b c:aj} {ta tb tc:TE} {pos:Pos}
theorem Hj{af:List (ab×Obj)}{σ:St}{H:Hp}{s:aq}{Q:VK}{k k':Bool}(I:Inv X af σ H s)(q:Q (.bl k) H)(e:k=k'):EP X af σ Q (.bool k') s:=by
  subst e;exact⟨.bl k,H,I,rfl,q⟩
theorem N6:OpR X (compareOp .Lt) (AF λi j=>.bl (decide (i<j))):=Ll λ_ _ _ _ _ _ _ q=>lt_int q
theorem Uh:OpR X (compareOp .LtE) (AF λi j=>.bl (decide (i<=j))):=Ll λ_ _ _ _ _ _ _ q=>le_int q
theorem Ui:OpR X (compareOp .Gt) (AF λi j=>.bl (decide (j<i))):=Ll λ_ _ _ _ _ _ _ q=>gt_int q
theorem Uj:OpR X (compareOp .GtE) (AF λi j=>.bl (decide (j<=i))):=Ll λ_ _ _ _ _ _ _ q=>ge_int q
theorem Qh:OpR X (compareOp .Is) (λx y H Q=>y=.cM/\Q (.bl (decide (x=.cM))) H):=by
  intro af s σ H x y v u Q I rx ry h;obtain⟨rfl,q⟩:=h;cases ry;refine is_none_gen (Hj I q ?_);cases x<;>first
    | (cases rx;rfl)
    | (obtain⟨t,rfl⟩:=rx;rfl)
theorem Lo:OpR X (compareOp .IsNot) (λx y H Q=>y=.cM/\Q (.bl (!decide (x=.cM))) H):=by
  intro af s σ H x y v u Q I rx ry h;obtain⟨rfl,q⟩:=h;cases ry;refine isnot_none_gen (Hj I q ?_);cases x<;>first
    | (cases rx;rfl)
    | (obtain⟨t,rfl⟩:=rx;rfl)
theorem Lp{op:CmpOp}{r:R2}(ho:OpR X (compareOp op) r)(ha:PE X a ta)(hb:PE X b tb)(hm:behindInMarks op b=false):PE X (.Compare a [op] [b] pos) (Tb r ta tb):=by
  intro af s σ H Q I h;exact wpAny_Compare1 (Qa ha hb I h λv u s2 x y H2 I2 rx ry q=>ho af s2 σ H2 x y v u Q I2 rx ry q) hm
def N7(t:TE):TT:=λσ H Q=>t σ H λx H'=>∃k,x=.bl k/\Q k H'
theorem me{op:CmpOp}{r:R2}(ho:OpR X (compareOp op) r)(ha:PE X a ta)(hb:PE X b tb)(hm:behindInMarks op b=false):PT X (.Compare a [op] [b] pos) (N7 (Tb r ta tb)):=by
  intro af s σ H Q I h;refine wpAny_isTrue_Compare1 (thn (ha af s σ H _ I h) λv s1 ⟨x,H1,I1,r1,q1⟩=>thn (hb af s1 σ H1 _ I1 q1) λu s2 ⟨y,H2,I2,r2,q2⟩ =>
    thn (ho af s2 σ H2 x y v u _ I2 r1 r2 q2) λc s3 ⟨z,H3,I3,r3,k,e,q3⟩=>?_) hm
  subst e;cases r3;exact ji ⟨H3,I3,q3⟩
def Hk(r r':R2)(ta tb tc:TE):TE:=λσ H Q=>ta σ H λx H1=>tb σ H1 λy H2=>r x y H2 λz H3=>∃k,z=.bl k /\
  (if k=true then tc σ H3 λw' H4=>r' y w' H4 Q else Q (.bl false) H3)
theorem Hl{op vh:CmpOp}{r r':R2}(ho:OpR X (compareOp op) r)(rN:OpR X (compareOp vh) r')(ha:PE X a ta)(hb:PE X b tb)(hc:PE X c tc)
    (hm:lastMarks [op,vh] [b,c]=false:=by with_unfolding_all rfl):PE X (.Compare a [op,vh] [b,c] pos) (Hk r r' ta tb tc):=by
  intro af s σ H Q I h;refine Compare_chain (thn (ha af s σ H _ I h) λv s1 ⟨x,H1,I1,r1,q1⟩=>chain_link (thn (hb af s1 σ H1 _ I1 q1) λu s2 ⟨y,H2,I2,r2,q2⟩ =>
    thn (ho af s2 σ H2 x y v u _ I2 r1 r2 q2) λd s3 ⟨z,H3,I3,r3,k,e,q3⟩=>?_)) hm
  subst e;cases r3;refine ji ?_;cases k with
  | false=>exact ite_ff ⟨.bl false,H3,I3,rfl,q3⟩
  | true=>exact ite_tt (chain_last (thn (hc af s3 σ H3 _ I3 q3) λw' s4 ⟨z',H4,I4,r4,q4⟩=>rN af s4 σ H4 y z' u w' Q I4 r2 r4 q4))
theorem Hm{op vh:CmpOp}{r r':R2}(ho:OpR X (compareOp op) r)(rN:OpR X (compareOp vh) r')(ha:PE X a ta)(hb:PE X b tb)(hc:PE X c tc)
    (hm:lastMarks [op,vh] [b,c]=false:=by with_unfolding_all rfl):PT X (.Compare a [op,vh] [b,c] pos) (N7 (Hk r r' ta tb tc)):=by
  intro af s σ H Q I h;refine isTrue_chain (thn (ha af s σ H _ I h) λv s1 ⟨x,H1,I1,r1,q1⟩=>test_link (thn (hb af s1 σ H1 _ I1 q1) λu s2 ⟨y,H2,I2,r2,q2⟩ =>
    thn (ho af s2 σ H2 x y v u _ I2 r1 r2 q2) λd s3 ⟨z,H3,I3,r3,k,e,q3⟩=>?_)) hm
  subst e;cases r3;refine ji ?_;cases k with
  | false =>
    obtain⟨k',e',q'⟩:=q3;cases e';exact ite_ff ⟨H3,I3,q'⟩
  | true =>
    refine ite_tt (test_last (thn (hc af s3 σ H3 _ I3 q3) λw' s4 ⟨z',H4,I4,r4,q4⟩=>thn (rN af s4 σ H4 y z' u w' _ I4 r2 r4 q4) λd' s5 ⟨z2,H5,I5,r5,k2,e2,q5⟩=>?_))
    subst e2;cases r5;exact ji ⟨H5,I5,q5⟩
def Uk(K:ah)(x:V)(H:Hp)(k:Bool):Prop :=
  match x with
  | .cM=>k=false
  | .bl b=>k=b
  | .int i=>k=(i != 0)
  | .str y=>y.length<=sizeLine/\k=((y.length:Int) != 0)
  | .Tz y=>y.size<=sizeLine/\k=((y.size:Int) != 0)
  | .ref p=>(∃xs,kQ K H p xs/\k = !xs.isEmpty)\/(∃xs,gI K H p xs/\k = !xs.isEmpty)\/∃kvs,H p=some (.dK kvs)/\k = !kvs.isEmpty
  | _=>False
theorem AG{κ:Type}{kvs:List (κ×V)}{vs:List (κ×ag)}(r:KV kvs vs):(!vs.isEmpty) = !kvs.isEmpty:=by
  cases r<;>rfl
theorem ql{xs:List V}{aN:b6}(r:Vals xs aN):(!aN.toArray.isEmpty) = !xs.isEmpty:=by
  cases r<;>simp
theorem nL:(sizeLine:Nat)<2^63:=by rw[sizeLine_eq];decide
theorem Qi:Zw X (λx H Q=>∃k,Uk X.K x H k/\Q k H):=by
  intro af s σ H x v Q I rx h;obtain⟨k,e,q⟩:=h;have hl:=nL;have hs:sizeLine=16777216:=sizeLine_eq;cases x with
  | cM =>
    cases rx;have e':k=false:=e;subst e';exact truthy_none ⟨H,I,q⟩
  | bl b =>
    cases rx;have e':k=b:=e;subst e';exact ji ⟨H,I,q⟩
  | int i =>
    obtain⟨t,rfl⟩:=rx;have e':k=(i != 0):=e;subst e';exact PySem.P.truthy_int ⟨H,I,q⟩
  | str y =>
    obtain⟨t,rfl⟩:=rx;obtain⟨hy,e'⟩:y.length<=sizeLine/\k=((y.length:Int) != 0):=e;subst e';exact PySem.P.truthy_str (by lia) ⟨H,I.tok _,q⟩
  | Tz y =>
    obtain⟨t,rfl⟩:=rx;obtain⟨hy,e'⟩:y.size<=sizeLine/\k=((y.size:Int) != 0):=e;subst e';exact W.truthy_bytes (by lia) ⟨H,I.tok _,q⟩
  | ref p =>
    cases rx;have e':(∃xs,kQ X.K H p xs/\k = !xs.isEmpty)\/(∃xs,gI X.K H p xs/\k = !xs.isEmpty)\/∃kvs,H p=some (.dK kvs)/\k = !kvs.isEmpty:=e
    rcases e' with⟨xs,hx,e'⟩ | ⟨xs,hx,e'⟩ | ⟨kvs,hx,e'⟩
    · subst e'
      obtain⟨aN,r,pl,hz⟩:=I.list hx;have cC:=r.length;exact wpAny_truthy_list pl.isList (by simp only[bh];lia) ⟨H,I.tok _,by rw[ql r];exact q⟩
    · subst e'
      obtain⟨aN,r,pl,hz⟩:=I.tuple hx;have cC:=r.length;exact truthy_tuple pl (by simp only[bh];lia) ⟨H,I.tok _,by rw[ql r];exact q⟩
    · subst e'
      obtain⟨hz,hS,vs,r,m⟩:kvs.length<=sizeLine/\(p==sysModules)=false/\∃vs,KV kvs vs/\s.heap.DictOf (et X.prog X.w) p vs:=I.hok p _ hx
      have cC:kvs.length=vs.length:=uW r;exact wpAny_truthy_dict hS m (by lia) ⟨H,I.tok _,by rw[AG r];exact q⟩
  | _=>exact(show False from e).elim
theorem AH:OpR X (binaryOp .Add) (λx y H Q=>∃i j,x=.str i/\y=.str j/\i.length+j.length<=sizeLine/\Q (.str (i++j)) H):=by
  intro af s σ H x y v u Q I rx ry h;obtain⟨i,j,rfl,rfl,hz,q⟩:=h;obtain⟨t,rfl⟩:=rx;obtain⟨t',rfl⟩:=ry;exact add_str (λt' tk=>⟨.str (i++j),H,I.tok _,⟨_,rfl⟩,q⟩) hz
theorem iW{x:V}{us:b6}(r:Vals [x] us):∃u,us=[u]/\RelV x u:=by
  cases r with
  | cons r1 r2=>cases r2;exact⟨_,rfl,r1⟩
theorem Hn{x y:V}{us:b6}(r:Vals [x,y] us):∃u w',us=[u,w']/\RelV x u/\RelV y w':=by
  cases r with
  | cons r1 r2 =>
    cases r2 with
    | cons r3 r4=>cases r4;exact⟨_,_,rfl,r1,r3⟩
theorem tq:jZ X (.type "int") (λxs H Q=>(∃i,xs=[.int i]/\Q (.int i) H)\/∃k,xs=[.bl k]/\Q (.int (if k then 1 else 0)) H):=by
  intro af s σ H xs us Q I r h;rcases h with⟨i,rfl,q⟩ | ⟨k,rfl,q⟩
  · obtain⟨u,rfl,t,rfl⟩:=iW r
    exact call_int_int ⟨.int i,H,I,⟨_,rfl⟩,q⟩
  · obtain⟨u,rfl,r1⟩:=iW r
    cases r1;exact call_int_bool ⟨.int (if k then 1 else 0),H,I.tok _,⟨_,rfl⟩,q⟩
theorem vi:jZ X (.type "str") (λxs H Q=>∃i,xs=[.int i]/\i.natAbs.log2<1920/\Q (.str (toString i)) H):=by
  intro af s σ H xs us Q I r h;obtain⟨i,rfl,hz,q⟩:=h;obtain⟨u,rfl,t,rfl⟩:=iW r;exact PySem.P.str_of_int hz ⟨.str _,H,I.tok _,⟨_,rfl⟩,q⟩
end
structure dR (k:Nat) (A:bD):Prop where
  hd:A.handled=none
  dp:A.depth+3*k+5<recursionLimit
  un:A.units+16*k+1200<cLine
theorem dR.mono{j k:Nat}{A:bD}(r:dR k A)(h:j<=k):dR j A:=⟨r.hd,by have:=r.dp;lia,by have:=r.un;lia⟩
theorem dR.deeper{k:Nat}{A:bD}(r:dR (k+1) A)(env:Env):dR k (A.deeper env) :=
  ⟨r.hd,by have:=r.dp;show A.depth+1+3*k+5<_;lia,by have:=r.un;show A.units+3+16*k+1200<_;lia⟩
theorem dR.depth{k:Nat}{A:bD}(r:dR k A):A.depth<recursionLimit:=by have:=r.dp;lia
theorem dR.units{k:Nat}{A:bD}(r:dR k A):A.units+64<cLine:=by have:=r.un;lia
def Ul:TA:=λ_ H Q=>Q [] H
def CB(ta:TE)(tr:TA):TA:=λσ H Q=>ta σ H λx H1=>tr σ H1 λxs H2=>Q (x::xs) H2
section
variable {X:Cx} {e:aj} {es:List aj} {te:TE} {t:TA} {pos:Pos}
theorem gD:PA X [] Ul:=λ_ _ _ _ H Q I h=>Calls.spliced_nil ⟨[],H,I,.nil,h⟩
theorem cR(ha:PE X e te)(hr:PA X es t)(hs:starEach (e::es) X.env=(false,eval e X.env)::starEach es X.env:=by rfl):PA X (e::es) (CB te t):=by
  intro pos af s σ H Q I h;rw[hs];show wpAny _ _ (spliced ((false,eval e X.env)::backTo pos (starEach es X.env))) _ _ s;refine Calls.spliced_cons (thn (ha af s σ H _ I h) λu s1 ⟨x,H1,I1,r1,q1⟩=>?_)
  exact thn (hr pos af s1 σ H1 _ I1 q1) λus s2 ⟨xs,H2,I2,r2,q2⟩=>⟨x::xs,H2,I2,.cons r1 r2,q2⟩
def Zz(t:TA):TE:=λσ H Q=>t σ H λxs H1=>xs.length<=sizeLine/\∀p,H1 p=none->Q (.ref p) (upd H1 p (.aJ xs))
def ZA(t:TA):TE:=λσ H Q=>t σ H λxs H1=>xs.length<=sizeLine/\∀p,H1 p=none->Q (.ref p) (upd H1 p (.ay xs))
theorem Qj{x1}(h:PA X es t):PE X (.Tuple es x1 pos) (Zz t):=by
  intro af s σ H Q I hq;refine wpAny_Tuple_spliced (thn (h pos af s σ H _ I hq) λus s1 ⟨xs,H1,I1,r,z,q⟩=>⟨by rw[<-r.length];exact z,?_⟩)
  have hf:H1 s1.heap.objs.size=none:=I1.hok.fresh (aR _);refine⟨.ref s1.heap.objs.size,upd H1 s1.heap.objs.size (.aJ xs),I1.laid (t':=s1.toks) (λb u e=>bR _ e) (aR _) ?_,rfl,q _ hf⟩
  exact⟨z,us,r,⟨_,dj _ rfl,rfl,_,rfl⟩⟩
theorem Ho(h:PA X es t):PE X (.List es pos) (ZA t):=by
  intro af s σ H Q I hq;refine wpAny_List_spliced (thn (h pos af s σ H _ I hq) λus s1 ⟨xs,H1,I1,r,z,q⟩=>⟨by rw[<-r.length];exact z,?_⟩)
  have hf:H1 s1.heap.objs.size=none:=I1.hok.fresh (aR _);refine⟨.ref s1.heap.objs.size,upd H1 s1.heap.objs.size (.ay xs),I1.laid (t':=s1.toks) (λb u e=>bR _ e) (aR _) ?_,rfl,q _ hf⟩
  exact⟨z,us,0,r,dj _ rfl⟩
end
abbrev Sp:=List V->Hp->VK->XK->Prop
abbrev Cg:=List Env->Hp->aq->XK->cf
structure AI (P:bc) (w:aM) (K:ah) (mg:dy) (base:Heap) (A:bD) (outer:List Env) (s:aq) (H:Hp):Prop where
  frames:A.frames=some outer
  mod:Mod K mg base
  bs:∀b o,base.get? b=some o->s.heap.get? b=some o/\H b=none
  bsz:base.objs.size<=s.heap.objs.size
  funs:s.heap.FunFrames base outer
  frf:∀b∈zA outer,H b=none
  hok:m9 P w H s.heap
  bare:AllBare s.gens
  tabs:qd K H
def CE(outer:List Env)(P:bc)(w:aM)(H:Hp)(s:aq)(Q:VK)(u:ag)(s':aq):Prop :=
  ∃v H',s'.os=s.os/\AllBare s'.gens/\Un (zA outer) [] H H' s.heap s'.heap/\m9 P w H' s'.heap/\RelV v u/\Q v H'
def CR(CX:Cg)(outer:List Env)(P:bc)(w:aM)(H:Hp)(s:aq)(Q:VK)(E:XK)(r:Result)(s':aq):Prop :=
  match r with
  | .ok (.ret u)=>CE outer P w H s Q u s'
  | .ok _=>False
  | .error e=>CX outer H s E e s'
structure FnOk (P:bc) (w:aM) (K:ah) (mg:dy) (base:Heap) (CX:Cg) (k:Nat) (f:ab) (fd:dk) (ps:List Str) (sp:Sp):Prop where
  len:∀vs H Q E,sp vs H Q E->vs.length=ps.length
  run:∀(A:bD) (outer:List Env) (s:aq) (H:Hp) (args:Args) (us:b6) (vs:List V) (Q:VK) (E:XK),dR k A->AI P w K mg base A outer s H->BindsTo s fd args (ps.zip us)->Vals vs us->sp vs H Q E ->
    codeAny (model P w) A (.call (.ref f) args) (CR CX outer P w H s Q E) s
section
variable {X:Cx} {af:List (ab×Obj)} {σ:St} {H:Hp} {s s':aq}
theorem Inv.Qk(I:Inv X af σ H s):AI X.prog X.w X.K X.mg X.base X.A X.stack s H :=
  ⟨I.ok.frames,I.ok.mod,I.bs,bY I.ok.bsz I.sz,I.stack,I.Ct,I.hok,I.bare,I.tabs⟩
theorem Inv.after{Q:VK}{u:ag}(I:Inv X af σ H s)(h:CE X.stack X.prog X.w H s Q u s'):EP X af σ Q u s':=by
  obtain⟨v,H',os,bare,un,hok,r,q⟩:=h;obtain⟨hh,g,d,t,Ql⟩:=s';obtain rfl:Ql=s.os:=os;exact⟨v,H',I.call (h':=hh) (g':=g) (d':=d) (t':=t) (ch:=[]) un hok bare (λb z=>absurd z (by simp)),r,q⟩
end
def tu(sp:Sp)(K4:List V)(E:XK)(t:TA):TE:=λσ H Q=>t σ H λvs H1=>sp (vs++K4) H1 Q E
def eL(K:ah)(fd:dk)(ps:List Str)(ds:b6):Prop :=
  ∀(s:aq) (us:b6),K.In s.heap->(us++ds).length=ps.length->BindsTo s fd ⟨us,[]⟩ (ps.zip (us++ds))
theorem eL.all{K:ah}{fd:dk}{ps:List Str}(h:∀us:b6,us.length=ps.length->bindArgs fd ⟨us,[]⟩=pure (ps.zip us)):eL K fd ps []:=λs us _ hl=>by
  rw[fH]at hl ⊢;exact .of_eq (h us hl)
def AJ(CX:Cg)(X:Cx)(E:XK):Prop:=∀(af:List (ab×Obj)) (σ:St) (H:Hp) (s:aq) (e:ag) (s':aq),Inv X af σ H s->CX X.stack H s E e s'->X.xe e s'
section
variable {X:Cx} {CX:Cg} {k:Nat} {f C:ab} {fd:dk} {ps:List Str} {sp:Sp} {K4:List V} {ds:b6} {E:XK} {x m:Str} {p pos u0:Pos} {e o:aj} {es:List aj} {ta:TE} {t:TA}
theorem Hq{af:List (ab×Obj)}{σ:St}{H:Hp}{s:aq}{Q:VK}{us:b6}{vs:List V}(F:FnOk X.prog X.w X.K X.mg X.base CX k f fd ps sp)(hr:dR k X.A)(hb:eL X.K fd ps ds)(hd:Vals K4 ds)(hx:AJ CX X E)
    (I:Inv X af σ H s) (r:Vals vs us) (h:sp (vs++K4) H Q E):wpAny (model X.prog X.w) X.A (call (.ref f) us) (EP X af σ Q) X.xe s:=by
  have r2:Vals (vs++K4) (us++ds):=r.append hd;have hl:(us++ds).length=ps.length:=by rw[<-r2.length];exact F.len _ _ _ _ h
  refine pZ (jn (F.run X.A X.stack s H ⟨us,[]⟩ (us++ds) (vs++K4) Q E hr I.Qk (hb s us I.wQ hl) r2 h) λr s' hq=>?_)
  cases r with
  | error e=>exact hx af σ H s e s' I hq
  | ok fl =>
    cases fl with
    | ret u=>exact I.after hq
    | next=>exact False.elim hq
    | brk=>exact False.elim hq
    | cont=>exact False.elim hq
theorem kz(F:FnOk X.prog X.w X.K X.mg X.base CX k f fd ps sp)(hr:dR k X.A)(hg:Gl X x)(hm:X.mg x=some (.ref f))(hk:W.keepIn X.K (.ref f)=true)(hb:eL X.K fd ps ds)(hd:Vals K4 ds)(hx:AJ CX X E)
    (ha:PA X (e::es) t) (AK:(x==("__debug__":Str))=false:=by decide) (he:starEach (e::es) X.env=(false,eval e X.env)::starEach es X.env:=by rfl) (mf:(backTo pos (starEach es X.env)).any (·.1)=false:=by rfl) :
    PE X (.Call (.Name x p) (e::es) [] pos) (tu sp K4 E t):=by
  intro af s σ H Q I h;refine lx (ld_glob I hg hm ?_ AK);refine W.callWith_K (h₀:=X.base) I.ok.mod.kin hk (thn (ha pos af s σ H _ I h) λus s1 ⟨vs,H1,I1,r,q⟩=>⟨I1.wQ,?_⟩) he mf
  exact Hq F hr hb hd hx I1 r q
end
theorem tw{kindOf:Str->Option NameKind}{x:Str}:∀{xH:List (Str×ag)} {m:dy},(∀v,(x,v)∉xH)->bindL kindOf xH m x=m x
  | [],_,_=>rfl
  | (n,v)::r,m,h=>by
    unfold bindL;rw[tw λw hw=>h w (bE _ hw)]
    split
    · have:x≠n:=by rintro rfl;exact h v bz
      simp[this]
    · rfl
theorem tx{kindOf:Str->Option NameKind}{x:Str}:∀{xH:List (Str×ag)} {m:dy},(∀v,(x,v)∉xH)->bindC kindOf xH m x=m x
  | [],_,_=>rfl
  | (n,v)::r,m,h=>by
    unfold bindC;rw[tx λw hw=>h w (bE _ hw)]
    split
    · rfl
    · have:x≠n:=by rintro rfl;exact h v bz
      simp[this]
theorem tD{kindOf:Str->Option NameKind}{x:Str}{v:ag}:∀{P:List Str} {vs:b6} {i:Nat} {m:dy},P.Nodup->P[i]?=some x->vs[i]?=some v->kindOf x=some .local ->
    bindL kindOf (P.zip vs) m x=some v
  | [],_,_,_,_,h,_,_=>by simp at h
  | _::_,[],_,_,_,_,h,_=>by simp at h
  | p::P,w::vs,0,m,nd,h1,h2,hk=>by
    simp at h1 h2;subst h1;subst h2;show bindL kindOf ((p,w)::P.zip vs) m p=_;unfold bindL;rw[tw λv hv=>(cY.mp nd).1 (uR hv).1,if_pos hk]
    simp
  | p::P,w::vs,i+1,m,nd,h1,h2,hk=>by
    show bindL kindOf ((p,w)::P.zip vs) m x=_;unfold bindL;exact tD (i:=i) (cY.mp nd).2 (by simpa using h1) (by simpa using h2) hk
theorem tH{kindOf:Str->Option NameKind}{x:Str}{v:ag}:∀{P:List Str} {vs:b6} {i:Nat} {m:dy},P.Nodup->P[i]?=some x->vs[i]?=some v->kindOf x≠some .local ->
    bindC kindOf (P.zip vs) m x=some v
  | [],_,_,_,_,h,_,_=>by simp at h
  | _::_,[],_,_,_,_,h,_=>by simp at h
  | p::P,w::vs,0,m,nd,h1,h2,hk=>by
    simp at h1 h2;subst h1;subst h2;show bindC kindOf ((p,w)::P.zip vs) m p=_;unfold bindC;rw[tx λv hv=>(cY.mp nd).1 (uR hv).1,if_neg hk]
    simp
  | p::P,w::vs,i+1,m,nd,h1,h2,hk=>by
    show bindC kindOf ((p,w)::P.zip vs) m x=_;unfold bindC;exact tH (i:=i) (cY.mp nd).2 (by simpa using h1) (by simpa using h2) hk
def start(N:List Str)(vs:List V):St:=vs.map some++List.replicate (N.length-vs.length) none
def jH(CX:Cg)(P:bc)(w:aM)(K:ah)(mg:dy)(base:Heap)(N:List Str)(qual:Str)(scope:Scope)(f:ab)(cd:ag)(A:bD)(outer:List Env)(s:aq)(H:Hp)(E:XK):Cx where
  prog:=P
  w:=w
  K:=K
  mg:=mg
  base:=base
  A:=A.deeper (envOfC qual scope s.heap.objs.size f cd)
  N:=N
  s₀:=s
  H₀:=H
  env:=envOfC qual scope s.heap.objs.size f cd
  outer:=outer
  stack:=envOfC qual scope s.heap.objs.size f cd::outer
  ex:=[]
  calm:=true
  fn:=λ_=>true
  pn:=[]
  xe:=λe s'=>wpAny (model P w) (A.deeper (envOfC qual scope s.heap.objs.size f cd)) (leaving (envOfC qual scope s.heap.objs.size f cd) e) (λ_ Hr=>CX outer H s E e Hr) (λe' Hr=>CX outer H s E e' Hr) s'
theorem xI{sc:Scope}{n:Nat}{x:Str}(h:sc.names.lookup x=some .cell):∃c,(cellsFrom n sc.names []).lookup x=some c:=by
  have q:=W.cellsFrom_some sc.names n [] (.inl h);exact zK.mp q
theorem tJ{CX:Cg}{P:bc}{w:aM}{K:ah}{mg:dy}{base:Heap}{N ps:List Str}{qual:Str}{scope:Scope}{f:ab}{cd:ag}{A:bD}{outer:List Env}{s s1:aq}{H:Hp}{E:XK}{us:b6}{vs:List V}
    (S:dA N ps scope) (hd:A.handled=none) (e0:AI P w K mg base A outer s H) (hl:vs.length=ps.length) (r:Vals vs us)
    (x:InCallC s s.heap.objs.size (bindL (envOfC qual scope s.heap.objs.size f cd).kindOf (ps.zip us) λ_=>none) (cellsFrom (s.heap.objs.size+1) scope.names []) (bindC (envOfC qual scope s.heap.objs.size f cd).kindOf (ps.zip us) λ_=>none) s1) :
    Inv (jH CX P w K mg base N qual scope f cd A outer s H E) [] (start N vs) H s1:=by
  have mf:ps.length<=N.length:=by have:=dw List.length S.pre;rw[gR]at this;lia
  obtain⟨h1,tk,rfl,hk⟩:=x.done;have noA:∀b:ab,b∉(jH CX P w K mg base N qual scope f cd A outer s H E).ex:=λb z=>absurd (show b∈([]:List ab)from z) (by simp)
  refine⟨⟨e0.mod,S.kind,rfl,rfl,aR _,λy z c h1 h2=>?_,λy hy=>?_,λy c _ h=>?_,λ_=>hd,Around.frames_deeper e0.frames,.inr ⟨rfl,rfl⟩,λb z=>absurd z (noA b),e0.bs,e0.bsz,λb _ _=>noA b,λb z=>absurd z (noA b),e0.funs,e0.frf,e0.tabs⟩,
    rfl,e0.bare,Un.kept hk,⟨_,x.toInCall.ns,λi y v h1 h2 h3=>?_⟩,λy c h=>⟨_,x.cell y c h⟩,e0.hok.fresh (aR _),λy c h=>?_,λp hp=>absurd (show p∈([]:List (ab×Obj))from hp) (by simp),e0.hok.kept hk,?_⟩
  · exact name_of_addr x.apart (dJ h1) (dJ h2)
  · have hy:scope.names.lookup y=some .cell\/scope.names.lookup y=some .free:=hy
    rcases hy with hy | hy
    · exact xI hy
    · exact absurd rfl (S.nofree _ (dJ hy))
  · exact iH (x.above y c (dJ h))
  · have hi:i<vs.length:=by
      unfold start at h2;by_cases hi:i<vs.length
      · exact hi
      · rw[gP (by simpa using hi)]at h2
        rw[jO]at h2;split at h2<;>cases h2
    have ha:vs[i]?=some v:=by
      unfold start at h2;rw[fX (by simpa using hi),bU]at h2
      cases e:vs[i]? with
      | none=>rw[e]at h2;cases h2
      | some a=>rw[e]at h2;cases h2;rfl
    obtain⟨u,hu,rv⟩:=r.get ha;have hp:ps[i]?=some y:=by
      rw[<-S.pre,List.getElem?_take_of_lt (by lia)];exact h1
    have ndP:ps.Nodup:=by rw[<-S.pre];exact S.nd.sublist (List.take_sublist _ _)
    refine⟨u,rv,?_⟩;rcases S.par y (b9 hp)with k | k
    · exact .inl ⟨k,tD ndP hp hu k⟩
    · obtain⟨c,e⟩:=xI (n:=s.heap.objs.size+1) k
      refine .inr ⟨.inl k,c,e,?_⟩;have q:=x.cell y c e;rw[tH ndP hp hu (by show scope.names.lookup y≠_;rw[k];decide)]at q
      exact q
  · exact e0.hok.fresh (iH (x.above y c (dJ h)))
  · unfold start
    show _=N.length;rw[bX,aB,jP]
    lia
theorem N8{CX:Cg}{P:bc}{w:aM}{K:ah}{mg:dy}{base:Heap}{k:Nat}{f:ab}{name qual:Str}{params:Arguments}{body:List az}{scope:Scope}{dV kV doc pm df ct oc:ag}{an od:Option ab}
    {rP:Array lE} {N ps:List Str} {sp:Sp} (lk:K.lookup f=some ⟨oc,od,.func (W.fnOf name qual params body scope dV kV doc pm an df ct),rP⟩) (sT:W.codeIn K df qual=true) (S:dA N ps scope)
    (len:∀vs H Q E,sp vs H Q E->vs.length=ps.length)
    (hbody:∀(A:bD) (outer:List Env) (s:aq) (H:Hp) (vs:List V) (Q:VK) (E:XK),dR k (A.deeper (envOfC qual scope s.heap.objs.size f df))->sp vs H Q E ->
      ∃t,oQ (jH CX P w K mg base N qual scope f df A outer s H E) body t/\t {nx:=λ_ H'=>Q .cM H',rt:=Q} (start N vs) H) :
    FnOk P w K mg base CX (k+1) f (W.fnOf name qual params body scope dV kV doc pm an df ct) ps sp:=by
  refine⟨len,λA outer s H args us vs Q E hr e0 hb r nh=>?_⟩
  have hl:=len _ _ _ _ nh;have KX:K.In s.heap:=e0.mod.kin.keeps λb o e=>(e0.bs b o e).1
  have ZC:s.heap.NoLimit:=e0.mod.nolimit.keeps λb o e=>(e0.bs b o e).1
  have Um:∀y∈ps.zip us,scope.names.lookup y.1=some .local\/(scope.names.lookup y.1=some .cell/\((cellsFrom (s.heap.objs.size+1) scope.names []).lookup y.1).isSome=true):=by
    rintro⟨n,v⟩ hy
    rcases S.par n (uR hy).1 with q | q
    · exact .inl q
    · exact .inr ⟨q,W.cellsFrom_some _ _ _ (.inl q)⟩
  refine codeAny_call_function hr.depth (KX _ _ lk) rfl S.co S.gen rfl (W.codeRec_of KX sT) (hb _ _ _ _ ?_);refine Gz S.kind Um λenv he s1 x=>?_
  subst he;refine⟨ZC.keeps x.toInCall.keep,codeAny_func ?_⟩;obtain⟨t,ht,hq⟩:=hbody A outer s H vs Q E (hr.deeper _) nh;have I:Inv (jH CX P w K mg base N qual scope f df A outer s H E) [] (start N vs) H s1:=tJ S hr.hd e0 hl r x;refine lD (ht [] s1 (start N vs) H _ I hq) (λfl s' hs=>?_) λe s' hs=>hs
  have fin:∀{cE:St} {H':Hp} {v:V} {u:ag},Inv (jH CX P w K mg base N qual scope f df A outer s H E) [] cE H' s'->RelV v u->Q v H'->CE outer P w H s Q u s' :=
    λ{cE H' v u} J rv q=>⟨v,H',J.os,J.bare,J.base,J.hok,rv,q⟩
  cases fl with
  | ret u =>
    obtain⟨v,cE,H',J,rv,q⟩:=hs;exact fin J rv q
  | next =>
    obtain⟨cE,H',J,q⟩:=hs;exact fin (v:=V.cM) (u:=Value.none) J rfl q
  | brk =>
    obtain⟨_,_,_,q⟩:=hs;exact False.elim q
  | cont =>
    obtain⟨_,_,_,q⟩:=hs;exact False.elim q
section
variable {X:Cx} {x:Str} {p pos:Pos} {e:aj} {es:List aj} {t:TA} {id T:String} {r:List V->Hp->VK->Prop}
def ZD(r:List V->Hp->VK->Prop)(t:TA):TE:=λσ H Q=>t σ H λvs H1=>r vs H1 Q
theorem iX(hc:jZ X (.builtin id) r)(hg:Gl X x)(hm:X.mg x=none)(hv:bootBuiltins x=some (.builtin id))(ha:PA X (e::es) t)(hn:x≠"__name__":=by decide)(AK:(x==("__debug__":Str))=false:=by decide)
    (he:starEach (e::es) X.env=(false,eval e X.env)::starEach es X.env:=by rfl) (mf:(backTo pos (starEach es X.env)).any (·.1)=false:=by rfl):PE X (.Call (.Name x p) (e::es) [] pos) (ZD r t):=by
  intro af s σ H Q I h;refine lx (ld_blt I hg hm hv ?_ hn AK);exact zG (thn (ha pos af s σ H _ I h) λus s1 ⟨vs,H1,I1,r1,q1⟩=>hc af s1 σ H1 vs us Q I1 r1 q1) he mf
theorem iY(hc:jZ X (.type T) r)(hg:Gl X x)(hm:X.mg x=none)(hv:bootBuiltins x=some (.type T))(ha:PA X (e::es) t)(hn:x≠"__name__":=by decide)(AK:(x==("__debug__":Str))=false:=by decide)
    (he:starEach (e::es) X.env=(false,eval e X.env)::starEach es X.env:=by rfl) (mf:(backTo pos (starEach es X.env)).any (·.1)=false:=by rfl):PE X (.Call (.Name x p) (e::es) [] pos) (ZD r t):=by
  intro af s σ H Q I h;refine lx (ld_blt I hg hm hv ?_ hn AK);exact jL (thn (ha pos af s σ H _ I h) λus s1 ⟨vs,H1,I1,r1,q1⟩=>hc af s1 σ H1 vs us Q I1 r1 q1) he mf
end
end L2
namespace HT
open PySem PyProof.Rows
section
variable {prog:bc} {w:aM} {A:bD} {E:cf} {s:aq}
theorem Lq{t b:ab}{vs ws:b6}{Q:cf}(ht:IsTup s.heap t vs.toArray)(hb:IsTup s.heap b ws.toArray)(hv:vs≠[])
    (h1:ws=[]->Q (.ref t) s) (h2:ws≠[]->Q (.ref s.heap.objs.size) {s with heap:=s.heap.push {cls:=.type "tuple",data:=.seq (vs++ws).toArray}})
    (hsz:vs.length+ws.length<=sizeLine):wpAny (model prog w) A (binaryOp .Add (.ref t) (.ref b)) Q E s:=by
  obtain⟨⟨cls,dd,data,sl⟩,ho,hc,n,hd⟩:=id ht;obtain⟨⟨ZE,Xp,Uo,Xq⟩,Qm,Up,n2,Uq⟩:=id hb;simp only at hc hd Up Uq;subst hc hd Up Uq;have e:vs.toArray++ws.toArray=(vs++ws).toArray:=by simp
  by_cases hw:ws=[]
  · exact concat_meets ⟨_,ho,rfl⟩ ⟨_,Qm,rfl⟩ Ai seq_tuple_add zS zM (zI _ _)
      (tuple_addW1 t b vs.toArray ws.toArray n n2 dd Xp sl Xq (by simpa using hv) (by simp[hw])) ⟨ho,Qm,h1 hw⟩
  · refine concat_meets ⟨_,ho,rfl⟩ ⟨_,Qm,rfl⟩ Ai seq_tuple_add zS zM (zI _ _)
      (tuple_addW2 t b vs.toArray ws.toArray n n2 dd Xp sl Xq (by simpa using hv) (by simpa using hw) (by rw[bh,bh];exact hsz)) ⟨ho,Qm,?_⟩
    rw[e];exact h2 hw
def eu(n d:Nat):Option Int->Nat
  | none=>d
  | some v=>if v<0 then(v+(n:Int)).toNat else min v.toNat n
theorem xJ(n d:Nat):eu n d none=d:=rfl
theorem o9(n d k:Nat):eu n d (some (k:Int))=min k n:=by
  show(if(k:Int)<0 then((k:Int)+(n:Int)).toNat else min (k:Int).toNat n)=min k n
  rw[if_neg (by lia),eZ]
theorem Qn(n d:Nat)(hd:d<=n)(o:Option Int):eu n d o<=n:=by
  cases o with
  | none=>exact hd
  | some v =>
    show(if v<0 then(v+(n:Int)).toNat else min v.toNat n)<=n
    by_cases hv:v<0
    · rw[if_pos hv];lia
    · rw[if_neg hv];exact Nat.min_le_right _ _
theorem CD(v:Int)(n d:Nat):(if v<0 then max (v+(n:Int)) 0 else min v (n:Int))=((eu n d (some v):Nat):Int):=by
  show(if v<0 then max (v+(n:Int)) 0 else min v (n:Int))=(((if v<0 then(v+(n:Int)).toNat else min v.toNat n):Nat):Int)
  by_cases hv:v<0
  · simp only[if_pos hv];lia
  · simp only[if_neg hv];lia
theorem AL(lo hi:Option Int)(n:Nat):Builtin.Slice.sliceAdjust lo hi 1 (n:Int)=(((eu n 0 lo:Nat):Int),((eu n n hi:Nat):Int)):=by
  have h1:¬((1:Int)<0):=by lia
  unfold Builtin.Slice.sliceAdjust;simp only[h1,du];refine Prod.ext ?_ ?_
  · cases lo with
    | none=>rfl
    | some v=>exact CD v n 0
  · cases hi with
    | none=>rfl
    | some v=>exact CD v n n
theorem AM(i j:Nat):Builtin.Slice.slicePlaces (i:Int) (j:Int) 1=j-i:=by
  unfold Builtin.Slice.slicePlaces;have h1:(1:Int)>0:=by lia
  simp only[h1,eH,Int.ediv_one];split<;>lia
theorem qm{v:ag}{o:Option Int}{Q:Option Int->aq->Prop}(p:IsPart v o)(h:Q o s):wpAny (model prog w) A (Builtin.Slice.slicePartIndex v) Q E s:=by
  cases p with
  | none=>exact slicePart_none h
  | int i t=>exact slicePart_int h
theorem iZ{sl:ab}{vl vu:ag}{lo hi:Option Int}{n:Nat}{Q:Int×Int×Nat->aq->Prop}(hs:s.heap.IsSliceOf sl vl vu .none)(pl:IsPart vl lo)(pu:IsPart vu hi)
    (h:Q (((eu n 0 lo:Nat):Int),1,eu n n hi-eu n 0 lo) s):wpAny (model prog w) A (Builtin.Slice.sliceApplied (.ref sl) (pure (n:Int))) Q E s:=by
  obtain⟨os,Qo,hcs,Ur⟩:=id hs;unfold Builtin.Slice.sliceApplied Builtin.Slice.sliceFields;refine ai (ai (jV Qo Ur (x:=vl) rfl (ai (jV Qo Ur (x:=vu) rfl (ai (jV Qo Ur (x:=.none) rfl (aw ?_)))))));refine ai (slicePart_none ?_);show wpAny _ _ (if((1:Int)==0)=true then _ else _) _ _ s
  rw[if_neg (by decide)]
  refine ai (qm pl (ai (qm pu (ai (aw ?_)))));show wpAny _ _ (match Builtin.Slice.sliceAdjust lo hi 1 (n:Int)with | (lo,hi)=>pure (lo,(1:Int),Builtin.Slice.slicePlaces lo hi 1)) _ _ s
  rw[AL lo hi n];show wpAny _ _ (pure (((eu n 0 lo:Nat):Int),(1:Int),Builtin.Slice.slicePlaces ((eu n 0 lo:Nat):Int) ((eu n n hi:Nat):Int) 1)) _ _ s;rw[AM];exact aw h
theorem Hs(xs:Array ag)(i k:Nat):((List.range k).filterMap fun(m:Nat)=>xs[((i:Int)+(m:Int)*1).toNat]?).toArray=((xs.toList.drop i).take k).toArray:=by
  have e:(fun(m:Nat)=>xs[((i:Int)+(m:Int)*1).toNat]?)=λm=>xs[i+m]?:=by
    funext m
    have:((i:Int)+(m:Int)*1).toNat=i+m:=by lia
    rw[this]
  rw[e];have:=pick_run xs i k;rw[List.filterMap_map]at this;have e2:((λx=>xs[x]?) ∘ λx=>i+x)=λm=>xs[i+m]?:=rfl
  rw[e2]at this;rw[this]
theorem mh{t sl:ab}{items:Array ag}{vl vu:ag}{lo hi:Option Int}{Q:cf}(ht:IsTup s.heap t items)(hs:s.heap.IsSliceOf sl vl vu .none)(pl:IsPart vl lo)(pu:IsPart vu hi)
    (hw:¬(eu items.size 0 lo=0/\eu items.size items.size hi=items.size))
    (h:Q (.ref s.heap.objs.size) {s with heap:=s.heap.push {cls:=.type "tuple",data:=.seq ((items.toList.drop (eu items.size 0 lo)).take (eu items.size items.size hi-eu items.size 0 lo)).toArray}})
    (hsz:items.size<=sizeLine):wpAny (model prog w) A (getItem (.ref t) (.ref sl)) Q E s:=by
  have CG:sizeOk (.seq ((items.toList.drop (eu items.size 0 lo)).take (eu items.size items.size hi-eu items.size 0 lo)).toArray):=by
    show((items.toList.drop (eu items.size 0 lo)).take (eu items.size items.size hi-eu items.size 0 lo)).toArray.size<=sizeLine;rw[bh,gR,lA,eY]
    lia
  have hj:eu items.size items.size hi<=items.size:=Qn _ _ (aR _) hi;obtain⟨os,Qo,hcs,Ur⟩:=id hs;have hTs:s.TypeIs (.ref sl) "slice":=⟨os,Qo,hcs⟩;unfold getItem
  try with_reducible refine f7 ?_
  first | refine ai (aw ?_) | skip
  refine ai (wpAny_sequenceKey ht.typeIs (by decide) ?_)
  refine ai (jN (name:=Str.ofString "__getitem__") ht.typeIs nq
    (iG nq ht.typeIs entry_tuple_getitem ?_ (args_tuple_getitem _ _)))
  show wpAny _ _ (Builtin.Tuple.tupleItemsOf (.ref t) >>= _) _ _ s;refine ai (tupleItemsOf_ ht ?_);refine ai (pW hTs ?_);rw[if_pos (by decide)]
  refine ai (iZ hs pl pu ?_);have Qp:¬((((eu items.size 0 lo:Nat):Int)==0&&(1:Int)==1&&(eu items.size items.size hi-eu items.size 0 lo)==items.size)=true):=by
    intro q;rw[aG,aG]at q;have q1:((eu items.size 0 lo:Nat):Int)=0:=bq q.1.1;have q2:eu items.size items.size hi-eu items.size 0 lo=items.size:=bq q.2;exact hw ⟨by lia,by lia⟩
  show wpAny _ _ (if(((eu items.size 0 lo:Nat):Int)==0&&(1:Int)==1&&(eu items.size items.size hi-eu items.size 0 lo)==items.size)=true then _ else _) _ _ s
  rw[if_neg Qp,Hs]
  first
    | exact ai (m:=Builtin.Tuple.tupleExact _) (iD (aw ⟨_,rfl,aw h⟩) CG)
    | exact ai (m:=Builtin.Tuple.tupleExact _) (iD (ai (aw (aw ⟨_,rfl,aw h⟩))) CG)
    | exact ai (ai (m:=Builtin.Tuple.tupleExact _) (iD (aw (aw ⟨_,rfl,aw h⟩)) CG))
    | exact ai (ai (m:=Builtin.Tuple.tupleExact _) (iD (aw ⟨_,rfl,aw h⟩) CG))
end
end HT
namespace L2
open PySem PySem.Spec PyProof.Rows
abbrev TO:=St->Hp->(Option Int->Hp->Prop)->Prop
def PO(X:Cx)(e:Option aj)(t:TO):Prop :=
  ∀(af:List (ab×Obj)) (s:aq) (σ:St) (H:Hp) (Q:Option Int->Hp->Prop),Inv X af σ H s->t σ H Q ->
    wpAny (model X.prog X.w) X.A (evalPart e X.env) (λu s'=>∃o H',Inv X af σ H' s'/\IsPart u o/\Q o H') X.xe s
def Lr:TO:=λ_ H Q=>Q none H
def Us(t:TE):TO:=λσ H Q=>t σ H λx H1=>∃i,x=.int i/\Q (some i) H1
theorem lG{ns:List Int}:∀{us:b6},Vals (ns.map V.int) us->IntsAre us ns:=by
  induction ns with
  | nil=>intro us r;rw[pX]at r;cases r;exact .nil
  | cons n ns ih =>
    intro us r;rw[bJ]at r;cases r with
    | cons r1 r2 =>
      obtain⟨t,e⟩:=r1;subst e;exact .cons n t (ih r2)
section
variable {X:Cx} {e:aj} {te:TE} {lo hi:Option aj} {tl th:TO} {pos p2:Pos}
theorem Ls:PO X none Lr:=by
  intro af s σ H Q I h;rw[evalPart_none];exact aw ⟨none,H,I,.none,h⟩
theorem Lu(h:PE X e te):PO X (some e) (Us te):=by
  intro af s σ H Q I hw;rw[evalPart_some];refine thn (h af s σ H _ I hw) λu s1 ⟨x,H1,I1,r1,q1⟩=>?_
  obtain⟨i,rfl,q⟩:=q1;obtain⟨t,rfl⟩:=r1;exact⟨some i,H1,I1,.int i t,q⟩
def Xr(X:Cx)(r:V->Option Int->Option Int->Hp->VK->Prop):Prop :=
  ∀(af:List (ab×Obj)) (s:aq) (σ:St) (H:Hp) (x:V) (v vl vu:ag) (lo hi:Option Int) (sl:ab) (Q:VK),Inv X af σ H s->RelV x v->s.heap.IsSliceOf sl vl vu .none->IsPart vl lo->IsPart vu hi->r x lo hi H Q ->
    ∃T id,typeLookup (.type T) "__getitem__"=pure (some (.builtin id))/\s.TypeIs v T/\wpAny (model X.prog X.w) X.A (getItem v (.ref sl)) (EP X af σ Q) X.xe s
def tSl(r:V->Option Int->Option Int->Hp->VK->Prop)(te:TE)(tl th:TO):TE:=λσ H Q=>te σ H λx H1=>tl σ H1 λl H2=>th σ H2 λu H3=>r x l u H3 Q
theorem xK{r:V->Option Int->Option Int->Hp->VK->Prop}(hr:Xr X r)(he:PE X e te)(hl:PO X lo tl)(hu:PO X hi th):PE X (.Subscript e (.Slice lo hi none p2) pos) (tSl r te tl th):=by
  intro af s σ H Q I h;refine Subscript_ (thn (he af s σ H _ I h) λv s1 ⟨x,H1,I1,r1,q1⟩=>?_)
  refine wpAny_Slice (thn (hl af s1 σ H1 _ I1 q1) λvl s2 ⟨l,H2,I2,pl,q2⟩=>thn (hu af s2 σ H2 _ I2 q2) λvu s3 ⟨u,H3,I3,pu,q3⟩=>?_)
  rw[evalPart_none];refine aw ?_;have I4:Inv X af σ H3 {s3 with heap:=s3.heap.push {cls:=.type "slice",data:=.fields #[vl,vu,.none]}}:=I3.kept (t':=s3.toks) λb ob q=>bR _ q
  obtain⟨T,id,hT,ht,hg⟩:=hr af {s3 with heap:=s3.heap.push {cls:=.type "slice",data:=.fields #[vl,vu,.none]}} σ H3 x v vl vu l u s3.heap.objs.size Q I4 r1 (Heap.IsSliceOf.new ..) pl pu q3
  show wpAny (model X.prog X.w) X.A (subscriptTail e (.Slice lo hi none p2) v (.ref s3.heap.objs.size)) (EP X af σ Q) X.xe {s3 with heap:=s3.heap.push {cls:=.type "slice",data:=.fields #[vl,vu,.none]}}
  exact tail_any (ops:=[.ref s3.heap.objs.size,v]) ht hT hg (by with_unfolding_all rfl)
def rW(xs:List V)(lo hi:Option Int):List V:=(xs.drop (HT.eu xs.length 0 lo)).take (HT.eu xs.length xs.length hi-HT.eu xs.length 0 lo)
theorem oz(xs:List V)(lo hi:Option Int):(rW xs lo hi).length<=xs.length:=by
  unfold rW;rw[gR,lA]
  lia
def ZF(K:ah):V->Option Int->Option Int->Hp->VK->Prop:=λx lo hi H Q=>∃a xs,x=.ref a/\gI K H a xs /\
  ¬(HT.eu xs.length 0 lo=0/\HT.eu xs.length xs.length hi=xs.length)/\∀p,H p=none->Q (.ref p) (upd H p (.aJ (rW xs lo hi)))
theorem Qq:Xr X (ZF X.K):=by
  intro af s σ H x v vl vu lo hi sl Q I rx hs pl pu h;obtain⟨a,xs,rfl,hx,hw,q⟩:=h;cases rx;obtain⟨aN,r,ht,hz⟩:=I.tuple hx;have cC:aN.toArray.size=xs.length:=by rw[bh];exact r.length.symm
  refine⟨"tuple",_,nq.lookup,ht.typeIs,?_⟩;refine HT.mh ht hs pl pu (by rw[cC];exact hw) ?_ (by rw[cC];exact hz)
  rw[cC];refine⟨.ref s.heap.objs.size,_,I.laid (t':=s.toks) (o:=.aJ (rW xs lo hi)) (λb ob q=>bR _ q) (aR _) ?_,rfl,q _ (I.hok.fresh (aR _))⟩
  exact⟨bY (oz xs lo hi) hz,_,(r.drop (HT.eu xs.length 0 lo)).take (HT.eu xs.length xs.length hi-HT.eu xs.length 0 lo),IsTup.new _ _⟩
def Ut(K:ah):R2:=λx y H Q=>∃a b xs ys,x=.ref a/\y=.ref b/\gI K H a xs/\gI K H b ys/\xs≠[]/\xs.length+ys.length<=sizeLine /\
  (ys=[]->Q (.ref a) H)/\(ys≠[]->∀p,H p=none->Q (.ref p) (upd H p (.aJ (xs++ys))))
theorem Vals.vj{xs:List V}{us:b6}(r:Vals xs us):us=[]↔xs=[]:=by
  cases r with
  | nil=>simp
  | cons _ _=>simp
theorem Lv:OpR X (binaryOp .Add) (Ut X.K):=by
  intro af s σ H x y v u Q I rx ry h;obtain⟨a,b,xs,ys,rfl,rfl,ha,hb,hx,hz,q1,q2⟩:=h;cases rx;cases ry;obtain⟨aN,r1,p1,_⟩:=I.tuple ha;obtain⟨ie,r2,p2,_⟩:=I.tuple hb;refine HT.Lq p1 p2 (λz=>hx (r1.vj.mp z)) (λz=>⟨.ref a,H,I,rfl,q1 (r2.vj.mp z)⟩) (λz=>?_) (by rw[<-r1.length,<-r2.length];exact hz)
  refine⟨.ref s.heap.objs.size,_,I.laid (t':=s.toks) (o:=.aJ (xs++ys)) (λb ob q=>bR _ q) (aR _) ?_,rfl,q2 (λw=>z (r2.vj.mpr w)) _ (I.hok.fresh (aR _))⟩
  exact⟨by rw[bX];exact hz,_,r1.append r2,IsTup.new _ _⟩
end
def Ht(n:Nat)(i:Int):Option Nat:=if 0<=i then(if i<n then some i.toNat else none)else if -(n:Int)<=i then some (i+n).toNat else none
def atI{α:Type}(xs:List α)(i:Int):Option α:=(Ht xs.length i).bind λj=>xs[j]?
theorem Lw{n:Nat}{i:Int}{j:Nat}(h:Ht n i=some j):seqIndex? i n=some j/\j<n /\ -(n:Int)<=i/\i<n:=by
  unfold Ht at h;by_cases h0:0<=i
  · rw[if_pos h0]at h
    by_cases h1:i<n
    · rw[if_pos h1]at h
      have e:i.toNat=j:=bg h;exact⟨by rw[seqIndex_of h0 h1,e],by lia,by lia,h1⟩
    · rw[if_neg h1]at h;cases h
  · rw[if_neg h0]at h
    by_cases h1:-(n:Int)<=i
    · rw[if_pos h1]at h
      have e:(i+n).toNat=j:=bg h;exact⟨by rw[seqIndex_neg (by lia) h1,e],by lia,h1,by lia⟩
    · rw[if_neg h1]at h;cases h
theorem vk{α:Type}{xs:List α}{i:Int}{v:α}(h:atI xs i=some v):∃j,seqIndex? i xs.length=some j/\xs[j]?=some v/\j<xs.length /\ -(xs.length:Int)<=i/\i<xs.length:=by
  unfold atI at h;cases e:Ht xs.length i with
  | none=>rw[e]at h;cases h
  | some j =>
    rw[e]at h;obtain⟨h1,h2,h3,h4⟩:=Lw e;exact⟨j,h1,h,h2,h3,h4⟩
theorem cJ{α:Type}{xs:List α}{j:Nat}{v:α}(h:xs[j]?=some v):atI xs (j:Int)=some v:=by
  have hj:j<xs.length:=(cL.mp h).1;have e:Ht xs.length (j:Int)=some j:=by
    unfold Ht;rw[if_pos (by lia),if_pos (by lia)];simp
  unfold atI;rw[e];exact h
def kA(b:aj):Prop:=∀o i,subscripted b false o i=operate [o,i] (getItem o i)
def N9(X:Cx)(r:R2):Prop :=
  ∀(value slice:aj) (af:List (ab×Obj)) (s:aq) (σ:St) (H:Hp) (x y:V) (v u:ag) (Q:VK),Inv X af σ H s->RelV x v->RelV y u->r x y H Q ->
    subscripted slice false v u=operate [v,u] (getItem v u)->wpAny (model X.prog X.w) X.A (subscriptTail value slice v u) (EP X af σ Q) X.xe s
def ZG(X:Cx)(id:String)(r:V->List V->Hp->VK->Prop):Prop :=
  ∀(af:List (ab×Obj)) (s:aq) (σ:St) (H:Hp) (x:V) (xs:List V) (v:ag) (us:b6) (Q:VK),Inv X af σ H s->RelV x v->Vals xs us->r x xs H Q ->
    wpAny (model X.prog X.w) X.A (call (.builtin id) (v::us)) (EP X af σ Q) X.xe s
section
variable {X:Cx} {a b:aj} {ta tb:TE} {pos:Pos}
theorem xM{r:R2}(hr:N9 X r)(ha:PE X a ta)(hb:PE X b tb)(hs:kA b):PE X (.Subscript a b pos) (Tb r ta tb):=by
  intro af s σ H Q I h;exact Subscript_ (Qa ha hb I h λv u s2 x y H2 I2 rx ry q=>hr a b af s2 σ H2 x y v u Q I2 rx ry q (hs _ _))
def ZH(K:ah):R2:=λx y H Q=>∃p xs i v,x=.ref p/\y=.int i/\kQ K H p xs/\atI xs i=some v/\Q v H
def ZI(K:ah):R2:=λx y H Q=>∃p xs i v,x=.ref p/\y=.int i/\gI K H p xs/\atI xs i=some v/\Q v H
def ZJ:R2:=λx y H Q=>∃z i c,x=.str z/\y=.int i/\z.length<=sizeLine/\atI z.cps.toList i=some c/\Q (.str ⟨#[c]⟩) H
theorem vm:N9 X (ZH X.K):=by
  intro value slice af s σ H x y v u Q I rx ry h hs;obtain⟨p,xs,i,z,rfl,rfl,hq,he,q⟩:=h;cases rx;obtain⟨t,rfl⟩:=ry;obtain⟨aN,r,pl,hz⟩:=I.list hq;obtain⟨j,h1,h2,h3,h4,h5⟩:=vk he;obtain⟨w,ew,Qr⟩:=r.get h2;have hl:=r.length;have hn:=nL;have fin:EP X af σ Q w s:=⟨z,H,I,Qr,q⟩;by_cases h0:0<=i
  · have hj:i.toNat=j:=by
      rw[seqIndex_of h0 h5]at h1;exact bg h1
    exact item_listR pl.isList h0 (by lia) (by rw[hj];simpa using ew) fin hs
  · have hj:(i+(aN.toArray.size:Int)).toNat=j:=by
      rw[seqIndex_neg (by lia) h4]at h1
      rw[bh,<-hl];exact bg h1
    exact subscriptTail_builtinR (x:=w) pl.isList.typeIs slot_list_getitem.lookup
      (wpAny_getItem_list_neg (Q:=λr s'=>r=w/\EP X af σ Q r s') pl.isList (by lia) (by rw[bh]<;>lia) (by lia) (by rw[hj];simpa using ew) ⟨rfl,fin⟩) hs
theorem Qs:N9 X (ZI X.K):=by
  intro value slice af s σ H x y v u Q I rx ry h hs;obtain⟨p,xs,i,z,rfl,rfl,hq,he,q⟩:=h;cases rx;obtain⟨t,rfl⟩:=ry;obtain⟨aN,r,pl,hz⟩:=I.tuple hq;obtain⟨j,h1,h2,h3,h4,h5⟩:=vk he;obtain⟨w,ew,Qr⟩:=r.get h2;have hl:=r.length;have hn:=nL;have fin:EP X af σ Q w s:=⟨z,H,I,Qr,q⟩;exact subscriptTail_builtinR (x:=w) pl.typeIs slot_tuple_getitem.lookup
    (getItem_tuple (j:=j) (Q:=λr s'=>r=w/\EP X af σ Q r s') pl (by lia) (by lia) (by rw[bh,<-hl];exact h1) (by simpa using ew) ⟨rfl,fin⟩) hs
theorem Qt:N9 X ZJ:=by
  intro value slice af s σ H x y v u Q I rx ry h hs;obtain⟨z,i,c,rfl,rfl,hz,he,q⟩:=h;obtain⟨t,rfl⟩:=rx;obtain⟨t',rfl⟩:=ry;obtain⟨j,h1,h2,h3,h4,h5⟩:=vk he;have hl:z.cps.toList.length=z.length:=by simp[Str.length]
  rw[hl]at h1 h4 h5;have hn:=nL;exact tail_any (typeIs_str s z t) slot_str_getitem.lookup (getItem_str (c:=c) (by
    have e1:decide (i < -(2^63:Int))=false:=e9 (by lia)
    have e2:decide (i>=2^63)=false:=e9 (by lia)
    rw[e1,e2,Bool.or_false]) (by rw[h1];simpa using h2) ⟨.str ⟨#[c]⟩,H,I.tok _,⟨_,rfl⟩,q⟩) hs
theorem vn(lo hi:Option Int)(n:Nat):(sliceBounds lo hi none n).1=((HT.eu n 0 lo:Nat):Int)/\(sliceBounds lo hi none n).2.1=((HT.eu n n hi:Nat):Int)/\(sliceBounds lo hi none n).2.2=1:=by
  refine⟨?_,?_,rfl⟩
  · cases lo with
    | none=>simp[sliceBounds,HT.eu]
    | some i =>
      simp only[sliceBounds,HT.eu,Ad,show(1:Int)>0 by decide,eH]
      by_cases h:i<0
      · simp only[h,eH]<;>lia
      · simp only[h,du]<;>lia
  · cases hi with
    | none=>simp[sliceBounds,HT.eu]
    | some i =>
      simp only[sliceBounds,HT.eu,Ad,show(1:Int)>0 by decide,eH]
      by_cases h:i<0
      · simp only[h,eH]<;>lia
      · simp only[h,du]<;>lia
theorem rX(aN:b6)(lo hi:Option Int):slicePick aN.toArray lo hi none=((aN.drop (HT.eu aN.length 0 lo)).take (HT.eu aN.length aN.length hi-HT.eu aN.length 0 lo)).toArray:=by
  obtain⟨h1,h2,h3⟩:=vn lo hi aN.toArray.size;unfold slicePick;rw[h1,h2,h3];simp only[sliceRange_one,pick_run,bh]<;>rfl
def ZK(K:ah):V->Option Int->Option Int->Hp->VK->Prop:=λx lo hi H Q=>∃a xs,x=.ref a/\kQ K H a xs/\∀p,H p=none->Q (.ref p) (upd H p (.ay (rW xs lo hi)))
theorem CH:Xr X (ZK X.K):=by
  intro af s σ H x v vl vu lo hi sl Q I rx hs pl pu h;obtain⟨a,xs,rfl,hx,q⟩:=h;cases rx;obtain⟨aN,r,ht,hz⟩:=I.list hx;have cC:=r.length;refine⟨"list",_,slot_list_getitem.lookup,ht.isList.typeIs,?_⟩;refine wpAny_getItem_list_slice ht.isList hs pl pu .none (by simp) ?_ (by rw[bh]<;>lia)
  rw[rX,<-cC];refine⟨.ref s.heap.objs.size,_,I.laid (t':=s.toks) (o:=.ay (rW xs lo hi)) (λb ob q=>bR _ q) (aR _) ?_,rfl,q _ (I.hok.fresh (aR _))⟩
  exact⟨bY (oz xs lo hi) hz,_,0,(r.drop (HT.eu xs.length 0 lo)).take (HT.eu xs.length xs.length hi-HT.eu xs.length 0 lo),dj _ rfl⟩
theorem jq:jZ X (.builtin "len") (λxs H Q=>∃p ys,xs=[.ref p]/\(kQ X.K H p ys\/gI X.K H p ys)/\Q (.int ys.length) H):=by
  intro af s σ H xs us Q I r h;obtain⟨p,ys,rfl,hq,q⟩:=h;obtain⟨u,rfl,rx⟩:=iW r;cases rx;have hn:=nL;rcases hq with hq | hq
  · obtain⟨aN,r',pl,hz⟩:=I.list hq
    have cC:=r'.length;exact Calls.call_len_list pl.isList (by simp only[bh]<;>lia) ⟨.int ys.length,H,I.tok _,⟨s.toks+1,by rw[bh,cC]⟩,q⟩
  · obtain⟨aN,r',pl,hz⟩:=I.tuple hq
    have cC:=r'.length;exact len_tuple pl (by simp only[bh]<;>lia) ⟨.int ys.length,H,I.tok _,⟨s.toks+1,by rw[bh,cC]⟩,q⟩
theorem vo:jZ X (.builtin "len") (λxs H Q=>∃z,xs=[.str z]/\z.length<=sizeLine/\Q (.int z.length) H):=by
  intro af s σ H xs us Q I r h;obtain⟨z,rfl,hz,q⟩:=h;obtain⟨u,rfl,t,rfl⟩:=iW r;have hn:=nL;exact len_str (by lia) ⟨.int z.length,H,I.tok _,⟨_,rfl⟩,q⟩
theorem jr:jZ X (.type "list") (λxs H Q=>∃p ys,xs=[.ref p]/\(kQ X.K H p ys\/gI X.K H p ys)/\∀l,H l=none->Q (.ref l) (upd H l (.ay ys))):=by
  intro af s σ H xs us Q I r h;obtain⟨p,ys,rfl,hq,q⟩:=h;obtain⟨u,rfl,rx⟩:=iW r;cases rx;have fin:∀(aN:b6),Vals ys aN->ys.length<=sizeLine->∀(h':Heap) (c':Nat),(∀b o',s.heap.get? b=some o'->h'.get? b=some o') ->
      h'.get? s.heap.objs.size=some {cls:=.type "list",dict:=none,data:=.seq aN.toArray c',slots:=#[]}->EP X af σ Q (.ref s.heap.objs.size) {s with heap:=h'}:=λaN r' hz h' c' kp e =>
    ⟨.ref s.heap.objs.size,_,I.laid (t':=s.toks) kp (aR _) (show dE X.prog X.w _ h' _ (.ay ys)from⟨hz,aN,c',r',e⟩),rfl,q _ (I.hok.fresh (aR _))⟩
  rcases hq with hq | hq
  · obtain⟨aN,r',pl,hz⟩:=I.list hq
    have cC:=r'.length;obtain⟨o,ho,hc,n,hd⟩:=pl.isList;exact call_list_seq p (.inl rfl) ho hc hd (λh' c' kp e=>fin aN r' hz h' c' kp e) (by simp only[bh]<;>lia)
  · obtain⟨aN,r',pl,hz⟩:=I.tuple hq
    have cC:=r'.length;obtain⟨o,ho,hc,n,hd⟩:=pl;exact call_list_seq p (.inr rfl) ho hc hd (λh' c' kp e=>fin aN r' hz h' c' kp e) (by simp only[bh]<;>lia)
theorem la:jZ X (.type "tuple") (λxs H Q=>∃p ys,xs=[.ref p]/\((kQ X.K H p ys/\∀l,H l=none->Q (.ref l) (upd H l (.aJ ys)))\/(gI X.K H p ys/\Q (.ref p) H))):=by
  intro af s σ H xs us Q I r h;obtain⟨p,ys,rfl,h⟩:=h;obtain⟨u,rfl,rx⟩:=iW r;cases rx;rcases h with⟨hq,q⟩ | ⟨hq,q⟩
  · obtain⟨aN,r',pl,hz⟩:=I.list hq
    have cC:=r'.length;refine call_tuple_list pl.isList (λh' kp=>?_) (by simp only[bh]<;>lia)
    have I1:Inv X af σ H {s with heap:=h'}:=I.kept (t':=s.toks) kp
    have I2:Inv X af σ (upd H h'.objs.size (.aJ ys)) {s with heap:=h'.push {cls:=.type "tuple",data:=.seq aN.toArray}} :=
      I1.laid (t':=s.toks) (λb o e=>bR _ e) (aR _) (show dE X.prog X.w _ _ _ (.aJ ys)from⟨hz,aN,r',IsTup.new _ _⟩)
    exact⟨.ref h'.objs.size,_,I2,rfl,q _ (I1.hok.fresh (aR _))⟩
  · obtain⟨aN,r',pl,hz⟩:=I.tuple hq
    exact call_tuple_same pl ⟨.ref p,H,I,rfl,q⟩
def tyV(K:ah)(T:String)(x:V)(H:Hp):Prop:=match x with
  | .str _=>T="str"
  | .int _=>T="int"
  | .ref p=>(T="list"/\∃xs,kQ K H p xs)\/(T="tuple"/\∃o,K.lookup p=some o/\o.cls=.type "tuple"/\o.dict=none) \/
      (T="dict"/\((∃kvs,H p=some (.dK kvs))\/∃kvs,H p=some (.dT kvs)))\/(T="set"/\∃S n,H p=some (.set S n))
  | _=>False
theorem AN{af:List (ab×Obj)}{σ:St}{H:Hp}{s:aq}{T:String}{x:V}{v:ag}(I:Inv X af σ H s)(r:RelV x v)(ty:tyV X.K T x H) :
    s.TypeIs v T/\∀a,v=.ref a->∃ob,s.heap.get? a=some ob/\ob.dict=none:=by
  cases x with
  | str z =>
    obtain⟨t,rfl⟩:=r;cases(show T="str" from ty)
    exact⟨typeIs_str s z t,λ_ e=>nomatch e⟩
  | int i =>
    obtain⟨t,rfl⟩:=r;cases(show T="int" from ty)
    exact⟨typeIs_int s i t,λ_ e=>nomatch e⟩
  | ref p =>
    cases r;rcases ty with⟨rfl,xs,hq⟩ | ⟨rfl,o,hk,hc,hd⟩ | ⟨rfl,hk⟩ | ⟨rfl,S,n,hk⟩
    · obtain⟨aN,_,pl,_⟩:=I.list hq
      refine⟨pl.isList.typeIs,λa e=>?_⟩
      cases e;obtain⟨o,n,e,c,hd,_⟩:=pl;exact⟨o,e,hd⟩
    · refine⟨⟨o,I.wQ p o hk,hc⟩,λa e=>?_⟩
      cases e;exact⟨o,I.wQ _ o hk,hd⟩
    · have z:∃o,s.heap.get? p=some o/\o.ExactDict:=by
        rcases hk with⟨kvs,hk⟩ | ⟨kvs,hk⟩
        · obtain⟨_,_,_,_,o,_,_,e,ex,_⟩:=I.hok p _ hk
          exact⟨o,e,ex⟩
        · obtain⟨_,_,o,_,_,e,ex,_⟩:=(show dE X.prog X.w H s.heap p (.dT kvs)from I.hok p _ hk)
          exact⟨o,e,ex⟩
      obtain⟨o,e,ex⟩:=z;refine⟨⟨o,e,ex.1⟩,λa e2=>?_⟩
      cases e2;exact⟨o,e,ex.2.1⟩
    · obtain⟨o,_,_,_,e,ex,_⟩:=I.hok p _ hk
      refine⟨⟨o,e,ex.1⟩,λa e2=>?_⟩
      cases e2;exact⟨o,e,ex.2.1⟩
  | _=>exact False.elim ty
def Uu(K:ah)(T:String)(r:V->List V->Hp->VK->Prop)(to:TE):TE:=λσ H Q=>to σ H λx H1=>tyV K T x H1/\r x [] H1 Q
def ZL(K:ah)(T:String)(r:V->List V->Hp->VK->Prop)(to:TE)(t:TA):TE:=λσ H Q=>to σ H λx H1=>tyV K T x H1/\t σ H1 λxs H2=>r x xs H2 Q
variable {o e:aj} {es:List aj} {to:TE} {t:TA} {name:Str} {u0 j1:Pos} {T id:String} {r:V->List V->Hp->VK->Prop}
theorem Qu(pa:PlainAttrs T)(slot:Slot T name id)(ZM:typeOf (.builtin id)=pure (.type "method_descriptor"))(hm:ZG X id r)(ho:PE X o to)
    (xN:attributeBase o name X.env (eval o X.env)=eval o X.env:=by rfl) (xO:(u0.endLine==j1.line)=true:=by rfl):PE X (.Call (.Attribute o name u0) [] [] j1) (Uu X.K T r to):=by
  intro af s σ H Q I h;refine wpAny_Call_method0_late xN xO (thn (ho af s σ H _ I h) λv s1 ⟨x,H1,I1,r1,ty,q1⟩=>?_)
  obtain⟨h1,h2⟩:=AN I1 r1 ty;exact⟨T,id,pa,slot,ZM,h1,h2,zQ rfl (PySem.evalArgs_none (hm af s1 σ H1 x [] v [] Q I1 r1 .nil q1))⟩
theorem xP(pa:PlainAttrs T)(slot:Slot T name id)(ZM:typeOf (.builtin id)=pure (.type "method_descriptor"))(hm:ZG X id r)(ho:PE X o to)(ha:PA X (e::es) t)
    (xN:attributeBase o name X.env (eval o X.env)=eval o X.env:=by rfl)
    (Qv:((backTo j1 (starEach (e::es) X.env)).all (λx=>!x.1)&&(backToKw j1 (keywordEach [] X.env)).all (λx=>x.1.isSome)
      && decide ((e::es).length+([]:List Keyword).length+(if([]:List Keyword).isEmpty then 0 else 1)<30))=true:=by rfl)
    (xO:(u0.endLine==j1.line)=true:=by rfl) (hs:starEach (e::es) X.env=(false,eval e X.env)::starEach es X.env:=by rfl) (AO:(backTo j1 (starEach es X.env)).any (·.1)=false:=by rfl) :
    PE X (.Call (.Attribute o name u0) (e::es) [] j1) (ZL X.K T r to t):=by
  intro af s σ H Q I h;refine wpAny_Call_method_late xN Qv xO rfl (thn (ho af s σ H _ I h) λv s1 ⟨x,H1,I1,r1,ty,q1⟩=>?_)
  obtain⟨h1,h2⟩:=AN I1 r1 ty;refine⟨T,id,pa,slot,ZM,h1,h2,?_⟩;have hA:=ha j1 af s1 σ H1 _ I1 q1;rw[hs]at hA ⊢;refine zQ (by show(false || (backTo j1 (starEach es X.env)).any (·.1))=false;rw[AO]<;>rfl) (Calls.evalArgs_plain ?_)
  exact thn hA λus s2 ⟨vs,H2,I2,r2,q2⟩=>hm af s2 σ H2 x vs v us Q I2 r1 r2 q2
end
def Uv(X:Cx)(id:String)(r:V->List V->Hp->VK->Prop):Prop :=
  ∀(af:List (ab×Obj)) (s:aq) (σ:St) (H:Hp) (x:V) (xs:List V) (v:ag) (us:b6) (Q:VK),Inv X af σ H s->RelV x v->Vals xs us->r x xs H Q ->
    wpAny (model X.prog X.w) X.A (call (.builtin id) (v::us)) (EP X af σ Q) X.xe s
theorem Vals.one:∀{x:V} {us:b6},Vals [x] us->∃u,us=[u]/\RelV x u
  | _,_,.cons r .nil=>⟨_,rfl,r⟩
theorem Vals.two:∀{x y:V} {us:b6},Vals [x,y] us->∃u v,us=[u,v]/\RelV x u/\RelV y v
  | _,_,_,.cons r (.cons q .nil)=>⟨_,_,rfl,r,q⟩
theorem Vals.zero:∀{us:b6},Vals [] us->us=[]
  | _,.nil=>rfl
theorem Vals.reverse{xs:List V}{us:b6}(h:Vals xs us):Vals xs.reverse us.reverse:=by
  induction h with
  | nil=>exact .nil
  | cons r t ih=>rw[uM,uM];exact Vals.append ih (.cons r .nil)
section
variable {X:Cx} {af:List (ab×Obj)} {σ:St} {H:Hp} {s:aq} {l b:ab} {xs ys zs:List V}
theorem Inv.Lx{aN its':b6}{n:Nat}{f:Array ag->Array ag}{t':Nat}(I:Inv X af σ H s)(hH:H l=some (.ay xs))
    (e:s.heap.get? l=some {cls:=.type "list",data:=.seq aN.toArray n}) (hf:f aN.toArray=its'.toArray) (hv:Vals ys its') (hz:ys.length<=sizeLine) :
    Inv X af σ (upd H l (.ay ys)) {s with heap:=s.heap.update l (Obj.mapSeq f),toks:=t'}:=by
  have q:=PySem.IsL.update e f;rw[hf]at q;refine I.write (x:=l) (e:=l) (by rw[hH];exact trivial) (.inl rfl) (λb' u hb hu=>(zO s.heap (Obj.mapSeq f) (dN hb)).trans hu) ⟨_,q⟩ ?_
  exact⟨hz,its',_,hv,q⟩
theorem Inv.Uw{aN:b6}{t':Nat}(I:Inv X af σ H s)(hv:Vals ys aN)(hz:ys.length<=sizeLine) :
    Inv X af σ (upd H s.heap.objs.size (.ay ys)) {s with heap:=s.heap.push {cls:=.type "list",data:=.seq aN.toArray},toks:=t'} :=
  I.laid (λ_ _ q=>bR _ q) (aR _) ⟨hz,aN,0,hv,dj _ rfl⟩
theorem Inv.fresh(I:Inv X af σ H s):H s.heap.objs.size=none:=I.hok.fresh (aR _)
theorem Inv.Ly(I:Inv X af σ H s)(hH:H l=some (.ay xs)):xs.length<=sizeLine/\∃(aN:b6) (n:Nat),Vals xs aN/\xs.length=aN.length/\s.heap.get? l=some {cls:=.type "list",data:=.seq aN.toArray n}:=by
  obtain⟨z,aN,n,r,e⟩:=I.hok l _ hH;exact⟨z,aN,n,r,r.length,e⟩
theorem Hu{n:Nat}(h:n<=sizeLine):Builtin.List.listTooLong n=false:=by
  unfold Builtin.List.listTooLong;exact e9 (by lia)
end
section
variable {X:Cx}
def CI:V->List V->Hp->VK->Prop:=λx vs H Q=>∃l xs y,x=.ref l/\vs=[y]/\H l=some (.ay xs)/\xs.length<sizeLine/\Q .cM (upd H l (.ay (xs++[y])))
theorem nM:Uv X "list.append" CI:=by
  intro af s σ H x vs v us Q I rx rv h;obtain⟨l,xs,y,rfl,rfl,hH,hz,q⟩:=h;cases rx;obtain⟨u,rfl,ru⟩:=rv.one;obtain⟨z,aN,n,r,hl,e⟩:=I.Ly hH;refine nH F.slot_list_append ⟨_,e,rfl⟩ F.entry_list_append (F.args_list_append_2 _ _) (PySem.list_append l aN.toArray n u (by rw[bh];lia)) ⟨e,?_⟩
  refine⟨.cM,_,I.Lx (its':=aN++[u]) hH e (by simp) (r.append (.cons ru .nil)) ?_,rfl,q⟩
  rw[bX,List.length_singleton]
  lia
def xQ:V->List V->Hp->VK->Prop:=λx vs H Q=>∃l xs,x=.ref l/\vs=[]/\H l=some (.ay xs)/\Q .cM (upd H l (.ay xs.reverse))
theorem AQ:Uv X "list.reverse" xQ:=by
  intro af s σ H x vs v us Q I rx rv h;obtain⟨l,xs,rfl,rfl,hH,q⟩:=h;cases rx;have hus:=rv.zero;subst hus;obtain⟨z,aN,n,r,hl,e⟩:=I.Ly hH;refine nH F.slot_list_reverse ⟨_,e,rfl⟩ F.entry_list_reverse (F.args_list_reverse_1 _) (AutoSeq1.list_reverse_list_0 l aN.toArray n (by rw[bh];lia)) ⟨e,?_⟩
  refine⟨.cM,_,I.Lx (its':=aN.reverse) hH e (by simp) r.reverse ?_,rfl,q⟩
  rw[List.length_reverse]
  lia
end
end L2
namespace Att
open PySem PySem.W PySem.Calls PyProof.Rows
theorem oR{P:Params}{h:Heap}:∀(ns:List Int) (vs:b6),WellAll P h vs (ns.map WData.int)->IntsAre vs ns:=by
  intro ns;induction ns with
  | nil =>
    intro vs w;rw[pX]at w;cases w;exact .nil
  | cons n ns ih =>
    intro vs w;rw[bJ]at w;cases w with
    | cons a b =>
      cases a;exact .cons _ _ (ih _ b)
theorem Ew{l:OpenLaw}{n:Nat}(hn:l.most=some n){P:Params}{h:Heap}{args:List WData}{Qw:b6}
    (Lz:l.row.toRowW.claim.pre args=true) (Oa:WellAll P h Qw args) :
    ∃a vs ns,Qw=[Value.ref a]/\args=[WData.list (ns.map WData.int)]/\h.get? a=some {cls:=.type "list",data:=.seq vs.toArray}/\IntsAre vs ns/\ns.length<=n:=by
  have hsh:WShape.hasAll [] args [.list .int]=true:=(pre_splitW Lz).1;have hc:l.pre.holds [] {args:=args}=true:=(pre_splitW Lz).2
  obtain⟨d,r,rfl,h1,h2⟩:=hasAllW_cons hsh;obtain rfl:=hasAllW_nil h2;obtain⟨xs,rfl,h3⟩:=hasW_list h1;obtain⟨ns,rfl⟩:=items_int h3;have cC:ns.length<=n:=by
    unfold OpenLaw.pre at hc;have h4:(WTm.not (.lt (.lit (.int (n:Int))) (.len (.arg 0)))).holds [] {args:=[.list (ns.map .int)]}=true:=by
      have h4:=(holds_andW hc).1;rw[hn]at h4;exact h4
    have h5:=condW_of h4 (w_not (w_lt w_lit (w_len_list (w_arg rfl))));rw[aB]at h5;refine Ak λq=>?_
    have q':(n:Int)<((ns.length:Nat):Int):=by lia
    first
      | (rw[fg q']at h5;exact absurd h5 (by decide))
      | (simp at h5;lia)
  cases Oa with
  | cons w1 w2 =>
    cases w2;cases w1 with
    | list ho hall=>exact⟨_,_,ns,rfl,rfl,ho,oR ns _ hall,cC⟩
theorem Ex(l:OpenLaw)(args:List WData):l.row.toRowW.claim.post args (.bool true) args=true :=
  postW_of (r:=l.row.toRowW) (X:=(true==true))
    (show WShape.has [] (.bool true) .bool=true by first | rfl | decide | simp[WShape.has,WShape.arms,WShape.armsAll])
    (show(WTm.eq .res (.lit (.bool true))).value [] {args:=args,res:=some (.bool true),after:=args}=some (.bool (true==true))from w_eq_bool (w_res rfl) w_lit) rfl
theorem xR{l:OpenLaw}{n:Nat}{q:bc}{loose:List Str}{XP:dy->Heap->Prop}{YP:aM->Heap->Prop}{d:DefRec}
    (hn:l.most=some n) (ZN:d.params.defaults=[])
    (call:∀(w:aM) (s₀ s₁:aq) (mg mb:dy) (fa:ab) (o:Obj) (pm cd doc:ag) (a:ab) (vs:b6) (ns:List Int),
      Ground q loose [] XP w s₀ mg mb s₁.heap->YP w s₁.heap ->
      s₁.heap.get? fa=some o->o.data=.func (docDef d.name d.params d.body d.scope pm cd doc)->s₁.heap.CodeRec cd d.name->mg d.name=some (.ref fa) ->
      s₁.heap.get? a=some {cls:=.type "list",data:=.seq vs.toArray}->IntsAre vs ns->ns.length<=n->s₁.gens=#[] ->
      codeAny (model l.prog w) callerA (.call (.ref fa) ⟨[.ref a],[]⟩) (λr s'=>r=.ok (.ret (.bool true))/\OldK s₁.heap s'.heap/\s'.os=s₁.os/\AllBare s'.gens) s₁) :
    WalkO q loose XP YP l.row.toRowW d [] (λf vs=>PySem.call f vs):=by
  intro w s₀ s₁ mg mb G Y fa o pm cd doc dV kV ho hd sT hD Oc hg args Qw as Lz adf hrd Oa hlo;obtain rfl:dV=.none:=Dflts.none hD ZN;obtain rfl:kV=.none:=Dflts.noKw hD;obtain⟨a,vs,ns,rfl,rfl,Hv,Hw,cC⟩:=Ew hn Lz Oa;refine enter_call (jn (call w s₀ s₁ mg mb fa o pm cd doc a vs ns G Y ho (fd_plain hd) sT Oc Hv Hw cC hg) λr s' hq=>?_)
  obtain⟨rfl,h2,h3,h4⟩:=hq;exact⟨.inl ⟨.bool true,.bool true,[],rfl,λ_=>rfl,.bool true,Ex l _,λ_=>⟨List.Pairwise.nil,λ_ hm=>(nomatch hm)⟩⟩,h2,h3,h4⟩
end Att
namespace L2
open PySem PySem.Spec PyProof.Rows
theorem tK:∀{vs:b6} {ns:List Int},IntsAre vs ns->Vals (ns.map V.int) vs
  | _,_,.nil=>.nil
  | _,_,.cons n t h=>.cons ⟨t,rfl⟩ (tK h)
theorem Ey{P:bc}{w:aM}{K:ah}{mg mb:dy}{CX:Cg}{k:Nat}{fa a:ab}{fd:dk}{x:Str}{sp:Sp}{s₁:aq}{vs:b6}{ns:List Int}{tabs:List (ab×Str)}
    (KX:K.In s₁.heap) (LB:s₁.heap.Ns mainGlobals mg) (hb:s₁.heap.Ns builtinsNs mb) (hbb:∀x:Str,x≠"__name__"->mb x=bootBuiltins x) (Hx:s₁.heap.NoLimit) (hg:s₁.gens=#[])
    (hT:∀b q,tabs.lookup b=some q->s₁.heap.get? b=some {cls:=.none,data:=.fields #[]}/\isCodeTable s₁.heap b/\K.lookup b=none) (hTI:∀H:Hp,(∀b q,tabs.lookup b=some q->H b=some (.wX q))->qd K H)
    (ha:s₁.heap.get? a=some {cls:=.type "list",data:=.seq vs.toArray}) (hi:IntsAre vs ns) (hl:ns.length<=sizeLine) (hr:dR k callerA)
    (F:∀base:Heap,K.In base->base.Ns mainGlobals mg->FnOk P w K mg base CX k fa fd [x] sp) (Ux:∀(s:aq) (u:ag),BindsTo s fd ⟨[u],[]⟩ [(x,u)])
    (nh:∀H:Hp,m8 K H a (ns.map V.int)->sp [.ref a] H (λv _=>v=.bl true) λ_ _ _=>False) (hCX:∀H e s',CX [] H s₁ (λ_ _ _=>False) e s'->False) :
    codeAny (model P w) callerA (.call (.ref fa) ⟨[.ref a],[]⟩) (λr s'=>r=.ok (.ret (.bool true))/\OldK s₁.heap s'.heap/\s'.os=s₁.os/\AllBare s'.gens) s₁:=by
  have rv:=tK hi;have dZ:=hi.length
  let oa:Obj:={cls:=.type "list",data:=.seq vs.toArray}
  let H:Hp:=λb=>if b=a/\K.lookup a=none then some (.k0 oa (.ay (ns.map V.int)))else(tabs.lookup b).map HO.wX
  have Qx:∀b,H b=if b=a/\K.lookup a=none then some (.k0 oa (.ay (ns.map V.int)))else(tabs.lookup b).map HO.wX:=λ_=>rfl
  have hHt:∀b q,tabs.lookup b=some q->H b=some (.wX q):=λb q e=>by
    have hne:b≠a:=λz=>by
      subst z;have h1:=(hT b q e).1;rw[ha]at h1;cases h1
    rw[Qx,if_neg (λz=>hne z.1),e]
    rfl
  have hH:∀b u,H b=some u->(b=a/\K.lookup a=none/\u=.k0 oa (.ay (ns.map V.int)))\/∃q,tabs.lookup b=some q/\u=.wX q:=λb u e=>by
    rw[Qx]at e;by_cases h:b=a/\K.lookup a=none
    · rw[if_pos h]at e
      cases e;exact .inl ⟨h.1,h.2,rfl⟩
    · rw[if_neg h]at e
      cases z:tabs.lookup b with
      | none=>rw[z]at e;cases e
      | some q=>rw[z]at e;cases e;exact .inr ⟨q,rfl,rfl⟩
  have hS:m8 K H a (ns.map V.int):=by
    cases hk:K.lookup a with
    | some o =>
      have e:=KX a o hk;rw[ha]at e;cases e;exact .inr ⟨vs,_,hk,by rw[dZ];exact hl,rv⟩
    | none=>exact .inl (.inr ⟨oa,by rw[Qx,if_pos ⟨rfl,hk⟩]⟩)
  have hok:m9 P w H s₁.heap:=λb u e=>by
    rcases hH b u e with⟨rfl,_,rfl⟩ | ⟨q,hq,rfl⟩
    · exact⟨ha,by rw[aB];exact hl,vs,_,rv,ha⟩
    · exact⟨#[],(hT b q hq).1,trivial,λpos cv z=>by cases z⟩
  have noD:∀{b:ab} {o:Obj} {es:Array DictEntry} {ep:Nat},s₁.heap.get? b=some o->o.data=.dict es ep->H b=none:=λ{b o es ep} e d=>by
    cases q:H b with
    | none=>rfl
    | some u =>
      rcases hH b u q with⟨rfl,_,_⟩ | ⟨t,ht,_⟩
      · rw[ha]at e;cases e;cases d
      · have h1:=(hT b t ht).1
        rw[h1]at e;cases e;cases d
  have Xs:∀{b:ab} {m:dy},s₁.heap.Ns b m->(xE s₁.heap H).Ns b m:=λ{b m} ⟨o,es,ep,e,d,r⟩=>⟨o,es,ep,hidT_get e (noD e d),d,r⟩
  have hKb:K.In (xE s₁.heap H):=λb o e=>hidT_get (KX b o e) (by
    cases q:H b with
    | none=>rfl
    | some u =>
      rcases hH b u q with⟨rfl,z,_⟩ | ⟨t,ht,_⟩
      · rw[z]at e;cases e
      · rw[(hT b t ht).2.2]at e;cases e)
  have hM:Mod K mg (xE s₁.heap H):=⟨hKb,Xs LB,⟨mb,Xs hb,hbb⟩,let ⟨mc,h1,h2⟩:=Hx;⟨mc,Xs h1,h2⟩⟩
  have e0:AI P w K mg (xE s₁.heap H) callerA [] s₁ H:=⟨rfl,hM,λb o e=>of_hidT e,nG (Eo _ _),trivial,λb hb=>absurd (show b∈([]:List ab)from hb) (by simp),hok,.of_eq hg,hTI H hHt⟩
  refine jn ((F _ hKb (Xs LB)).run callerA [] s₁ H ⟨[.ref a],[]⟩ [.ref a] [.ref a] _ _ hr e0 (Ux s₁ (.ref a)) (.cons rfl .nil) (nh H hS)) λr s' h=>?_
  cases r with
  | error e=>exact(hCX H e s' h).elim
  | ok fl =>
    cases fl with
    | next=>exact False.elim h
    | brk=>exact False.elim h
    | cont=>exact False.elim h
    | ret u =>
      obtain⟨v,H',os,bare,un,Uy,r',q⟩:=h;have q':v=.bl true:=q;subst q';obtain rfl:u=Value.bool true:=r';have noF:∀b:ab,b∉zA ([]:List Env):=λb z=>absurd (show b∈([]:List ab)from z) (by simp)
      refine⟨rfl,⟨λb o e=>?_,λb o e=>un.there b o e (by simp)⟩,os,bare⟩
      cases q:H b with
      | none=>exact .inl (un.keep b o e q (noF b) (by simp))
      | some u =>
        rcases hH b u q with⟨rfl,_,rfl⟩ | ⟨t,ht,rfl⟩
        · obtain⟨e2,_⟩:=Uy b _ (un.frzs b _ _ q)
          rw[ha]at e;cases e;exact .inl e2
        · obtain⟨h1,h2,_⟩:=hT b t ht
          obtain⟨ps,e2,_⟩:=(show dE P w H' s'.heap b (.wX t)from Uy b _ (un.tbls b _ q))
          rw[h1]at e;cases e;exact .inr (.inl ⟨h2,rfl,#[],ps,rfl,by rw[e2];simp⟩)
abbrev E0:XK:=λ_ _ _=>False
theorem Uz{A:bD}{k:Nat}(hr:dR k A):A.units+1<cLine:=jR (Nat.add_le_add_left (by decide:1<=64) _) hr.units
section
variable {X:Cx}
theorem pv(i:Nat){x:Str}{pos:Pos}(hN:X.N[i]?=some x:=by rfl)(hv:S8 X.env.scope x:=by first | exact Or.inl rfl | exact Or.inr (Or.inl rfl) | exact Or.inr (Or.inr rfl))(hd:(x==("__debug__":Str))=false:=by decide)
    (sT:(x==("__classdict__":Str))=false:=by decide):PE X (.Name x pos) (iS i):=pe_var hN hv hd sT
end
theorem UA{A B:Prop}(h:B):if false=true then A else B:=by
  rw[if_neg gQ];exact h
theorem UB{A B:Prop}(h:A):if true=true then A else B:=by
  rw[if_pos rfl];exact h
def Same(H H':Hp):Prop:=∀b o,H b=some o->H' b=some o
theorem Same.refl(H:Hp):Same H H:=λ_ _ h=>h
theorem Same.trans{H H1 H2:Hp}(a:Same H H1)(b:Same H1 H2):Same H H2:=λc o h=>b c o (a c o h)
theorem Same.free{H H':Hp}(e:Same H H'){l:ab}(h:H' l=Option.none):H l=Option.none:=by
  cases q:H l with
  | none=>rfl
  | some o =>
    rw[e l o q]at h;cases h
theorem Same.seq{K:ah}{H H':Hp}{a:ab}{xs:List V}(e:Same H H')(h:kQ K H a xs):kQ K H' a xs:=by
  rcases h with(h | ⟨o,h⟩) | h
  · exact .inl (.inl (e _ _ h))
  · exact .inl (.inr ⟨o,e _ _ h⟩)
  · exact .inr h
section
variable {κ:Type} [DecidableEq κ]
def kR(kvs:List (κ×V))(k:κ):Option V:=(kvs.find? λkv=>decide (kv.1=k)).map (·.2)
def LC(kvs:List (κ×V))(k:κ)(v:V):List (κ×V) :=
 if(kvs.any λkv=>decide (kv.1=k))=true then kvs.map (λkv=>if kv.1=k then(kv.1,v)else kv)else kvs++[(k,v)]
theorem qo{p:κ×V}{r:List (κ×V)}{k:κ}(e:p.1=k):kR (p::r) k=some p.2:=by simp[kR,nD,e]
theorem qp{p:κ×V}{r:List (κ×V)}{k:κ}(e:¬p.1=k):kR (p::r) k=kR r k:=by simp[kR,nD,e]
theorem xS(k:κ):∀kvs:List (κ×V),(kvs.any λkv=>decide (kv.1=k))=(kR kvs k).isSome
 | []=>rfl
 | p::r=>by
  rw[uX];by_cases e:p.1=k
  ·simp only[qo e,fg e,Bool.true_or,Option.isSome_some]
  ·rw[qp e,e9 e,Bool.false_or];exact xS k r
theorem Hy{kvs:List (κ×V)}{k:κ}(v:V)(h:kR kvs k=none):LC kvs k v=kvs++[(k,v)]:=by
 unfold LC;rw[xS,h];exact if_neg (by decide)
theorem En.getD{o:Option V}{u:lE}{d:V}{d':ag}(r:En o u)(rd:RelV d d'):RelV (o.getD d) (u.getD d'):=by
 cases o with
 | none=>cases u with
  | none=>exact rd
  | some _=>exact(show False from r).elim
 | some _=>cases u with
  | none=>exact(show False from r).elim
  | some _=>exact r
theorem KV.val{kvs:List (κ×V)}{vs:List (κ×ag)}(r:KV kvs vs)(k:κ):En (kR kvs k) (valueAt vs k):=by
 unfold KV at r;induction r with
 | nil=>exact True.intro
 | @cons p q ps qs h t ih =>
  obtain⟨h1,h2⟩:=h;by_cases e:p.1=k
  ·have e':q.1=k:=h1.symm.trans e;have b:valueAt (q::qs) k=some q.2:=by simp[valueAt,nD,e']
   rw[qo e,b];exact h2
  ·have e':¬q.1=k:=λz=>e (h1.trans z)
   have b:valueAt (q::qs) k=valueAt qs k:=by simp[valueAt,nD,e']
   rw[qp e,b];exact ih
theorem KV.any{kvs:List (κ×V)}{vs:List (κ×ag)}(r:KV kvs vs)(k:κ):(kvs.any λkv=>decide (kv.1=k))=vs.any λkv=>decide (kv.1=k):=by
 unfold KV at r;induction r with
 | nil=>rfl
 | cons h t ih=>rw[uX,uX,ih,h.1]
theorem KV.ZO{kvs:List (κ×V)}{vs:List (κ×ag)}(r:KV kvs vs)(k:κ){y:V}{u:ag}(ry:RelV y u) :
  KV (kvs.map λkv=>if kv.1=k then(kv.1,y)else kv) (vs.map λkv=>if kv.1=k then(kv.1,u)else kv):=by
 unfold KV at r ⊢;induction r with
 | nil=>exact .nil
 | @cons p q ps qs h t ih =>
  rw[bJ,bJ];refine .cons ?_ ih;obtain⟨h1,h2⟩:=h;by_cases e:p.1=k
  ·rw[if_pos e,if_pos (h1.symm.trans e)];exact⟨h1,ry⟩
  ·rw[if_neg e,if_neg (λz=>e (h1.trans z))];exact⟨h1,h2⟩
theorem KV.put{kvs:List (κ×V)}{vs:List (κ×ag)}(r:KV kvs vs)(k:κ){y:V}{u:ag}(ry:RelV y u):KV (LC kvs k y) (stored vs k u):=by
 unfold LC stored;rw[r.any k];by_cases e:(vs.any λkv=>decide (kv.1=k))=true
 ·rw[if_pos e,if_pos e];exact r.ZO k ry
 ·rw[if_neg e,if_neg e];exact Paired.snoc r ⟨rfl,ry⟩
theorem KV.length{kvs:List (κ×V)}{vs:List (κ×ag)}(r:KV kvs vs):kvs.length=vs.length:=uW r
end
theorem Hz{P:bc}{w:aM}{k:bQ}{u:ag}(r:RelV (kV k) u):(et P w).is k u=true:=by
 cases k with
 | inl i=>obtain⟨t,e⟩:=(show ∃t,u=Value.int i t from r);subst e;exact xB P w i t
 | inr x=>obtain⟨t,e⟩:=(show ∃t,u=Value.str x t from r);subst e;exact xC P w x t
theorem tL{P:bc}{w:aM}:∀{ks:List bQ} {us:b6},Vals (ks.map kV) us->ItemsAre (et P w) ks us
 | [],_,r=>by rw[pX]at r;cases r;exact .nil
 | k::ks,_,r=>by
  rw[bJ]at r;cases r with
  | cons h t=>exact .cons (Hz h) (tL t)
section
variable {P:bc} {w:aM} {H:Hp} {h:Heap} {a:ab}
theorem HA{u:HO}(ok:m9 P w H h)(e:Rd H a u):dE P w H h a u:=e.ok ok
theorem Od{kvs:List (bQ×V)}(ok:m9 P w H h)(e:Rd H a (.dK kvs)):kvs.length<=sizeLine/\(a==sysModules)=false/\∃vs,KV kvs vs/\h.DictOf (et P w) a vs :=
 show dE P w H h a (.dK kvs)from HA ok e
theorem UC{kvs:List (bQ×V)}(ok:m9 P w H h)(e:H a=some (.dK kvs)):kvs.length<=sizeLine/\(a==sysModules)=false/\∃vs,KV kvs vs/\h.DictOf (et P w) a vs:=Od ok (.inl e)
end
section
variable {X:Cx} {af:List (ab×Obj)} {σ:St} {H:Hp} {s:aq} {a b:ab} {k:List bQ} {v:V} {r:ag} {A:bD} {E:cf} {xs:List (List bQ×ab×ag)}
def iI(K:ah)(H:Hp)(xs:List (List bQ×ab×ag)):Prop:=∀x∈xs,gI K H x.2.1 (x.1.map kV)
theorem key_is(I:Inv X af σ H s)(e:gI X.K H a (k.map kV)):(tupleKind (et X.prog X.w)).is s.heap k a:=by
 obtain⟨aN,r,⟨o,h1,h2,n,h3⟩,_⟩:=I.tuple e;exact⟨o,aN.toArray,n,h1,h2,h3,by simpa using tL r⟩
theorem HB(I:Inv X af σ H s)(e:Rd H a (.dT xs))(hk:iI X.K H xs):xs.length<=sizeLine/\(a==sysModules)=false/\s.heap.DictOfH (tupleKind (et X.prog X.w)) a xs:=by
 obtain⟨z,y,o,es,ep,h1,h2,h3,h4,h5⟩:=(show dE X.prog X.w H s.heap a (.dT xs)from HA I.hok e)
 exact⟨z,y,o,es,ep,h1,h2,h3,h4,λx hx=>key_is I (hk x hx),h5⟩
theorem UD{Q:cf}(hu:A.units+1<cLine)(I:Inv X af σ H s)(e:Rd H a (.dT xs))(hk:iI X.K H xs)(eb:gI X.K H b (k.map kV))(h:∀s',Inv X af σ H s'->Q (.bool (atKey xs k).isSome) s') :
  wpAny (model X.prog X.w) A (compareOp .In (.ref b) (.ref a)) Q E s:=by
 obtain⟨_,hd,dd⟩:=HB I e hk;exact wpAny_in_heap (zX hu) (key_is I eb) hd dd (h _ (I.tok _))
theorem UE{Q:cf}(hu:A.units+1<cLine)(I:Inv X af σ H s)(e:Rd H a (.dT xs))(hk:iI X.K H xs)(eb:gI X.K H b (k.map kV)) (h:∀s',Inv X af σ H s'->Q (.bool (!(atKey xs k).isSome)) s') :
  wpAny (model X.prog X.w) A (compareOp .NotIn (.ref b) (.ref a)) Q E s:=by
 obtain⟨_,hd,dd⟩:=HB I e hk;exact wpAny_notIn_heap (zX hu) (key_is I eb) hd dd (h _ (I.tok _))
theorem AR{κ:Type} [DecidableEq κ] (xs:List (κ×ab×ag)) (k:κ) (a:ab) (v:ag):(storedH xs k a v).length<=xs.length+1:=by
 unfold storedH;split
 ·rw[aB];lia
 ·rw[bX];exact aR _
theorem Qy{Q:Unit->aq->Prop}(hu:A.units+1<cLine)(I:Inv X af σ H s)(e:H a=some (.dT xs))(hk:iI X.K H xs)(eb:gI X.K H b (k.map kV))(hl:xs.length<sizeLine)
  (h:∀s',Inv X af σ (upd H a (.dT (storedH xs k b r))) s'->Q () s'):wpAny (model X.prog X.w) A (setItem (.ref a) (.ref b) r) Q E s:=by
 obtain⟨_,hd,dd⟩:=HB I (.inl e) hk;refine wpAny_setItem_heap (hsz:=iH hl) (zX hu) (key_is I eb) dd λh' Xu hs=>h _ ?_
 obtain⟨q,es,ep,hq,h2,h3,h4,_,h5⟩:=Xu;have hz:(storedH xs k b r).length<=sizeLine:=by have:=AR xs k b r;lia
 exact I.write (x:=a) (e:=a) (by rw[e];exact True.intro) (.inl rfl) (λc q' hc z=>(hs.2 c hc).trans z) ⟨q,hq⟩ ⟨hz,hd,q,es,ep,hq,h2,h3,h4,h5⟩
theorem xT(I:Inv X af σ H s):sysModules<s.heap.objs.size:=Nat.lt_trans (by decide) (show mainGlobals<s.heap.objs.size from(I.mod.glob.keeps I.bk).lt)
def CJ(o:HO):TE:=λ_ H Q=>∀p,H p=none->Q (.ref p) (upd H p o)
theorem CK{pos:Pos}:PE X (.Dict [] [] pos) (CJ (.dT [])):=λaf s σ H Q I h =>
 wpAny_Dict_empty ⟨.ref s.heap.objs.size,_,I.laid (a:=s.heap.objs.size) (o:=.dT []) (t':=s.toks) (λ_ _ q=>bR _ q) (aR _)
  ⟨dY _,lu.mpr (dN (b8 (xT I))),_,#[],0,dj _ rfl,⟨rfl,rfl,rfl⟩,rfl,rfl,nE⟩,rfl,h _ (I.hok.fresh (aR _))⟩
theorem tM{κ:Type} [DecidableEq κ] (xs:List (κ×ab×ag)) (k:κ):(atKey xs k).isSome=(xs.map (·.1)).any λj=>decide (j=k):=by
 unfold atKey;rw[Aa,List.any_map,List.isSome_find?];rfl
end
def Tc(CX:Cg)(P:bc)(w:aM)(K:ah)(mg:dy)(base:Heap)(N:List Str)(qual:Str)(scope:Scope)(f:ab)(cd:ag)(cl:List (Str×ab))(A:bD)(outer:List Env)(s:aq)(H:Hp)(E:XK):Cx where
 prog:=P
 w:=w
 K:=K
 mg:=mg
 base:=base
 A:=A.deeper (W.envX qual scope s.heap.objs.size f cd cl)
 N:=N
 s₀:=s
 H₀:=H
 env:=W.envX qual scope s.heap.objs.size f cd cl
 outer:=outer
 stack:=W.envX qual scope s.heap.objs.size f cd cl::outer
 ex:=[]
 calm:=true
 fn:=λ_=>false
 pn:=[]
 xe:=λe s'=>wpAny (model P w) (A.deeper (W.envX qual scope s.heap.objs.size f cd cl)) (leaving (W.envX qual scope s.heap.objs.size f cd cl) e) (λ_ Hr=>CX outer H s E e Hr) (λe' Hr=>CX outer H s E e' Hr) s'
structure j2 (h:Heap) (H:Hp) (scope:Scope) (cl:List (Str×ab)) (N:List Str) (τ:St):Prop where
 inj:∀x y c,cl.lookup x=some c->cl.lookup y=some c->x=y
 has:∀x,scope.names.lookup x=some .free->∃c,cl.lookup x=some c
 cell:∀x c,cl.lookup x=some c->∃v,h.IsCell c v
 free:∀x c,cl.lookup x=some c->H c=none
 val:∀(i:Nat) (x:Str) (v:V),N[i]?=some x->τ[i]?=some (some v)->∃c u,scope.names.lookup x=some .free/\cl.lookup x=some c/\h.IsCell c (some u)/\RelV v u
 len:τ.length=N.length
theorem j2.un{h h':Heap}{H H':Hp}{scope:Scope}{cl:List (Str×ab)}{N:List Str}{τ:St}{fs:List ab}(C:j2 h H scope cl N τ)(u:Un fs [] H H' h h'):j2 h' H' scope cl N τ where
 inj:=C.inj
 has:=C.has
 cell:=λx c e=>by
  obtain⟨v,o,ho,hd⟩:=C.cell x c e;obtain⟨sl,q⟩:=u.any ho (C.free x c e) (by simp)
  exact⟨v,_,q,hd⟩
 free:=λx c e=>by
  obtain⟨v,o,ho,hd⟩:=C.cell x c e;exact u.free c o ho (C.free x c e) (by simp)
 val:=λi x v e1 e2=>by
  obtain⟨c,w,k,e,⟨o,ho,hd⟩,r⟩:=C.val i x v e1 e2;obtain⟨sl,q⟩:=u.any ho (C.free x c e) (by simp)
  exact⟨c,w,k,e,⟨_,q,hd⟩,r⟩
 len:=C.len
theorem LD{CX:Cg}{P:bc}{w:aM}{K:ah}{mg:dy}{base:Heap}{N:List Str}{x qual:Str}{scope:Scope}{f:ab}{cd:ag}{cl:List (Str×ab)}{A:bD}{outer:List Env}{s:aq}{H:Hp}{E:XK}{u:ag}{v:V}{τ:St}{h1:Heap}{tk:Nat}
  (hk:scope.kind=.function) (hx:scope.names.lookup x=some .local) (nc:∀y∈scope.names,y.2≠.cell) (hd:A.handled=none) (e0:AI P w K mg base A outer s H) (r:RelV v u) (C:j2 s.heap H scope cl N τ)
  (LB:h1.Ns s.heap.objs.size λy=>[(x,u)].reverse.lookup y) (Xv:∀b o,s.heap.get? b=some o->h1.get? b=some o) :
  Inv (Tc CX P w K mg base (x::N) qual scope f cd cl A outer s H E) [] (some v::τ) H {s with heap:=h1,toks:=tk}:=by
 have noA:∀b:ab,b∉(Tc CX P w K mg base (x::N) qual scope f cd cl A outer s H E).ex:=λb z=>absurd (show b∈([]:List ab)from z) (by simp)
 refine⟨⟨e0.mod,hk,rfl,rfl,aR _,C.inj,λy hy=>?_,λy c h _=>(by cases h),λ_=>hd,Around.frames_deeper e0.frames,.inr ⟨rfl,rfl⟩,λb z=>absurd z (noA b),e0.bs,e0.bsz,λb _ _=>noA b,λb z=>absurd z (noA b),e0.funs,e0.frf,e0.tabs⟩,
  rfl,e0.bare,Un.kept Xv,⟨_,LB,λi y z h1 h2 h3=>?_⟩,λy c h=>?_,e0.hok.fresh (aR _),λy c h=>C.free y c h,λp hp=>absurd (show p∈([]:List (ab×Obj))from hp) (by simp),e0.hok.kept Xv,?_⟩
 ·have hy:scope.names.lookup y=some .cell\/scope.names.lookup y=some .free:=hy;rcases hy with hy | hy
  ·exact absurd rfl (nc _ (dJ hy))
  ·exact C.has y hy
 ·cases i with
  | zero =>
   have e1:x=y:=bg (show some x=some y from h1)
   have e2:v=z:=bg (bg (show some (some v)=some (some z)from h2))
   subst e1 e2;exact⟨u,r,.inl ⟨hx,by simp⟩⟩
  | succ i =>
   obtain⟨c,w',k,e,z',r'⟩:=C.val i y z (by simpa using (show(x::N)[i+1]?=some y from h1)) (by simpa using h2)
   exact⟨w',r',.inr ⟨.inr k,c,e,z'.keeps Xv⟩⟩
 ·obtain⟨v,z⟩:=C.cell y c h;exact⟨v,z.keeps Xv⟩
 ·show(some v::τ).length=(x::N).length;rw[aZ,aZ,C.len]
theorem LF{CX:Cg}{P:bc}{w:aM}{K:ah}{mg:dy}{base:Heap}{k:Nat}{N:List Str}{x name qual:Str}{params:Arguments}{body:aj}{scope:Scope}{f:ab}{pm df Ez:ag}{cl:List (Str×ab)}{A:bD}{outer:List Env}{s:aq}{H:Hp}{Q:VK}{E:XK}{u:ag}{v:V}{τ:St}{o:Obj}
  (ho:s.heap.get? f=some o) (hf:o.data=.func (W.kla_fn name qual params body scope cl pm df Ez)) (sT:s.heap.CodeRec df qual) (hr:dR (k+1) A) (e0:AI P w K mg base A outer s H)
  (hb:bindArgs (W.kla_fn name qual params body scope cl pm df Ez) ⟨[u],[]⟩=pure [(x,u)]) (r:RelV v u) (hk:scope.kind=.function) (Qz:scope.isCoroutine=false) (QA:scope.isGenerator=false) (hx:scope.names.lookup x=some .local) (nc:∀y∈scope.names,y.2≠.cell)
  (C:j2 s.heap H scope cl N τ) (hbody:∃t,PE (Tc CX P w K mg base (x::N) qual scope f df cl A outer s H E) body t/\t (some v::τ) H Q) :
  codeAny (model P w) A (.call (.ref f) ⟨[u],[]⟩) (CR CX outer P w H s Q E) s:=by
 have ZC:s.heap.NoLimit:=e0.mod.nolimit.keeps λb o e=>(e0.bs b o e).1
 refine W.kla_callFunE hr.depth ho hf Qz QA rfl sT ?_;rw[hb];refine aw (wpAny_newFunctionEnv nc (λy hy=>?_) (λEA LB hsb=>⟨ZC.fresh _ hsb,?_⟩) hk)
 ·obtain rfl:y=(x,u):=by simpa using hy
  exact hx
 ·show codeAny _ _ (.expr body (W.envX qual scope s.heap.objs.size f df cl)) _ _;obtain⟨t,ht,hq⟩:=hbody;have UG:∀b o,s.heap.get? b=some o->EA.get? b=some o:=λb o e=>hsb.extBut b o (b8 (bA e)) (bR _ e)
  have I:=LD (CX:=CX) (qual:=qual) (f:=f) (cd:=df) (E:=E) (tk:=s.toks+1) hk hx nc hr.hd e0 r C LB UG;refine W.kla_codeExpr (lD (ht [] _ _ H Q I hq) (λu' s' hs=>?_) λe s' hs=>hs)
  obtain⟨v',H',J,rv,q⟩:=hs;exact⟨v',H',J.os,J.bare,J.base,J.hok,rv,q⟩
theorem rY{pos p:Pos}{c cv:ag}(l:b6)(h:TriplesOk l)(e:codeAmong p (l++[rawInt pos.line,rawInt pos.col,c])=some cv):codeAmong p l=some cv\/cv=c:=by
 fun_induction TriplesOk l with
 | case1 =>
  simp only[gS,codeAmong,rawInt]at e;split at e
  ·cases e;exact .inr rfl
  ·cases e
 | case2 a t b u x rest ih =>
  simp only[List.cons_append,codeAmong]at e ⊢;split at e
  ·rename_i hc;rw[if_pos hc];exact .inl e
  ·rename_i hc;rw[if_neg hc];exact ih h e
 | case3 l h1 h2=>exact h.elim
def vp:HO:=.ext λ_=>True
theorem AS{P:bc}{w:aM}{H:Hp}{h:Heap}{a:ab}{o:Obj}(e:h.get? a=some o):dE P w H h a (.k0 o vp):=⟨e,trivial,⟨o,e⟩,λ_ _ _ _=>trivial⟩
def xU(mg:dy)(base:Heap):Prop:=∃bm o,mg "__builtins__"=some (.ref bm)/\bm≠builtinsNs/\bm≠mainGlobals/\base.get? bm=some o/\o.cls=.type "module"/\o.dict=some builtinsNs/\o.data=.plain
def HC(H:Hp)(f:ab)(qual:Str)(params:Arguments)(body:aj)(scope:Scope)(cl:List (Str×ab)):Prop :=
 ∃o u pm df Ez c oc uc vs t,H f=some (.k0 o u)/\o.data=.func (W.kla_fn "<lambda>" qual params body scope cl pm df Ez)/\df=.ref c/\H c=some (.k0 oc uc)/\oc.data=.fields vs/\vs[1]?=some (.str qual t)
def ZP(qual:Str)(params:Arguments)(body:aj)(scope:Scope)(cl:List (Str×ab)):TE:=λ_ H Q=>∀f H',H f=none->Same H H'->(∀b o,H' b=some o->H b=some o\/H b=none)->HC H' f qual params body scope cl->Q (.ref f) H'
section
variable {X:Cx} {x:Str} {params:Arguments} {body:aj} {scope:Scope} {lp:Pos} {cl:List (Str×ab)} {c T:ab}
theorem QB(hx:x∈dD)(ht:W.tabIn X.K x=some (c,T))(hC:W.codeHdIn X.K c T=true)(Oe:X.env.code=.ref c)(UH:X.env.qual++"<lambda>"=rV x)(hB:xU X.mg X.base)
  (ZQ:defaultsOf params X.env=([],[])) (hcl:closureFor scope X.env=pure cl):PE X (.Lambda params body scope lp) (ZP (rV x) params body scope cl):=by
 intro af s σ H Q I h;have hT:H T=some (.wX (rV x)):=I.tabs x hx c T ht;obtain⟨ps,hP,Xw,Of⟩:=(show dE X.prog X.w H s.heap T (.wX (rV x))from I.hok T _ hT)
 have C:W.CodeHd s.heap c T:=W.codeHd_of_K I.wQ hC;have hg:s.heap.Ns mainGlobals X.mg:=I.mod.glob.keeps I.bk;obtain⟨bm,ob,b1,b2,b3,b4,b5⟩:=hB;have ne:∀{b:ab} {o:Obj},X.base.get? b=some o->b≠T:=λ{b o} e z=>by
  have:=(I.bs b o e).2;rw[z,hT]at this;cases this
 have hgT:mainGlobals≠T:=by
  obtain⟨o,es,ep,e,_⟩:=I.mod.glob;exact ne e
 refine W.kla_eval ZQ ?_;rw[UH];cases hc:codeAmong lp ps.toList with
 | some cv =>
  obtain⟨cc,oc,uc,vs,t,rfl,k1,k2,k3⟩:=Of lp cv hc;refine W.kla_makeFunctionHit (mg:=X.mg) hcl I.ok.glob hg Oe C hP Xw hc ⟨bm,ob,b1,b2,b3,ne b4,(I.bs _ _ b4).1,b5⟩ λEz h' tk hk hsz=>?_
  have hn:H h'.objs.size=none:=I.hok.fresh hsz;refine⟨.ref h'.objs.size,upd H h'.objs.size (.k0 _ vp),I.laid (t':=tk) (λb u e=>bR _ (hk b u e)) hsz (AS (dj _ rfl)),rfl,h _ _ hn (λb u e=>by rw[upd_ne (ne_of_none e hn)];exact e) (λb o e=>?_) ?_⟩
  ·by_cases hb:b=h'.objs.size
   ·rw[hb];exact .inr hn
   ·rw[upd_ne hb]at e;exact .inl e
  ·exact⟨_,_,_,_,_,cc,oc,uc,vs,t,aC,rfl,rfl,by rw[upd_ne (ne_of_none k1 hn)];exact k1,k2,k3⟩
 | none =>
  refine W.kla_makeFunction (mg:=X.mg) hcl I.ok.glob hg Oe C hP Xw hc hgT ⟨bm,ob,b1,b2,b3,ne b4,(I.bs _ _ b4).1,b5⟩ λc' Ez h' tk Og QC dU ZR ZS=>?_
  obtain⟨adn,oc,vs,t,e2,Xl,hd,hv⟩:=ZR;cases e2;have Xx:H c'=none:=I.hok.fresh QC;have QD:H h'.objs.size=none:=I.hok.fresh (bY QC (iH dU));have nfc:h'.objs.size≠c':=nF dU;have cT:c'≠T:=λz=>by rw[z,hT]at Xx;cases Xx
  have fT:h'.objs.size≠T:=λz=>by rw[z,hT]at QD;cases QD
  let o1:HO:=.k0 oc vp
  let H1:Hp:=upd H c' o1
  have hn1:H1 h'.objs.size=none:=by show upd H c' o1 _=_;rw[upd_ne nfc];exact QD
  let fo:Obj:=W.kla_obj "<lambda>" (rV x) params body scope cl ((X.mg "__name__").getD .none) c' Ez
  let H2:Hp:=upd H1 h'.objs.size (.k0 fo vp)
  have Oh:Same H H1:=λb u e=>by show upd H c' o1 b=_;rw[upd_ne (ne_of_none e Xx)];exact e
  have s12:Same H1 H2:=λb u e=>by show upd H1 _ _ b=_;rw[upd_ne (ne_of_none e hn1)];exact e
  have keep:∀b o,b≠T->s.heap.get? b=some o->(h'.push fo).get? b=some o:=λb o hb e=>bR _ (Og b o hb e)
  have nT:∀b,H b=none->b≠T:=λb n z=>by rw[z,hT]at n;cases n
  have lt:∀b o,s.heap.get? b=some o->b<s.heap.objs.size:=λb o e=>bA e
  have hf2:∀b o,s.heap.get? b=some o->H b=none->H2 b=none:=λb o e n=>by
   show upd (upd H c' o1) _ _ b=none;have l1:=lt b o e;rw[upd_ne (b8 (cy l1 (bY QC (iH dU)))),upd_ne (b8 (cy l1 QC))];exact n
  have un:Un X.fs [] H H2 s.heap (h'.push fo):=⟨λb o e n _ _=>keep b o (nT b n) e,λb o e n _ _=>⟨o.slots,keep b o (nT b n) e⟩,λb o e n _=>hf2 b o e n,λb o e _=>by
    by_cases hb:b=T
    ·subst hb;exact⟨_,bR _ ZS⟩
    ·exact⟨o,keep b o hb e⟩,λb xs e=>s12 _ _ (Oh _ _ e),λb o u e=>s12 _ _ (Oh _ _ e),λb q e=>s12 _ _ (Oh _ _ e)⟩
  have hok:m9 X.prog X.w H2 (h'.push fo):=λb u e=>by
   by_cases Oi:b=h'.objs.size
   ·subst Oi;have e:upd H1 h'.objs.size (.k0 fo vp) h'.objs.size=some u:=e;rw[aC]at e;cases e;exact AS (dj _ rfl)
   ·have e:upd H1 h'.objs.size (.k0 fo vp) b=some u:=e;rw[upd_ne Oi]at e;by_cases UI:b=c'
    ·subst UI;have e:upd H b o1 b=some u:=e;rw[aC]at e;cases e;exact AS (bR _ Xl)
    ·have e:upd H c' o1 b=some u:=e;rw[upd_ne UI]at e;by_cases hbT:b=T
     ·subst hbT;rw[hT]at e;cases e;refine⟨_,bR _ ZS,?_,λpos cv z=>?_⟩
      ·simpa using TriplesOk_snoc lp.line lp.col (.ref c') ps.toList Xw
      ·rcases rY (pos:=lp) ps.toList Xw (by simpa using z)with z | z
       ·obtain⟨cc,oc',uc,QE,t',q1,q2,q3⟩:=Of pos cv z;exact⟨cc,oc',uc,QE,t',q1,s12 _ _ (Oh _ _ q2),q3⟩
       ·exact⟨c',oc,vp,vs,t,z,s12 _ _ (by show upd H c' o1 c'=_;exact aC),hd,hv⟩
     ·refine(I.hok b u e).xD (λd v u6 q=>keep d v ?_ q) (λd q=>s12 _ _ (Oh _ _ q)) (λd xs q=>s12 _ _ (Oh _ _ q)) λd ob' v q=>s12 _ _ (Oh _ _ q)
      rcases u6 with rfl | u6
      ·exact hbT
      ·rintro rfl
       rw[hT]at u6;cases u6
  refine⟨.ref h'.objs.size,H2,I.un (t':=tk) un hok,rfl,h _ _ QD (Oh.trans s12) (λb o e=>?_) ?_⟩
  ·by_cases Oi:b=h'.objs.size
   ·rw[Oi];exact .inr QD
   ·have e:upd H1 h'.objs.size (.k0 fo vp) b=some o:=e;rw[upd_ne Oi]at e;by_cases UI:b=c'
    ·rw[UI];exact .inr Xx
    ·have e:upd H c' o1 b=some o:=e;rw[upd_ne UI]at e;exact .inl e
  ·exact⟨_,_,_,_,_,c',oc,vp,vs,t,(show upd H1 _ _ _=_ from aC),rfl,rfl,s12 _ _ (show upd H c' o1 c'=_ from aC),hd,hv⟩
end
theorem UJ{CX:Cg}{P:bc}{w:aM}{K:ah}{mg:dy}{base:Heap}{k:Nat}{f:ab}{x qual:Str}{st:az}{fd:dk}{N ps:List Str}(Fn:Ap K x qual st f fd)(S:dA N ps (aH st))
  {A:bD} {outer:List Env} {s:aq} {H:Hp} {args:Args} {us:b6} {vs:List V} {Q:VK} {E:XK} (hr:dR (k+1) A) (e0:AI P w K mg base A outer s H) (hb:BindsTo s fd args (ps.zip us)) (r:Vals vs us) (hl:vs.length=ps.length)
  (hbody:∀df:ag,∃t,oQ (jH CX P w K mg base N qual (aH st) f df A outer s H E) (cw st) t/\t {nx:=λ_ H'=>Q .cM H',rt:=Q} (start N vs) H) :
  codeAny (model P w) A (.call (.ref f) args) (CR CX outer P w H s Q E) s:=by
 obtain⟨oc,od,kV,doc,pm,an,df,ct,rP,rfl,lk,sT⟩:=Fn.ex;have old:∀b o,base.get? b=some o->s.heap.get? b=some o:=λb o e=>(e0.bs b o e).1
 have KX:K.In s.heap:=e0.mod.kin.keeps old;have UK:∀y∈ps.zip us,(aH st).names.lookup y.1=some .local\/((aH st).names.lookup y.1=some .cell/\((cellsFrom (s.heap.objs.size+1) (aH st).names []).lookup y.1).isSome=true):=λy hy=>by
  rcases S.par y.1 (uR (a:=y.1) (b:=y.2) hy).1 with q | q
  ·exact .inl q
  ·exact .inr ⟨q,W.cellsFrom_some _ _ _ (.inl q)⟩
 refine codeAny_call_function hr.depth (KX _ _ lk) rfl S.co S.gen rfl (W.codeRec_of KX sT) (hb _ _ _ _ (Gz S.kind UK λenv he s1 ic=>?_))
 subst he;refine⟨(e0.mod.nolimit.keeps old).keeps ic.toInCall.keep,codeAny_func ?_⟩;obtain⟨t,ht,hq⟩:=hbody df;have I:Inv (jH CX P w K mg base N qual (aH st) f df A outer s H E) [] (start N vs) H s1:=tJ S hr.hd e0 hl r ic;refine lD (ht [] s1 (start N vs) H _ I hq) (λfl s' hs=>?_) λe s' hs=>hs
 have fin:∀{cE:St} {H':Hp} {v:V} {u:ag},Inv (jH CX P w K mg base N qual (aH st) f df A outer s H E) [] cE H' s'->RelV v u->Q v H'->CE outer P w H s Q u s':=λ{_ H' v _} J rv q=>⟨v,H',J.os,J.bare,J.base,J.hok,rv,q⟩
 cases fl with
 | ret u=>obtain⟨v,cE,H',J,rv,q⟩:=hs;exact fin J rv q
 | next=>obtain⟨cE,H',J,q⟩:=hs;exact fin (v:=V.cM) (u:=Value.none) J rfl q
 | brk=>obtain⟨_,_,_,q⟩:=hs;exact False.elim q
 | cont=>obtain⟨_,_,_,q⟩:=hs;exact False.elim q
end L2
namespace L2.PL
open PySem PySem.Spec PyProof.Rows
section
variable {K:ah} {F F' H H':Hp}
theorem aQ(e:Same H H'){a:ab}{xs:List V}(h:gI K H a xs):gI K H' a xs:=by
 rcases h with(h | ⟨o,h⟩) | h
 ·exact .inl (.inl (e _ _ h))
 ·exact .inl (.inr ⟨o,e _ _ h⟩)
 ·exact .inr h
theorem LG(e:Same H H'){a:ab}{u:HO}(h:Rd H a u):Rd H' a u:=h.imp (e _ _) λ⟨o,q⟩=>⟨o,e _ _ q⟩
theorem bG(e:Same H H'){a:ab}{xs:List V}(h:m8 K H a xs):m8 K H' a xs:=h.imp (LG e) id
theorem _root_.L2.m8.of{a:ab}{xs:List V}(h:H a=some (.ay xs)):m8 K H a xs:=.inl (.inl h)
mutual
theorem cI.mono(e:Same F F'):∀{p:PV} {v:V},cI K F p v->cI K F' p v
 | .cM,_,h=>by simp only[cI]at h ⊢;exact h
 | .bl _,_,h=>by simp only[cI]at h ⊢;exact h
 | .int _,_,h=>by simp only[cI]at h ⊢;exact h
 | .str _,_,h=>by simp only[cI]at h ⊢;exact h
 | .aJ ps,_,h=>by
  simp only[cI]at h ⊢;obtain⟨a,vs,rfl,hs,hb⟩:=h;exact⟨a,vs,rfl,aQ e hs,aP.mono e hb⟩
 | .ay ps,_,h=>by
  simp only[cI]at h ⊢;obtain⟨a,vs,rfl,hs,hb⟩:=h;exact⟨a,vs,rfl,bG e hs,aP.mono e hb⟩
theorem aP.mono(e:Same F F'):∀{ps:List PV} {vs:List V},aP K F ps vs->aP K F' ps vs
 | [],_,h=>by simp only[aP]at h ⊢;exact h
 | p::ps,_,h=>by
  simp only[aP]at h ⊢;obtain⟨v,r,rfl,h1,h2⟩:=h;exact⟨v,r,rfl,cI.mono e h1,aP.mono e h2⟩
end
theorem aP.bO{p:PV}{ps:List PV}{vs:List V}(h:aP K F (p::ps) vs):∃v r,vs=v::r/\cI K F p v/\aP K F ps r:=by
 simpa only[aP]using h
theorem aP.bL{vs:List V}(h:aP K F [] vs):vs=[]:=by simpa only[aP]using h
theorem aP.length:∀{ps:List PV} {vs:List V},aP K F ps vs->ps.length=vs.length
 | [],_,h=>by rw[h.bL];rfl
 | _::_,_,h=>by
  obtain⟨v,r,rfl,_,t⟩:=h.bO;rw[aZ,aZ,aP.length t]
theorem aP.append:∀{ps qs:List PV} {vs ws:List V},aP K F ps vs->aP K F qs ws->aP K F (ps++qs) (vs++ws)
 | [],_,_,_,h,h'=>by rw[h.bL];exact h'
 | _::_,_,_,_,h,h'=>by
  obtain⟨v,r,rfl,hv,t⟩:=h.bO;exact .cons hv (aP.append t h')
theorem aP.get:∀{ps:List PV} {vs:List V} {i:Nat} {p:PV},aP K F ps vs->ps[i]?=some p->∃v,vs[i]?=some v/\cI K F p v
 | [],_,_,_,_,e=>by simp at e
 | _::_,_,0,_,h,e=>by
  obtain⟨v,r,rfl,hv,t⟩:=h.bO;simp at e;subst e;exact⟨v,rfl,hv⟩
 | _::_,_,i+1,p,h,e=>by
  obtain⟨v,r,rfl,hv,t⟩:=h.bO;obtain⟨w,h1,h2⟩:=aP.get (i:=i) (p:=p) t (by simpa using e)
  exact⟨w,by simpa using h1,h2⟩
theorem aP.UL:∀{ps:List PV} {vs:List V} {i:Nat} {v:V},aP K F ps vs->vs[i]?=some v->∃p,ps[i]?=some p/\cI K F p v
 | [],_,_,_,h,e=>by rw[h.bL]at e;simp at e
 | p::_,_,0,_,h,e=>by
  obtain⟨v,r,rfl,hv,t⟩:=h.bO;simp at e;subst e;exact⟨p,rfl,hv⟩
 | _::_,_,i+1,w,h,e=>by
  obtain⟨v,r,rfl,hv,t⟩:=h.bO;obtain⟨p,h1,h2⟩:=aP.UL (i:=i) (v:=w) t (by simpa using e)
  exact⟨p,by simpa using h1,h2⟩
theorem aP.take:∀{ps:List PV} {vs:List V} (n:Nat),aP K F ps vs->aP K F (ps.take n) (vs.take n)
 | _,_,0,_=>by simp only[List.take_zero];exact .nil
 | [],_,_+1,h=>by rw[h.bL];exact .nil
 | _::_,_,n+1,h=>by
  obtain⟨v,r,rfl,hv,t⟩:=h.bO;exact .cons hv (aP.take n t)
theorem aP.drop:∀{ps:List PV} {vs:List V} (n:Nat),aP K F ps vs->aP K F (ps.drop n) (vs.drop n)
 | _,_,0,h=>h
 | [],_,_+1,h=>by rw[h.bL];exact .nil
 | _::_,_,n+1,h=>by
  obtain⟨v,r,rfl,hv,t⟩:=h.bO;exact aP.drop n t
theorem aP.set{p:PV}{v:V}(r:cI K F p v):∀{ps:List PV} {vs:List V} (i:Nat),aP K F ps vs->aP K F (ps.set i p) (vs.set i v)
 | [],_,_,h=>by rw[h.bL];exact .nil
 | _::_,_,0,h=>by
  obtain⟨v,r',rfl,hv,t⟩:=h.bO;exact .cons r t
 | _::_,_,i+1,h=>by
  obtain⟨v,r',rfl,hv,t⟩:=h.bO;exact .cons hv (aP.set r i t)
theorem aP.reverse:∀{ps:List PV} {vs:List V},aP K F ps vs->aP K F ps.reverse vs.reverse
 | [],_,h=>by rw[h.bL];exact .nil
 | _::_,_,h=>by
  obtain⟨v,r',rfl,hv,t⟩:=h.bO;rw[uM,uM];exact(aP.reverse t).append (.cons hv .nil)
theorem aU{ps:List PV}{v:V}:cI K F (.ay ps) v↔∃a vs,v=.ref a/\m8 K F a vs/\aP K F ps vs:=by simp only[cI]
end
inductive Dk where
 | t (kvs:List (List bQ×PV)) | k (kvs:List (bQ×PV)) | l (dQ:List (List PV))
def oA(b:ab)(vs:List V):HO:=.ext λh=>vs.length<=sizeLine/\∃(aN:b6) (n:Nat),Vals vs aN/\h.get? b=some {cls:=.type "list",data:=.seq aN.toArray n}
section
variable (K:ah) (F H:Hp)
def qr:List (List bQ×PV)->List (List bQ×ab×ag)->Prop:=Paired λp q=>p.1=q.1/\gI K F q.2.1 (p.1.map kV)/\∃v,cI K F p.2 v/\RelV v q.2.2
def xV:List (bQ×PV)->List (bQ×V)->Prop:=Paired λp q=>p.1=q.1/\cI K F p.2 q.2
def ig(N:ab->Prop):List (List PV)->List ab->Prop:=Paired λps b=>N b/\∃vs,H b=some (oA b vs)/\aP K F ps vs
def iJ(N:ab->Prop)(a:ab):Dk->Prop
 | .t kvs=>∃xs,H a=some (.dT xs)/\qr K F kvs xs
 | .k kvs=>∃vs,H a=some (.dK vs)/\xV K F kvs vs
 | .l dQ=>∃bs,H a=some (oA a (bs.map .ref))/\(a::bs).Nodup/\ig K F H N dQ bs
end
def qt:Dk->HO->Bool
 | .t _,.dT _=>true
 | .k _,.dK _=>true
 | .l _,.ext _=>true
 | _,_=>false
def Nw(H₀ F:Hp)(b:ab):Prop:=H₀ b=none/\F b=none
section
variable {K:ah} {F F' H H':Hp} {N N':ab->Prop}
theorem qr.mono(e:Same F F'){kvs:List (List bQ×PV)}{xs:List (List bQ×ab×ag)}(h:qr K F kvs xs):qr K F' kvs xs:=Paired.G7 h λ_ _ ⟨h1,h2,v,h3,h4⟩=>⟨h1,aQ e h2,v,h3.mono e,h4⟩
theorem xV.mono(e:Same F F'){kvs:List (bQ×PV)}{xs:List (bQ×V)}(h:xV K F kvs xs):xV K F' kvs xs:=Paired.G7 h λ_ _ ⟨h1,h2⟩=>⟨h1,h2.mono e⟩
theorem iJ.to{a:ab}{m:Dk}(h:iJ K F H N a m)(e:Same F F')(k:∀b o,H b=some o->qt m o=true->b=a\/N b->H' b=some o)(n:∀b o,H b=some o->N b->N' b):iJ K F' H' N' a m:=by
 cases m with
 | t kvs=>obtain⟨xs,h1,h2⟩:=h;exact⟨xs,k _ _ h1 rfl (.inl rfl),h2.mono e⟩
 | k kvs=>obtain⟨xs,h1,h2⟩:=h;exact⟨xs,k _ _ h1 rfl (.inl rfl),h2.mono e⟩
 | l dQ=>obtain⟨bs,h1,h2,h3⟩:=h;exact⟨bs,k _ _ h1 rfl (.inl rfl),h2,Paired.G7 h3 λps b ⟨g1,vs,g2,g3⟩=>⟨n _ _ g2 g1,vs,k _ _ g2 rfl (.inr g1),g3.mono e⟩⟩
theorem iJ.toT{a:ab}{m:Dk}(h:iJ K F H N a m)(hm:∀dQ,m≠.l dQ)(e:Same F F')(k:H' a=H a):iJ K F' H' N' a m:=by
 cases m with
 | t kvs=>obtain⟨xs,h1,h2⟩:=h;exact⟨xs,k.trans h1,h2.mono e⟩
 | k kvs=>obtain⟨xs,h1,h2⟩:=h;exact⟨xs,k.trans h1,h2.mono e⟩
 | l dQ=>exact absurd rfl (hm dQ)
theorem iJ.obj{a:ab}{m:Dk}(h:iJ K F H N a m):∃o,H a=some o/\(∀xs,o≠.ay xs):=by
 cases m with
 | t kvs=>obtain⟨xs,h1,h2⟩:=h;exact⟨_,h1,λ_ z=>nomatch z⟩
 | k kvs=>obtain⟨xs,h1,h2⟩:=h;exact⟨_,h1,λ_ z=>nomatch z⟩
 | l dQ=>obtain⟨bs,h1,h2⟩:=h;exact⟨_,h1,λ_ z=>nomatch z⟩
theorem iJ.mono{a:ab}{m:Dk}(h:iJ K F H N a m)(e:Same F F')(k:Same H H')(n:∀b o,H b=some o->N b->N' b):iJ K F' H' N' a m:=h.to e (λb o q _ _=>k b o q) n
end
inductive Fd where
 | pv (p:PV) | dc (es:List (Str×PV))
inductive Ob where
 | rcd (fs:List (Str×Fd)) | fn (x:Str) | dct (m:Dk)
section
variable (K:ah) (F:Hp)
def EB:List (Str×PV)->List (bQ×V)->Prop
 | [],vs=>vs=[]
 | (k,p)::es,vs=>∃v r,vs=(Sum.inr k,v)::r/\cI K F p v/\EB es r
def LH:Fd->V->Prop
 | .pv p,v=>cI K F p v
 | .dc es,v=>∃d vs,v=.ref d/\F d=some (.dK vs)/\EB K F es vs
def AU:List (Str×Fd)->List (Str×V)->Prop
 | [],vs=>vs=[]
 | (f,d)::es,vs=>∃v r,vs=(f,v)::r/\LH K F d v/\AU es r
def vq:Ob->ab->Prop
 | .rcd fs,a=>∃C dx vs,S5 K C/\(∀f∈fs,nI K C f.1)/\F a=some (.Po C dx vs)/\AU K F fs vs
 | .fn x,a=>W.nsIn K mainGlobals x=some (some (.ref a))
 | .dct m,a=>iJ K F F (λ_=>True) a m
end
section
variable {K:ah} {F F':Hp}
theorem EB.mono(e:Same F F'):∀{es:List (Str×PV)} {vs:List (bQ×V)},EB K F es vs->EB K F' es vs
 | [],_,h=>h
 | (_,_)::_,_,⟨v,r,h1,h2,h3⟩=>⟨v,r,h1,h2.mono e,EB.mono e h3⟩
theorem LH.mono(e:Same F F'):∀{d:Fd} {v:V},LH K F d v->LH K F' d v
 | .pv _,_,h=>cI.mono e h
 | .dc _,_,⟨d,vs,h1,h2,h3⟩=>⟨d,vs,h1,e _ _ h2,h3.mono e⟩
theorem AU.mono(e:Same F F'):∀{es:List (Str×Fd)} {vs:List (Str×V)},AU K F es vs->AU K F' es vs
 | [],_,h=>h
 | (_,_)::_,_,⟨v,r,h1,h2,h3⟩=>⟨v,r,h1,h2.mono e,AU.mono e h3⟩
theorem vq.mono(e:Same F F'):∀{o:Ob} {a:ab},vq K F o a->vq K F' o a
 | .rcd _,_,⟨C,dx,vs,h1,h2,h3,h4⟩=>⟨C,dx,vs,h1,h2,e _ _ h3,h4.mono e⟩
 | .fn _,_,h=>h
 | .dct _,_,h=>iJ.mono h e e λ_ _ _ _=>trivial
end
inductive Ent where
 | un | val (p:PV) | own (ps:List PV) | ex (C:Str) | ob (o:Ob) | cg (m:Dk)
abbrev f9:=Str->List PV->Option Ent
abbrev bF:=List Ent->Option (List PV)
abbrev eI:=PV->List Ent->Option (List Ent)
abbrev fj:=List Ent->Option Bool
abbrev av:=List PV
abbrev aE:=List Ent
abbrev cz:=Option Ent
abbrev bP:=Option PV
structure cB (K:ah) (H₀ aa F:Hp) (ρ:aE) (σ:St) (H:Hp):Prop where
 sub:Same F H
 keep:Same H₀ H
 base:Same aa F
 fresh:∀a o,F a=some o->aa a=some o\/H₀ a=none
 val:∀(i:Nat) (p:PV),ρ[i]?=some (.val p)->∃v,σ[i]?=some (some v)/\cI K F p v
 own:∀(i:Nat) (ps:av),ρ[i]?=some (.own ps)->∃a vs,σ[i]?=some (some (.ref a))/\H a=some (.ay vs)/\H₀ a=none/\F a=none/\aP K F ps vs
 apart:∀(i j:Nat) (ps qs:av) (a:ab),ρ[i]?=some (.own ps)->ρ[j]?=some (.own qs)->σ[i]?=some (some (.ref a))->σ[j]?=some (some (.ref a))->i=j
 obs:∀(i:Nat) (o:Ob),ρ[i]?=some (.ob o)->∃a,σ[i]?=some (some (.ref a))/\vq K F o a
 cg:∀(i:Nat) (m:Dk),ρ[i]?=some (.cg m)->∃a,σ[i]?=some (some (.ref a))/\iJ K F H (Nw H₀ F) a m/\H₀ a=none/\F a=none
 len:ρ.length=σ.length
section
variable {K:ah} {H₀ aa F F' H H':Hp} {ρ:aE} {σ:St}
theorem cB.after(R:cB K H₀ aa F ρ σ H)(h:Same H H')(f:Same F F')(s:Same F' H')(n:∀a o,F' a=some o->F a=some o\/H a=none):cB K H₀ aa F' ρ σ H' where
 sub:=s
 keep:=R.keep.trans h
 base:=R.base.trans f
 fresh:=λa o e=>by
  rcases n a o e with q | q
  ·exact R.fresh a o q
  ·exact .inr (R.keep.free q)
 val:=λi p e=>let ⟨v,h1,h2⟩:=R.val i p e;⟨v,h1,h2.mono f⟩
 own:=λi ps e=>by
  obtain⟨a,vs,h1,h2,h3,h4,h5⟩:=R.own i ps e;refine⟨a,vs,h1,h _ _ h2,h3,?_,h5.mono f⟩;cases q:F' a with
  | none=>rfl
  | some o =>
   rcases n a o q with z | z
   ·rw[h4]at z;cases z
   ·rw[h2]at z;cases z
 apart:=R.apart
 obs:=λi o e=>let ⟨a,h1,h2⟩:=R.obs i o e;⟨a,h1,h2.mono f⟩
 cg:=λi m e=>by
  obtain⟨a,h1,h2,h3,h4⟩:=R.cg i m e;have key:∀b o,H b=some o->F b=none->F' b=none:=λb o e1 e2=>by
   cases q:F' b with
   | none=>rfl
   | some u =>
    rcases n b u q with z | z
    ·rw[e2]at z;cases z
    ·rw[e1]at z;cases z
  obtain⟨ob,h5,_⟩:=h2.obj;exact⟨a,h1,h2.mono f h λb o e1 ⟨e2,e3⟩=>⟨e2,key b o e1 e3⟩,h3,key a ob h5 h4⟩
 len:=R.len
theorem dS{p:ab}{o:HO}(h:H p=none):Same H (upd H p o):=λb u q=>by rw[upd_ne (ne_of_none q h)];exact q
theorem cB.laid(R:cB K H₀ aa F ρ σ H){p:ab}(o:HO)(hp:H p=none):cB K H₀ aa (upd F p o) ρ σ (upd H p o)/\Same F (upd F p o):=by
 have fp:F p=none:=R.sub.free hp;refine⟨R.after (dS hp) (dS fp) (λb u q=>?_) (λb u q=>?_),dS fp⟩
 ·by_cases hb:b=p
  ·subst hb;rw[aC]at q ⊢;exact q
  ·rw[upd_ne hb]at q ⊢;exact R.sub _ _ q
 ·by_cases hb:b=p
  ·subst hb;exact .inr hp
  ·rw[upd_ne hb]at q;exact .inl q
theorem cB.CL(R:cB K H₀ aa F ρ σ H){p:ab}(o:HO)(hp:H p=none):cB K H₀ aa F ρ σ (upd H p o) :=
 R.after (dS hp) (Same.refl F) (R.sub.trans (dS hp)) λ_ _ q=>.inl q
end
abbrev FE:=aE->bP
def tE(K:ah)(H₀ aa:Hp)(f:FE):TE:=λσ H Q=>∃F ρ p,cB K H₀ aa F ρ σ H/\f ρ=some p/\∀v H' F',cB K H₀ aa F' ρ σ H'->Same F F'->cI K F' p v->Q v H'
def tT(K:ah)(H₀ aa:Hp)(f:fj):TT:=λσ H Q=>∃F ρ b,cB K H₀ aa F ρ σ H/\f ρ=some b/\∀H' F',cB K H₀ aa F' ρ σ H'->Same F F'->Q b H'
def tA(K:ah)(H₀ aa:Hp)(f:bF):TA:=λσ H Q=>∃F ρ ps,cB K H₀ aa F ρ σ H/\f ρ=some ps/\∀vs H' F',cB K H₀ aa F' ρ σ H'->Same F F'->aP K F' ps vs->Q vs H'
def tF(K:ah)(H₀ aa:Hp)(f:bF):TE:=λσ H Q=>∃F ρ ps,cB K H₀ aa F ρ σ H/\f ρ=some ps /\
 ∀a vs H1 F',cB K H₀ aa F' ρ σ H1->Same F F'->aP K F' ps vs->H1 a=none->Q (.ref a) (upd H1 a (.ay vs))
theorem _root_.L2.PE.imp{X:Cx}{e:aj}{t t':TE}(h:PE X e t)(hi:∀σ H Q,t' σ H Q->t σ H Q):PE X e t':=λaf s σ H Q I hw=>h af s σ H Q I (hi _ _ _ hw)
theorem _root_.L2.PT.imp{X:Cx}{e:aj}{t t':TT}(h:PT X e t)(hi:∀σ H Q,t' σ H Q->t σ H Q):PT X e t':=λaf s σ H Q I hw=>h af s σ H Q I (hi _ _ _ hw)
theorem _root_.L2.PA.imp{X:Cx}{e:List aj}{t t':TA}(h:PA X e t)(hi:∀σ H Q,t' σ H Q->t σ H Q):PA X e t':=λpos af s σ H Q I hw=>h pos af s σ H Q I (hi _ _ _ hw)
theorem _root_.L2.PS.imp{X:Cx}{st:az}{t t':TS}(h:PS X st t)(hi:∀D σ H,t' D σ H->t D σ H):PS X st t':=λaf s σ H D I hw=>h af s σ H D I (hi _ _ _ hw)
theorem _root_.L2.oQ.imp{X:Cx}{st:List az}{t t':TS}(h:oQ X st t)(hi:∀D σ H,t' D σ H->t D σ H):oQ X st t':=λaf s σ H D I hw=>h af s σ H D I (hi _ _ _ hw)
section
variable {X:Cx} {H₀ aa:Hp} {a b e:aj} {fa fb:FE} {pos:Pos}
def cq(f:bF):FE:=λρ=>(f ρ).map .ay
theorem tN{f:bF}{ρ:aE}{p:PV}(h:cq f ρ=some p):∃ps,f ρ=some ps/\p=.ay ps:=by
 unfold cq at h;cases z:f ρ with
 | none=>rw[z]at h;cases h
 | some ps=>rw[z]at h;cases h;exact⟨ps,rfl,rfl⟩
theorem CM{f:bF}(h:PE X e (tF X.K H₀ aa f)):PE X e (tE X.K H₀ aa (cq f)):=h.imp <| by
 rintro σ H Q ⟨F,ρ,p,R,hf,q⟩
 obtain⟨ps,z,rfl⟩:=tN hf;refine⟨F,ρ,ps,R,z,λa vs H1 F1 R1 s1 b1 hn=>?_⟩
 obtain⟨R2,s2⟩:=R1.laid (.ay vs) hn;exact q _ _ _ R2 (s1.trans s2) (aU.mpr ⟨a,vs,rfl,m8.of aC,b1.mono s2⟩)
def rd(i:Nat):FE:=λρ=>match ρ[i]? with | some (.val p)=>some p | _=>none
theorem tQ(i:Nat){x:Str}{pos:Pos}(h:PE X (.Name x pos) (iS i)):PE X (.Name x pos) (tE X.K H₀ aa (rd i)):=h.imp <| by
 rintro σ H Q ⟨F,ρ,p,R,hf,q⟩
 unfold rd at hf;split at hf
 ·rename_i z;cases hf;obtain⟨v,h1,h2⟩:=R.val i p z;exact⟨v,h1,q v H F R (Same.refl F) h2⟩
 ·cases hf
theorem xW{p:PV}{v:V}(h:PE X e (tC v))(hb:∀F,cI X.K F p v):PE X e (tE X.K H₀ aa λ_=>some p):=h.imp <| by
 rintro σ H Q ⟨F,ρ,p',R,hf,q⟩
 cases hf;exact q v H F R (Same.refl F) (hb F)
theorem Oj{i:Int}{j pos}:PE X (.Constant (.int i) j pos) (tE X.K H₀ aa λ_=>some (.int i)):=xW u9 λ_=>aF.mpr rfl
theorem ZT{i:Bool}{j pos}:PE X (.Constant (.bool i) j pos) (tE X.K H₀ aa λ_=>some (.bl i)):=xW N1 λ_=>bN.mpr rfl
theorem UM{j pos}:PE X (.Constant .none j pos) (tE X.K H₀ aa λ_=>some .cM):=xW PJ λ_=>c8.mpr rfl
theorem UN{i:Str}{j pos}:PE X (.Constant (.str i) j pos) (tE X.K H₀ aa λ_=>some (.str i)):=xW PK λ_=>cj.mpr rfl
def LI(K:ah)(r:R2)(g:PV->PV->bP):Prop:=∀(H₀ aa F:Hp) (ρ:aE) (σ:St) (H:Hp) (pa pb p:PV) (x y:V) (Q:VK),g pa pb=some p->cB K H₀ aa F ρ σ H->cI K F pa x->cI K F pb y ->
 (∀v H' F',cB K H₀ aa F' ρ σ H'->Same F F'->cI K F' p v->Q v H')->r x y H Q
def ak(fa fb:FE)(g:PV->PV->bP):FE:=λρ=>(fa ρ).bind λx=>(fb ρ).bind λy=>g x y
theorem EC{fa fb:FE}{g:PV->PV->bP}{ρ:aE}{p:PV}(h:ak fa fb g ρ=some p):∃x y,fa ρ=some x/\fb ρ=some y/\g x y=some p:=by
 unfold ak at h;cases h1:fa ρ with
 | none=>rw[h1]at h;cases h
 | some x =>
  cases h2:fb ρ with
  | none=>rw[h1,h2]at h;cases h
  | some y=>rw[h1,h2]at h;exact⟨x,y,rfl,rfl,h⟩
theorem pd{K:ah}{r:R2}{g:PV->PV->bP}(hg:LI K r g){σ:St}{H:Hp}{Q:VK}(h:tE K H₀ aa (ak fa fb g) σ H Q):Tb r (tE K H₀ aa fa) (tE K H₀ aa fb) σ H Q:=by
 obtain⟨F,ρ,p,R,hf,q⟩:=h;obtain⟨x,y,h1,h2,h3⟩:=EC hf;exact⟨F,ρ,x,R,h1,λv H1 F1 R1 s1 b1=>⟨F1,ρ,y,R1,h2,λw H2 F2 R2 s2 b2 =>
  hg H₀ aa F2 ρ σ H2 x y p v w Q h3 R2 (b1.mono s2) b2 λu H3 F3 R3 s3 b3=>q u H3 F3 R3 (s1.trans (s2.trans s3)) b3⟩⟩
theorem UO{op:Operator}{r:R2}{g:PV->PV->bP}(ho:OpR X (binaryOp op) r)(hg:LI X.K r g)(ha:PE X a (tE X.K H₀ aa fa))(hb:PE X b (tE X.K H₀ aa fb)) :
  PE X (.BinOp a op b pos) (tE X.K H₀ aa (ak fa fb g)):=(N4 ho ha hb).imp λ_ _ _ h=>pd hg h
theorem UP{op:CmpOp}{r:R2}{g:PV->PV->bP}(ho:OpR X (compareOp op) r)(hg:LI X.K r g)(ha:PE X a (tE X.K H₀ aa fa))(hb:PE X b (tE X.K H₀ aa fb))(hm:behindInMarks op b=false) :
  PE X (.Compare a [op] [b] pos) (tE X.K H₀ aa (ak fa fb g)):=(Lp ho ha hb hm).imp λ_ _ _ h=>pd hg h
def toB(f:FE):fj:=λρ=>(f ρ).bind λp=>match p with | .bl b=>some b | _=>none
theorem toB_some{f:FE}{ρ:aE}{b:Bool}(h:toB f ρ=some b):f ρ=some (.bl b):=by
 unfold toB at h;cases z:f ρ with
 | none=>rw[z]at h;cases h
 | some p =>
  rw[z]at h;cases p<;>first | (cases h;rfl) | cases h
theorem UQ{op:CmpOp}{r:R2}{g:PV->PV->bP}(ho:OpR X (compareOp op) r)(hg:LI X.K r g)(ha:PE X a (tE X.K H₀ aa fa))(hb:PE X b (tE X.K H₀ aa fb))(hm:behindInMarks op b=false) :
  PT X (.Compare a [op] [b] pos) (tT X.K H₀ aa (toB (ak fa fb g))):=(me ho ha hb hm).imp λσ H Q ⟨F,ρ,p,R,hf,q⟩ =>
 pd hg ⟨F,ρ,.bl p,R,toB_some hf,λv H' F' R' s' b'=>⟨p,bN.mp b',q H' F' R' s'⟩⟩
theorem UR{f:FE}(h:PE X e (tE X.K H₀ aa f))(he:∀ip,isTrue e X.env ip=(do let v <-ip;standAt e.pos;holding [v] (truthy v)):=by intro _;rfl):PT X e (tT X.K H₀ aa (toB f)) :=
 (PM h he).imp λσ H Q ⟨F,ρ,p,R,hf,q⟩=>⟨F,ρ,.bl p,R,toB_some hf,λv H' F' R' s' b'=>⟨p,bN.mp b',q H' F' R' s'⟩⟩
def chain(fa fb fc:FE)(g g':PV->PV->bP):FE:=λρ=>(fa ρ).bind λx=>(fb ρ).bind λy=>(g x y).bind λz=>match z with
 | .bl true=>(fc ρ).bind λw=>g' y w
 | .bl false=>some (.bl false)
 | _=>none
end
section
variable {X:Cx} {af:List (ab×Obj)} {σ:St} {H:Hp} {s:aq}
theorem _root_.L2.Inv.qu{a:ab}{xs:List V}(I:Inv X af σ H s)(h:m8 X.K H a xs):∃(aN:b6) (n:Nat),Vals xs aN/\s.heap.get? a=some {cls:=.type "list",data:=.seq aN.toArray n}/\xs.length<=sizeLine:=by
 rcases h with h | ⟨aN,n,e,z,r⟩
 ·obtain⟨z,aN,n,r,e⟩:=h.ok I.hok;exact⟨aN,n,r,e,z⟩
 ·exact⟨aN,n,r,I.wQ a _ e,by rw[r.length];exact z⟩
end
section
variable {X:Cx} {H₀ aa:Hp} {a b c e:aj} {es:List aj} {fa fb fc:FE} {ga gb:fj} {ts:bF} {pos:Pos} {rest:List aj}
def AV(f g:fj):fj:=λρ=>(f ρ).bind λx=>if x=true then g ρ else some false
def Gi(f g:fj):fj:=λρ=>(f ρ).bind λx=>if x=true then some true else g ρ
def kW(f:fj):fj:=λρ=>(f ρ).map λx=>!x
theorem ar{α β:Type}{o:Option α}{f:α->Option β}{b:β}(h:o.bind f=some b):∃a,o=some a/\f a=some b:=by
 cases o with
 | none=>cases h
 | some a=>exact⟨a,rfl,h⟩
theorem _root_.L2.PW.imp{X:Cx}{e:aj}{t t':TT}(h:PW X e t)(hi:∀σ H Q,t' σ H Q->t σ H Q):PW X e t':=λip af s σ H Q I hw=>h ip af s σ H Q I (hi _ _ _ hw)
theorem QF(ha:PT X a (tT X.K H₀ aa ga)):PW X (.BoolOp .And [a] pos) (tT X.K H₀ aa ga):=Lg ha
theorem US(ha:PT X a (tT X.K H₀ aa ga)):PW X (.BoolOp .Or [a] pos) (tT X.K H₀ aa ga):=PN ha
theorem UT(ha:PT X a (tT X.K H₀ aa ga))(hb:PW X (.BoolOp .And (b::rest) pos) (tT X.K H₀ aa gb)):PW X (.BoolOp .And (a::b::rest) pos) (tT X.K H₀ aa (AV ga gb)) :=
 (PQ ha hb).imp <| by
  rintro σ H Q ⟨F,ρ,p,R,hf,q⟩
  obtain⟨x,h1,h2⟩:=ar hf;refine⟨F,ρ,x,R,h1,λH1 F1 R1 s1=>?_⟩
  cases x with
  | true=>exact⟨F1,ρ,p,R1,h2,λH2 F2 R2 s2=>q H2 F2 R2 (s1.trans s2)⟩
  | false =>
   have e:p=false:=(bg h2).symm;subst e;exact q H1 F1 R1 s1
theorem ZU(ha:PT X a (tT X.K H₀ aa ga))(hb:PW X (.BoolOp .Or (b::rest) pos) (tT X.K H₀ aa gb)):PW X (.BoolOp .Or (a::b::rest) pos) (tT X.K H₀ aa (Gi ga gb)) :=
 (T6 ha hb).imp <| by
  rintro σ H Q ⟨F,ρ,p,R,hf,q⟩
  obtain⟨x,h1,h2⟩:=ar hf;refine⟨F,ρ,x,R,h1,λH1 F1 R1 s1=>?_⟩
  cases x with
  | false=>exact⟨F1,ρ,p,R1,h2,λH2 F2 R2 s2=>q H2 F2 R2 (s1.trans s2)⟩
  | true =>
   have e:p=true:=(bg h2).symm;subst e;exact q H1 F1 R1 s1
theorem UU(ha:PT X a (tT X.K H₀ aa ga)):PT X (.UnaryOp .Not a pos) (tT X.K H₀ aa (kW ga)):=(PR ha).imp <| by
 rintro σ H Q ⟨F,ρ,p,R,hf,q⟩
 unfold kW at hf;cases z:ga ρ with
 | none=>rw[z]at hf;cases hf
 | some x=>rw[z]at hf;cases hf;exact⟨F,ρ,x,R,z,λH1 F1 R1 s1=>q H1 F1 R1 s1⟩
def qw(fa fb:FE):FE:=λρ=>(toB fa ρ).bind λx=>if x=true then fb ρ else some (.bl false)
theorem UW(ha:PE X a (tE X.K H₀ aa fa))(hb:PE X (.BoolOp .And (b::rest) pos) (tE X.K H₀ aa fb)):PE X (.BoolOp .And (a::b::rest) pos) (tE X.K H₀ aa (qw fa fb)) :=
 (PX ha hb).imp <| by
  rintro σ H Q ⟨F,ρ,p,R,hf,q⟩
  obtain⟨x,h1,h2⟩:=ar hf;refine⟨F,ρ,_,R,toB_some h1,λv H1 F1 R1 s1 b1=>⟨x,bN.mp b1,?_⟩⟩
  cases x with
  | true=>exact⟨F1,ρ,p,R1,h2,λv H2 F2 R2 s2 b2=>q v H2 F2 R2 (s1.trans s2) b2⟩
  | false =>
   have e:p=.bl false:=(bg h2).symm;subst e;exact q _ H1 F1 R1 s1 (bN.mpr rfl)
def AW(fa:FE):FE:=λρ=>(toB fa ρ).map λx=>.bl (!x)
theorem UX(ha:PE X a (tE X.K H₀ aa fa)):PE X (.UnaryOp .Not a pos) (tE X.K H₀ aa (AW fa)):=(PY ha).imp <| by
 rintro σ H Q ⟨F,ρ,p,R,hf,q⟩
 unfold AW at hf;cases z:toB fa ρ with
 | none=>rw[z]at hf;cases hf
 | some x =>
  rw[z]at hf;cases hf;exact⟨F,ρ,_,R,toB_some z,λv H1 F1 R1 s1 b1=>⟨x,bN.mp b1,q _ H1 F1 R1 s1 (bN.mpr rfl)⟩⟩
def xX(gc:fj)(fa fb:FE):FE:=λρ=>(gc ρ).bind λx=>if x=true then fa ρ else fb ρ
theorem ZV(hc:PT X c (tT X.K H₀ aa ga))(ha:PE X a (tE X.K H₀ aa fa))(hb:PE X b (tE X.K H₀ aa fb)):PE X (.IfExp c a b pos) (tE X.K H₀ aa (xX ga fa fb)) :=
 (G8 hc ha hb).imp <| by
  rintro σ H Q ⟨F,ρ,p,R,hf,q⟩
  obtain⟨x,h1,h2⟩:=ar hf;refine⟨F,ρ,x,R,h1,λH1 F1 R1 s1=>?_⟩
  cases x with
  | true=>exact⟨F1,ρ,p,R1,h2,λv H2 F2 R2 s2 b2=>q v H2 F2 R2 (s1.trans s2) b2⟩
  | false=>exact⟨F1,ρ,p,R1,h2,λv H2 F2 R2 s2 b2=>q v H2 F2 R2 (s1.trans s2) b2⟩
theorem LJ{op vh:CmpOp}{r r':R2}{g g':PV->PV->bP}(ho:OpR X (compareOp op) r)(hg:LI X.K r g)(rN:OpR X (compareOp vh) r')(ZW:LI X.K r' g')(ha:PE X a (tE X.K H₀ aa fa))(hb:PE X b (tE X.K H₀ aa fb))(hc:PE X c (tE X.K H₀ aa fc))
  (hm:lastMarks [op,vh] [b,c]=false:=by with_unfolding_all rfl):PE X (.Compare a [op,vh] [b,c] pos) (tE X.K H₀ aa (chain fa fb fc g g')):=(Hl ho rN ha hb hc hm).imp <| by
 rintro σ H Q ⟨F,ρ,p,R,hf,q⟩
 obtain⟨x,h1,hf⟩:=ar hf;obtain⟨y,h2,hf⟩:=ar hf;obtain⟨z,h3,hf⟩:=ar hf;refine⟨F,ρ,x,R,h1,λv H1 F1 R1 s1 b1=>⟨F1,ρ,y,R1,h2,λw H2 F2 R2 s2 b2=>?_⟩⟩
 refine hg H₀ aa F2 ρ σ H2 x y z v w _ h3 R2 (b1.mono s2) b2 λu H3 F3 R3 s3 b3=>?_
 cases z with
 | bl k =>
  refine⟨k,bN.mp b3,?_⟩;cases k with
  | true =>
   obtain⟨t,h4,h5⟩:=ar hf;refine⟨F3,ρ,t,R3,h4,λo H4 F4 R4 s4 b4=>?_⟩
   exact ZW H₀ aa F4 ρ σ H4 y t p w o _ h5 R4 (b2.mono (s3.trans s4)) b4 λu5 H5 F5 R5 s5 b5=>q u5 H5 F5 R5 (s1.trans (s2.trans (s3.trans (s4.trans s5)))) b5
  | false =>
   have e:p=.bl false:=(bg hf).symm;subst e;exact q _ H3 F3 R3 (s1.trans (s2.trans s3)) (bN.mpr rfl)
 | _=>cases hf
theorem LK{op vh:CmpOp}{r r':R2}{g g':PV->PV->bP}(ho:OpR X (compareOp op) r)(hg:LI X.K r g)(rN:OpR X (compareOp vh) r')(ZW:LI X.K r' g')(ha:PE X a (tE X.K H₀ aa fa))(hb:PE X b (tE X.K H₀ aa fb))(hc:PE X c (tE X.K H₀ aa fc))
  (hm:lastMarks [op,vh] [b,c]=false:=by with_unfolding_all rfl):PT X (.Compare a [op,vh] [b,c] pos) (tT X.K H₀ aa (toB (chain fa fb fc g g'))):=(Hm ho rN ha hb hc hm).imp <| by
 rintro σ H Q ⟨F,ρ,p,R,hf,q⟩
 have hf:=toB_some hf;obtain⟨x,h1,hf⟩:=ar hf;obtain⟨y,h2,hf⟩:=ar hf;obtain⟨z,h3,hf⟩:=ar hf;refine⟨F,ρ,x,R,h1,λv H1 F1 R1 s1 b1=>⟨F1,ρ,y,R1,h2,λw H2 F2 R2 s2 b2=>?_⟩⟩
 refine hg H₀ aa F2 ρ σ H2 x y z v w _ h3 R2 (b1.mono s2) b2 λu H3 F3 R3 s3 b3=>?_
 cases z with
 | bl k =>
  refine⟨k,bN.mp b3,?_⟩;cases k with
  | true =>
   obtain⟨t,h4,h5⟩:=ar hf;refine⟨F3,ρ,t,R3,h4,λo H4 F4 R4 s4 b4=>?_⟩
   exact ZW H₀ aa F4 ρ σ H4 y t (.bl p) w o _ h5 R4 (b2.mono (s3.trans s4)) b4 λu5 H5 F5 R5 s5 b5=>⟨p,bN.mp b5,q H5 F5 R5 (s1.trans (s2.trans (s3.trans (s4.trans s5))))⟩
  | false =>
   have e:PV.bl p=.bl false:=(bg hf).symm;cases e;exact⟨false,rfl,q H3 F3 R3 (s1.trans (s2.trans s3))⟩
 | _=>cases hf
def ao:bF:=λ_=>some []
def ae(f:FE)(g:bF):bF:=λρ=>(f ρ).bind λx=>(g ρ).map λxs=>x::xs
theorem AX{f:FE}{g:bF}{ρ:aE}{ps:av}(h:ae f g ρ=some ps):∃x xs,f ρ=some x/\g ρ=some xs/\ps=x::xs:=by
 obtain⟨x,h1,h2⟩:=ar h;cases z:g ρ with
 | none=>rw[z]at h2;cases h2
 | some xs=>rw[z]at h2;cases h2;exact⟨x,xs,h1,rfl,rfl⟩
theorem tV:PA X [] (tA X.K H₀ aa ao):=gD.imp <| by
 rintro σ H Q ⟨F,ρ,p,R,hf,q⟩
 cases hf;exact q [] H F R (Same.refl F) .nil
theorem nN(ha:PE X e (tE X.K H₀ aa fa))(hr:PA X es (tA X.K H₀ aa ts))(hs:starEach (e::es) X.env=(false,eval e X.env)::starEach es X.env:=by rfl):PA X (e::es) (tA X.K H₀ aa (ae fa ts)) :=
 (cR ha hr hs).imp <| by
  rintro σ H Q ⟨F,ρ,p,R,hf,q⟩
  obtain⟨x,xs,h1,h2,rfl⟩:=AX hf;exact⟨F,ρ,x,R,h1,λv H1 F1 R1 s1 b1=>⟨F1,ρ,xs,R1,h2,λvs H2 F2 R2 s2 b2=>q _ H2 F2 R2 (s1.trans s2) (.cons (b1.mono s2) b2)⟩⟩
def fO:Nat:=100000
theorem d9{n:Nat}(h:n<=fO):n<=sizeLine:=bY h (by decide)
def bM(ts:bF):FE:=λρ=>(ts ρ).bind λps=>if ps.length<=fO then some (.aJ ps)else none
def dG(ts:bF):bF:=λρ=>(ts ρ).bind λps=>if ps.length<=fO then some ps else none
theorem aA{α:Type}{c:Prop} [Decidable c] {x y:α} (h:(if c then some x else none)=some y):c/\x=y:=by
 by_cases hc:c
 ·rw[if_pos hc]at h;exact⟨hc,bg h⟩
 ·rw[if_neg hc]at h;cases h
theorem Ol{x1}(h:PA X es (tA X.K H₀ aa ts)):PE X (.Tuple es x1 pos) (tE X.K H₀ aa (bM ts)):=(Qj h).imp <| by
 rintro σ H Q ⟨F,ρ,p,R,hf,q⟩
 obtain⟨ps,h1,h2⟩:=ar hf;obtain⟨hl,rfl⟩:=aA h2;refine⟨F,ρ,ps,R,h1,λvs H1 F1 R1 s1 b1=>⟨d9 (by rw[<-b1.length];exact hl),λa hn=>?_⟩⟩
 obtain⟨R2,s2⟩:=R1.laid (.aJ vs) hn;exact q _ _ _ R2 (s1.trans s2) (bt.mpr ⟨a,vs,rfl,gI.of aC,b1.mono s2⟩)
theorem CN(h:PA X es (tA X.K H₀ aa ts)):PE X (.List es pos) (tF X.K H₀ aa (dG ts)):=(Ho h).imp <| by
 rintro σ H Q ⟨F,ρ,p,R,hf,q⟩
 obtain⟨ps,h1,h2⟩:=ar hf;obtain⟨hl,rfl⟩:=aA h2;exact⟨F,ρ,ps,R,h1,λvs H1 F1 R1 s1 b1=>⟨d9 (by rw[<-b1.length];exact hl),λa hn=>q a vs H1 F1 R1 s1 b1 hn⟩⟩
end
structure ED (K:ah) (H₀ aa F H:Hp):Prop where
 sub:Same F H
 keep:Same H₀ H
 base:Same aa F
 fresh:∀a o,F a=some o->aa a=some o\/H₀ a=none
theorem cB.post{K:ah}{H₀ aa F H:Hp}{ρ:aE}{σ:St}(R:cB K H₀ aa F ρ σ H):ED K H₀ aa F H:=⟨R.sub,R.keep,R.base,R.fresh⟩
def vt(K:ah)(H₀ aa F:Hp)(Q:VK):Ent->Prop
 | .val p=>∀v F' H',ED K H₀ aa F' H'->Same F F'->cI K F' p v->Q v H'
 | .own ps=>∀a vs F' H',ED K H₀ aa F' H'->Same F F'->H' a=some (.ay vs)->H₀ a=none->F' a=none->aP K F' ps vs->Q (.ref a) H'
 | .cg m=>∀a F' H',ED K H₀ aa F' H'->Same F F'->iJ K F' H' (Nw H₀ F') a m->H₀ a=none->F' a=none->Q (.ref a) H'
 | .un=>False
 | .ex _=>False
 | .ob _=>False
theorem vt.mono{K:ah}{H₀ aa F F1:Hp}{Q:VK}{e:Ent}(h:vt K H₀ aa F Q e)(s:Same F F1):vt K H₀ aa F1 Q e:=by
 cases e with
 | un=>exact h
 | ex C=>exact h
 | ob _=>exact h
 | cg m=>exact λa F' H' R z=>h a F' H' R (s.trans z)
 | val p=>exact λv F' H' R z=>h v F' H' R (s.trans z)
 | own ps=>exact λa vs F' H' R z=>h a vs F' H' R (s.trans z)
def Om(K:ah)(H F:Hp)(Q:VK)(E:XK):Ent->Prop
 | .ex C=>∀cls F' H',ED K H F F' H'->Same F F'->ClsAt K C cls->E cls none H'
 | .val p=>vt K H F F Q (.val p)
 | .own ps=>vt K H F F Q (.own ps)
 | .cg m=>vt K H F F Q (.cg m)
 | .ob _=>False
 | .un=>False
def jK(P:bc)(w:aM):Cg:=λouter H s E e s'=>∃a cls a0 B H',e=.ref a/\s'.os=s.os/\AllBare s'.gens/\Un (zA outer) [] H H' s.heap s'.heap/\m9 P w H' s'.heap/\Same H H'/\E cls none H' /\
 Heap.FlyingW B outer a cls a0 s'.heap/\(∀b o,H' b=some o->∃ob,B.get? b=some ob)/\∀b ob,s.heap.get? b=some ob->H b=none->b∉zA outer->B.get? b=some ob
theorem mi{X:Cx}{P:bc}{w:aM}:AJ (jK P w) X E0:=λ_ _ _ _ _ _ _ ⟨_,_,_,_,_,_,_,_,_,_,_,h,_⟩=>h.elim
def xY(K:ah)(n:Nat)(f:av->cz):Sp:=λvs H Q E=>∃F ps e,Same F H/\aP K F ps vs/\ps.length=n/\f ps=some e/\Om K H F Q E e
section
variable {X:Cx} {H₀ aa:Hp} {e:aj} {es:List aj} {ts:bF} {pos p:Pos} {k n:Nat} {f:ab} {fd:dk} {ps:List Str} {x:Str} {g:av->cz}
def oS:Ent->bP
 | .val p=>some p
 | .own ps=>some (.ay ps)
 | .un=>none
 | .ex _=>none
 | .ob _=>none
 | .cg _=>none
def LL:Ent->Option av
 | .own ps=>some ps
 | _=>none
def aK(g:av->cz)(ts:bF):FE:=λρ=>(ts ρ).bind λas=>(g as).bind oS
def mj(g:av->cz)(ts:bF):bF:=λρ=>(ts ρ).bind λas=>(g as).bind LL
def aW(n:Nat)(g:av->cz):av->cz:=λps=>if ps.length=n then g ps else none
theorem tW{n:Nat}{g:av->cz}{ps:av}{p:Ent}(h:aW n g ps=some p):ps.length=n/\g ps=some p:=by
 unfold aW at h;by_cases hc:ps.length=n
 ·rw[if_pos hc]at h;exact⟨hc,h⟩
 ·rw[if_neg hc]at h;cases h
theorem xZ{K:ah}{H F F' H':Hp}{a:ab}{vs:List V}(P:ED K H F F' H')(ha:H' a=some (.ay vs))(hn:H a=none)(fn:F' a=none) :
  Same F (upd F' a (.ay vs))/\Same F' (upd F' a (.ay vs))/\Same (upd F' a (.ay vs)) H'/\∀b o,upd F' a (.ay vs) b=some o->F b=some o\/H b=none:=by
 refine⟨P.base.trans (dS fn),dS fn,λb o e=>?_,λb o e=>?_⟩
 ·by_cases hb:b=a
  ·subst hb;rw[aC]at e;cases e;exact ha
  ·rw[upd_ne hb]at e;exact P.sub _ _ e
 ·by_cases hb:b=a
  ·subst hb;exact .inr hn
  ·rw[upd_ne hb]at e;exact P.fresh _ _ e
theorem qx{σ:St}{H:Hp}{Q:VK}{E:XK}{K:ah}(h:tE K H₀ aa (aK (aW n g) ts) σ H Q):tu (xY K n g) [] E (tA K H₀ aa ts) σ H Q:=by
 obtain⟨F,ρ,p,R,hf,q⟩:=h;obtain⟨as,h1,h2⟩:=ar hf;obtain⟨en,h2,h4⟩:=ar h2;obtain⟨hl,h3⟩:=tW h2;refine⟨F,ρ,as,R,h1,λvs H1 F1 R1 s1 b1=>?_⟩
 show xY K n g (vs++[]) H1 Q E;rw[fH];refine⟨F1,as,en,R1.sub,b1,hl,h3,?_⟩;cases en with
 | un=>cases h4
 | ex C=>cases h4
 | ob _=>cases h4
 | cg _=>cases h4
 | val p' =>
  cases h4;exact λv F2 H2 P ff b2=>q v H2 F2 (R1.after P.keep P.base P.sub P.fresh) (s1.trans ff) b2
 | own ps =>
  cases h4;intro a UY F2 H2 P ff ha hn fn b2;obtain⟨z1,z2,z3,z4⟩:=xZ P ha hn fn;exact q _ H2 _ (R1.after P.keep z1 z3 z4) (s1.trans z1) (aU.mpr ⟨a,UY,rfl,m8.of aC,b2.mono z2⟩)
def QG(H:Hp)(a:ab):Hp:=λb=>if b=a then none else H b
theorem HE{H:Hp}{a:ab}:QG H a a=none:=by unfold QG;rw[if_pos rfl]
theorem HF{H:Hp}{a b:ab}(h:b≠a):QG H a b=H b:=by unfold QG;rw[if_neg h]
theorem LM{H:Hp}{a:ab}{o:HO}(h:H a=some o):upd (QG H a) a o=H:=by
 funext b
 by_cases hb:b=a
 ·subst hb;rw[aC,h]
 ·rw[upd_ne hb,HF hb]
theorem ya{F H:Hp}{a:ab}(s:Same F H)(hn:F a=none):Same F (QG H a):=λb o e=>by
 have:b≠a:=λz=>by subst z;rw[hn]at e;cases e
 rw[HF this];exact s _ _ e
theorem EE{σ:St}{H:Hp}{Q:VK}{E:XK}{K:ah}(h:tF K H₀ aa (mj (aW n g) ts) σ H Q):tu (xY K n g) [] E (tA K H₀ aa ts) σ H Q:=by
 obtain⟨F,ρ,p,R,hf,q⟩:=h;obtain⟨as,h1,h2⟩:=ar hf;obtain⟨en,h2,h4⟩:=ar h2;obtain⟨hl,h3⟩:=tW h2;refine⟨F,ρ,as,R,h1,λvs H1 F1 R1 s1 b1=>?_⟩
 show xY K n g (vs++[]) H1 Q E;rw[fH];refine⟨F1,as,en,R1.sub,b1,hl,h3,?_⟩;cases en with
 | un=>cases h4
 | ex C=>cases h4
 | ob _=>cases h4
 | cg _=>cases h4
 | val p'=>cases h4
 | own ps =>
  cases h4;intro a UY F2 H2 P ff ha hn fn b2;have:=q a UY (QG H2 a) F2 (R1.after (ya P.keep hn) P.base (ya P.sub fn) P.fresh) (s1.trans ff) b2 HE;rw[LM ha]at this;exact this
theorem QH(F:FnOk X.prog X.w X.K X.mg X.base (jK X.prog X.w) k f fd ps (xY X.K n g))(hr:dR k X.A)(hg:Gl X x)(hm:X.mg x=some (.ref f))(hk:W.keepIn X.K (.ref f)=true)(hb:eL X.K fd ps [])
  (ha:PA X (e::es) (tA X.K H₀ aa ts)) (AK:(x==("__debug__":Str))=false:=by decide) (he:starEach (e::es) X.env=(false,eval e X.env)::starEach es X.env:=by rfl) (mf:(backTo pos (starEach es X.env)).any (·.1)=false:=by rfl) :
  PE X (.Call (.Name x p) (e::es) [] pos) (tE X.K H₀ aa (aK (aW n g) ts)):=(kz F hr hg hm hk hb .nil mi ha AK he mf).imp λ_ _ _ h=>qx h
end
inductive oT where
 | nx (ρ:aE) | rt (p:Ent) | bk (ρ:aE) | ct (ρ:aE) | ex (made:Bool) (C:Str) (ρ:aE)
abbrev FS:=aE->Option oT
def EF(X:Cx)(H₀ aa F:Hp)(C:Str)(ρ:aE):Bool->Prop
 | true=>∀F' cE H' af s h1 a cls vs,cB X.K H₀ aa F' ρ cE H'->Same F F'->Inv X af cE H' s->ClsAt X.K C cls->Heap.MadeExcOf s.heap h1 a cls vs->X.xe (.ref a) {s with heap:=h1}
 | false=>∀cE af H1 s1 e s',Inv X af cE H1 s1->jK X.prog X.w X.stack H1 s1 (λcls _ H2=>ClsAt X.K C cls/\∃F',cB X.K H₀ aa F' ρ cE H2/\Same F F') e s'->X.xe e s'
theorem EF.mono{X:Cx}{H₀ aa F F1:Hp}{C:Str}{ρ:aE}{m:Bool}(h:EF X H₀ aa F C ρ m)(s:Same F F1):EF X H₀ aa F1 C ρ m:=by
 cases m with
 | true=>exact λF' cE H' af s1 h1 a cls vs R z=>h F' cE H' af s1 h1 a cls vs R (s.trans z)
 | false =>
  intro cE af H1 s1 e s' I ⟨a,cls,a0,B,H',h1,h2,h3,h4,h5,h6,⟨c,F',R,z⟩,h8⟩;exact h cE af H1 s1 e s' I ⟨a,cls,a0,B,H',h1,h2,h3,h4,h5,h6,⟨c,F',R,s.trans z⟩,h8⟩
def CO(X:Cx)(H₀ aa F:Hp)(D:jG):oT->Prop
 | .nx ρ=>∀F' cE H',cB X.K H₀ aa F' ρ cE H'->Same F F'->D.nx cE H'
 | .bk ρ=>∀F' cE H',cB X.K H₀ aa F' ρ cE H'->Same F F'->D.bk cE H'
 | .ct ρ=>∀F' cE H',cB X.K H₀ aa F' ρ cE H'->Same F F'->D.ct cE H'
 | .rt p=>vt X.K H₀ aa F D.rt p
 | .ex m C ρ=>EF X H₀ aa F C ρ m
def tS(X:Cx)(H₀ aa:Hp)(f:FS):TS:=λD σ H=>∃F ρ o,cB X.K H₀ aa F ρ σ H/\f ρ=some o/\CO X H₀ aa F D o
theorem CO.mono{X:Cx}{H₀ aa F F1:Hp}{D:jG}{o:oT}(h:CO X H₀ aa F D o)(s:Same F F1):CO X H₀ aa F1 D o:=by
 cases o with
 | nx ρ=>exact λF' cE H' R z=>h F' cE H' R (s.trans z)
 | bk ρ=>exact λF' cE H' R z=>h F' cE H' R (s.trans z)
 | ct ρ=>exact λF' cE H' R z=>h F' cE H' R (s.trans z)
 | rt p=>exact vt.mono h s
 | ex m C ρ=>exact EF.mono h s
section
variable {X:Cx} {H₀ aa:Hp} {a b c e tg iter:aj} {es:List aj} {fe:FE} {gc:fj} {pos:Pos} {st:az} {UZ body:List az} {f g:FS}
def bx(f g:FS):FS:=λρ=>(f ρ).bind λo=>match o with | .nx gq=>g gq | o=>some o
theorem QI:oQ X [] (tS X H₀ aa λρ=>some (.nx ρ)):=Cy.imp <| by
 rintro D σ H ⟨F,ρ,o,R,hf,q⟩
 cases hf;exact q F σ H R (Same.refl F)
theorem LN(h1:PS X st (tS X H₀ aa f))(h2:oQ X UZ (tS X H₀ aa g)):oQ X (st::UZ) (tS X H₀ aa (bx f g)):=(gn h1 h2).imp <| by
 rintro D σ H ⟨F,ρ,o,R,hf,q⟩
 obtain⟨o1,e1,e2⟩:=ar hf;refine⟨F,ρ,o1,R,e1,?_⟩;cases o1 with
 | nx eM=>exact λF1 iU H1 R1 s1=>⟨F1,eM,o,R1,e2,q.mono s1⟩
 | bk eM=>cases e2;exact q
 | ct eM=>cases e2;exact q
 | rt p=>cases e2;exact q
 | ex m C eM=>cases e2;exact q
theorem QJ(h1:PS X st (tS X H₀ aa f)):oQ X [st] (tS X H₀ aa f):=ky h1
def cP(fe:FE):FS:=λρ=>(fe ρ).map λp=>.rt (.val p)
theorem Oo(he:PE X e (tE X.K H₀ aa fe)):PS X (.Return (some e) pos) (tS X H₀ aa (cP fe)):=(vb he).imp <| by
 rintro D σ H ⟨F,ρ,o,R,hf,q⟩
 unfold cP at hf;cases z:fe ρ with
 | none=>rw[z]at hf;cases hf
 | some p =>
  rw[z]at hf;cases hf;exact⟨F,ρ,p,R,z,λv H1 F1 R1 s1 b1=>q v F1 H1 R1.post s1 b1⟩
def oU(i:Nat):FS:=λρ=>match ρ[i]? with
 | some (.own ps)=>some (.rt (.own ps))
 | some (.val p)=>some (.rt (.val p))
 | _=>none
theorem EG(i:Nat){x:Str}{p:Pos}(h:PE X (.Name x p) (iS i)):PS X (.Return (some (.Name x p)) pos) (tS X H₀ aa (oU i)):=(vb h).imp <| by
 rintro D σ H ⟨F,ρ,o,R,hf,q⟩
 unfold oU at hf;split at hf
 ·rename_i ps z;cases hf;obtain⟨a,vs,h1,h2,h3,h4,h5⟩:=R.own i ps z;exact⟨_,h1,q a vs F H R.post (Same.refl F) h2 h3 h4 h5⟩
 ·rename_i p z;cases hf;obtain⟨v,h1,h2⟩:=R.val i p z;exact⟨_,h1,q v F H R.post (Same.refl F) h2⟩
 ·cases hf
theorem QK:PS X (.Return none pos) (tS X H₀ aa λ_=>some (.rt (.val .cM))):=Lh.imp <| by
 rintro D σ H ⟨F,ρ,o,R,hf,q⟩
 cases hf;exact q _ F H R.post (Same.refl F) (c8.mpr rfl)
def ni(gc:fj)(f g:FS):FS:=λρ=>(gc ρ).bind λx=>if x=true then f ρ else g ρ
theorem ZX{p:List az}{r:List az}(hc:PT X c (tT X.K H₀ aa gc))(ha:oQ X p (tS X H₀ aa f))(hb:oQ X r (tS X H₀ aa g)):PS X (.If c p r pos) (tS X H₀ aa (ni gc f g)) :=
 (N2 hc ha hb).imp <| by
  rintro D σ H ⟨F,ρ,o,R,hf,q⟩
  obtain⟨x,h1,h2⟩:=ar hf;refine⟨F,ρ,x,R,h1,λH1 F1 R1 s1=>?_⟩
  cases x with
  | true=>exact⟨F1,ρ,o,R1,h2,q.mono s1⟩
  | false=>exact⟨F1,ρ,o,R1,h2,q.mono s1⟩
def oB(fe:FE):FS:=λρ=>(fe ρ).map λ_=>.nx ρ
theorem QL(he:PE X e (tE X.K H₀ aa fe))(hs:swapsWith e none pos.line X.env=pure false:=by rfl):PS X (.Expr e pos) (tS X H₀ aa (oB fe)):=(gk he hs).imp <| by
 rintro D σ H ⟨F,ρ,o,R,hf,q⟩
 unfold oB at hf;cases z:fe ρ with
 | none=>rw[z]at hf;cases hf
 | some p =>
  rw[z]at hf;cases hf;exact⟨F,ρ,p,R,z,λv H1 F1 R1 s1 b1=>q F1 σ H1 R1 s1⟩
def tG(K:ah)(H₀ aa:Hp)(g:eI):TG:=λv σ H Q=>∃F ρ p gq,cB K H₀ aa F ρ σ H/\cI K F p v/\g p ρ=some gq/\∀cE H' F',cB K H₀ aa F' gq cE H'->Same F F'->Q cE H'
def aD(i:Nat)(p:PV)(ρ:aE):Option aE:=if i<ρ.length then some (ρ.set i (.val p))else none
theorem cB.set{K:ah}{F H:Hp}{ρ:aE}{σ:St}(R:cB K H₀ aa F ρ σ H){i:Nat}(hi:i<ρ.length){p:PV}{v:V}(hb:cI K F p v):cB K H₀ aa F (ρ.set i (.val p)) (σ.set i (some v)) H where
 sub:=R.sub
 keep:=R.keep
 base:=R.base
 fresh:=R.fresh
 val:=λj q e=>by
  by_cases h:i=j
  ·subst h;rw[bW hi]at e;cases e;exact⟨v,bW (by rw[<-R.len];exact hi),hb⟩
  ·rw[bj h]at e;rw[bj h];exact R.val j q e
 own:=λj ps e=>by
  by_cases h:i=j
  ·subst h;rw[bW hi]at e;cases e
  ·rw[bj h]at e;rw[bj h];exact R.own j ps e
 apart:=λj k ps qs a h1 h2 h3 h4=>by
  by_cases hj:i=j
  ·subst hj;rw[bW hi]at h1;cases h1
  ·by_cases hk:i=k
   ·subst hk;rw[bW hi]at h2;cases h2
   ·rw[bj hj]at h1 h3;rw[bj hk]at h2 h4;exact R.apart j k ps qs a h1 h2 h3 h4
 obs:=λj ps e=>by
  by_cases h:i=j
  ·subst h;rw[bW hi]at e;cases e
  ·rw[bj h]at e;rw[bj h];exact R.obs j ps e
 cg:=λj ps e=>by
  by_cases h:i=j
  ·subst h;rw[bW hi]at e;cases e
  ·rw[bj h]at e;rw[bj h];exact R.cg j ps e
 len:=by rw[gT,gT];exact R.len
theorem _root_.L2.PG.imp{X:Cx}{e:aj}{t t':TG}(h:PG X e t)(hi:∀v σ H Q,t' v σ H Q->t v σ H Q):PG X e t':=λaf s σ H v u Q I r hw=>h af s σ H v u Q I r (hi _ _ _ _ hw)
theorem _root_.L2.Gh.imp{X:Cx}{e:List aj}{t t':Li}(h:Gh X e t)(hi:∀v σ H Q,t' v σ H Q->t v σ H Q):Gh X e t':=λaf s σ H v u Q I r hw=>h af s σ H v u Q I r (hi _ _ _ _ hw)
theorem QM(i:Nat){x:Str}(h:PG X (.Name x pos) (gName i)):PG X (.Name x pos) (tG X.K H₀ aa (aD i)):=h.imp <| by
 rintro v σ H Q ⟨F,ρ,p,gq,R,hb,hf,q⟩
 obtain⟨hi,rfl⟩:=aA hf;exact q _ _ _ (R.set hi hb) (Same.refl F)
def U0(K:ah)(H₀ aa:Hp)(g:av->aE->Option aE):Li:=λvs σ H Q=>∃F ρ ps gq,cB K H₀ aa F ρ σ H/\aP K F ps vs/\g ps ρ=some gq/\∀cE H' F',cB K H₀ aa F' gq cE H'->Same F F'->Q cE H'
def fP:av->aE->Option aE:=λps ρ=>match ps with | []=>some ρ | _=>none
def b0(g:eI)(r:av->aE->Option aE):av->aE->Option aE:=λps ρ=>match ps with | p::ps=>(g p ρ).bind λgq=>r ps gq | []=>none
theorem QN:Gh X [] (U0 X.K H₀ aa fP):=Lj.imp <| by
 rintro vs σ H Q ⟨F,ρ,ps,gq,R,hb,hf,q⟩
 cases ps with
 | nil=>cases hf;exact⟨hb.bL,q _ _ _ R (Same.refl F)⟩
 | cons _ _=>cases hf
theorem LO{t:eI}{u:av->aE->Option aE}(h1:PG X e (tG X.K H₀ aa t))(h2:Gh X es (U0 X.K H₀ aa u))
  (hs:(assignEach (e::es) X.env).map (·.2)=assign e X.env::(assignEach es X.env).map (·.2):=by rfl):Gh X (e::es) (U0 X.K H₀ aa (b0 t u)):=(Ha h1 h2 hs).imp <| by
 rintro vs σ H Q ⟨F,ρ,ps,gq,R,hb,hf,q⟩
 cases ps with
 | nil=>cases hf
 | cons p ps =>
  obtain⟨v,r,rfl,b1,b2⟩:=hb.bO;obtain⟨eM,e1,e2⟩:=ar hf;exact⟨v,r,rfl,F,ρ,p,eM,R,b1,e1,λiU H1 F1 R1 s1=>⟨F1,eM,ps,gq,R1,b2.mono s1,e2,λzB H2 F2 R2 s2=>q zB H2 F2 R2 (s1.trans s2)⟩⟩
def gE(n:Nat)(t:av->aE->Option aE):eI:=λp ρ=>match p with | .aJ ps=>if ps.length=n then t ps ρ else none | _=>none
theorem U1{k:Nat}{t:av->aE->Option aE}{n:Nat}(hc:X.calm=true)(h:Gh X es (U0 X.K H₀ aa t))
  (hn:(assignEach es X.env).length=n:=by rfl) (vc:(assignEach es X.env).findIdx? (·.1)=none:=by rfl):PG X (.Tuple es k pos) (tG X.K H₀ aa (gE n t)):=(P5 hc h hn vc).imp <| by
 rintro v σ H Q ⟨F,ρ,p,gq,R,hb,hf,q⟩
 cases p with
 | aJ ps =>
  have hf:(if ps.length=n then t ps ρ else none)=some gq:=hf
  by_cases hl:ps.length=n
  ·rw[if_pos hl]at hf;obtain⟨a,vs,rfl,hs,yb⟩:=bt.mp hb;exact⟨a,vs,rfl,aQ R.sub hs,by rw[<-yb.length];exact hl,F,ρ,ps,gq,R,yb,hf,q⟩
  ·rw[if_neg hl]at hf;cases hf
 | _=>cases hf
def b7(fe:FE)(g:eI):FS:=λρ=>(fe ρ).bind λp=>(g p ρ).map .nx
theorem CP{fe:FE}{g:eI}{D:jG}{σ:St}{H:Hp}(h:tS X H₀ aa (b7 fe g) D σ H):lF (tE X.K H₀ aa fe) (tG X.K H₀ aa g) D σ H:=by
 obtain⟨F,ρ,o,R,hf,q⟩:=h;obtain⟨p,h1,h2⟩:=ar hf;cases z:g p ρ with
 | none=>rw[z]at h2;cases h2
 | some gq =>
  rw[z]at h2;cases h2;exact⟨F,ρ,p,R,h1,λv H1 F1 R1 s1 b1=>⟨F1,ρ,p,gq,R1,b1,z,λzB H2 F2 R2 s2=>q F2 zB H2 R2 (s1.trans s2)⟩⟩
theorem U2{g:eI}(he:PE X e (tE X.K H₀ aa fe))(hg:PG X tg (tG X.K H₀ aa g))(hs:swapsWithSole [tg] e pos.line X.env=pure false:=by rfl)(hw:swappedStores [tg] e X.env=pure none:=by rfl)
  (h1:(assignEach [tg] X.env).map (·.2)=[assign tg X.env]:=by rfl):PS X (.Assign [tg] e pos) (tS X H₀ aa (b7 fe g)):=(P6 he hg hs hw h1).imp λ_ _ _ h=>CP h
theorem Oq(i:Nat){x:Str}{gp:Pos}(h:PS X (.Assign [.Name x gp] e pos) (lF (tE X.K H₀ aa fe) (gName i))):PS X (.Assign [.Name x gp] e pos) (tS X H₀ aa (b7 fe (aD i))):=h.imp λD σ H h=>by
 obtain⟨F,ρ,p,R,h1,q⟩:=CP h;exact⟨F,ρ,p,R,h1,λv H1 F1 R1 s1 b1=>by
  obtain⟨F',gq,p',adp,R',b',hf,q'⟩:=q v H1 F1 R1 s1 b1;obtain⟨hi,rfl⟩:=aA hf;exact q' _ _ _ (R'.set hi b') (Same.refl F')⟩
def HG(K:ah)(J:It)(F:Hp)(ps:av):Prop:=∀(H₀ aa F':Hp) (ρ:aE) (σ:St) (H:Hp),cB K H₀ aa F' ρ σ H->Same F F'->∀i:Nat,
 (∀p,ps[i]?=some p->J.go i H/\∀x H',J.yld i H x H'->∃ZY,cB K H₀ aa ZY ρ σ H'/\Same F' ZY/\cI K ZY p x)/\(ps[i]?=none->J.stop i H)
def tI(K:ah)(H₀ aa:Hp)(fi:bF):TI:=λσ H R=>∃F ρ ps,cB K H₀ aa F ρ σ H/\fi ρ=some ps/\∀J H' F',cB K H₀ aa F' ρ σ H'->Same F F'->HG K J F' ps->R J H'
theorem _root_.L2.PI.imp{X:Cx}{tg e:aj}{t t':TI}(h:PI X tg e t)(hi:∀σ H Q,t' σ H Q->t σ H Q):PI X tg e t':=λaf s σ H R I hw=>h af s σ H R I (hi _ _ _ hw)
def fG(set:eI)(body:FS):av->aE->Option oT
 | [],ρ=>some (.nx ρ)
 | p::ps,ρ=>(set p ρ).bind λeM=>(body eM).bind λo=>match o with
  | .nx pe=>fG set body ps pe
  | .ct pe=>fG set body ps pe
  | .bk pe=>some (.nx pe)
  | .rt p=>some (.rt p)
  | .ex m C pe=>some (.ex m C pe)
def gV(fi:bF)(set:eI)(body:FS):FS:=λρ=>(fi ρ).bind λps=>fG set body ps ρ
theorem U3{fi:bF}{g:eI}{fb:FS}(hp:PassesOwn (model X.prog X.w) X.A X.env X.xe)(hc:X.calm=true)(hi:PI X tg iter (tI X.K H₀ aa fi))(hg:PG X tg (tG X.K H₀ aa g))(hb:oQ X body (tS X H₀ aa fb))
  (hs:∀x,foldedSetIterable iter X.env x=pure x:=by intro _;rfl):PS X (.For tg iter body [] pos) (tS X H₀ aa (gV fi g fb)):=(Hf hp hc hi hg hb hs).imp <| by
 rintro D σ H ⟨F,ρ,o,R,hf,q⟩
 obtain⟨ps,h1,h2⟩:=ar hf;refine⟨F,ρ,ps,R,h1,λJ H1 F1 R1 s1 wk=>?_⟩
 refine⟨λi m cE H'=>m=ps.length-i/\i<=ps.length/\∃F' gq,cB X.K H₀ aa F' gq cE H'/\Same F1 F'/\fG g fb (ps.drop i) gq=some o,⟨ps.length,by simp,dY _,F1,ρ,R1,Same.refl _,h2⟩,?_⟩
 rintro i m cE H' ⟨rfl,hi,F',gq,R',s',hr⟩
 obtain⟨wg,U4⟩:=wk H₀ aa F' gq cE H' R' s' i;by_cases dU:i<ps.length
 ·have hd:ps.drop i=ps[i]::ps.drop (i+1):=List.drop_eq_getElem_cons dU;obtain⟨go,wy⟩:=wg ps[i] (cx dU);rw[hd]at hr;obtain⟨eM,e1,hr⟩:=ar hr;obtain⟨o1,e2,hr⟩:=ar hr;refine .inr ⟨go,λzB H2=>∃F2 pe,cB X.K H₀ aa F2 pe zB H2/\Same F1 F2/\fG g fb (ps.drop (i+1)) pe=some o,λzB H2 n2=>⟨ps.length-(i+1),by lia,rfl,dU,n2⟩,λx H2 y=>?_⟩
  obtain⟨F2,R2,s2,b2⟩:=wy x H2 y;refine⟨F2,gq,ps[i],eM,R2,b2,e1,λo8 H3 F3 R3 s3=>⟨F3,eM,o1,R3,e2,?_⟩⟩
  have up:Same F1 F3:=s'.trans (s2.trans s3);cases o1 with
  | nx pe=>exact λF4 LP H4 R4 s4=>⟨F4,pe,R4,up.trans s4,hr⟩
  | ct pe=>exact λF4 LP H4 R4 s4=>⟨F4,pe,R4,up.trans s4,hr⟩
  | bk pe =>
   cases hr;exact λF4 LP H4 R4 s4=>q F4 LP H4 R4 (s1.trans (up.trans s4))
  | rt p =>
   cases hr;exact vt.mono q (s1.trans up)
  | ex m C pe =>
   cases hr;exact EF.mono q (s1.trans up)
 ·have e:i=ps.length:=by lia
  subst e;rw[Ah]at hr;cases hr;exact .inl ⟨U4 (jf (aR _)),q F' cE H' R' (s1.trans s')⟩
theorem EH{K:ah}{F:Hp}{a:ab}{vs:List V}{ps:av}(hs:kQ K F a vs)(hb:aP K F ps vs):HG K (S9 K a) F ps:=by
 intro H₀ aa F' ρ σ H R s i;have hq:kQ K H a vs:=(s.trans R.sub).seq hs;refine⟨λp e=>?_,λe=>?_⟩
 ·obtain⟨v,e1,b1⟩:=hb.get e;refine⟨⟨vs,v,hq,e1⟩,λx H' ⟨hH,y⟩=>?_⟩
  subst hH;have:=y vs hq;rw[e1]at this;cases this;exact⟨F',R,Same.refl _,b1.mono s⟩
 ·refine⟨vs,hq,?_⟩;rw[<-hb.length];exact pK.mp e
theorem HH{K:ah}{F:Hp}{a:ab}{vs:List V}{ps:av}(hs:gI K F a vs)(hb:aP K F ps vs):HG K (Zr K a) F ps:=by
 intro H₀ aa F' ρ σ H R s i;have hq:gI K H a vs:=aQ (s.trans R.sub) hs;refine⟨λp e=>?_,λe=>?_⟩
 ·obtain⟨v,e1,b1⟩:=hb.get e;refine⟨⟨vs,v,hq,e1⟩,λx H' ⟨hH,y⟩=>?_⟩
  subst hH;have:=y vs hq;rw[e1]at this;cases this;exact⟨F',R,Same.refl _,b1.mono s⟩
 ·refine⟨vs,hq,?_⟩;rw[<-hb.length];exact pK.mp e
theorem qy{K:ah}{F:Hp}(lo:Int)(n:Nat):HG K (Uc lo n) F ((List.range n).map fun(i:Nat)=>.int (lo+i)):=by
 intro H₀ aa F' ρ σ H R s i;refine⟨λp e=>?_,λe=>?_⟩
 ·rw[bU]at e;by_cases hi:i<n
  ·rw[jQ hi]at e;cases e;exact⟨hi,λx H' ⟨hH,y⟩=>by subst hH y;exact⟨F',R,Same.refl _,aF.mpr rfl⟩⟩
  ·rw[jf (by simpa using hi)]at e;cases e
 ·rw[bU]at e;by_cases hi:i<n
  ·rw[jQ hi]at e;cases e
  ·exact Ak hi
def dH(fe:FE):bF:=λρ=>(fe ρ).bind λp=>match p with | .aJ ps=>some ps | .ay ps=>some ps | _=>none
theorem CQ(he:PE X e (tE X.K H₀ aa fe)):PI X tg e (tI X.K H₀ aa (dH fe)):=by
 intro af s σ H R I h;obtain⟨F,ρ,ps,Rp,hf,q⟩:=h;obtain⟨p,h1,h2⟩:=ar hf;cases p with
 | aJ qs =>
  cases h2;refine P8 he af s σ H R I ⟨F,ρ,_,Rp,h1,λv H1 F1 R1 s1 b1=>?_⟩
  obtain⟨a,vs,rfl,hs,hb⟩:=bt.mp b1;exact⟨a,rfl,⟨vs,aQ R1.sub hs⟩,q _ H1 F1 R1 s1 (HH hs hb)⟩
 | ay qs =>
  cases h2;refine CA he af s σ H R I ⟨F,ρ,_,Rp,h1,λv H1 F1 R1 s1 b1=>?_⟩
  obtain⟨a,vs,rfl,hs,hb⟩:=aU.mp b1;exact⟨a,rfl,⟨vs,(bG R1.sub hs).sq⟩,q _ H1 F1 R1 s1 (EH hs.sq hb)⟩
 | _=>cases h2
def fQ(ts:bF):bF:=λρ=>(ts ρ).bind λps=>match ps with | [.int j]=>if -(2^62)<=j/\j<2^62 then some ((List.range j.toNat).map fun(i:Nat)=>.int (0+i))else none | _=>none
theorem LQ{p:Pos}{ts:bF}(hg:Gl X "range")(hm:X.mg "range"=none)(ha:PA X [a] (tA X.K H₀ aa ts))(hs:starEach [a] X.env=[(false,eval a X.env)]:=by rfl):PI X tg (.Call (.Name "range" p) [a] [] pos) (tI X.K H₀ aa (fQ ts)) :=
 (Es hg hm ha hs).imp <| by
  rintro σ H Rr ⟨F,ρ,ps,R,hf,q⟩
  obtain⟨as,h1,h2⟩:=ar hf;refine⟨F,ρ,as,R,h1,λvs H1 F1 R1 s1 b1=>?_⟩
  match as,h2 with
  | [.int j],h2 =>
   obtain⟨hj,rfl⟩:=aA h2;obtain⟨v,r,rfl,bv,br⟩:=b1.bO;rw[br.bL,aF.mp bv];exact⟨j,rfl,hj.1,hj.2,q _ H1 F1 R1 s1 (qy 0 j.toNat)⟩
end
section
variable {prog:bc} {w:aM} {A:bD} {R:Result->aq->Prop} {s:aq}
abbrev nb(prog:bc)(w:aM)(A:bD)(env:Env)(R:Result->aq->Prop):cf:=notedBy (model prog w) A env λe s'=>R (.error e) s'
abbrev CS(ifs:List aj)(env:Env):Sem Bool:=forIn ifs true λc r=>if r=true then do let ok <-isTrue c env (eval c env);pure (ForInStep.yield ok)else pure (ForInStep.yield r)
theorem EI{elt tg iter:aj}{ifs:List aj}{scope:Scope}{pos:Pos}{it acc:ag}{env:Env}(I:Nat->aq->Prop)
  (AA:∀n s,I n s->wpAny (model prog w) A (pyNext it) (λr s1=>match r with
   | none=>R (.ok .next) s1
   | some v=>wpAny (model prog w) A (letOwnedTupleGo tg it v) (λ_ Td=>wpAny (model prog w) A (assign tg env v) (λ_ s2=>wpAny (model prog w) A (CS ifs env) (λok s3 =>
      if ok=true then wpAny (model prog w) A (eval elt env) (λx s4=>wpAny (model prog w) A (call (.builtin "list.append") [acc,x]) (λ_ s5=>∃m,m<n/\I m s5) (nb prog w A env R) s4) (nb prog w A env R) s3
      else ∃m,m<n/\I m s3) (nb prog w A env R) s2) (nb prog w A env R) Td) (nb prog w A env R) s1) (nb prog w A env R) s)
  (n:Nat) (h:I n s):codeAny (model prog w) A (.compLoop (.ListComp elt [⟨tg,iter,ifs,0⟩] scope pos) 0 it acc env) R s:=by
 refine codeAny_loop rfl I (λn s hI=>?_) n h
 show wpAny _ A ((compTurn (.ListComp elt [⟨tg,iter,ifs,0⟩] scope pos) 0 it acc env).onRaise (λx=>do noteFrame x env;theTreesLotGoes x)) _ _ s
 refine wpAny_noted ?_;rw[compTurn_list];refine ai (wpAny_standAt (ai (thn (AA n s hI) λr s1 h1=>?_)))
 cases r with
 | none=>exact aw h1
 | some v =>
  refine ai (thn h1 λ_ Td U5=>ai (thn U5 λ_ s2 h2=>ai (thn h2 λok s3 h3=>?_)))
  cases ok with
  | false=>exact aw ⟨rfl,h3⟩
  | true=>exact ai (ai (thn h3 λx s4 h4=>ai (thn h4 λ_ s5 h5=>aw (aw ⟨rfl,h5⟩))))
end
def jI(env:Env):List (Str×NameKind)->List (Str×ab)->List (Str×ab)
 | [],cs=>cs
 | (n,k)::r,cs=>jI env r (if k==.free then(match env.cells.lookup n with | some c=>(n,c)::cs | none=>cs)else cs)
theorem qz{env:Env}{scope:Scope}(h:∀y∈scope.names,y.2=.free->∃c,env.cells.lookup y.1=some c):closureFor scope env=pure (jI env scope.names []):=by
 have all:∀(l:List (Str×NameKind)) (cs:List (Str×ab)),(∀y∈l,y.2=.free->∃c,env.cells.lookup y.1=some c) ->
   (forIn l cs λx r=>(match x with | (name,kind)=>if(kind==NameKind.free)=true then do let a <-cellOf env name;pure (ForInStep.yield ((name,a)::r))else pure (ForInStep.yield r):Sem (ForInStep (List (Str×ab)))))=pure (jI env l cs):=by
  intro l;induction l with
  | nil=>intro cs _;rfl
  | cons y l ih =>
   intro cs hl;obtain⟨n,k⟩:=y;rw[List.forIn_cons];by_cases hk:k=.free
   ·subst hk;obtain⟨c,hc⟩:=hl (n,.free) bz rfl;have Cv:env.cells.lookup n=some c:=hc;have e1:cellOf env n=pure c:=by unfold cellOf;rw[Cv]
    simp only[pS,eH,e1,pure_bind,jI,Cv];exact ih _ λy hy=>hl y (bE _ hy)
   ·have hb:(k==NameKind.free)=false:=by simpa using hk
    simp only[hb,d8,du,pure_bind,jI];exact ih _ λy hy=>hl y (bE _ hy)
 unfold closureFor;have:=all scope.names [] h;simp only[bind_pure]at this ⊢;exact this
theorem yc{env:Env}:∀(l:List (Str×NameKind)) (cs:List (Str×ab)) (p:Str×ab),p∈jI env l cs->p∈cs\/env.cells.lookup p.1=some p.2
 | [],_,_,h=>.inl h
 | (n,k)::r,cs,p,h=>by
  unfold jI at h;rcases yc r _ p h with q | q
  ·split at q
   ·split at q
    ·rename_i c hc;rcases aX.mp q with z | z
     ·subst z;exact .inr hc
     ·exact .inl z
    ·exact .inl q
   ·exact .inl q
  ·exact .inr q
theorem cD{env:Env}{l:List (Str×NameKind)}{x:Str}{c:ab}(h:(jI env l []).lookup x=some c):env.cells.lookup x=some c:=by
 rcases yc l [] (x,c) (dJ h)with q | q
 ·cases q
 ·exact q
theorem tX{env:Env}{x:Str}:∀(l:List (Str×NameKind)) (cs:List (Str×ab)),(∃c,(x,c)∈cs)->∃c,(x,c)∈jI env l cs
 | [],_,h=>h
 | (n,k)::r,cs,⟨c,h⟩=>by
  unfold jI;refine tX r _ ⟨c,?_⟩;split
  ·split
   ·exact bE _ h
   ·exact h
  ·exact h
theorem j3{env:Env}{x:Str}:∀(l:List (Str×NameKind)) (cs:List (Str×ab)),(x,NameKind.free)∈l->(∃c,env.cells.lookup x=some c)->∃c,(x,c)∈jI env l cs
 | [],_,h,_=>by cases h
 | (n,k)::r,cs,h,hc=>by
  unfold jI;rcases aX.mp h with z | z
  ·cases z;obtain⟨c,e⟩:=hc;refine tX r _ ⟨c,?_⟩;simp[e]
  ·exact j3 r _ z hc
theorem iK{x:Str}{c:ab}:∀{l:List (Str×ab)},(x,c)∈l->∃c',l.lookup x=some c'
 | [],h=>by cases h
 | (n,d)::r,h=>by
  rw[iE];cases hx:x==n with
  | true=>exact⟨d,rfl⟩
  | false =>
   rcases aX.mp h with z | z
   ·cases z;simp at hx
   ·exact iK z
def cG(X:Cx)(N:List Str)(scope:Scope)(C:ab)(s:aq)(H:Hp)(fp:List ab):Cx where
 prog:=X.prog
 w:=X.w
 K:=X.K
 mg:=X.mg
 base:=X.base
 A:=X.A
 N:=N
 s₀:=s
 H₀:=H
 env:=compEnvC scope (jI X.env scope.names []) C X.env
 outer:=X.stack
 stack:=X.stack
 ex:=fp
 fn:=λ_=>false
 calm:=X.calm
 pn:=[]
 xe:=λ_ _=>False
theorem gW{env:Env}:∀(names:List (Str×NameKind)) (x:Str),(names.map fun(n,k)=>if(k==NameKind.free&&env.scope.kind==.function&&env.kindOf n==some .cell)then(n,NameKind.cell)else(n,k)).lookup x =
  (names.lookup x).map λk=>if(k==NameKind.free&&env.scope.kind==.function&&env.kindOf x==some .cell)then NameKind.cell else k
 | [],_=>rfl
 | (n,j)::r,x=>by
  have e:(if(j==NameKind.free&&env.scope.kind==.function&&env.kindOf n==some .cell)=true then(n,NameKind.cell)else(n,j))=(n,if(j==NameKind.free&&env.scope.kind==.function&&env.kindOf n==some .cell)=true then NameKind.cell else j):=by split<;>rfl
  show List.lookup x ((if(j==NameKind.free&&env.scope.kind==.function&&env.kindOf n==some .cell)=true then(n,NameKind.cell)else(n,j))::_)=_
  rw[e,iE,iE];cases hx:x==n with
  | true =>
   have Og:x=n:=bq hx;subst Og;rfl
  | false=>exact gW r x
theorem ml{env:Env}{names:List (Str×NameKind)}{x:Str}{k:NameKind}(h:(names.map fun(n,k)=>if(k==NameKind.free&&env.scope.kind==.function&&env.kindOf n==some .cell)then(n,NameKind.cell)else(n,k)).lookup x=some k) :
  names.lookup x=some k\/(k=.cell/\names.lookup x=some .free):=by
 rw[gW]at h;cases z:names.lookup x with
 | none=>rw[z]at h;cases h
 | some j =>
  rw[z]at h;have h:(if(j==NameKind.free&&env.scope.kind==.function&&env.kindOf x==some .cell)=true then NameKind.cell else j)=k:=bg h
  split at h
  ·rename_i hc;simp only[aG]at hc;have hj:j=.free:=bq hc.1.1;exact .inr ⟨h.symm,by rw[hj]⟩
  ·exact .inl (by rw[h])
theorem vv{env:Env}{names:List (Str×NameKind)}{x:Str}(h:names.lookup x=some .free) :
  (names.map fun(n,k)=>if(k==NameKind.free&&env.scope.kind==.function&&env.kindOf n==some .cell)then(n,NameKind.cell)else(n,k)).lookup x=some .cell \/
  (names.map fun(n,k)=>if(k==NameKind.free&&env.scope.kind==.function&&env.kindOf n==some .cell)then(n,NameKind.cell)else(n,k)).lookup x=some .free:=by
 rw[gW,h];show some (if _ then _ else _)=_\/some (if _ then _ else _)=_
 split
 ·exact .inl rfl
 ·exact .inr rfl
structure gf (X:Cx) (N:List Str) (link:List (Option Nat)) (scope:Scope):Prop where
 kind:scope.kind=.function
 cell:∀y∈scope.names,y.2≠.cell
 names:∀y∈scope.names,y.2=.local->scope.names.lookup y.1=some .local
 free:∀y∈scope.names,y.2=.free->(X.env.kindOf y.1=some .cell\/X.env.kindOf y.1=some .free)
 len:link.length=N.length
 link:∀(i j:Nat) (x:Str),link[i]?=some (some j)->N[i]?=some x->X.N[j]?=some x/\scope.names.lookup x=some .free
def inner(link:List (Option Nat))(σ:St):St:=link.map λo=>o.bind λj=>(σ[j]?).join
section
variable {X:Cx} {af:List (ab×Obj)} {σ:St} {H:Hp} {s:aq}
theorem Inv.adopt{D:ab}{o:HO}(I:Inv X af σ H s)(hn:H D=none)(h1:X.s₀.heap.objs.size<=D)(h2:D≠X.env.locals)(h3:∀x c,X.env.cells.lookup x=some c->c≠D)(h4:∀p∈X.pn++af,p.1≠D)
  (ho:dE X.prog X.w (upd H D o) s.heap D o):Inv X af σ (upd H D o) s:=by
 have ne:∀b u,H b=some u->b≠D:=λb u e z=>by rw[z,hn]at e;cases e
 refine I.step (h':=s.heap) (g':=s.gens) (t':=s.toks) (d':=s.drawn) (ch:=[D]) (λb hb=>?_) (λb u _ _ _ e _=>e) (λb u _ _ _ e _=>⟨u.slots,e⟩) (λb u hc _ n=>?_) (λb u _ e=>⟨u,e⟩)
  (λb xs e=>by rw[upd_ne (ne b _ e)];exact e) (λb u xs e=>by rw[upd_ne (ne b _ e)];exact e) (λb ps e=>by rw[upd_ne (ne b _ e)];exact e) (λm hm=>hm) (λb u e=>?_) I.bare
 ·have e:b=D:=by simpa using hb
  subst e;exact⟨.inr h1,h2,h3,h4⟩
 ·rw[upd_ne (λz=>hc (by simp[z]))];exact n
 ·by_cases hb:b=D
  ·subst hb;rw[aC]at e;cases e;exact ho
  ·rw[upd_ne hb]at e;exact(I.hok b u e).xD (λ_ _ _ q=>q) (λc q=>by rw[upd_ne (ne c _ q)];exact q) (λc xs q=>by rw[upd_ne (ne c _ q)];exact q) λc ob v q=>by rw[upd_ne (ne c _ q)];exact q
theorem AY{N:List Str}{link:List (Option Nat)}{scope:Scope}{fp:List ab}{C:ab}{h:Heap}{tk:Nat}(S:gf X N link scope)(I:Inv X af σ H s)(Xy:∀b∈fp,vg X af H b)
  (hC:s.heap.objs.size<=C) (ns:h.Ns C λ_=>none) (hk:∀b o,s.heap.get? b=some o->h.get? b=some o) (ZZ:∀b∈fp,∃o,s.heap.get? b=some o) :
  Inv (cG X N scope C s H fp) [] (inner link σ) H {s with heap:=h,toks:=tk}:=by
 have qf:∀y∈scope.names,y.2=.free->∃c,X.env.cells.lookup y.1=some c:=λy hy hf=>I.ok.has y.1 (S.free y hy hf)
 have Z0:∀x c,X.env.cells.lookup x=some c->c<s.heap.objs.size:=λx c e=>let ⟨v,o,ho,_⟩:=I.cell x c e;bA ho
 refine⟨⟨I.ok.mod,S.kind,I.ok.glob,I.ok.blt,hC,λx y c h1 h2=>I.ok.inj x y c (cD h1) (cD h2),λx hx=>?_,λx c hx=>(by cases hx),I.ok.hd,I.ok.frames,.inl rfl,λb hb=>⟨?_,λx c e=>(Xy b hb).2.2.2.2.1 x c (cD e)⟩,I.bs,bY I.ok.bsz I.sz,
  λb o e hb=>?_,λb hb z=>?_,I.stack,I.Ct,I.tabs⟩,rfl,I.bare,Un.kept hk,⟨_,ns,λi x v e1 e2 e3=>?_⟩,λx c e=>?_,I.hok.fresh hC,λx c e=>I.freeC x c (cD e),λp hp=>(by cases hp),I.hok.kept hk,by unfold inner;rw[aB];exact S.len⟩
 ·-- NX cells are there
  have Og:(scope.names.map fun(n,k)=>if(k==NameKind.free&&X.env.scope.kind==.function&&X.env.kindOf n==some .cell)then(n,NameKind.cell)else(n,k)).lookup x=some .cell\/(scope.names.map fun(n,k)=>if(k==NameKind.free&&X.env.scope.kind==.function&&X.env.kindOf n==some .cell)then(n,NameKind.cell)else(n,k)).lookup x=some .free:=hx
  have hf:scope.names.lookup x=some .free:=by
   rcases Og with h1 | h1
   ·rcases ml h1 with q | ⟨_,q⟩
    ·exact absurd rfl (S.cell _ (dJ q))
    ·exact q
   ·rcases ml h1 with q | ⟨z,_⟩
    ·exact q
    ·cases z
  have hm:=dJ hf;obtain⟨c,hc⟩:=j3 scope.names [] hm (qf _ hm rfl);exact iK hc
 ·intro z;obtain⟨o,ho⟩:=ZZ b hb;exact absurd (cy (bA ho) (bY hC (nG z.symm))) (gU _)
 ·rcases(Xy b hb).2.2.2.1 with z | z
  ·exact I.ok.noex b o e z
  ·exact absurd (cy (bA e) (bY I.ok.bsz z)) (gU _)
 ·rcases aX.mp (I.Az b z)with q | q
  ·exact(Xy b hb).2.1 q
  ·exact(Xy b hb).2.2.1 q
 ·-- a slot: abV adq from NX Z1
  have hi:i<link.length:=by
   have:=(cL.mp e2).1;unfold inner at this
   rwa [aB]at this
  unfold inner at e2;rw[bU,cx hi]at e2;have e2:(link[i].bind λj=>(σ[j]?).join)=some v:=bg e2
  cases z:link[i]with
  | none=>rw[z]at e2;cases e2
  | some j =>
   rw[z]at e2;have e2:(σ[j]?).join=some v:=e2;have e4:σ[j]?=some (some v):=by
    cases q:σ[j]? with
    | none=>rw[q]at e2;cases e2
    | some q'=>rw[q]at e2;cases q' with
     | none=>cases e2
     | some v'=>cases e2;rfl
   obtain⟨hX,hf⟩:=S.link i j x (by rw[cx hi,z]) e1
   have hm:=dJ hf;have Xz:=S.free _ hm rfl;obtain⟨m,hn,hl⟩:=I.loc;obtain⟨u,r,l⟩:=hl j x v hX e4 (by rcases Xz with q | q;exact .inr (.inl q);exact .inr (.inr q))
   refine⟨u,r,.inr ⟨vv hf,?_⟩⟩;obtain⟨c,hc⟩:=j3 (env:=X.env) scope.names [] hm (qf _ hm rfl);obtain⟨c',Cv⟩:=iK hc;refine⟨c',Cv,?_⟩;rcases l with⟨lk,_⟩ | ⟨_,d,hd,jY⟩
   ·rcases Xz with q | q<;>(rw[show X.env.kindOf x=some .local from lk]at q;cases q)
   ·have:=cD Cv;rw[hd]at this;cases this;exact jY.keeps hk
 ·obtain⟨v,o,ho,hd⟩:=I.cell x c (cD e);exact⟨v,o,hk _ _ ho,hd⟩
end
abbrev TB:=V->St->Hp->(Option V->St->Hp->Prop)->Prop
def PB(X:Cx)(tg:aj)(ifs:List aj)(elt:aj)(tb:TB):Prop :=
 ∀(af:List (ab×Obj)) (s:aq) (σ:St) (H:Hp) (v:V) (u:ag) (Q:Option V->St->Hp->Prop),Inv X af σ H s->RelV v u->tb v σ H Q ->
  wpAny (model X.prog X.w) X.A (assign tg X.env u) (λ_ s2=>wpAny (model X.prog X.w) X.A (CS ifs X.env) (λok s3 =>
   if ok=true then wpAny (model X.prog X.w) X.A (eval elt X.env) (λy s4=>∃v' cE H',Inv X af cE H' s4/\RelV v' y/\Q (some v') cE H') X.xe s3
   else ∃cE H',Inv X af cE H' s3/\Q none cE H') X.xe s2) X.xe s
theorem qA{X:Cx}{tg elt:aj}{g:TG}{te:TE}(hg:PG X tg g)(he:PE X elt te):PB X tg [] elt (λv σ H Q=>g v σ H λiU H1=>te iU H1 λy H2=>Q (some y) iU H2):=by
 intro af s σ H v u Q I r h;refine thn (hg af s σ H v u _ I r h) λ_ s2 ⟨iU,H1,I1,q1⟩=>aw ?_
 rw[if_pos rfl];exact thn (he af s2 iU H1 _ I1 q1) λy s4 ⟨v',H2,I2,r2,q2⟩=>⟨v',iU,H2,I2,r2,q2⟩
theorem CU{X:Cx}{tg elt c:aj}{g:TG}{te:TE}{tc:TT}(hg:PG X tg g)(hc:PT X c tc)(he:PE X elt te) :
  PB X tg [c] elt (λv σ H Q=>g v σ H λiU H1=>tc iU H1 λb H2=>if b=true then te iU H2 λy H3=>Q (some y) iU H3 else Q none iU H2):=by
 intro af s σ H v u Q I r h;refine thn (hg af s σ H v u _ I r h) λ_ s2 ⟨iU,H1,I1,q1⟩=>?_
 refine wpAny_tests_one (thn (hc af s2 iU H1 _ I1 q1) λb s3 ⟨H2,I2,q2⟩=>?_)
 cases b with
 | true =>
  rw[if_pos rfl]at q2 ⊢;exact thn (he af s3 iU H2 _ I2 q2) λy s4 ⟨v',H3,I3,r3,q3⟩=>⟨v',iU,H3,I3,r3,q3⟩
 | false =>
  rw[if_neg gQ]at q2 ⊢;exact⟨iU,H2,I2,q2⟩
def oC(link:List (Option Nat))(wi:TI)(tb:TB):TE:=λσ H Q=>wi σ H λJ H1=>∃W:Nat->Nat->List V->St->Hp->Prop,(∃m,W 0 m [] (inner link σ) H1)/\∀i m acc cE H',W i m acc cE H' ->
 (J.stop i H'/\acc.length<=sizeLine/\∀D,H' D=none->Q (.ref D) (upd H' D (.ay acc))) \/
 (J.go i H'/\acc.length<sizeLine/\∀x H2,J.yld i H' x H2->tb x cE H2 λo o8 H3=>∃m',m'<m/\W (i+1) m' (acc++o.toList) o8 H3)
structure Z2 (X:Cx) (af:List (ab×Obj)) (H:Hp) (C:ab):Prop where
 free:H C=none
 above:X.s₀.heap.objs.size<=C
 loc:C≠X.env.locals
 cell:∀x c,X.env.cells.lookup x=some c->c≠C
 pin:∀p∈X.pn++af,p.1≠C
theorem tY{X:Cx}{N:List Str}{link:List (Option Nat)}{scope:Scope}{tg iter elt:aj}{ifs:List aj}{pos gp:Pos}{wi:TI}{tb:TB}{use:Option (ag->Sem Unit)}{Q':cf}{af:List (ab×Obj)}{s:aq}{σ:St}{H:Hp}{Q:VK}(hc:X.calm=true)(S:gf X N link scope)(hi:PI X tg iter wi)
  (hb:∀(C:ab) (s:aq) (H:Hp) (fp:List ab),PB (cG X N scope C s H fp) tg ifs elt tb) (hs:∀x,foldedSetIterable iter X.env x=pure x) (I:Inv X af σ H s) (h:oC link wi tb σ H Q)
  (Z3:∀(s5:aq) (D C:ab) (H5:Hp) (m:dy),Inv X af σ H5 s5->Q (.ref D) H5->s5.heap.Ns C m->Z2 X af H5 C->compPost (model X.prog X.w) X.A X.xe use Q' (.ref D) C (.ok .next) s5) :
  wpAny (model X.prog X.w) X.A (comprehension (.ListComp elt [⟨tg,iter,ifs,0⟩] scope pos) scope X.env gp (newList []) false (eval iter X.env) use) Q' X.xe s:=by
 have qf:∀y∈scope.names,y.2=.free->∃c,X.env.cells.lookup y.1=some c:=λy hy hf=>I.ok.has y.1 (S.free y hy hf)
 refine wpAny_comprehension_free (use:=use) rfl hs (qz qf) S.kind S.names (thn (hi af s σ H _ I h) λv s1 h1=>thn h1 λZq s2 h2=>?_)
 obtain⟨it,fp,tn,J,H2,rfl,I2,T,Ta,f2,W,⟨m0,w0⟩,AA⟩:=h2;refine iD (wpAny_newFunctionEnv S.cell (by intro y hy;simp at hy) (λEA ns sb=>?_) S.kind)
 dsimp only at ns sb ⊢
 generalize hD:s2.heap.push {cls:=.type "list",dict:=none,data:=.seq ([]:b6).toArray}=HD at ns sb ⊢
 have hC:HD.objs.size=s2.heap.objs.size+1:=by rw[<-hD,jl]
 have XA:s2.heap.objs.size≠HD.objs.size:=by rw[hC];exact b8 (uQ _)
 have HI:s2.heap.objs.size<=HD.objs.size:=by rw[hC];exact pY _
 have old:∀b o,s2.heap.get? b=some o->EA.get? b=some o:=λb o e=>by
  have dU:=bA e;exact sb.extBut b o (b8 (cy dU HI)) (bR _ (by rw[<-hD];exact bR _ e))
 have Z4:EA.get? s2.heap.objs.size=some {cls:=.type "list",data:=.seq ([]:b6).toArray} :=
  sb.extBut _ _ XA (bR _ (by rw[<-hD];exact dj _ rfl))
 generalize eD:s2.heap.objs.size=D at *
 generalize eC:HD.objs.size=C at *
 have exO:∀b∈fp,∃o,s2.heap.get? b=some o:=λb js=>let ⟨o,e,_⟩:=T.obj _ _ Ta b js;⟨o,e⟩
 have I3:∀tk,Inv (cG X N scope C s2 H2 fp) [] (inner link σ) H2 {s2 with heap:=EA,toks:=tk}:=λtk =>
  AY S I2 f2 (by rw[eD];exact HI) ns old exO
 have fpD:∀b∈fp,b≠D:=λb js z=>by
  obtain⟨o,e⟩:=exO b js;have:=bA e;rw[z,<-eD]at this;exact gU _ this
 have AE:∀{H':Hp} {pl:List (ab×Obj)},(∀b∈fp,H' b=none)->(∀p∈pl,p.1=D)->∀b∈fp,vg (cG X N scope C s2 H2 fp) pl H' b:=λ{H' pl} hn hp b js=>by
  have K0:=(I3 0).ok.exf b js;exact⟨hn b js,K0.1,(I3 0).ok.exfs b js,.inl js,K0.2,λp HJ z=>fpD b js (z▸hp p (by simpa[cG]using HJ))⟩
 have U6:∀x c,(cG X N scope C s2 H2 fp).env.cells.lookup x=some c->c≠D:=λx c e z=>by
  obtain⟨v,o,ho,_⟩:=I2.cell x c (cD e);have:=bA ho;rw[z,<-eD]at this;exact gU _ this
 have fsD:D∉(cG X N scope C s2 H2 fp).fs:=λz=>by
  obtain⟨_,o,ho,_⟩:=I2.stack.mem z;have:=bA ho;rw[<-eD]at this;exact gU _ this
 have loop:∀s3:aq,s3={s2 with heap:=EA,toks:=s2.toks+([]:List (Str×ag)).length} ->
   codeAny (model X.prog X.w) X.A (.compLoop (.ListComp elt [⟨tg,iter,ifs,0⟩] scope pos) 0 (.ref it) (.ref D) (cG X N scope C s2 H2 fp).env) (compPost (model X.prog X.w) X.A X.xe use Q' (.ref D) C) s3:=by
  rintro s3 rfl
  refine EI (λn s'=>∃i acc cE H' aN nn,Inv (cG X N scope C s2 H2 fp) [] cE H' s'/\tn i s'.heap/\(∀b∈fp,H' b=none)/\H' D=none/\s'.heap.get? D=some {cls:=.type "list",data:=.seq (aN:b6).toArray nn}/\Vals acc aN/\W i n acc cE H') ?_ m0
   ⟨0,[],_,H2,[],0,I3 _,T.keep _ _ _ Ta λb js o e=>old b o e,λb js=>(f2 b js).1,I2.hok.fresh (nG eD),Z4,.nil,w0⟩
  rintro n s4 ⟨i,acc,LP,H4,aN,nn,I4,st4,fr4,hD4,Hv,hv,w4⟩
  have U7:Inv (cG X N scope C s2 H2 fp) [(D,{cls:=.type "list",data:=.seq aN.toArray nn})] LP H4 s4:=I4.md λp hp=>by
   have e:p=(D,{cls:=.type "list",data:=.seq aN.toArray nn}):=by simpa using hp
   subst e;exact⟨Hv,hD4,XA,fsD,λv=>by simp⟩
  have HK:∀p∈[(D,({cls:=.type "list",data:=.seq aN.toArray nn}:Obj))],p.1=D:=λp hp=>by
   have e:p=(D,{cls:=.type "list",data:=.seq aN.toArray nn}):=by simpa using hp
   rw[e]
  rcases AA i n acc LP H4 w4 with⟨stop,hz,q⟩ | ⟨go,hz,step⟩
  ·refine thn (T.done (cG X N scope C s2 H2 fp) rfl rfl rfl hc i _ s4 LP H4 _ U7 (AE fr4 HK) st4 stop) λr s5 ⟨hr,I5⟩=>?_
   subst hr;obtain⟨m,hn,_⟩:=I5.loc;have pD:=I5.pin (D,{cls:=.type "list",data:=.seq aN.toArray nn}) (eG _ (dW.mpr rfl))
   have XB:∀b o,s2.heap.get? b=some o->b≠D/\b≠C:=λb o e=>by
    have:=bA e;rw[eD]at this;exact⟨b8 this,b8 (cy this HI)⟩
   have Ot:X.env.locals≠D/\X.env.locals≠C:=by
    have:=I2.lt;rw[eD]at this;exact⟨b8 this,b8 (cy this HI)⟩
   have I6:Inv X af σ H4 s5:=I2.T5 I5.os I5.base I5.hok I5.bare λb js=>⟨(f2 b js).2.2.2.1,(f2 b js).2.1,(f2 b js).2.2.2.2.1,(f2 b js).2.2.2.2.2⟩
   have I7:=Inv.adopt (D:=D) (o:=.ay acc) I6 pD.2.1 (bY I2.sz (nG eD)) (dN Ot.1) (λx c e=>let ⟨v,o,ho,_⟩:=I2.cell x c e;(XB c o ho).1)
    (λp hp=>(XB p.1 p.2 (I2.pin p hp).1).1) ⟨hz,aN,nn,hv,pD.1⟩
   exact Z3 s5 D C _ m I7 (q D pD.2.1) hn ⟨by rw[upd_ne (dN XA)];exact I5.free,bY (bY I2.sz (nG eD)) HI,dN Ot.2,λx c e=>let ⟨v,o,ho,_⟩:=I2.cell x c e;(XB c o ho).2,λp hp=>(XB p.1 p.2 (I2.pin p hp).1).2⟩
  ·refine thn (T.item (cG X N scope C s2 H2 fp) rfl rfl rfl hc i _ s4 LP H4 _ U7 (AE fr4 HK) st4 go) λr s5 ⟨u,hr,h5⟩=>?_
   subst hr;refine thn h5 λ_ s5' ⟨x,H5,I5,r5,y5,P9,Zu⟩=>?_
   have Zv:=I5.pinned (AE Zu HK) (T.obj _ _ P9);have fin:∀{o:Option V} {Xn:St} {H6:Hp} {s6:aq},Inv (cG X N scope C s2 H2 fp) ([(D,{cls:=.type "list",data:=.seq aN.toArray nn})]++qi fp s5'.heap) Xn H6 s6 ->
     tn (i+1) s6.heap/\(∀b∈fp,H6 b=none)/\H6 D=none/\s6.heap.get? D=some {cls:=.type "list",data:=.seq aN.toArray nn}:=λ{o Xn H6 s6} I6=>by
    have pD:=I6.pin (D,_) (eG _ (iB _ (dW.mpr rfl)));refine⟨T.keep _ _ _ P9 λb js o e=>(I6.pin (b,o) (eG _ (eG _ (jo js e)))).1,λb js=>?_,pD.2.1,pD.1⟩
    obtain⟨o,e,d⟩:=T.obj _ _ P9 b js;exact(I6.pin (b,o) (eG _ (eG _ (jo js e)))).2.1
   refine lD (hb C s2 H2 fp _ s5' LP H5 x u _ Zv r5 (step x H5 y5)) (λ_ s6 h6=>lD h6 (λok s7 h7=>?_) λ_ _ z=>False.elim z) λ_ _ z=>False.elim z
   cases ok with
   | false =>
    rw[if_neg gQ]at h7 ⊢;obtain⟨XC,H8,I8,m',Z5,w8⟩:=h7;obtain⟨a1,a2,a3,a4⟩:=fin (o:=none) I8;exact⟨m',Z5,i+1,_,XC,H8,aN,nn,I8.md (λp hp=>by cases hp),a1,a2,a3,a4,by simpa using hv,w8⟩
   | true =>
    rw[if_pos rfl]at h7 ⊢;refine lD h7 (λy s8 ⟨v8,XC,H8,I8,r8,m',Z5,w8⟩=>?_) λ_ _ z=>False.elim z
    obtain⟨a1,a2,a3,a4⟩:=fin (o:=some v8) I8;have hl:=hv.length;refine nH F.slot_list_append ⟨_,a4,rfl⟩ F.entry_list_append (F.args_list_append_2 _ _) (PySem.list_append D aN.toArray nn y (by rw[bh];lia)) ⟨a4,?_⟩
    have I9:Inv (cG X N scope C s2 H2 fp) [] XC H8 s8:=I8.md (λp hp=>by cases hp)
    have qq:=PySem.IsL.update a4 λz=>z.push y
    have hp:aN.toArray.push y=(aN++[y]).toArray:=by simp
    rw[hp]at qq;refine⟨m',Z5,i+1,_,XC,H8,aN++[y],_,I9.turned (it:=D) (λb o hne e=>(zO _ _ (dN hne)).trans e) a3 XA (.inr (nG eD)) U6 (λp hp=>by simp[cG]at hp),T.keep _ _ _ a1 λb js o e=>(zO _ _ (dN (fpD b js))).trans e,a2,a3,qq,hv.append (.cons r8 .nil),w8⟩
 exact codeAny_compStart_list (loop _ rfl) (T.self _ 0 _ _ _ (T.keep _ _ _ Ta λb js o e=>old b o e) (loop _ rfl))
theorem vw{X:Cx}{N:List Str}{link:List (Option Nat)}{scope:Scope}{tg iter elt:aj}{ifs:List aj}{pos:Pos}{wi:TI}{tb:TB}(hc:X.calm=true)(S:gf X N link scope)(hi:PI X tg iter wi)
  (hb:∀(C:ab) (s:aq) (H:Hp) (fp:List ab),PB (cG X N scope C s H fp) tg ifs elt tb) (hs:∀x,foldedSetIterable iter X.env x=pure x:=by intro _;rfl) :
  PE X (.ListComp elt [⟨tg,iter,ifs,0⟩] scope pos) (oC link wi tb):=by
 intro af s σ H Q I h;rw[eval_ListComp];refine tY hc S hi hb hs I h λs5 D C H5 m I5 q hn L=>⟨m,hn,λh' sb=>?_⟩
 exact⟨.ref D,H5,I5.turned (t':=s5.toks) (it:=C) (λb o hne e=>(sb.2 b hne).trans e) L.free L.loc (.inr L.above) L.cell L.pin,rfl,q⟩
theorem vx{X:Cx}{N:List Str}{link:List (Option Nat)}{scope:Scope}{tg iter elt:aj}{ifs:List aj}{pos gp rZ:Pos}{wi:TI}{tb:TB}{i:Nat}{x:Str}(hc:X.calm=true)(hN:X.N.Nodup)(hx:X.N[i]?=some x)(hl:X.env.scope.names.lookup x=some .local)(S:gf X N link scope)(hi:PI X tg iter wi)
  (hb:∀(C:ab) (s:aq) (H:Hp) (fp:List ab),PB (cG X N scope C s H fp) tg ifs elt tb) (hw:swapsWith (.ListComp elt [⟨tg,iter,ifs,0⟩] scope pos) (some (.Name x gp)) rZ.line X.env=pure true) (hs:∀x,foldedSetIterable iter X.env x=pure x:=by intro _;rfl) :
  PS X (.Assign [.Name x gp] (.ListComp elt [⟨tg,iter,ifs,0⟩] scope pos) rZ) (lF (oC link wi tb) (gName i)):=by
 intro af s σ H D I h;rw[exec_Assign_Name_used _ _ _ _ hw];refine ai (wpAny_standAt (ai ?_));show wpAny _ X.A (do let _ <-comprehension (.ListComp elt [⟨tg,iter,ifs,0⟩] scope pos) scope X.env _ (newList []) false (eval iter X.env) (some (assign (.Name x gp) X.env))) _ _ s
 refine ai (thn (tY (use:=some (assign (.Name x gp) X.env)) (Q':=λ_ s'=>SP X af D .next s') hc S hi hb hs I h λs5 a C H5 m I5 q hn L=>?_) λ_ s' q=>aw (aw q))
 show wpAny _ X.A (assign (.Name x gp) X.env (.ref a)) _ _ s5;refine wpAny_assign_Name (store_ok2 (v:=.ref a) I5 hN hx (.inl hl) rfl (λs6 I6 k=>?_) (.inr hl))
 refine⟨m,?_,λh' sb=>?_⟩
 ·obtain⟨o,es,ep,ho,r⟩:=hn;obtain⟨b,Te,Z6⟩:=k;have ne:C≠b:=λz=>by
   rcases Z6 with w | w
   ·exact L.loc (z.trans w)
   ·exact L.cell x b w z.symm
  exact⟨o,es,ep,(Te.2 C ne).trans ho,r⟩
 ·exact⟨_,H5,I6.turned (t':=s6.toks) (it:=C) (λb o hne e=>(sb.2 b hne).trans e) L.free L.loc (.inr L.above) L.cell L.pin,q⟩
def mm(bd:PV->Option bP):av->Option av
 | []=>some []
 | p::ps=>(bd p).bind λo=>(mm bd ps).map λr=>o.toList++r
def j4{α β:Type}(f:α->Option β):List α->Option (List β)
 | []=>some []
 | p::ps=>(f p).bind λo=>(j4 f ps).map λr=>o::r
def bB(link:List (Option Nat))(ρ:aE):aE:=link.map λo=>match o with
 | none=>.un
 | some j=>match ρ[j]? with | some (.val p)=>.val p | some (.ob o)=>.ob o | _=>.un
def KG(L:List Nat)(g:eI):Prop:=∀p ρ eM,g p ρ=some eM->eM.length=ρ.length/\∀j:Nat,j∉L->eM[j]?=ρ[j]?
def U8(L:List Nat)(g:av->aE->Option aE):Prop:=∀p ρ eM,g p ρ=some eM->eM.length=ρ.length/\∀j:Nat,j∉L->eM[j]?=ρ[j]?
theorem LR(i:Nat):KG [i] (aD i):=λp ρ eM h=>by
 obtain⟨_,rfl⟩:=aA h;exact⟨gT,λj hj=>bj (λz=>hj (by simp[z]))⟩
theorem LU:U8 [] fP:=λp ρ eM h=>by
 cases p with
 | nil=>cases h;exact⟨rfl,λ_ _=>rfl⟩
 | cons _ _=>cases h
theorem HL{L M:List Nat}{g:eI}{r:av->aE->Option aE}(h1:KG L g)(h2:U8 M r):U8 (L++M) (b0 g r):=λp ρ eM h=>by
 cases p with
 | nil=>cases h
 | cons p ps =>
  obtain⟨pe,e1,e2⟩:=ar h;obtain⟨l1,k1⟩:=h1 p ρ pe e1;obtain⟨l2,k2⟩:=h2 ps pe eM e2;exact⟨l2.trans l1,λj hj=>(k2 j λz=>hj (eG _ z)).trans (k1 j λz=>hj (iB _ z))⟩
theorem QO{L:List Nat}{n:Nat}{r:av->aE->Option aE}(h:U8 L r):KG L (gE n r):=λp ρ eM e=>by
 cases p with
 | aJ ps =>
  have e:(if ps.length=n then r ps ρ else none)=some eM:=e
  by_cases hl:ps.length=n
  ·rw[if_pos hl]at e;exact h ps ρ eM e
  ·rw[if_neg hl]at e;cases e
 | _=>cases e
section
variable {K:ah} {H₀ aa F H:Hp} {ρ:aE} {σ:St}
theorem cU{link:List (Option Nat)}{i:Nat}{e:Ent}(h:(bB link ρ)[i]?=some e):e=.un\/(∃j p,link[i]?=some (some j)/\ρ[j]?=some (.val p)/\e=.val p)\/∃j o,link[i]?=some (some j)/\ρ[j]?=some (.ob o)/\e=.ob o:=by
 unfold bB at h;rw[bU]at h;cases z:link[i]? with
 | none=>rw[z]at h;cases h
 | some o =>
  rw[z]at h;cases o with
  | none=>cases h;exact .inl rfl
  | some j =>
   have h:(match ρ[j]? with | some (.val p)=>Ent.val p | some (.ob o)=>.ob o | _=>.un)=e:=bg h
   cases q:ρ[j]? with
   | none=>rw[q]at h;exact .inl h.symm
   | some w =>
    rw[q]at h;cases w with
    | val p=>exact .inr (.inl ⟨j,p,rfl,q,h.symm⟩)
    | ob p=>exact .inr (.inr ⟨j,p,rfl,q,h.symm⟩)
    | un=>exact .inl h.symm
    | own _=>exact .inl h.symm
    | ex _=>exact .inl h.symm
    | cg _=>exact .inl h.symm
theorem cB.inner(R:cB K H₀ aa F ρ σ H)(link:List (Option Nat)):cB K H F F (bB link ρ) (inner link σ) H where
 sub:=R.sub
 keep:=Same.refl _
 base:=Same.refl _
 fresh:=λa o e=>.inl e
 val:=λi p e=>by
  rcases cU e with z | ⟨j,q,h1,h2,h3⟩ | ⟨j,q,h1,h2,h3⟩
  ·cases z
  ·cases h3;obtain⟨v,e1,b1⟩:=R.val j _ h2;refine⟨v,?_,b1⟩;unfold L2.PL.inner;rw[bU,h1];show some ((σ[j]?).join)=_;rw[e1];rfl
  ·cases h3
 own:=λi ps e=>by
  rcases cU e with z | ⟨j,q,h1,h2,h3⟩ | ⟨j,q,h1,h2,h3⟩
  ·cases z
  ·cases h3
  ·cases h3
 apart:=λi j ps qs a e=>by
  rcases cU e with z | ⟨j,q,h1,h2,h3⟩ | ⟨j,q,h1,h2,h3⟩
  ·cases z
  ·cases h3
  ·cases h3
 obs:=λi p e=>by
  rcases cU e with z | ⟨j,q,h1,h2,h3⟩ | ⟨j,q,h1,h2,h3⟩
  ·cases z
  ·cases h3
  ·cases h3;obtain⟨v,e1,b1⟩:=R.obs j _ h2;refine⟨v,?_,b1⟩;unfold L2.PL.inner;rw[bU,h1];show some ((σ[j]?).join)=_;rw[e1];rfl
 cg:=λi ps e=>by
  rcases cU e with z | ⟨j,q,h1,h2,h3⟩ | ⟨j,q,h1,h2,h3⟩
  ·cases z
  ·cases h3
  ·cases h3
 len:=by unfold bB L2.PL.inner;rw[aB,aB]
theorem cB.LV{link:List (Option Nat)}{eM:aE}{L:List Nat}(R:cB K H₀ aa F eM σ H)(hl:eM.length=(bB link ρ).length)(hk:∀j:Nat,j∉L->eM[j]?=(bB link ρ)[j]?)(hL:∀i∈L,link[i]?=some none):cB K H₀ aa F (bB link ρ) σ H where
 sub:=R.sub
 keep:=R.keep
 base:=R.base
 fresh:=R.fresh
 val:=λi p e=>by
  have hi:i∉L:=λz=>by
   rcases cU e with q | ⟨j,q,h1,h2,h3⟩ | ⟨j,q,h1,h2,h3⟩
   ·cases q
   ·rw[hL i z]at h1;cases h1
   ·rw[hL i z]at h1;cases h1
  exact R.val i p ((hk i hi).trans e)
 own:=λi ps e=>by
  rcases cU e with z | ⟨j,q,h1,h2,h3⟩ | ⟨j,q,h1,h2,h3⟩
  ·cases z
  ·cases h3
  ·cases h3
 apart:=λi j ps qs a e=>by
  rcases cU e with z | ⟨j,q,h1,h2,h3⟩ | ⟨j,q,h1,h2,h3⟩
  ·cases z
  ·cases h3
  ·cases h3
 obs:=λi p e=>by
  have hi:i∉L:=λz=>by
   rcases cU e with q | ⟨j,q,h1,h2,h3⟩ | ⟨j,q,h1,h2,h3⟩
   ·cases q
   ·rw[hL i z]at h1;cases h1
   ·rw[hL i z]at h1;cases h1
  exact R.obs i p ((hk i hi).trans e)
 cg:=λi ps e=>by
  rcases cU e with z | ⟨j,q,h1,h2,h3⟩ | ⟨j,q,h1,h2,h3⟩
  ·cases z
  ·cases h3
  ·cases h3
 len:=hl.symm.trans R.len
end
def cW(link:List (Option Nat))(fi:bF)(g:eI)(fe:FE):bF:=λρ=>(fi ρ).bind λps=>if ps.length<=fO then j4 (λp=>(g p (bB link ρ)).bind fe) ps else none
def CV(link:List (Option Nat))(fi:bF)(g:eI)(ft:fj)(fe:FE):bF:=λρ=>(fi ρ).bind λps=>if ps.length<=fO then
 mm (λp=>(g p (bB link ρ)).bind λeM=>(ft eM).bind λb=>if b=true then(fe eM).map some else some none) ps else none
theorem tZ(f:PV->bP):∀ps,mm (λp=>(f p).map some) ps=j4 f ps
 | []=>rfl
 | p::ps=>by
  unfold mm j4;rw[tZ f ps];cases f p<;>rfl
theorem ax{α:Type}{c:Prop} [Decidable c] {x:Option α} {y:α} (h:(if c then x else none)=some y):c/\x=some y:=by
 by_cases hc:c
 ·rw[if_pos hc]at h;exact⟨hc,h⟩
 ·rw[if_neg hc]at h;cases h
section
variable {X:Cx} {H₀ aa:Hp} {N:List Str} {link:List (Option Nat)} {scope:Scope} {tg iter elt c:aj} {pos:Pos} {fi:bF} {g:eI} {fe:FE} {ft:fj} {L:List Nat}
theorem yd{tb:TB}{bd:aE->PV->Option bP}{σ:St}{H:Hp}{Q:VK}
  (hb:∀(H1 F1 F2:Hp) (ρ:aE) (p:PV) (o:bP) (x:V) (cE:St) (H2:Hp) (Q':Option V->St->Hp->Prop),bd ρ p=some o->cB X.K H1 F1 F2 (bB link ρ) cE H2->cI X.K F2 p x ->
   (∀o' o8 H3 F3,cB X.K H1 F1 F3 (bB link ρ) o8 H3->Same F2 F3->aP X.K F3 o.toList (Option.toList o')->Q' o' o8 H3)->tb x cE H2 Q')
  (h:tF X.K H₀ aa (λρ=>(fi ρ).bind λps=>if ps.length<=fO then mm (bd ρ) ps else none) σ H Q):oC link (tI X.K H₀ aa fi) tb σ H Q:=by
 obtain⟨F,ρ,rs,R,hf,q⟩:=h;obtain⟨ps,h1,h2⟩:=ar hf;obtain⟨cC,h3⟩:=ax h2;refine⟨F,ρ,ps,R,h1,λJ H1 F1 R1 s1 wk=>?_⟩
 refine⟨λi m acc cE H'=>m=ps.length-i/\i<=ps.length/\acc.length<=i/\∃F' done rest,cB X.K H1 F1 F' (bB link ρ) cE H'/\mm (bd ρ) (ps.drop i)=some rest/\done++rest=rs/\aP X.K F' done acc,
  ⟨ps.length,rfl,dY _,aR _,F1,[],rs,R1.inner link,h3,rfl,.nil⟩,?_⟩
 rintro i m acc cE H' ⟨rfl,hi,ha,F',done,rest,R',hr,hd,yb⟩
 obtain⟨wg,U4⟩:=wk H1 F1 F' (bB link ρ) cE H' R' R'.base i;by_cases dU:i<ps.length
 ·have hdr:ps.drop i=ps[i]::ps.drop (i+1):=List.drop_eq_getElem_cons dU;rw[hdr]at hr;obtain⟨o,e1,e2⟩:=ar hr;cases z:mm (bd ρ) (ps.drop (i+1))with
  | none=>rw[z]at e2;cases e2
  | some r2 =>
   rw[z]at e2;cases e2;obtain⟨go,wy⟩:=wg ps[i] (cx dU);refine .inr ⟨go,jR (bY ha hi) (jR cC (by decide)),λx H2 y=>?_⟩
   obtain⟨F2,R2,s2,b2⟩:=wy x H2 y;refine hb H1 F1 F2 ρ ps[i] o x cE H2 _ e1 R2 b2 λo' o8 H3 F3 R3 s3 b3=>⟨ps.length-(i+1),by lia,rfl,dU,?_,F3,done++o.toList,r2,R3,z,by rw[<-hd,fZ],(yb.mono (s2.trans s3)).append b3⟩
   rw[bX];cases o'<;>simp <;> lia
 ·have e:i=ps.length:=by lia
  subst e;rw[Ah]at hr;cases hr;rw[fH]at hd;subst hd;refine .inl ⟨U4 (jf (aR _)),bY ha (d9 cC),λD hn=>?_⟩
  exact q D acc H' F' (R1.after R'.keep R'.base R'.sub R'.fresh) (s1.trans R'.base) yb hn
theorem qB{α:Type}{tb:α->TB}{ifs:List aj}(h:∀b,PB X tg ifs elt (tb b)):PB X tg ifs elt (λv σ H Q=>∃b,tb b v σ H Q):=λaf s σ H v u Q I r ⟨b,hw⟩=>h b af s σ H v u Q I r hw
theorem j5{σ:St}{H:Hp}{Q:VK}(hg:KG L g)(hL:∀i∈L,link[i]?=some none)(h:tF X.K H₀ aa (cW link fi g fe) σ H Q) :
  oC link (tI X.K H₀ aa fi) (λv σ H Q=>∃b:Hp×Hp,tG X.K b.1 b.2 g v σ H λiU H1=>tE X.K b.1 b.2 fe iU H1 λy H2=>Q (some y) iU H2) σ H Q:=by
 refine yd (bd:=λρ p=>((g p (bB link ρ)).bind fe).map some) (λH1 F1 F2 ρ p o x cE H2 Q' e R2 b2 k=>⟨(H1,F1),?_⟩) ?_
 ·cases z:(g p (bB link ρ)).bind fe with
  | none=>rw[z]at e;cases e
  | some r =>
   rw[z]at e;cases e;obtain⟨eM,e1,e2⟩:=ar z;obtain⟨l1,k1⟩:=hg _ _ _ e1;exact⟨F2,bB link ρ,p,eM,R2,b2,e1,λo8 H3 F3 R3 s3=>⟨F3,eM,r,R3,e2,λv H4 F4 R4 s4 b4=>k (some v) o8 H4 F4 (R4.LV l1 k1 hL) (s3.trans s4) (.cons b4 .nil)⟩⟩
 ·obtain⟨F,ρ,rs,R,hf,q⟩:=h;refine⟨F,ρ,rs,R,?_,q⟩;rw[<-hf];show((fi ρ).bind λps=>if ps.length<=fO then mm (λp=>((g p (bB link ρ)).bind fe).map some) ps else none)=(fi ρ).bind λps=>if ps.length<=fO then j4 (λp=>(g p (bB link ρ)).bind fe) ps else none
  simp only[tZ]
theorem QP(hc:X.calm=true)(S:gf X N link scope)(hi:PI X tg iter (tI X.K H₀ aa fi))(hg:KG L g)(hL:∀i∈L,link[i]?=some none)
  (ht:∀(C:ab) (s:aq) (H:Hp) (fp:List ab) (H₀ aa:Hp),PG (cG X N scope C s H fp) tg (tG X.K H₀ aa g)) (he:∀(C:ab) (s:aq) (H:Hp) (fp:List ab) (H₀ aa:Hp),PE (cG X N scope C s H fp) elt (tE X.K H₀ aa fe))
  (hs:∀x,foldedSetIterable iter X.env x=pure x:=by intro _;rfl):PE X (.ListComp elt [⟨tg,iter,[],0⟩] scope pos) (tF X.K H₀ aa (cW link fi g fe)) :=
 (vw hc S hi (λC s H fp=>qB λb:Hp×Hp=>qA (ht C s H fp b.1 b.2) (he C s H fp b.1 b.2)) hs).imp λσ H Q h=>j5 hg hL h
theorem lb{σ:St}{H:Hp}{Q:VK}(hg:KG L g)(hL:∀i∈L,link[i]?=some none)(h:tF X.K H₀ aa (CV link fi g ft fe) σ H Q) :
  oC link (tI X.K H₀ aa fi) (λv σ H Q=>∃b:Hp×Hp,tG X.K b.1 b.2 g v σ H λiU H1=>tT X.K b.1 b.2 ft iU H1 λt H2=>if t=true then tE X.K b.1 b.2 fe iU H2 λy H3=>Q (some y) iU H3 else Q none iU H2) σ H Q:=by
 refine yd (bd:=λρ p=>(g p (bB link ρ)).bind λeM=>(ft eM).bind λb=>if b=true then(fe eM).map some else some none) (λH1 F1 F2 ρ p o x cE H2 Q' e R2 b2 k=>⟨(H1,F1),?_⟩) h
 obtain⟨eM,e1,e2⟩:=ar e;obtain⟨b,e3,e4⟩:=ar e2;obtain⟨l1,k1⟩:=hg _ _ _ e1;refine⟨F2,bB link ρ,p,eM,R2,b2,e1,λo8 H3 F3 R3 s3=>⟨F3,eM,b,R3,e3,λH4 F4 R4 s4=>?_⟩⟩
 cases b with
 | true =>
  rw[if_pos rfl]at e4 ⊢;cases z:fe eM with
  | none=>rw[z]at e4;cases e4
  | some r =>
   rw[z]at e4;cases e4;exact⟨F4,eM,r,R4,z,λv H5 F5 R5 s5 b5=>k (some v) o8 H5 F5 (R5.LV l1 k1 hL) (s3.trans (s4.trans s5)) (.cons b5 .nil)⟩
 | false =>
  rw[if_neg gQ]at e4 ⊢;cases e4;exact k none o8 H4 F4 (R4.LV l1 k1 hL) (s3.trans s4) .nil
theorem LX(hc:X.calm=true)(S:gf X N link scope)(hi:PI X tg iter (tI X.K H₀ aa fi))(hg:KG L g)(hL:∀i∈L,link[i]?=some none)
  (ht:∀(C:ab) (s:aq) (H:Hp) (fp:List ab) (H₀ aa:Hp),PG (cG X N scope C s H fp) tg (tG X.K H₀ aa g)) (hw:∀(C:ab) (s:aq) (H:Hp) (fp:List ab) (H₀ aa:Hp),PT (cG X N scope C s H fp) c (tT X.K H₀ aa ft))
  (he:∀(C:ab) (s:aq) (H:Hp) (fp:List ab) (H₀ aa:Hp),PE (cG X N scope C s H fp) elt (tE X.K H₀ aa fe))
  (hs:∀x,foldedSetIterable iter X.env x=pure x:=by intro _;rfl):PE X (.ListComp elt [⟨tg,iter,[c],0⟩] scope pos) (tF X.K H₀ aa (CV link fi g ft fe)) :=
 (vw hc S hi (λC s H fp=>qB λb:Hp×Hp=>CU (ht C s H fp b.1 b.2) (hw C s H fp b.1 b.2) (he C s H fp b.1 b.2)) hs).imp λσ H Q h=>lb hg hL h
theorem qC{t:TE}{f:bF}{i:Nat}{st:az}(ht:∀σ H Q,tF X.K H₀ aa f σ H Q->t σ H Q)(h:PS X st (lF t (gName i))):PS X st (tS X H₀ aa (b7 (cq f) (aD i))):=h.imp λD σ H h=>by
 obtain⟨F,ρ,o,R,hf,q⟩:=h;obtain⟨p,h1,h2⟩:=ar hf;obtain⟨ps,z,rfl⟩:=tN h1;cases w:aD i (.ay ps) ρ with
 | none=>rw[w]at h2;cases h2
 | some gq =>
  rw[w]at h2;cases h2;obtain⟨hi,rfl⟩:=aA w;refine ht _ _ _ ⟨F,ρ,ps,R,z,λa vs H1 F1 R1 s1 b1 hn=>?_⟩
  obtain⟨R2,s2⟩:=R1.laid (.ay vs) hn;exact q _ _ _ (R2.set hi (aU.mpr ⟨a,vs,rfl,m8.of aC,b1.mono s2⟩)) (s1.trans s2)
end
section
variable {K:ah} {H₀ aa F H:Hp} {ρ:aE} {σ:St}
theorem cB.HM(R:cB K H₀ aa F ρ σ H){i:Nat}(hi:i<ρ.length){a:ab}{ps:av}{vs:List V}(hn:H a=none)(hb:aP K F ps vs):cB K H₀ aa F (ρ.set i (.own ps)) (σ.set i (some (.ref a))) (upd H a (.ay vs)) where
 sub:=R.sub.trans (dS hn)
 keep:=R.keep.trans (dS hn)
 base:=R.base
 fresh:=R.fresh
 val:=λj q e=>by
  by_cases h:i=j
  ·subst h;rw[bW hi]at e;cases e
  ·rw[bj h]at e;rw[bj h];exact R.val j q e
 own:=λj qs e=>by
  by_cases h:i=j
  ·subst h;rw[bW hi]at e;cases e;exact⟨a,vs,bW (by rw[<-R.len];exact hi),aC,R.keep.free hn,R.sub.free hn,hb⟩
  ·rw[bj h]at e;rw[bj h];obtain⟨b,ws,h1,h2,h3⟩:=R.own j qs e;exact⟨b,ws,h1,by rw[upd_ne (ne_of_none h2 hn)];exact h2,h3⟩
 apart:=λj k qs rs b h1 h2 h3 h4=>by
  have old:∀(m:Nat) (l:av),i≠m->(ρ.set i (.own ps))[m]?=some (.own l)->(σ.set i (some (.ref a)))[m]?=some (some (.ref b))->b≠a:=λm l hm e1 e2=>by
   rw[bj hm]at e1 e2;obtain⟨c,ws,q1,q2,_⟩:=R.own m l e1;rw[e2]at q1;cases q1;exact ne_of_none q2 hn
  have new:∀m:Nat,i=m->(σ.set i (some (.ref a)))[m]?=some (some (.ref b))->b=a:=λm hm e2=>by
   subst hm;rw[bW (by rw[<-R.len];exact hi)]at e2
   cases e2;rfl
  by_cases hj:i=j
  ·by_cases hk:i=k
   ·exact hj.symm.trans hk
   ·exact absurd (new j hj h3) (old k rs hk h2 h4)
  ·by_cases hk:i=k
   ·exact absurd (new k hk h4) (old j qs hj h1 h3)
   ·rw[bj hj]at h1 h3;rw[bj hk]at h2 h4;exact R.apart j k qs rs b h1 h2 h3 h4
 obs:=λj q e=>by
  by_cases h:i=j
  ·subst h;rw[bW hi]at e;cases e
  ·rw[bj h]at e;rw[bj h];exact R.obs j q e
 cg:=λj m e=>by
  by_cases h:i=j
  ·subst h;rw[bW hi]at e;cases e
  ·rw[bj h]at e;rw[bj h];obtain⟨b,h1,h2,h3,h4⟩:=R.cg j m e;exact⟨b,h1,h2.mono (Same.refl F) (dS hn) λ_ _ _ z=>z,h3,h4⟩
 len:=by rw[gT,gT];exact R.len
theorem cB.mut(R:cB K H₀ aa F ρ σ H){i:Nat}{a:ab}{ps qs:av}{ws:List V}(hi:ρ[i]?=some (.own ps))(ha:σ[i]?=some (some (.ref a)))(hb:aP K F qs ws):cB K H₀ aa F (ρ.set i (.own qs)) σ (upd H a (.ay ws)):=by
 obtain⟨a',vs,h1,h2,h3,h4,h5⟩:=R.own i ps hi;rw[ha]at h1;cases h1;have dU:i<ρ.length:=(cL.mp hi).1;have sub:∀{G:Hp},G a=none->Same G H->Same G (upd H a (.ay ws)):=λ{G} hg s b o e=>by
  rw[upd_ne (ne_of_none e hg)];exact s _ _ e
 have oth:∀(m:Nat) (l:av),i≠m->ρ[m]?=some (.own l)->∀b,σ[m]?=some (some (.ref b))->b≠a:=λm l hm e1 b e2 z=>by
  subst z;exact hm (R.apart i m ps l b hi e1 ha e2)
 exact {
  sub:=sub h4 R.sub
  keep:=sub h3 R.keep
  base:=R.base
  fresh:=R.fresh
  val:=λj q e=>by
   by_cases h:i=j
   ·subst h;rw[bW dU]at e;cases e
   ·rw[bj h]at e;exact R.val j q e
  own:=λj ls e=>by
   by_cases h:i=j
   ·subst h;rw[bW dU]at e;cases e;exact⟨a,ws,ha,aC,h3,h4,hb⟩
   ·rw[bj h]at e;obtain⟨b,us,q1,q2,q3⟩:=R.own j ls e;exact⟨b,us,q1,by rw[upd_ne (oth j ls h e b q1)];exact q2,q3⟩
  apart:=λj k l1 l2 b e1 e2 e3 e4=>by
   have f:∀(m:Nat) (l:av),(ρ.set i (.own qs))[m]?=some (.own l)->∃l',ρ[m]?=some (.own l'):=λm l e=>by
    by_cases h:i=m
    ·subst h;exact⟨_,hi⟩
    ·rw[bj h]at e;exact⟨_,e⟩
   obtain⟨m1,z1⟩:=f j l1 e1;obtain⟨m2,z2⟩:=f k l2 e2;exact R.apart j k m1 m2 b z1 z2 e3 e4
  obs:=λj q e=>by
   by_cases h:i=j
   ·subst h;rw[bW dU]at e;cases e
   ·rw[bj h]at e;exact R.obs j q e
  cg:=λj m e=>by
   by_cases h:i=j
   ·subst h;rw[bW dU]at e;cases e
   ·rw[bj h]at e;obtain⟨b,q1,q2,q3,q4⟩:=R.cg j m e;exact⟨b,q1,q2.to (Same.refl F) (λc o e d _=>by rw[upd_ne (G6 e h2 (λz=>by subst z;cases m<;>cases d))];exact e) (λ_ _ _ z=>z),q3,q4⟩
  len:=by rw[gT];exact R.len}
def dF(L:Option (List Nat))(i:Nat)(e:Ent):Ent:=match e with
 | .own ps=>(match L with | none=>.val (.ay ps) | some l=>if i∈l then .val (.ay ps)else .own ps)
 | .cg (.l _)=>.un
 | .cg m=>.ob (.dct m)
 | e=>e
def eW(L:Option (List Nat)):Nat->aE->aE
 | _,[]=>[]
 | i,e::r=>dF L i e::eW L (i+1) r
def fm(L:Option (List Nat))(ρ:aE):aE:=eW L 0 ρ
theorem oD{L:Option (List Nat)}:∀(ρ:aE) (k i:Nat),(eW L k ρ)[i]?=(ρ[i]?).map (dF L (k+i))
 | [],_,_=>by simp[eW]
 | e::r,k,0=>by simp[eW]
 | e::r,k,i+1=>by
  simp only[eW,zN];rw[oD r (k+1) i]
  congr 2
  lia
theorem HN{L:Option (List Nat)}{ρ:aE}{i:Nat}:(fm L ρ)[i]?=(ρ[i]?).map (dF L i):=by
 unfold fm;rw[oD,gC]
theorem oE{L:Option (List Nat)}:∀(ρ:aE) (k:Nat),(eW L k ρ).length=ρ.length
 | [],_=>rfl
 | e::r,k=>by simp only[eW,aZ,oE r]
theorem gh{L:Option (List Nat)}{i:Nat}{e:Ent}(h:dF L i e≠e):(∃ps,e=.own ps/\dF L i e=.val (.ay ps))\/(∃m,e=.cg m/\(∀dQ,m≠.l dQ)/\dF L i e=.ob (.dct m))\/∃dQ,e=.cg (.l dQ)/\dF L i e=.un:=by
 cases e with
 | own ps =>
  left
  refine⟨ps,rfl,?_⟩;unfold dF at h ⊢;cases L with
  | none=>rfl
  | some l =>
   simp only at h ⊢;split
   ·rfl
   ·rename_i z;rw[if_neg z]at h;exact absurd rfl h
 | cg m =>
  cases m with
  | l dQ=>exact .inr (.inr ⟨dQ,rfl,rfl⟩)
  | t _=>exact .inr (.inl ⟨_,rfl,(λ_ z=>nomatch z),rfl⟩)
  | k _=>exact .inr (.inl ⟨_,rfl,(λ_ z=>nomatch z),rfl⟩)
 | _=>exact absurd rfl h
def nO(K:ah)(H₀ F H:Hp)(L:Option (List Nat))(ρ:aE)(σ:St)(b:ab):Prop:=(∃(i:Nat) (e:Ent),ρ[i]?=some e/\dF L i e≠e/\σ[i]?=some (some (.ref b))) \/
 ∃(i:Nat) (dQ:List av) (bs:List ab),ρ[i]?=some (.cg (.l dQ))/\ig K F H (Nw H₀ F) dQ bs/\b∈bs
open Classical in
noncomputable def t7 (K:ah) (H₀:Hp) (L:Option (List Nat)) (ρ:aE) (σ:St) (F H:Hp):Hp:=λb=>if nO K H₀ F H L ρ σ b then H b else F b
theorem mn{L:Option (List Nat)}{ρ:aE}{i:Nat}{e:Ent}(h:(fm L ρ)[i]?=some e):∃en,ρ[i]?=some en/\dF L i en=e:=by
 rw[HN]at h;cases z:ρ[i]? with
 | none=>rw[z]at h;cases h
 | some en=>rw[z]at h;exact⟨en,rfl,bg h⟩
theorem ig.mem{N:ab->Prop}{dQ:List av}{bs:List ab}(h:ig K F H N dQ bs){b:ab}(hb:b∈bs):N b/\∃vs,H b=some (oA b vs):=by
 unfold ig at h;induction h with
 | nil=>cases hb
 | @cons ps c dQ bs r t ih =>
  rcases aX.mp hb with rfl | hb
  ·obtain⟨g1,vs,g2,_⟩:=r;exact⟨g1,vs,g2⟩
  ·exact ih hb
theorem ig.up{N:ab->Prop}{H':Hp}{dQ:List av}{bs:List ab}(h:ig K F H N dQ bs)(k:∀b∈bs,∀o,H b=some o->H' b=some o):ig K F H' N dQ bs:=by
 unfold ig at h ⊢;induction h with
 | nil=>exact .nil
 | @cons ps c dQ bs r t ih =>
  obtain⟨q1,vs,q2,q3⟩:=r;exact .cons ⟨q1,vs,k c bz _ q2,q3⟩ (ih λb hb=>k b (bE _ hb))
theorem cB.Z7(R:cB K H₀ aa F ρ σ H){L:Option (List Nat)}{b:ab}(h:nO K H₀ F H L ρ σ b):H₀ b=none/\F b=none/\∃o,H b=some o:=by
 rcases h with⟨i,e,h1,h2,h3⟩ | ⟨i,dQ,bs,h1,h2,h3⟩
 ·have cg:∀m,e=.cg m->H₀ b=none/\F b=none/\∃o,H b=some o:=λm z=>by
   subst z;obtain⟨a,q1,q2,q3,q4⟩:=R.cg i m h1;rw[h3]at q1;cases q1;obtain⟨o,q5,_⟩:=q2.obj;exact⟨q3,q4,o,q5⟩
  rcases gh h2 with⟨ps,rfl,_⟩ | ⟨m,rfl,_⟩ | ⟨dQ,rfl,_⟩
  ·obtain⟨a,vs,q1,q2,q3,q4,_⟩:=R.own i ps h1;rw[h3]at q1;cases q1;exact⟨q3,q4,_,q2⟩
  ·exact cg _ rfl
  ·exact cg _ rfl
 ·obtain⟨⟨g1,g2⟩,vs,g3⟩:=h2.mem h3;exact⟨g1,g2,_,g3⟩
theorem cB.k0(R:cB K H₀ aa F ρ σ H)(L:Option (List Nat)):∃F',cB K H₀ aa F' (fm L ρ) σ H/\Same F F'/\∀(b:ab) (o:HO),nO K H₀ F H L ρ σ b->H b=some o->F' b=some o:=by
 have pos:∀{b:ab},nO K H₀ F H L ρ σ b->t7 K H₀ L ρ σ F H b=H b:=λ{b} h=>by unfold t7;rw[if_pos h]
 have neg:∀{b:ab},¬nO K H₀ F H L ρ σ b->t7 K H₀ L ρ σ F H b=F b:=λ{b} h=>by unfold t7;rw[if_neg h]
 have sm:Same F (t7 K H₀ L ρ σ F H):=λb o e=>by
  by_cases h:nO K H₀ F H L ρ σ b
  ·rw[pos h];exact R.sub _ _ e
  ·rw[neg h];exact e
 refine⟨t7 K H₀ L ρ σ F H,?_,sm,λb o e1 e2=>by rw[pos e1];exact e2⟩
 exact {
  sub:=λb o e=>by
   by_cases h:nO K H₀ F H L ρ σ b
   ·rw[pos h]at e;exact e
   ·rw[neg h]at e;exact R.sub _ _ e
  keep:=R.keep
  base:=R.base.trans sm
  fresh:=λb o e=>by
   by_cases h:nO K H₀ F H L ρ σ b
   ·exact .inr (R.Z7 h).1
   ·rw[neg h]at e;exact R.fresh _ _ e
  val:=λi p e=>by
   obtain⟨en,z,e⟩:=mn e;by_cases hne:dF L i en≠en
   ·rcases gh hne with⟨ps,rfl,e2⟩ | ⟨m,rfl,_,e2⟩ | ⟨dQ,rfl,e2⟩
    ·rw[e2]at e;cases e;obtain⟨a,vs,q1,q2,q3,q4,q5⟩:=R.own i ps z;refine⟨_,q1,aU.mpr ⟨a,vs,rfl,m8.of ?_,q5.mono sm⟩⟩;rw[pos (.inl ⟨i,_,z,hne,q1⟩)];exact q2
    ·rw[e2]at e;cases e
    ·rw[e2]at e;cases e
   ·have hne:=pO.mp hne;rw[hne]at e;subst e;obtain⟨v,h1,h2⟩:=R.val i _ z;exact⟨v,h1,h2.mono sm⟩
  own:=λi ps e=>by
   obtain⟨en,z,e⟩:=mn e;by_cases hne:dF L i en≠en
   ·rcases gh hne with⟨qs,rfl,e2⟩ | ⟨m,rfl,_,e2⟩ | ⟨dQ,rfl,e2⟩<;>(rw[e2]at e;cases e)
   ·have hne:=pO.mp hne;rw[hne]at e;subst e;obtain⟨a,vs,q1,q2,q3,q4,q5⟩:=R.own i ps z;refine⟨a,vs,q1,q2,q3,?_,q5.mono sm⟩;rw[neg]
    ·exact q4
    ·have no:∀(j:Nat) (m:Dk),ρ[j]?=some (Ent.cg m)->σ[j]?=some (some (V.ref a))->False:=λj m h1 h3=>by
      obtain⟨b,r1,r2,_⟩:=R.cg j m h1;rw[h3]at r1;cases r1;obtain⟨o,r5,r6⟩:=r2.obj;rw[q2]at r5;exact r6 _ (bg r5).symm
     rintro(⟨j,e',h1,h2,h3⟩ | ⟨j,dQ,bs,h1,h2,h3⟩)
     ·rcases gh h2 with⟨rs,rfl,e2⟩ | ⟨m,rfl,_,e2⟩ | ⟨dQ,rfl,e2⟩
      ·have:=R.apart i j ps rs a z h1 q1 h3;subst this;rw[z]at h1;cases h1;exact h2 hne
      ·exact no j _ h1 h3
      ·exact no j _ h1 h3
     ·obtain⟨_,ws,g3⟩:=h2.mem h3;rw[q2]at g3;cases g3
  apart:=λj k ps qs a e1 e2=>by
   have old:∀(m:Nat) (l:av),(fm L ρ)[m]?=some (.own l)->∃l',ρ[m]?=some (.own l'):=λm l e=>by
    obtain⟨en,z,e⟩:=mn e;by_cases hne:dF L m en≠en
    ·rcases gh hne with⟨qs,rfl,e2⟩ | ⟨d,rfl,_,e2⟩ | ⟨dQ,rfl,e2⟩
     ·exact⟨qs,z⟩
     ·rw[e2]at e;cases e
     ·rw[e2]at e;cases e
    ·rw[pO.mp hne]at e;subst e;exact⟨l,z⟩
   obtain⟨l1,z1⟩:=old j ps e1;obtain⟨l2,z2⟩:=old k qs e2;exact R.apart j k l1 l2 a z1 z2
  obs:=λi o e=>by
   obtain⟨en,z,e⟩:=mn e;by_cases hne:dF L i en≠en
   ·rcases gh hne with⟨qs,rfl,e2⟩ | ⟨m,rfl,hm,e2⟩ | ⟨dQ,rfl,e2⟩
    ·rw[e2]at e;cases e
    ·rw[e2]at e;cases e;obtain⟨a,q1,q2,_⟩:=R.cg i m z;exact⟨a,q1,q2.toT hm sm (pos (.inl ⟨i,_,z,hne,q1⟩))⟩
    ·rw[e2]at e;cases e
   ·rw[pO.mp hne]at e;subst e;obtain⟨a,h1,h2⟩:=R.obs i _ z;exact⟨a,h1,h2.mono sm⟩
  cg:=λi m e=>by
   obtain⟨en,z,e⟩:=mn e;by_cases hne:dF L i en≠en
   ·rcases gh hne with⟨qs,rfl,e2⟩ | ⟨m,rfl,_,e2⟩ | ⟨dQ,rfl,e2⟩<;>(rw[e2]at e;cases e)
   ·rw[pO.mp hne]at e;subst e;refine absurd (λq=>?_) hne
    cases m<;>cases q
  len:=by unfold fm;rw[oE];exact R.len}
theorem cB.LY{F' H':Hp}(R:cB K H₀ aa F ρ σ H){F1:Hp}(R1:cB K H₀ aa F1 (fm none ρ) σ H)(s1:Same F F1)
  (hf:∀(b:ab) (o:HO),nO K H₀ F H none ρ σ b->H b=some o->F1 b=some o)
  (R2:cB K H₀ aa F' (fm none ρ) σ H') (s2:Same F1 F'):cB K H₀ aa F ρ σ H' where
 sub:=s1.trans (s2.trans R2.sub)
 keep:=R2.keep
 base:=R.base
 fresh:=R.fresh
 val:=R.val
 own:=λi ps e=>by
  obtain⟨a,vs,h1,h2,h3,h4,h5⟩:=R.own i ps e;exact⟨a,vs,h1,R2.sub _ _ (s2 _ _ (hf a _ (.inl ⟨i,_,e,(λz=>by cases z),h1⟩) h2)),h3,h4,h5⟩
 apart:=R.apart
 obs:=R.obs
 cg:=λi m e=>by
  obtain⟨a,h1,h2,h3,h4⟩:=R.cg i m e;have up:∀b o,nO K H₀ F H none ρ σ b->H b=some o->H' b=some o:=λb o q1 q2=>R2.sub _ _ (s2 _ _ (hf b o q1 q2))
  have ha:nO K H₀ F H none ρ σ a:=.inl ⟨i,_,e,(λz=>by cases m<;>cases z),h1⟩
  refine⟨a,h1,?_,h3,h4⟩;cases m with
  | l dQ =>
   obtain⟨bs,g1,g2,g3⟩:=h2;have key:∀b∈bs,∀o,H b=some o->H' b=some o:=λb hb o q=>up b o (.inr ⟨i,dQ,bs,e,g3,hb⟩) q
   exact⟨bs,up a _ ha g1,g2,g3.up key⟩
  | t _=>exact h2.toT (λ_ z=>nomatch z) (Same.refl F) (by obtain⟨o,h5,_⟩:=h2.obj;rw[up a o ha h5,h5])
  | k _=>exact h2.toT (λ_ z=>nomatch z) (Same.refl F) (by obtain⟨o,h5,_⟩:=h2.obj;rw[up a o ha h5,h5])
 len:=R.len
end
section
variable {X:Cx} {H₀ aa:Hp} {e:aj} {fe:FE} {gc:fj} {pos:Pos} {st:az} {f:FS}
def qD(gc:fj):fj:=λρ=>gc (fm none ρ)
theorem U9(h:PT X e (tT X.K H₀ aa gc)):PT X e (tT X.K H₀ aa (qD gc)):=h.imp <| by
 rintro σ H Q ⟨F,ρ,b,R,hf,q⟩
 obtain⟨F1,R1,s1,k1⟩:=R.k0 none;exact⟨F1,fm none ρ,b,R1,hf,λH' F' R2 s2=>q H' F (R.LY R1 s1 k1 R2 s2) (Same.refl F)⟩
def j6:PV->Bool
 | .aJ _=>false
 | .ay _=>false
 | _=>true
theorem gX{K:ah}{F F':Hp}{p:PV}{v:V}(h:j6 p=true)(b:cI K F p v):cI K F' p v:=by
 cases p with
 | cM=>exact c8.mpr (c8.mp b)
 | bl _=>exact bN.mpr (bN.mp b)
 | int _=>exact aF.mpr (aF.mp b)
 | str _=>exact cj.mpr (cj.mp b)
 | aJ _=>cases h
 | ay _=>cases h
def lH(fe:FE):FE:=λρ=>(fe (fm none ρ)).bind λp=>if j6 p=true then some p else none
theorem HP(h:PE X e (tE X.K H₀ aa fe)):PE X e (tE X.K H₀ aa (lH fe)):=h.imp <| by
 rintro σ H Q ⟨F,ρ,p,R,hf,q⟩
 obtain⟨p',h1,h2⟩:=ar hf;obtain⟨hp,rfl⟩:=aA h2;obtain⟨F1,R1,s1,k1⟩:=R.k0 none;exact⟨F1,fm none ρ,p',R1,h1,λv H' F' R2 s2 b2=>q v H' F (R.LY R1 s1 k1 R2 s2) (Same.refl F) (gX hp b2)⟩
def AZ(L:List Nat)(f:FS):FS:=λρ=>f (fm (some L) ρ)
theorem Va(L:List Nat)(h:PS X st (tS X H₀ aa f)):PS X st (tS X H₀ aa (AZ L f)):=h.imp <| by
 rintro D σ H ⟨F,ρ,o,R,hf,q⟩
 obtain⟨F1,R1,s1,k1⟩:=R.k0 (some L);exact⟨F1,_,o,R1,hf,q.mono s1⟩
def mq(i:Nat)(fo:bF):FS:=λρ=>(fo ρ).bind λps=>if i<ρ.length then some (.nx (ρ.set i (.own ps)))else none
theorem qE{i:Nat}{fo:bF}{t:TE}{D:jG}{σ:St}{H:Hp}(ht:∀σ H Q,tF X.K H₀ aa fo σ H Q->t σ H Q)(h:tS X H₀ aa (mq i fo) D σ H):lF t (gName i) D σ H:=by
 obtain⟨F,ρ,o,R,hf,q⟩:=h;obtain⟨ps,h1,h2⟩:=ar hf;obtain⟨hi,rfl⟩:=aA h2;refine ht _ _ _ ⟨F,ρ,ps,R,h1,λa vs H1 F1 R1 s1 b1 hn=>?_⟩
 exact q F1 _ _ (R1.HM hi hn b1) s1
def iL(i:Nat)(ts:bF)(g:av->av->Option av):FS:=λρ=>match ρ[i]? with
 | some (.own ps)=>(ts ρ).bind λas=>(g ps as).map λqs=>.nx (ρ.set i (.own qs))
 | _=>none
def LZ(K:ah)(r:V->List V->Hp->VK->Prop)(g:av->av->Option av):Prop:=∀(H₀ aa F:Hp) (ρ:aE) (σ:St) (H:Hp) (a:ab) (ps as qs:av) (vs ws:List V) (Q:VK),g ps as=some qs->cB K H₀ aa F ρ σ H->H a=some (.ay vs)->aP K F ps vs->aP K F as ws ->
 (∀us,aP K F qs us->Q .cM (upd H a (.ay us)))->r (.ref a) ws H Q
theorem vy{i:Nat}{ts:bF}{g:av->av->Option av}{r:V->List V->Hp->VK->Prop}{D:jG}{σ:St}{H:Hp}(hg:LZ X.K r g)(h:tS X H₀ aa (iL i ts g) D σ H) :
  tDrop (ZL X.K "list" r (iS i) (tA X.K H₀ aa ts)) D σ H:=by
 obtain⟨F,ρ,o,R,hf,q⟩:=h;unfold iL at hf;split at hf
 ·rename_i ps z;obtain⟨as,h1,h2⟩:=ar hf;cases w:g ps as with
  | none=>rw[w]at h2;cases h2
  | some qs =>
   rw[w]at h2;cases h2;obtain⟨a,vs,e1,e2,_⟩:=R.own i ps z;refine⟨.ref a,e1,.inl ⟨rfl,vs,kQ.of e2⟩,F,ρ,as,R,h1,λws H1 F1 R1 s1 b1=>?_⟩
   obtain⟨a',QE,e1',e2',_,_,e5⟩:=R1.own i ps z;rw[e1]at e1';cases e1';refine hg H₀ aa F1 ρ σ H1 a ps as qs QE ws _ w R1 e2' e5 b1 λus bu=>?_
   exact q F1 σ _ (R1.mut z e1 bu) s1
 ·cases hf
def r9:av->av->Option av:=λps as=>match as with | [p]=>if ps.length<fO then some (ps++[p])else none | _=>none
def nQ:av->av->Option av:=λps as=>match as with
 | [.ay qs]=>if ps.length+qs.length<=fO then some (ps++qs)else none
 | [.aJ qs]=>if ps.length+qs.length<=fO then some (ps++qs)else none
 | _=>none
theorem L0{K:ah}:LZ K CI r9:=by
 intro H₀ aa F ρ σ H a ps as qs vs ws Q hg R ha b1 b2 k;unfold r9 at hg;split at hg
 ·rename_i p;obtain⟨hl,rfl⟩:=aA hg;obtain⟨w,r,rfl,bw,br⟩:=b2.bO;rw[br.bL];exact⟨a,vs,w,rfl,rfl,ha,by rw[<-b1.length];exact cy hl (by decide),k _ (b1.append (.cons bw .nil))⟩
 ·cases hg
def Ou(K:ah)(r:V->List V->Hp->VK->Prop)(g:av->Option av):Prop:=∀(H₀ aa F:Hp) (ρ:aE) (σ:St) (H:Hp) (a:ab) (ps qs:av) (vs:List V) (Q:VK),g ps=some qs->cB K H₀ aa F ρ σ H->H a=some (.ay vs)->aP K F ps vs ->
 (∀us,aP K F qs us->Q .cM (upd H a (.ay us)))->r (.ref a) [] H Q
def HQ(i:Nat)(g:av->Option av):FS:=λρ=>match ρ[i]? with
 | some (.own ps)=>(g ps).map λqs=>.nx (ρ.set i (.own qs))
 | _=>none
theorem HR{i:Nat}{g:av->Option av}{r:V->List V->Hp->VK->Prop}{D:jG}{σ:St}{H:Hp}(hg:Ou X.K r g)(h:tS X H₀ aa (HQ i g) D σ H) :
  tDrop (Uu X.K "list" r (iS i)) D σ H:=by
 obtain⟨F,ρ,o,R,hf,q⟩:=h;unfold HQ at hf;split at hf
 ·rename_i ps z;cases w:g ps with
  | none=>rw[w]at hf;cases hf
  | some qs =>
   rw[w]at hf;cases hf;obtain⟨a,vs,e1,e2,_,_,e5⟩:=R.own i ps z;refine⟨.ref a,e1,.inl ⟨rfl,vs,kQ.of e2⟩,?_⟩;exact hg H₀ aa F ρ σ H a ps qs vs _ w R e2 e5 λus bu=>q F σ _ (R.mut z e1 bu) (Same.refl F)
 ·cases hf
def Vb(K:ah):V->List V->Hp->VK->Prop:=λx vs H Q=>∃l b xs zs,x=.ref l/\vs=[.ref b]/\H l=some (.ay xs)/\(m8 K H b zs\/gI K H b zs)/\xs.length+zs.length<=sizeLine/\Q .cM (upd H l (.ay (xs++zs)))
theorem vz(l:ab)(aN:Array ag)(n:Nat)(b:ab)(more:Array ag)(n2:Nat)(dd:Option ab)(sl:Array lE)(h0:¬(!aN.isEmpty&&Builtin.List.listTooLong (aN.size+more.size))=true)(h1:aN.size<=sizeLine)(h2:aN.size+more.size<=sizeLine+1) :
  Meets (Builtin.«list.extend» ⟨[.ref l,.ref b],[]⟩) (λ_ R s=>s.heap.get? l=some {cls:=.type "list",dict:=none,data:=.seq aN n,slots:=#[]}/\s.heap.get? b=some {cls:=.type "tuple",dict:=dd,data:=.seq more n2,slots:=sl} /\
   R (.ok (.ret Value.none)) {s with heap:=s.heap.update l (Obj.mapSeq λx=>x++more),toks:=s.toks}) :=
 .of_wp λprog w A R s h=>by
  obtain⟨hp,g,d,tk,os⟩:=s;obtain⟨hl,hb,h⟩:=h;have f1:=AutoSeq1.idx_int;have f2:=AutoSeq1.sub_tuple_tuple;have f3:=AutoSeq1.sub_list_list;have f4:=AutoSeq1.sub_tuple_list;have f5:=AutoSeq1.sub_list_tuple;have Z8:(aN++more).size<=sizeLine+1:=by rw[Array.size_append];exact h2
  wp_walk using (wpAny_updateSeq hl rfl (hz:=h1) (_hz':=Z8)),jM hl,jM hb
  exact⟨_,rfl,h⟩
theorem QQ{X:Cx}:Uv X "list.extend" (Vb X.K):=by
 intro af s σ H x vs v us Q I rx rv h;obtain⟨l,b,xs,zs,rfl,rfl,hH,hB,hz,q⟩:=h;cases rx;obtain⟨u,rfl,ru⟩:=rv.one;cases ru;obtain⟨z,aN,n,r,hl,e⟩:=I.Ly hH;have go:∀(ie:b6),Vals zs ie->(¬(!aN.toArray.isEmpty&&Builtin.List.listTooLong (aN.toArray.size+ie.toArray.size))=true/\aN.toArray.size<=sizeLine/\aN.toArray.size+ie.toArray.size<=sizeLine+1) /\
   EP X af σ Q Value.none {s with heap:=s.heap.update l (Obj.mapSeq λx=>x++ie.toArray),toks:=s.toks}:=λie r2=>by
  have QR:=r2.length;have hsz:aN.toArray.size+ie.toArray.size<=sizeLine:=by rw[bh,bh];lia
  refine⟨⟨?_,by rw[bh];lia,by lia⟩,.cM,_,I.Lx (its':=aN++ie) hH e (by simp) (r.append r2) (by rw[bX];lia),rfl,q⟩
  rw[Hu hsz,uV];exact gQ
 rcases hB with hB | hB
 ·obtain⟨ie,n2,r2,e2,_⟩:=I.qu hB;obtain⟨⟨g1,g2,g3⟩,g4⟩:=go ie r2;exact nH F.slot_list_extend ⟨_,e,rfl⟩ F.entry_list_extend (F.args_list_extend_2 _ _) (AutoSeq1.list_extend_list_list_0 l aN.toArray n b ie.toArray n2 g1 g2 g3) ⟨e,e2,g4⟩
 ·obtain⟨ie,r2,⟨⟨cls,dd,dat,sl⟩,e2,hc,n2,hd⟩,_⟩:=I.tuple hB;simp only at hc hd;subst hc hd;obtain⟨⟨g1,g2,g3⟩,g4⟩:=go ie r2;exact nH F.slot_list_extend ⟨_,e,rfl⟩ F.entry_list_extend (F.args_list_extend_2 _ _) (vz l aN.toArray n b ie.toArray n2 dd sl g1 g2 g3) ⟨e,e2,g4⟩
theorem L1{K:ah}:LZ K (Vb K) nQ:=by
 intro H₀ aa F ρ σ H a ps as qs vs ws Q hg R ha b1 b2 k;unfold nQ at hg;split at hg
 ·rename_i rs;obtain⟨hl,rfl⟩:=aA hg;obtain⟨w,r,rfl,bw,br⟩:=b2.bO;rw[br.bL];obtain⟨b,zs,rfl,hs,hb⟩:=aU.mp bw;exact⟨a,b,vs,zs,rfl,rfl,ha,.inl (bG R.sub hs),by rw[<-b1.length,<-hb.length];exact d9 hl,k _ (b1.append hb)⟩
 ·rename_i rs;obtain⟨hl,rfl⟩:=aA hg;obtain⟨w,r,rfl,bw,br⟩:=b2.bO;rw[br.bL];obtain⟨b,zs,rfl,hs,hb⟩:=bt.mp bw;exact⟨a,b,vs,zs,rfl,rfl,ha,.inr (aQ R.sub hs),by rw[<-b1.length,<-hb.length];exact d9 hl,k _ (b1.append hb)⟩
 ·cases hg
end
def rT(K:ah)(g:PV->PV->bP):R2:=λx y H Q=>∃H₀ aa F ρ τ pa pb p,g pa pb=some p/\cB K H₀ aa F ρ τ H/\cI K F pa x/\cI K F pb y/\∀v H' F',cB K H₀ aa F' ρ τ H'->Same F F'->cI K F' p v->Q v H'
abbrev vA(X:Cx)(f:ag->ag->Sem ag)(g:PV->PV->bP):Prop:=OpR X f (rT X.K g)
theorem mr{K:ah}{g:PV->PV->bP}:LI K (rT K g) g:=λH₀ aa F ρ σ H pa pb p x y Q e R ba bb k=>⟨H₀,aa,F,ρ,σ,pa,pb,p,e,R,ba,bb,k⟩
def sizeOk(n:Nat)(p:PV):bP:=if n<=fO then some p else none
theorem j7{n:Nat}{p q:PV}(h:sizeOk n p=some q):n<=sizeLine/\p=q:=by
 obtain⟨h1,h2⟩:=aA h;exact⟨d9 h1,h2⟩
def ck:PV->PV->bP
 | .int i,.int j=>some (.int (i+j))
 | .str x,.str y=>sizeOk (x.length+y.length) (.str (x++y))
 | .aJ xs,.aJ ys=>sizeOk (xs.length+ys.length) (.aJ (xs++ys))
 | .ay xs,.ay ys=>sizeOk (xs.length+ys.length) (.ay (xs++ys))
 | _,_=>none
def HS:PV->PV->bP
 | .int i,.int j=>some (.int (i-j))
 | _,_=>none
def HU:Int:=18446744073709551616
def gJ:PV->PV->bP
 | .int i,.int j=>if(-HU<i/\i<HU)\/(-HU<j/\j<HU)then some (.int (i*j))else none
 | _,_=>none
def iq:PV->PV->bP
 | .int i,.int j=>if 0<j/\j<1073741824 then some (.int (i/j))else none
 | _,_=>none
def fq:PV->PV->bP
 | .int i,.int j=>if 0<j then some (.int (i%j))else none
 | _,_=>none
def oV:PV->PV->bP
 | .int i,.int j=>if 0<=j/\j<=1000/\i.natAbs<1000 then some (.int (i^j.toNat))else none
 | _,_=>none
section
variable {X:Cx}
theorem HV{prog:bc}{w:aM}{A:bD}{E:cf}{s:aq}{t b:ab}{ws:b6}{Q:cf}(ht:IsTup s.heap t ([]:b6).toArray)(hb:IsTup s.heap b ws.toArray)(h1:Q (.ref b) s):wpAny (model prog w) A (binaryOp .Add (.ref t) (.ref b)) Q E s:=by
 obtain⟨⟨cls,dd,data,sl⟩,ho,hc,n,hd⟩:=id ht;obtain⟨⟨ZE,Xp,Uo,Xq⟩,Qm,Up,n2,Uq⟩:=id hb;simp only at hc hd Up Uq;subst hc hd Up Uq;exact concat_meets ⟨_,ho,rfl⟩ ⟨_,Qm,rfl⟩ Ai seq_tuple_add zS zM (zI _ _) (tuple_addW0 t b _ ws.toArray n n2 dd Xp sl Xq (by simp)) ⟨ho,Qm,h1⟩
theorem vB:vA X (binaryOp .Add) ck:=by
 intro af s σ H x y v u Q I rx ry ⟨H₀,aa,F,ρ,τ,pa,pb,p,e,R,ba,bb,k⟩;unfold ck at e;split at e
 ·cases e;rw[aF.mp ba]at rx;rw[aF.mp bb]at ry;exact Qc af s σ H _ _ v u Q I rx ry ⟨_,_,rfl,rfl,k _ H F R (Same.refl F) (aF.mpr rfl)⟩
 ·obtain⟨hz,rfl⟩:=j7 e;rw[cj.mp ba]at rx;rw[cj.mp bb]at ry;exact AH af s σ H _ _ v u Q I rx ry ⟨_,_,rfl,rfl,hz,k _ H F R (Same.refl F) (cj.mpr rfl)⟩
 ·rename_i xs ys;obtain⟨hz,rfl⟩:=j7 e;obtain⟨a,vs,rfl,ha,fR⟩:=bt.mp ba;obtain⟨b,ws,rfl,hb,K1⟩:=bt.mp bb;have Z9:=aQ R.sub ha;have js:=aQ R.sub hb;cases xs with
  | nil =>
   rw[fR.bL]at Z9;cases rx;cases ry;obtain⟨aN,r1,p1,_⟩:=I.tuple Z9;obtain⟨ie,r2,p2,_⟩:=I.tuple js;cases r1;exact HV p1 p2 ⟨.ref b,H,I,rfl,k _ H F R (Same.refl F) (bt.mpr ⟨b,ws,rfl,hb,K1⟩)⟩
  | cons x0 xr =>
   refine Lv af s σ H _ _ v u Q I rx ry ⟨a,b,vs,ws,rfl,rfl,Z9,js,?_,by rw[<-fR.length,<-K1.length];exact hz,λz=>?_,λz q hq=>?_⟩
   ·intro z;have:=fR.length;rw[z]at this;cases this
   ·subst z;have hy:ys=[]:=by
     have:=K1.length;exact Gu this
    subst hy;rw[fH]at k;exact k _ H F R (Same.refl F) (bt.mpr ⟨a,vs,rfl,ha,fR⟩)
   ·obtain⟨R2,s2⟩:=R.laid (.aJ (vs++ws)) hq;exact k _ _ _ R2 s2 (bt.mpr ⟨q,_,rfl,gI.of aC,(fR.append K1).mono s2⟩)
 ·rename_i xs ys;obtain⟨hz,rfl⟩:=j7 e;obtain⟨a,vs,rfl,ha,fR⟩:=aU.mp ba;obtain⟨b,ws,rfl,hb,K1⟩:=aU.mp bb;cases rx;cases ry;obtain⟨aN,n,r,e1,z1⟩:=I.qu (bG R.sub ha);obtain⟨ie,n2,r2,e2,z2⟩:=I.qu (bG R.sub hb);have hl:=r.length;have QR:=r2.length;have Z8:vs.length+ws.length<=sizeLine:=by rw[<-fR.length,<-K1.length];exact hz
  refine PySem.P.add_list e1 e2 ?_ (by rw[bh,bh];lia)
  have ea:aN.toArray++ie.toArray=(aN++ie).toArray:=by simp
  rw[ea];obtain⟨R2,s2⟩:=R.laid (.ay (vs++ws)) I.fresh;exact⟨.ref _,_,I.Uw (t':=s.toks) (r.append r2) (by rw[bX];lia),rfl,k _ _ _ R2 s2 (aU.mpr ⟨_,_,rfl,m8.of aC,(fR.append K1).mono s2⟩)⟩
 ·cases e
theorem ir{f:ag->ag->Sem ag}{C:Int->Int->Prop}{h:Int->Int->V}{g:PV->PV->bP}(ho:OpR X f (rI C h))
  (hg:∀pa pb p,g pa pb=some p->∃i j,pa=.int i/\pb=.int j/\C i j/\∀F,cI X.K F p (h i j)):vA X f g:=by
 intro af s σ H x y v u Q I rx ry ⟨H₀,aa,F,ρ,τ,pa,pb,p,e,R,ba,bb,k⟩;obtain⟨i,j,rfl,rfl,hc,hp⟩:=hg pa pb p e;rw[aF.mp ba]at rx;rw[aF.mp bb]at ry;exact ho af s σ H _ _ v u Q I rx ry ⟨i,j,rfl,rfl,hc,k _ H F R (Same.refl F) (hp F)⟩
theorem ye{f:ag->ag->Sem ag}{h:Int->Int->V}(ho:OpR X f (AF h)):OpR X f (rI (λ_ _=>True) h):=by
 intro af s σ H x y v u Q I rx ry ⟨i,j,h1,h2,_,q⟩;exact ho af s σ H x y v u Q I rx ry ⟨i,j,h1,h2,q⟩
theorem L3:vA X (binaryOp .Sub) HS:=ir (ye Qd) λpa pb p e=>by
 unfold HS at e;split at e
 ·cases e;exact⟨_,_,rfl,rfl,trivial,λF=>aF.mpr rfl⟩
 ·cases e
theorem L5:vA X (binaryOp .Mult) gJ:=by
 intro af s σ H x y v u Q I rx ry ⟨H₀,aa,F,ρ,τ,pa,pb,p,e,R,ba,bb,k⟩;unfold gJ at e;split at e
 ·obtain⟨hc,rfl⟩:=aA e;rw[aF.mp ba]at rx;rw[aF.mp bb]at ry;exact Qe af s σ H _ _ v u Q I rx ry ⟨_,_,rfl,rfl,hc,k _ H F R (Same.refl F) (aF.mpr rfl)⟩
 ·cases e
theorem HW:vA X (binaryOp .FloorDiv) iq:=ir Lm λpa pb p e=>by
 unfold iq at e;split at e
 ·obtain⟨hc,rfl⟩:=aA e;exact⟨_,_,rfl,rfl,hc,λF=>aF.mpr rfl⟩
 ·cases e
theorem L6:vA X (binaryOp .Mod) fq:=ir Qf λpa pb p e=>by
 unfold fq at e;split at e
 ·obtain⟨hc,rfl⟩:=aA e;exact⟨_,_,rfl,rfl,hc,λF=>aF.mpr rfl⟩
 ·cases e
theorem L7:vA X (binaryOp .Pow) oV:=ir Qg λpa pb p e=>by
 unfold oV at e;split at e
 ·obtain⟨⟨h1,h2,h3⟩,rfl⟩:=aA e;exact⟨_,_,rfl,rfl,⟨h1,by lia,Nat.lt_trans h3 (by decide)⟩,λF=>aF.mpr rfl⟩
 ·cases e
end
def QS:Operator->Option (PV->PV->bP)
 | .Add=>some ck
 | .Sub=>some HS
 | .Mult=>some gJ
 | .FloorDiv=>some iq
 | .Mod=>some fq
 | .Pow=>some oV
 | _=>none
theorem L8{X:Cx}{op:Operator}{g:PV->PV->bP}(h:QS op=some g):vA X (binaryOp op) g:=by
 unfold QS at h;split at h
 ·cases h;exact vB
 ·cases h;exact L3
 ·cases h;exact L5
 ·cases h;exact HW
 ·cases h;exact L6
 ·cases h;exact L7
 ·cases h
mutual
def eqT:PV->PV->Bool
 | .cM,.cM=>true
 | .bl a,.bl b=>a==b
 | .bl a,.int b=>(if a then 1 else 0)==b
 | .int a,.bl b=>a==(if b then 1 else 0)
 | .int a,.int b=>a==b
 | .str a,.str b=>a==b
 | .aJ xs,.aJ ys=>mv xs ys
 | .ay xs,.ay ys=>mv xs ys
 | _,_=>false
def mv:av->av->Bool
 | [],[]=>true
 | x::xs,y::ys=>eqT x y&&mv xs ys
 | _,_=>false
end
mutual
def nj:PV->Nat
 | .aJ xs=>kX xs+1
 | .ay xs=>kX xs+1
 | _=>0
def kX:av->Nat
 | []=>0
 | x::xs=>max (nj x) (kX xs)
end
mutual
theorem mw:∀p:PV,eqT p p=true
 | .cM=>by simp[eqT]
 | .bl _=>by simp[eqT]
 | .int _=>by simp[eqT]
 | .str _=>by simp[eqT]
 | .aJ xs=>by simp only[eqT];exact nR xs
 | .ay xs=>by simp only[eqT];exact nR xs
theorem nR:∀ps:av,mv ps ps=true
 | []=>by simp[mv]
 | x::xs=>by simp only[mv,mw x,nR xs,Bool.and_self]
end
theorem mx:∀{xs ys:av},xs.length≠ys.length->mv xs ys=false
 | [],[],h=>absurd rfl h
 | [],_::_,_=>by simp[mv]
 | _::_,[],_=>by simp[mv]
 | x::xs,y::ys,h=>by
  simp only[mv,mx (xs:=xs) (ys:=ys) (by simpa using h),uV]
def j8(xs ys:av)(j:Nat):Bool:=match xs[j]?,ys[j]? with
 | some x,some y=>eqT x y
 | _,_=>true
theorem my:∀{xs ys:av},xs.length=ys.length->(List.range xs.length).all (j8 xs ys)=mv xs ys
 | [],[],_=>by simp[mv]
 | [],_::_,h=>by cases h
 | _::_,[],h=>by cases h
 | x::xs,y::ys,h=>by
  have ih:=my (xs:=xs) (ys:=ys) (by simpa using h)
  rw[aZ,List.range_succ_eq_map,gB,List.all_map];have e0:j8 (x::xs) (y::ys) 0=eqT x y:=rfl;have e1:(j8 (x::xs) (y::ys) ∘ Nat.succ)=j8 xs ys:=by
   funext j
   simp[j8,Function.comp]
  rw[e0,e1,ih];simp[mv]
section
variable {X:Cx} {af:List (ab×Obj)} {σ:St} {H F:Hp} {s:aq}
theorem qF(I:Inv X af σ H s)(hs:Same F H){a:ab}{vs ws:List V}(h1:m8 X.K F a vs)(h2:gI X.K F a ws):False:=by
 obtain⟨aN,n,r,e,_⟩:=I.qu (bG hs h1);obtain⟨ie,r2,p2,_⟩:=I.tuple (aQ hs h2);obtain⟨o,e2,hc,_⟩:=p2;rw[e]at e2;cases e2;simp at hc
mutual
theorem cI.inj(I:Inv X af σ H s)(hs:Same F H):∀{p q:PV} {v:V},cI X.K F p v->cI X.K F q v->p=q
 | .cM,q,v,h,h'=>by
  have e:=c8.mp h;subst e;cases q with
  | cM=>rfl
  | bl _=>have:=bN.mp h';cases this
  | int _=>have:=aF.mp h';cases this
  | str _=>have:=cj.mp h';cases this
  | aJ _=>obtain⟨_,_,e,_⟩:=bt.mp h';cases e
  | ay _=>obtain⟨_,_,e,_⟩:=aU.mp h';cases e
 | .bl b,q,v,h,h'=>by
  have e:=bN.mp h;subst e;cases q with
  | cM=>have:=c8.mp h';cases this
  | bl _=>have:=bN.mp h';cases this;rfl
  | int _=>have:=aF.mp h';cases this
  | str _=>have:=cj.mp h';cases this
  | aJ _=>obtain⟨_,_,e,_⟩:=bt.mp h';cases e
  | ay _=>obtain⟨_,_,e,_⟩:=aU.mp h';cases e
 | .int b,q,v,h,h'=>by
  have e:=aF.mp h;subst e;cases q with
  | cM=>have:=c8.mp h';cases this
  | bl _=>have:=bN.mp h';cases this
  | int _=>have:=aF.mp h';cases this;rfl
  | str _=>have:=cj.mp h';cases this
  | aJ _=>obtain⟨_,_,e,_⟩:=bt.mp h';cases e
  | ay _=>obtain⟨_,_,e,_⟩:=aU.mp h';cases e
 | .str b,q,v,h,h'=>by
  have e:=cj.mp h;subst e;cases q with
  | cM=>have:=c8.mp h';cases this
  | bl _=>have:=bN.mp h';cases this
  | int _=>have:=aF.mp h';cases this
  | str _=>have:=cj.mp h';cases this;rfl
  | aJ _=>obtain⟨_,_,e,_⟩:=bt.mp h';cases e
  | ay _=>obtain⟨_,_,e,_⟩:=aU.mp h';cases e
 | .aJ xs,q,v,h,h'=>by
  obtain⟨a,vs,rfl,h1,h2⟩:=bt.mp h;cases q with
  | cM=>have:=c8.mp h';cases this
  | bl _=>have:=bN.mp h';cases this
  | int _=>have:=aF.mp h';cases this
  | str _=>have:=cj.mp h';cases this
  | aJ ys =>
   obtain⟨b,ws,e,g1,g2⟩:=bt.mp h';cases e;have:=I.nK (aQ hs h1) (aQ hs g1);subst this;rw[aP.inj I hs h2 g2]
  | ay _ =>
   obtain⟨b,ws,e,g1,g2⟩:=aU.mp h';cases e;exact(qF I hs g1 h1).elim
 | .ay xs,q,v,h,h'=>by
  obtain⟨a,vs,rfl,h1,h2⟩:=aU.mp h;cases q with
  | cM=>have:=c8.mp h';cases this
  | bl _=>have:=bN.mp h';cases this
  | int _=>have:=aF.mp h';cases this
  | str _=>have:=cj.mp h';cases this
  | ay ys =>
   obtain⟨b,ws,e,g1,g2⟩:=aU.mp h';cases e;have:=I.qh (bG hs h1).sq (bG hs g1).sq;subst this;rw[aP.inj I hs h2 g2]
  | aJ _ =>
   obtain⟨b,ws,e,g1,g2⟩:=bt.mp h';cases e;exact(qF I hs h1 g1).elim
theorem aP.inj(I:Inv X af σ H s)(hs:Same F H):∀{ps qs:av} {vs:List V},aP X.K F ps vs->aP X.K F qs vs->ps=qs
 | [],[],_,_,_=>rfl
 | [],_::_,vs,h,h'=>by
  rw[h.bL]at h';obtain⟨_,_,e,_⟩:=h'.bO;cases e
 | _::_,[],vs,h,h'=>by
  rw[h'.bL]at h;obtain⟨_,_,e,_⟩:=h.bO;cases e
 | p::ps,q::qs,vs,h,h'=>by
  obtain⟨v,r,rfl,h1,h2⟩:=h.bO;obtain⟨v',r',e,g1,g2⟩:=h'.bO;cases e;rw[cI.inj I hs h1 g1,aP.inj I hs h2 g2]
end
end
section
variable {A:bD} {s:aq}
theorem aV{u w:ag}{b c:Bool}(h:b=c)(r:SeqAt.RcAt A s u w b):SeqAt.RcAt A s u w c:=h▸r
theorem aI{u w:ag}{b c:Bool}(h:b = !c)(r:SeqAt.RcNeAt A s u w b):SeqAt.RcNeAt A s u w (!c):=h▸r
theorem CW{u w:ag}{b:Bool}(hf:∀x t,u≠.float x t)(h:SeqAt.RcAt A s u w b)(hb:u=w->b=true):SeqAt.EqAt A s u w b:=λprog v E Q hq=>by
 unfold eqBool;refine f7 ?_;refine Ao (λz=>?_) (λ_=>?_)
 ·rw[hb (bq z)]at hq;exact ai (p3 (aw hq))
 ·cases u with
  | float x t=>exact absurd rfl (hf x t)
  | _=>exact ai (h prog v E _ (ji hq))
theorem t8{K:ah}{F:Hp}{p:PV}{x:V}{u:ag}(b:cI K F p x)(r:RelV x u):∀y t,u≠.float y t:=λy t z=>by
 subst z;cases p with
 | cM=>rw[c8.mp b]at r;cases r
 | bl _=>rw[bN.mp b]at r;cases r
 | int _=>rw[aF.mp b]at r;obtain⟨_,r⟩:=r;cases r
 | str _=>rw[cj.mp b]at r;obtain⟨_,r⟩:=r;cases r
 | aJ _=>obtain⟨_,_,rfl,_⟩:=bt.mp b;cases r
 | ay _=>obtain⟨_,_,rfl,_⟩:=aU.mp b;cases r
end
theorem CY{xs ys:av}{m n:Nat}(h1:xs.length=m)(h2:ys.length=n):((List.range (min m n)).all (j8 xs ys)&&(m==n))=mv xs ys:=by
 subst h1 h2;by_cases h:xs.length=ys.length
 ·rw[<-h,Nat.min_self,my h];simp
 ·rw[mx h];simp[h]
section
variable {X:Cx} {af:List (ab×Obj)} {σ:St} {H F:Hp} {s:aq}
inductive KV (K:ah) (F:Hp) (s:aq):PV->ag->Prop
 | cM:KV K F s .cM .none
 | bl {b:Bool}:KV K F s (.bl b) (.bool b)
 | int {i:Int} {t:Tok}:KV K F s (.int i) (.int i t)
 | str {x:Str} {t:Tok}:KV K F s (.str x) (.str x t)
 | aJ {ps:av} {a:ab} (vs:List V) (aN:b6) (h:aP K F ps vs) (r:Vals vs aN) (p:s.heap.IsTuple a aN.toArray):KV K F s (.aJ ps) (.ref a)
 | ay {ps:av} {a:ab} (vs:List V) (aN:b6) (h:aP K F ps vs) (r:Vals vs aN) (p:s.heap.IsList a aN.toArray):KV K F s (.ay ps) (.ref a)
theorem oF(I:Inv X af σ H s)(hs:Same F H){p:PV}{x:V}{u:ag}(b:cI X.K F p x)(r:RelV x u):KV X.K F s p u:=by
 cases p with
 | cM=>rw[c8.mp b]at r;cases r;exact .cM
 | bl _=>rw[bN.mp b]at r;cases r;exact .bl
 | int _=>rw[aF.mp b]at r;obtain⟨t,rfl⟩:=r;exact .int
 | str _=>rw[cj.mp b]at r;obtain⟨t,rfl⟩:=r;exact .str
 | aJ _ =>
  obtain⟨a,vs,rfl,h,l⟩:=bt.mp b;cases r;obtain⟨aN,rr,p,_⟩:=I.tuple (aQ hs h);exact .aJ vs aN l rr p
 | ay _ =>
  obtain⟨a,vs,rfl,h,l⟩:=aU.mp b;cases r;obtain⟨aN,rr,p,_⟩:=I.list (bG hs h).sq;exact .ay vs aN l rr p.isList
mutual
theorem A0(I:Inv X af σ H s)(hs:Same F H):∀(p q:PV) (A:bD) (u w:ag),KV X.K F s p u->KV X.K F s q w->A.units+nj p<cLine->SeqAt.RcAt A s u w (eqT p q)
 | .cM,q,A,u,w,ha,hb,hu=>by
  have gr:A.units<cLine:=by lia
  cases ha;cases hb with
  | cM=>exact aV (by simp[eqT]) (SeqAt.RcAt.none_none)
  | bl=>exact aV (by simp[eqT]) (SeqAt.RcAt.none_bool _)
  | int=>exact aV (by simp[eqT]) (SeqAt.RcAt.none_int _ _)
  | str=>exact aV (by simp[eqT]) (SeqAt.RcAt.none_str _ _)
  | aJ nS kY lR rR pR=>exact aV (by simp[eqT]) (SeqAt.RcAt.none_tuple pR gr)
  | ay nS kY lR rR pR=>exact aV (by simp[eqT]) (SeqAt.RcAt.none_list pR gr)
 | .bl k,q,A,u,w,ha,hb,hu=>by
  have gr:A.units<cLine:=by lia
  cases ha;cases hb with
  | cM=>exact aV (by simp[eqT]) (SeqAt.RcAt.bool_none _)
  | bl=>exact aV (by simp[eqT]) (SeqAt.RcAt.bool_bool _ _)
  | int=>exact aV (by simp[eqT]) (SeqAt.RcAt.bool_int _ _ _)
  | str=>exact aV (by simp[eqT]) (SeqAt.RcAt.bool_str _ _ _)
  | aJ nS kY lR rR pR=>exact aV (by simp[eqT]) (SeqAt.RcAt.bool_tuple _ pR gr)
  | ay nS kY lR rR pR=>exact aV (by simp[eqT]) (SeqAt.RcAt.bool_list _ pR gr)
 | .int k,q,A,u,w,ha,hb,hu=>by
  have gr:A.units<cLine:=by lia
  cases ha;cases hb with
  | cM=>exact aV (by simp[eqT]) (SeqAt.RcAt.int_none _ _)
  | bl=>exact aV (by simp[eqT]) (SeqAt.RcAt.int_bool _ _ _)
  | int=>exact aV (by simp[eqT]) (SeqAt.RcAt.int_int _ _ _ _)
  | str=>exact aV (by simp[eqT]) (SeqAt.RcAt.int_str _ _ _ _)
  | aJ nS kY lR rR pR=>exact aV (by simp[eqT]) (SeqAt.RcAt.int_tuple _ _ pR gr)
  | ay nS kY lR rR pR=>exact aV (by simp[eqT]) (SeqAt.RcAt.int_list _ _ pR gr)
 | .str k,q,A,u,w,ha,hb,hu=>by
  have gr:A.units<cLine:=by lia
  cases ha;cases hb with
  | cM=>exact aV (by simp[eqT]) (SeqAt.RcAt.str_none _ _)
  | bl=>exact aV (by simp[eqT]) (SeqAt.RcAt.str_bool _ _ _)
  | int=>exact aV (by simp[eqT]) (SeqAt.RcAt.str_int _ _ _ _)
  | str=>exact aV (by simp[eqT]) (SeqAt.RcAt.str_str _ _ _ _)
  | aJ nS kY lR rR pR=>exact aV (by simp[eqT]) (SeqAt.RcAt.str_tuple _ _ pR gr)
  | ay nS kY lR rR pR=>exact aV (by simp[eqT]) (SeqAt.RcAt.str_list _ _ pR gr)
 | .aJ xs,q,A,u,w,ha,hb,hu=>by
  have gr:A.units<cLine:=by lia
  cases ha with
  | aJ QT A1 lL rL pL =>
  cases hb with
  | cM=>exact aV (by simp[eqT]) (SeqAt.RcAt.tuple_none pL gr)
  | bl=>exact aV (by simp[eqT]) (SeqAt.RcAt.tuple_bool _ pL gr)
  | int=>exact aV (by simp[eqT]) (SeqAt.RcAt.tuple_int _ _ pL gr)
  | str=>exact aV (by simp[eqT]) (SeqAt.RcAt.tuple_str _ _ pL gr)
  | @aJ ys _ nS kY lR rR pR =>
   have e1:xs.length=A1.toArray.size:=by rw[bh,<-rL.length,<-lL.length]
   have e2:ys.length=kY.toArray.size:=by rw[bh,<-rR.length,<-lR.length]
   refine aV ?_ (SeqAt.RcAt.tuples (e:=j8 xs ys) pL pR gr λj h1 h2=>?_)
   ·rw[CY e1 e2];simp[eqT]
   ·exact mz I hs xs ys A.in1 QT nS A1 kY lL lR rL rR (by rw[jS];simp only[nj]at hu;lia) j (by simpa using h1) (by simpa using h2)
  | ay nS kY lR rR pR=>exact aV (by simp[eqT]) (SeqAt.RcAt.tuple_list pL pR gr)
 | .ay xs,q,A,u,w,ha,hb,hu=>by
  have gr:A.units<cLine:=by lia
  cases ha with
  | ay QT A1 lL rL pL =>
  cases hb with
  | cM=>exact aV (by simp[eqT]) (SeqAt.RcAt.list_none pL gr)
  | bl=>exact aV (by simp[eqT]) (SeqAt.RcAt.list_bool _ pL gr)
  | int=>exact aV (by simp[eqT]) (SeqAt.RcAt.list_int _ _ pL gr)
  | str=>exact aV (by simp[eqT]) (SeqAt.RcAt.list_str _ _ pL gr)
  | aJ nS kY lR rR pR=>exact aV (by simp[eqT]) (SeqAt.RcAt.list_tuple pL pR gr)
  | @ay ys _ nS kY lR rR pR =>
   by_cases hl:xs.length=ys.length
   ·have sz:A1.toArray.size=kY.toArray.size:=by rw[bh,bh,<-rL.length,<-rR.length,<-lL.length,<-lR.length];exact hl
    have e0:A1.toArray.size=xs.length:=by rw[bh,<-rL.length,<-lL.length]
    refine aV ?_ (SeqAt.RcAt.lists (e:=j8 xs ys) pL pR sz gr λj h1 h2=>?_)
    ·rw[e0,my hl];simp[eqT]
    ·exact mz I hs xs ys A.in1 QT nS A1 kY lL lR rL rR (by rw[jS];simp only[nj]at hu;lia) j (by simpa using h1) (by simpa using h2)
   ·have sz:(A1.toArray.size != kY.toArray.size)=true:=by rw[bh,bh,<-rL.length,<-rR.length,<-lL.length,<-lR.length];simpa using hl
    exact aV (by simp[eqT,mx hl]) (SeqAt.RcAt.lists_lengths pL pR sz gr)
theorem mz(I:Inv X af σ H s)(hs:Same F H):∀(ps qs:av) (A:bD) (vs ws:List V) (us zs:b6),aP X.K F ps vs->aP X.K F qs ws->Vals vs us->Vals ws zs->A.units+kX ps<cLine ->
  ∀(j:Nat) (h1:j<us.length) (h2:j<zs.length),SeqAt.EqAt A s us[j] zs[j] (j8 ps qs j)
 | [],qs,A,vs,ws,us,zs,b1,b2,r1,r2,hu=>λj h1 h2=>by
  rw[b1.bL]at r1;cases r1;cases h1
 | p::ps,qs,A,vs,ws,us,zs,b1,b2,r1,r2,hu=>λj h1 h2=>by
  obtain⟨v,vr,rfl,c1,d1⟩:=b1.bO;cases qs with
  | nil =>
   rw[b2.bL]at r2;cases r2;cases h2
  | cons q qs =>
   obtain⟨w,wr,rfl,c2,d2⟩:=b2.bO;cases r1 with
   | cons ra rr =>
    cases r2 with
    | cons sa sr =>
     have hm:A.units+nj p<cLine/\A.units+kX ps<cLine:=by
      simp only[kX]at hu
      lia
     cases j with
     | zero =>
      refine CW (t8 c1 ra) (A0 I hs p q A _ _ (oF I hs c1 ra) (oF I hs c2 sa) hm.1) λz=>?_
      simp only[List.getElem_cons_zero]at z;rw[<-z]at sa;have e:=ra.inj sa;subst e;rw[cI.inj I hs c1 c2];exact mw q
     | succ j =>
      exact mz I hs ps qs A _ _ _ _ d1 d2 rr sr hm.2 j (by simpa using h1) (by simpa using h2)
end
theorem QU(I:Inv X af σ H s)(hs:Same F H){p q:PV}{A:bD}{x y:V}{u w:ag}(b1:cI X.K F p x)(b2:cI X.K F q y)(r1:RelV x u)(r2:RelV y w)(hu:A.units+nj p<cLine):SeqAt.EqAt A s u w (eqT p q):=by
 refine CW (t8 b1 r1) (A0 I hs p q A _ _ (oF I hs b1 r1) (oF I hs b2 r2) hu) λz=>?_
 rw[<-z]at r2;have e:=r1.inj r2;subst e;rw[cI.inj I hs b1 b2];exact mw q
theorem QV(I:Inv X af σ H s)(hs:Same F H):∀(p q:PV) (A:bD) (u w:ag),KV X.K F s p u->KV X.K F s q w->A.units+nj p<cLine->SeqAt.RcNeAt A s u w (!(eqT p q))
 | .cM,q,A,u,w,ha,hb,hu=>by
  have gr:A.units<cLine:=by lia
  cases ha;cases hb with
  | cM=>exact aI (by simp[eqT]) (SeqAt.RcNeAt.none_none)
  | bl=>exact aI (by simp[eqT]) (SeqAt.RcNeAt.none_bool _)
  | int=>exact aI (by simp[eqT]) (SeqAt.RcNeAt.none_int _ _)
  | str=>exact aI (by simp[eqT]) (SeqAt.RcNeAt.none_str _ _)
  | aJ nS kY lR rR pR=>exact aI (by simp[eqT]) (SeqAt.RcNeAt.none_tuple pR gr)
  | ay nS kY lR rR pR=>exact aI (by simp[eqT]) (SeqAt.RcNeAt.none_list pR gr)
 | .bl k,q,A,u,w,ha,hb,hu=>by
  have gr:A.units<cLine:=by lia
  cases ha;cases hb with
  | cM=>exact aI (by simp[eqT]) (SeqAt.RcNeAt.bool_none _)
  | bl=>exact aI (by simp[eqT]) (SeqAt.RcNeAt.bool_bool _ _)
  | int=>exact aI (by simp[eqT]) (SeqAt.RcNeAt.bool_int _ _ _)
  | str=>exact aI (by simp[eqT]) (SeqAt.RcNeAt.bool_str _ _ _)
  | aJ nS kY lR rR pR=>exact aI (by simp[eqT]) (SeqAt.RcNeAt.bool_tuple _ pR gr)
  | ay nS kY lR rR pR=>exact aI (by simp[eqT]) (SeqAt.RcNeAt.bool_list _ pR gr)
 | .int k,q,A,u,w,ha,hb,hu=>by
  have gr:A.units<cLine:=by lia
  cases ha;cases hb with
  | cM=>exact aI (by simp[eqT]) (SeqAt.RcNeAt.int_none _ _)
  | bl=>exact aI (by simp[eqT]) (SeqAt.RcNeAt.int_bool _ _ _)
  | int=>exact aI (by simp[eqT]) (SeqAt.RcNeAt.int_int _ _ _ _)
  | str=>exact aI (by simp[eqT]) (SeqAt.RcNeAt.int_str _ _ _ _)
  | aJ nS kY lR rR pR=>exact aI (by simp[eqT]) (SeqAt.RcNeAt.int_tuple _ _ pR gr)
  | ay nS kY lR rR pR=>exact aI (by simp[eqT]) (SeqAt.RcNeAt.int_list _ _ pR gr)
 | .str k,q,A,u,w,ha,hb,hu=>by
  have gr:A.units<cLine:=by lia
  cases ha;cases hb with
  | cM=>exact aI (by simp[eqT]) (SeqAt.RcNeAt.str_none _ _)
  | bl=>exact aI (by simp[eqT]) (SeqAt.RcNeAt.str_bool _ _ _)
  | int=>exact aI (by simp[eqT]) (SeqAt.RcNeAt.str_int _ _ _ _)
  | str=>exact aI (by simp[eqT]) (SeqAt.RcNeAt.str_str _ _ _ _)
  | aJ nS kY lR rR pR=>exact aI (by simp[eqT]) (SeqAt.RcNeAt.str_tuple _ _ pR gr)
  | ay nS kY lR rR pR=>exact aI (by simp[eqT]) (SeqAt.RcNeAt.str_list _ _ pR gr)
 | .aJ xs,q,A,u,w,ha,hb,hu=>by
  have gr:A.units<cLine:=by lia
  cases ha with
  | aJ QT A1 lL rL pL =>
  cases hb with
  | cM=>exact aI (by simp[eqT]) (SeqAt.RcNeAt.tuple_none pL gr)
  | bl=>exact aI (by simp[eqT]) (SeqAt.RcNeAt.tuple_bool _ pL gr)
  | int=>exact aI (by simp[eqT]) (SeqAt.RcNeAt.tuple_int _ _ pL gr)
  | str=>exact aI (by simp[eqT]) (SeqAt.RcNeAt.tuple_str _ _ pL gr)
  | @aJ ys _ nS kY lR rR pR =>
   have e1:xs.length=A1.toArray.size:=by rw[bh,<-rL.length,<-lL.length]
   have e2:ys.length=kY.toArray.size:=by rw[bh,<-rR.length,<-lR.length]
   refine aI ?_ (SeqAt.RcNeAt.tuples (e:=j8 xs ys) pL pR gr λj h1 h2=>?_)
   ·rw[CY e1 e2];simp[eqT]
   ·exact mz I hs xs ys A.in1 QT nS A1 kY lL lR rL rR (by rw[jS];simp only[nj]at hu;lia) j (by simpa using h1) (by simpa using h2)
  | ay nS kY lR rR pR=>exact aI (by simp[eqT]) (SeqAt.RcNeAt.tuple_list pL pR gr)
 | .ay xs,q,A,u,w,ha,hb,hu=>by
  have gr:A.units<cLine:=by lia
  cases ha with
  | ay QT A1 lL rL pL =>
  cases hb with
  | cM=>exact aI (by simp[eqT]) (SeqAt.RcNeAt.list_none pL gr)
  | bl=>exact aI (by simp[eqT]) (SeqAt.RcNeAt.list_bool _ pL gr)
  | int=>exact aI (by simp[eqT]) (SeqAt.RcNeAt.list_int _ _ pL gr)
  | str=>exact aI (by simp[eqT]) (SeqAt.RcNeAt.list_str _ _ pL gr)
  | aJ nS kY lR rR pR=>exact aI (by simp[eqT]) (SeqAt.RcNeAt.list_tuple pL pR gr)
  | @ay ys _ nS kY lR rR pR =>
   by_cases hl:xs.length=ys.length
   ·have sz:A1.toArray.size=kY.toArray.size:=by rw[bh,bh,<-rL.length,<-rR.length,<-lL.length,<-lR.length];exact hl
    have e0:A1.toArray.size=xs.length:=by rw[bh,<-rL.length,<-lL.length]
    refine aI ?_ (SeqAt.RcNeAt.lists (e:=j8 xs ys) pL pR sz gr λj h1 h2=>?_)
    ·rw[e0,my hl];simp[eqT]
    ·exact mz I hs xs ys A.in1 QT nS A1 kY lL lR rL rR (by rw[jS];simp only[nj]at hu;lia) j (by simpa using h1) (by simpa using h2)
   ·have sz:(A1.toArray.size != kY.toArray.size)=true:=by rw[bh,bh,<-rL.length,<-rR.length,<-lL.length,<-lR.length];simpa using hl
    exact aI (by simp[eqT,mx hl]) (SeqAt.RcNeAt.lists_lengths pL pR sz gr)
end
def i0:Nat:=1000
def nk(p q:PV):bP:=if nj p<=i0 then some (.bl (eqT p q))else none
def CZ(p q:PV):bP:=if nj p<=i0 then some (.bl (!eqT p q))else none
section
variable {X:Cx}
theorem QW(hu:X.A.units+1150<cLine):vA X (compareOp .Eq) nk:=by
 intro af s σ H x y v u Q I rx ry ⟨H₀,aa,F,ρ,τ,pa,pb,p,e,R,ba,bb,k⟩;obtain⟨hd,rfl⟩:=aA e;have u6:nj pa<=1000:=hd;exact A0 I R.sub pa pb X.A v u (oF I R.sub ba rx) (oF I R.sub bb ry) (by lia) X.prog X.w X.xe _ ⟨.bl _,H,I,rfl,k _ H F R (Same.refl F) (bN.mpr rfl)⟩
theorem QX(hu:X.A.units+1150<cLine):vA X (compareOp .NotEq) CZ:=by
 intro af s σ H x y v u Q I rx ry ⟨H₀,aa,F,ρ,τ,pa,pb,p,e,R,ba,bb,k⟩;obtain⟨hd,rfl⟩:=aA e;have u6:nj pa<=1000:=hd;exact QV I R.sub pa pb X.A v u (oF I R.sub ba rx) (oF I R.sub bb ry) (by lia) X.prog X.w X.xe _ ⟨.bl _,H,I,rfl,k _ H F R (Same.refl F) (bN.mpr rfl)⟩
def C0:PV->PV->bP
 | .int i,.int j=>some (.bl (decide (i<j)))
 | _,_=>none
def HX:PV->PV->bP
 | .int i,.int j=>some (.bl (decide (i<=j)))
 | _,_=>none
def XD:PV->PV->bP
 | .int i,.int j=>some (.bl (decide (j<i)))
 | _,_=>none
def XE:PV->PV->bP
 | .int i,.int j=>some (.bl (decide (j<=i)))
 | _,_=>none
theorem QY:vA X (compareOp .Lt) C0:=ir (ye N6) λpa pb p e=>by
 unfold C0 at e;split at e
 ·cases e;exact⟨_,_,rfl,rfl,trivial,λF=>bN.mpr rfl⟩
 ·cases e
theorem QZ:vA X (compareOp .LtE) HX:=ir (ye Uh) λpa pb p e=>by
 unfold HX at e;split at e
 ·cases e;exact⟨_,_,rfl,rfl,trivial,λF=>bN.mpr rfl⟩
 ·cases e
theorem Q0:vA X (compareOp .Gt) XD:=ir (ye Ui) λpa pb p e=>by
 unfold XD at e;split at e
 ·cases e;exact⟨_,_,rfl,rfl,trivial,λF=>bN.mpr rfl⟩
 ·cases e
theorem Q1:vA X (compareOp .GtE) XE:=ir (ye Uj) λpa pb p e=>by
 unfold XE at e;split at e
 ·cases e;exact⟨_,_,rfl,rfl,trivial,λF=>bN.mpr rfl⟩
 ·cases e
def HY:PV->Bool
 | .cM=>true
 | _=>false
def isO:PV->PV->bP
 | p,.cM=>some (.bl (HY p))
 | _,_=>none
def Q2:PV->PV->bP
 | p,.cM=>some (.bl (!HY p))
 | _,_=>none
theorem C1{K:ah}{F:Hp}{p:PV}{x:V}(b:cI K F p x):decide (x=.cM)=HY p:=by
 cases p with
 | cM=>rw[c8.mp b];rfl
 | bl _=>rw[bN.mp b];rfl
 | int _=>rw[aF.mp b];rfl
 | str _=>rw[cj.mp b];rfl
 | aJ _=>obtain⟨_,_,rfl,_⟩:=bt.mp b;rfl
 | ay _=>obtain⟨_,_,rfl,_⟩:=aU.mp b;rfl
theorem Q3:vA X (compareOp .Is) isO:=by
 intro af s σ H x y v u Q I rx ry ⟨H₀,aa,F,ρ,τ,pa,pb,p,e,R,ba,bb,k⟩;unfold isO at e;split at e
 ·cases e;refine Qh af s σ H x y v u Q I rx ry ⟨c8.mp bb,k _ H F R (Same.refl F) (bN.mpr ?_)⟩;rw[C1 ba]
 ·cases e
theorem L9:vA X (compareOp .IsNot) Q2:=by
 intro af s σ H x y v u Q I rx ry ⟨H₀,aa,F,ρ,τ,pa,pb,p,e,R,ba,bb,k⟩;unfold Q2 at e;split at e
 ·rename_i pa';cases e;refine Lo af s σ H x y v u Q I rx ry ⟨c8.mp bb,k _ H F R (Same.refl F) (bN.mpr ?_)⟩;rw[C1 ba]
 ·cases e
def Q4(p:PV)(ps:av):Bool:=ps.any λq=>eqT q p
def HZ(neg:Bool):PV->PV->bP
 | p,.ay ps=>if kX ps<=i0 then some (.bl (if neg then !Q4 p ps else Q4 p ps))else none
 | p,.aJ ps=>if kX ps<=i0 then some (.bl (if neg then !Q4 p ps else Q4 p ps))else none
 | _,_=>none
open Classical in
noncomputable def kZ (K:ah) (F:Hp) (p:PV) (u:ag):Bool:=if h:∃q x,cI K F q x/\RelV x u then eqT h.choose p else false
theorem C2{af:List (ab×Obj)}{σ:St}{H F:Hp}{s:aq}(I:Inv X af σ H s)(hs:Same F H){p q:PV}{x:V}{u:ag}(b:cI X.K F q x)(r:RelV x u):kZ X.K F p u=eqT q p:=by
 have h:∃q x,cI X.K F q x/\RelV x u:=⟨q,x,b,r⟩
 unfold kZ;rw[dif_pos h];obtain⟨y,b',r'⟩:=h.choose_spec;have e:=r.inj r';subst e;rw[cI.inj I hs b' b]
theorem mB{af:List (ab×Obj)}{σ:St}{H F:Hp}{s:aq}(I:Inv X af σ H s)(hs:Same F H){p:PV}:∀{ps:av} {vs:List V} {us:b6},aP X.K F ps vs->Vals vs us->us.any (kZ X.K F p)=Q4 p ps
 | [],_,_,b,r=>by
  rw[b.bL]at r;cases r;rfl
 | q::ps,_,_,b,r=>by
  obtain⟨v,vr,rfl,c1,d1⟩:=b.bO;cases r with
  | cons ra rr =>
   rw[uX,C2 I hs c1 ra,mB I hs d1 rr];rfl
theorem mD{af:List (ab×Obj)}{σ:St}{H F:Hp}{s:aq}{A:bD}(I:Inv X af σ H s)(hs:Same F H){p:PV}{y:V}{w:ag}(bp:cI X.K F p y)(rp:RelV y w) :
  ∀{ps:av} {vs:List V} {us:b6},aP X.K F ps vs->Vals vs us->A.units+kX ps<cLine->∀u∈us,SeqAt.EqAt A s u w (kZ X.K F p u)
 | [],_,_,b,r,_=>λu hu=>by
  rw[b.bL]at r;cases r;cases hu
 | q::ps,_,_,b,r,hz=>λu hu=>by
  obtain⟨v,vr,rfl,c1,d1⟩:=b.bO;simp only[kX]at hz;cases r with
  | cons ra rr =>
   rcases aX.mp hu with rfl | hu
   ·rw[C2 I hs c1 ra];exact QU I hs c1 bp ra rp (by lia)
   ·exact mD I hs bp rp d1 rr (by lia) u hu
theorem Q5(hu:X.A.units+1150<cLine):vA X (compareOp .In) (HZ false):=by
 intro af s σ H x y v u Q I rx ry ⟨H₀,aa,F,ρ,τ,pa,pb,p,e,R,ba,bb,k⟩;unfold HZ at e;split at e
 ·obtain⟨hd,rfl⟩:=aA e;have u6:kX _<=1000:=hd;obtain⟨a,vs,rfl,ha,fR⟩:=aU.mp bb;cases ry;obtain⟨aN,r,pl,_⟩:=I.list ((bG R.sub ha).sq);refine SeqAt.in_listAt (kZ X.K F pa) pl.isList (λw hw=>mD I R.sub ba rx fR r (by rw[jS];lia) w (by simpa using hw)) ⟨.bl _,H,I,rfl,k _ H F R (Same.refl F) (bN.mpr ?_)⟩
  rw[show aN.toArray.any (kZ X.K F pa)=aN.any (kZ X.K F pa) by simp,mB I R.sub fR r]
  rfl
 ·obtain⟨hd,rfl⟩:=aA e;have u6:kX _<=1000:=hd;obtain⟨a,vs,rfl,ha,fR⟩:=bt.mp bb;cases ry;obtain⟨aN,r,pl,_⟩:=I.tuple (aQ R.sub ha);refine SeqAt.in_tupleAt (kZ X.K F pa) pl (λw hw=>mD I R.sub ba rx fR r (by rw[jS];lia) w (by simpa using hw)) ⟨.bl _,H,I,rfl,k _ H F R (Same.refl F) (bN.mpr ?_)⟩
  rw[show aN.toArray.any (kZ X.K F pa)=aN.any (kZ X.K F pa) by simp,mB I R.sub fR r]
  rfl
 ·cases e
theorem EJ(hu:X.A.units+1150<cLine):vA X (compareOp .NotIn) (HZ true):=by
 intro af s σ H x y v u Q I rx ry ⟨H₀,aa,F,ρ,τ,pa,pb,p,e,R,ba,bb,k⟩;unfold HZ at e;split at e
 ·obtain⟨hd,rfl⟩:=aA e;have u6:kX _<=1000:=hd;obtain⟨a,vs,rfl,ha,fR⟩:=aU.mp bb;cases ry;obtain⟨aN,r,pl,_⟩:=I.list ((bG R.sub ha).sq);refine SeqAt.notIn_listAt (kZ X.K F pa) pl.isList (λw hw=>mD I R.sub ba rx fR r (by rw[jS];lia) w (by simpa using hw)) ⟨.bl _,H,I,rfl,k _ H F R (Same.refl F) (bN.mpr ?_)⟩
  rw[show aN.toArray.any (kZ X.K F pa)=aN.any (kZ X.K F pa) by simp,mB I R.sub fR r]
  rfl
 ·obtain⟨hd,rfl⟩:=aA e;have u6:kX _<=1000:=hd;obtain⟨a,vs,rfl,ha,fR⟩:=bt.mp bb;cases ry;obtain⟨aN,r,pl,_⟩:=I.tuple (aQ R.sub ha);refine SeqAt.notIn_tupleAt (kZ X.K F pa) pl (λw hw=>mD I R.sub ba rx fR r (by rw[jS];lia) w (by simpa using hw)) ⟨.bl _,H,I,rfl,k _ H F R (Same.refl F) (bN.mpr ?_)⟩
  rw[show aN.toArray.any (kZ X.K F pa)=aN.any (kZ X.K F pa) by simp,mB I R.sub fR r]
  rfl
 ·cases e
end
def A2:CmpOp->Option (PV->PV->bP)
 | .Eq=>some nk
 | .NotEq=>some CZ
 | .Lt=>some C0
 | .LtE=>some HX
 | .Gt=>some XD
 | .GtE=>some XE
 | .Is=>some isO
 | .IsNot=>some Q2
 | .In=>some (HZ false)
 | .NotIn=>some (HZ true)
theorem kB{X:Cx}(hu:X.A.units+1150<cLine){op:CmpOp}{g:PV->PV->bP}(h:A2 op=some g):vA X (compareOp op) g:=by
 cases op<;>cases h
 ·exact QW hu
 ·exact QX hu
 ·exact QY
 ·exact QZ
 ·exact Q0
 ·exact Q1
 ·exact Q3
 ·exact L9
 ·exact Q5 hu
 ·exact EJ hu
section
variable {K:ah} {F:Hp}
theorem aP.atI{ps:av}{vs:List V}{i:Int}{p:PV}(h:aP K F ps vs)(e:L2.atI ps i=some p):∃v,L2.atI vs i=some v/\cI K F p v:=by
 unfold L2.atI at e ⊢;rw[<-h.length];cases z:Ht ps.length i with
 | none=>rw[z]at e;cases e
 | some j =>
  rw[z]at e;exact h.get e
end
def bC:PV->PV->bP
 | .aJ xs,.int i=>atI xs i
 | .ay xs,.int i=>atI xs i
 | .str z,.int i=>if z.length<=fO then(atI z.cps.toList i).map λc=>.str ⟨#[c]⟩else none
 | _,_=>none
section
variable {X:Cx} {H₀ aa:Hp} {a b e:aj} {fa fb:FE} {pos p2:Pos} {lo hi:Option aj}
theorem ixT:N9 X (rT X.K bC):=by
 intro value slice af s σ H x y v u Q I rx ry ⟨H₀,aa,F,ρ,τ,pa,pb,p,e,R,ba,bb,k⟩ hs;unfold bC at e;split at e
 ·obtain⟨a,vs,rfl,ha,fR⟩:=bt.mp ba;rw[aF.mp bb]at ry;obtain⟨w,hw,bw⟩:=fR.atI e;exact Qs value slice af s σ H _ _ v u Q I rx ry ⟨a,vs,_,w,rfl,rfl,aQ R.sub ha,hw,k _ H F R (Same.refl F) bw⟩ hs
 ·obtain⟨a,vs,rfl,ha,fR⟩:=aU.mp ba;rw[aF.mp bb]at ry;obtain⟨w,hw,bw⟩:=fR.atI e;exact vm value slice af s σ H _ _ v u Q I rx ry ⟨a,vs,_,w,rfl,rfl,(bG R.sub ha).sq,hw,k _ H F R (Same.refl F) bw⟩ hs
 ·rename_i z i;obtain⟨hz,e⟩:=ax e;rw[cj.mp ba]at rx;rw[aF.mp bb]at ry;cases w:atI z.cps.toList i with
  | none=>rw[w]at e;cases e
  | some c =>
   rw[w]at e;cases e;exact Qt value slice af s σ H _ _ v u Q I rx ry ⟨z,i,c,rfl,rfl,d9 hz,w,k _ H F R (Same.refl F) (cj.mpr rfl)⟩ hs
 ·cases e
theorem Vc(ha:PE X a (tE X.K H₀ aa fa))(hb:PE X b (tE X.K H₀ aa fb))(hs:kA b):PE X (.Subscript a b pos) (tE X.K H₀ aa (ak fa fb bC)):=(xM ixT ha hb hs).imp λ_ _ _ h=>pd mr h
def ij(xs:av)(lo hi:Option Int):av:=(xs.drop (HT.eu xs.length 0 lo)).take (HT.eu xs.length xs.length hi-HT.eu xs.length 0 lo)
theorem aP.cut{K:ah}{F:Hp}{ps:av}{vs:List V}(h:aP K F ps vs)(lo hi:Option Int):aP K F (ij ps lo hi) (rW vs lo hi):=by
 unfold ij rW;rw[h.length];exact(h.drop _).take _
theorem mE{prog:bc}{w:aM}{A:bD}{E:cf}{s:aq}{t sl:ab}{aN:Array ag}{vl vu:ag}{lo hi:Option Int}{Q:cf}(ht:IsTup s.heap t aN)(hs:s.heap.IsSliceOf sl vl vu .none)(pl:IsPart vl lo)(pu:IsPart vu hi)
  (h0:HT.eu aN.size 0 lo=0) (h1:HT.eu aN.size aN.size hi=aN.size) (h:Q (.ref t) s):wpAny (model prog w) A (getItem (.ref t) (.ref sl)) Q E s:=by
 obtain⟨os,Qo,hcs,Ur⟩:=id hs;have hT:s.TypeIs (.ref sl) "slice":=⟨os,Qo,hcs⟩;unfold getItem
 try with_reducible refine f7 ?_
 first | refine ai (aw ?_) | skip
 refine ai (wpAny_sequenceKey ht.typeIs (by decide) ?_)
 refine ai (jN (name:=Str.ofString "__getitem__") ht.typeIs nq (iG nq ht.typeIs entry_tuple_getitem ?_ (args_tuple_getitem _ _)));show wpAny _ _ (Builtin.Tuple.tupleItemsOf (.ref t) >>= _) _ _ s;refine ai (tupleItemsOf_ ht (ai (pW hT ?_)));rw[if_pos (by decide)]
 refine ai (HT.iZ hs pl pu ?_);have hc:(((HT.eu aN.size 0 lo:Nat):Int)==0&&(1:Int)==1&&(HT.eu aN.size aN.size hi-HT.eu aN.size 0 lo)==aN.size)=true:=by
  rw[h0,h1];simp
 show wpAny _ _ (if(((HT.eu aN.size 0 lo:Nat):Int)==0&&(1:Int)==1&&(HT.eu aN.size aN.size hi-HT.eu aN.size 0 lo)==aN.size)=true then _ else _) _ _ s
 rw[if_pos hc];unfold Builtin.Tuple.tupleIsExact;refine ai (ai (pW ht.typeIs (aw ?_)));rw[if_pos (by decide)]
 exact ai (p3 (aw ⟨_,rfl,aw h⟩))
def Ov(lo hi:Option Int):PV->bP
 | .ay ps=>some (.ay (ij ps lo hi))
 | .aJ ps=>some (.aJ (ij ps lo hi))
 | _=>none
def rSl(K:ah):V->Option Int->Option Int->Hp->VK->Prop:=λx lo hi H Q=>∃H₀ aa F ρ τ pa p,Ov lo hi pa=some p/\cB K H₀ aa F ρ τ H/\cI K F pa x/\∀v H' F',cB K H₀ aa F' ρ τ H'->Same F F'->cI K F' p v->Q v H'
theorem slT:Xr X (rSl X.K):=by
 intro af s σ H x v vl vu lo hi sl Q I rx hs pl pu ⟨H₀,aa,F,ρ,τ,pa,p,e,R,ba,k⟩;unfold Ov at e;split at e
 ·cases e;obtain⟨a,vs,rfl,ha,fR⟩:=aU.mp ba;refine CH af s σ H _ v vl vu lo hi sl Q I rx hs pl pu ⟨a,vs,rfl,(bG R.sub ha).sq,λq hq=>?_⟩
  obtain⟨R2,s2⟩:=R.laid (.ay (rW vs lo hi)) hq;exact k _ _ _ R2 s2 (aU.mpr ⟨q,_,rfl,m8.of aC,(fR.cut lo hi).mono s2⟩)
 ·rename_i ps;cases e;obtain⟨a,vs,rfl,ha,fR⟩:=bt.mp ba;by_cases hw:HT.eu vs.length 0 lo=0/\HT.eu vs.length vs.length hi=vs.length
  ·cases rx;obtain⟨aN,r,ht,hz⟩:=I.tuple (aQ R.sub ha);have cC:aN.toArray.size=vs.length:=by rw[bh];exact r.length.symm
   refine⟨"tuple",_,nq.lookup,ht.typeIs,?_⟩;refine mE ht hs pl pu (by rw[cC];exact hw.1) (by rw[cC];exact hw.2) ⟨.ref a,H,I,rfl,k _ H F R (Same.refl F) ?_⟩
   have hc:ij ps lo hi=ps:=by
    unfold ij;rw[fR.length,hw.1,hw.2,List.drop_zero,Nat.sub_zero,<-fR.length,List.take_length]
   rw[hc];exact ba
  ·refine Qq af s σ H _ v vl vu lo hi sl Q I rx hs pl pu ⟨a,vs,rfl,aQ R.sub ha,hw,λq hq=>?_⟩
   obtain⟨R2,s2⟩:=R.laid (.aJ (rW vs lo hi)) hq;exact k _ _ _ R2 s2 (bt.mpr ⟨q,_,rfl,gI.of aC,(fR.cut lo hi).mono s2⟩)
 ·cases e
abbrev FO:=aE->Option (Option Int)
def yf(K:ah)(H₀ aa:Hp)(f:FO):TO:=λσ H Q=>∃F ρ o,cB K H₀ aa F ρ σ H/\f ρ=some o/\∀H' F',cB K H₀ aa F' ρ σ H'->Same F F'->Q o H'
theorem _root_.L2.PO.imp{X:Cx}{e:Option aj}{t t':TO}(h:PO X e t)(hi:∀σ H Q,t' σ H Q->t σ H Q):PO X e t':=λaf s σ H Q I hw=>h af s σ H Q I (hi _ _ _ hw)
def C3:FO:=λ_=>some none
def ee(fe:FE):FO:=λρ=>(fe ρ).bind λp=>match p with | .int i=>some (some i) | _=>none
theorem H9:PO X none (yf X.K H₀ aa C3):=Ls.imp <| by
 rintro σ H Q ⟨F,ρ,o,R,hf,q⟩
 cases hf;exact q H F R (Same.refl F)
theorem Ia(h:PE X e (tE X.K H₀ aa fa)):PO X (some e) (yf X.K H₀ aa (ee fa)):=(Lu h).imp <| by
 rintro σ H Q ⟨F,ρ,o,R,hf,q⟩
 obtain⟨p,h1,h2⟩:=ar hf;cases p with
 | int i =>
  cases h2;exact⟨F,ρ,_,R,h1,λv H1 F1 R1 s1 b1=>⟨i,aF.mp b1,q H1 F1 R1 s1⟩⟩
 | _=>cases h2
def cutE(fa:FE)(fl fh:FO):FE:=λρ=>(fa ρ).bind λp=>(fl ρ).bind λl=>(fh ρ).bind λh=>Ov l h p
theorem Ow{fl fh:FO}(ha:PE X e (tE X.K H₀ aa fa))(hl:PO X lo (yf X.K H₀ aa fl))(hh:PO X hi (yf X.K H₀ aa fh)):PE X (.Subscript e (.Slice lo hi none p2) pos) (tE X.K H₀ aa (cutE fa fl fh)):=(xK slT ha hl hh).imp <| by
 rintro σ H Q ⟨F,ρ,p,R,hf,q⟩
 obtain⟨pa,h1,hf⟩:=ar hf;obtain⟨l,h2,hf⟩:=ar hf;obtain⟨h,h3,h4⟩:=ar hf;exact⟨F,ρ,pa,R,h1,λv H1 F1 R1 s1 b1=>⟨F1,ρ,l,R1,h2,λH2 F2 R2 s2=>⟨F2,ρ,h,R2,h3,λH3 F3 R3 s3 =>
  ⟨H₀,aa,F3,ρ,σ,pa,p,h4,R3,b1.mono (s2.trans s3),λw H4 F4 R4 s4 b4=>q w H4 F4 R4 (s1.trans (s2.trans (s3.trans s4))) b4⟩⟩⟩⟩
end
def rC(K:ah)(g:av->bP):List V->Hp->VK->Prop:=λxs H Q=>∃H₀ aa F ρ τ ps p,g ps=some p/\cB K H₀ aa F ρ τ H/\aP K F ps xs/\∀v H' F',cB K H₀ aa F' ρ τ H'->Same F F'->cI K F' p v->Q v H'
abbrev A3(X:Cx)(f:ag)(g:av->bP):Prop:=jZ X f (rC X.K g)
def dh(g:av->bP)(ts:bF):FE:=λρ=>(ts ρ).bind g
theorem jt{H₀ aa:Hp}{K:ah}{g:av->bP}{ts:bF}{σ:St}{H:Hp}{Q:VK}(h:tE K H₀ aa (dh g ts) σ H Q):ZD (rC K g) (tA K H₀ aa ts) σ H Q:=by
 obtain⟨F,ρ,p,R,hf,q⟩:=h;obtain⟨ps,h1,h2⟩:=ar hf;exact⟨F,ρ,ps,R,h1,λvs H1 F1 R1 s1 b1=>⟨H₀,aa,F1,ρ,σ,ps,p,h2,R1,b1,λv H' F' R' s' b'=>q v H' F' R' (s1.trans s') b'⟩⟩
def dZ:av->bP
 | [.aJ ps]=>some (.int ps.length)
 | [.ay ps]=>some (.int ps.length)
 | [.str z]=>if z.length<=fO then some (.int z.length)else none
 | _=>none
def qG:av->bP
 | [.ay ps]=>some (.aJ ps)
 | [.aJ ps]=>some (.aJ ps)
 | _=>none
def Ib:av->bP
 | [.ay ps]=>some (.ay ps)
 | [.aJ ps]=>some (.ay ps)
 | _=>none
def A4:av->bP
 | [.int i]=>some (.int i)
 | [.bl b]=>some (.int (if b then 1 else 0))
 | _=>none
def gF:av->Option (List Int)
 | []=>some []
 | .int i::r=>(gF r).map λns=>i::ns
 | _::_=>none
def A5:av->bP
 | [.ay ps]=>(gF ps).map λns=>.int ns.sum
 | _=>none
theorem mF{K:ah}{F:Hp}:∀{ps:av} {ns:List Int} {vs:List V},gF ps=some ns->aP K F ps vs->vs=ns.map V.int
 | [],ns,vs,h,b=>by cases h;exact b.bL
 | .int i::r,ns,vs,h,b=>by
  unfold gF at h;cases z:gF r with
  | none=>rw[z]at h;cases h
  | some ms =>
   rw[z]at h;cases h;obtain⟨v,vr,rfl,c,d⟩:=b.bO;rw[aF.mp c,mF z d];rfl
 | .cM::_,_,_,h,_=>by cases h
 | .bl _::_,_,_,h,_=>by cases h
 | .str _::_,_,_,h,_=>by cases h
 | .aJ _::_,_,_,h,_=>by cases h
 | .ay _::_,_,_,h,_=>by cases h
section
variable {X:Cx}
theorem dO{K:ah}{F:Hp}{p:PV}{vs:List V}(b:aP K F [p] vs):∃v,vs=[v]/\cI K F p v:=by
 obtain⟨v,r,rfl,c,d⟩:=b.bO;rw[d.bL];exact⟨v,rfl,c⟩
theorem C4{K:ah}{F:Hp}{p q:PV}{vs:List V}(b:aP K F [p,q] vs):∃v w,vs=[v,w]/\cI K F p v/\cI K F q w:=by
 obtain⟨v,r,rfl,c,d⟩:=b.bO;obtain⟨w,rfl,e⟩:=dO d;exact⟨v,w,rfl,c,e⟩
theorem EK:A3 X (.builtin "len") dZ:=by
 intro af s σ H xs us Q I rs ⟨H₀,aa,F,ρ,τ,ps,p,e,R,bs,k⟩;unfold dZ at e;split at e
 ·cases e;obtain⟨v,rfl,b⟩:=dO bs;obtain⟨a,vs,rfl,ha,fR⟩:=bt.mp b;exact jq af s σ H _ us Q I rs ⟨a,vs,rfl,.inr (aQ R.sub ha),k _ H F R (Same.refl F) (aF.mpr (by rw[fR.length]))⟩
 ·cases e;obtain⟨v,rfl,b⟩:=dO bs;obtain⟨a,vs,rfl,ha,fR⟩:=aU.mp b;exact jq af s σ H _ us Q I rs ⟨a,vs,rfl,.inl (bG R.sub ha).sq,k _ H F R (Same.refl F) (aF.mpr (by rw[fR.length]))⟩
 ·obtain⟨hz,rfl⟩:=aA e;obtain⟨v,rfl,b⟩:=dO bs;rw[cj.mp b]at rs;exact vo af s σ H _ us Q I rs ⟨_,rfl,d9 hz,k _ H F R (Same.refl F) (aF.mpr rfl)⟩
 ·cases e
theorem EL:A3 X (.type "tuple") qG:=by
 intro af s σ H xs us Q I rs ⟨H₀,aa,F,ρ,τ,ps,p,e,R,bs,k⟩;unfold qG at e;split at e
 ·cases e;obtain⟨v,rfl,b⟩:=dO bs;obtain⟨a,vs,rfl,ha,fR⟩:=aU.mp b;refine la af s σ H _ us Q I rs ⟨a,vs,rfl,.inl ⟨(bG R.sub ha).sq,λq hq=>?_⟩⟩
  obtain⟨R2,s2⟩:=R.laid (.aJ vs) hq;exact k _ _ _ R2 s2 (bt.mpr ⟨q,_,rfl,gI.of aC,fR.mono s2⟩)
 ·cases e;obtain⟨v,rfl,b⟩:=dO bs;obtain⟨a,vs,rfl,ha,fR⟩:=bt.mp b;exact la af s σ H _ us Q I rs ⟨a,vs,rfl,.inr ⟨aQ R.sub ha,k _ H F R (Same.refl F) b⟩⟩
 ·cases e
theorem EM:A3 X (.type "list") Ib:=by
 intro af s σ H xs us Q I rs ⟨H₀,aa,F,ρ,τ,ps,p,e,R,bs,k⟩;unfold Ib at e;split at e
 ·cases e;obtain⟨v,rfl,b⟩:=dO bs;obtain⟨a,vs,rfl,ha,fR⟩:=aU.mp b;refine jr af s σ H _ us Q I rs ⟨a,vs,rfl,.inl (bG R.sub ha).sq,λq hq=>?_⟩
  obtain⟨R2,s2⟩:=R.laid (.ay vs) hq;exact k _ _ _ R2 s2 (aU.mpr ⟨q,_,rfl,m8.of aC,fR.mono s2⟩)
 ·cases e;obtain⟨v,rfl,b⟩:=dO bs;obtain⟨a,vs,rfl,ha,fR⟩:=bt.mp b;refine jr af s σ H _ us Q I rs ⟨a,vs,rfl,.inr (aQ R.sub ha),λq hq=>?_⟩
  obtain⟨R2,s2⟩:=R.laid (.ay vs) hq;exact k _ _ _ R2 s2 (aU.mpr ⟨q,_,rfl,m8.of aC,fR.mono s2⟩)
 ·cases e
theorem EN:A3 X (.type "int") A4:=by
 intro af s σ H xs us Q I rs ⟨H₀,aa,F,ρ,τ,ps,p,e,R,bs,k⟩;unfold A4 at e;split at e
 ·cases e;obtain⟨v,rfl,b⟩:=dO bs;rw[aF.mp b]at rs;exact tq af s σ H _ us Q I rs (.inl ⟨_,rfl,k _ H F R (Same.refl F) (aF.mpr rfl)⟩)
 ·cases e;obtain⟨v,rfl,b⟩:=dO bs;rw[bN.mp b]at rs;exact tq af s σ H _ us Q I rs (.inr ⟨_,rfl,k _ H F R (Same.refl F) (aF.mpr rfl)⟩)
 ·cases e
theorem Ma{af:List (ab×Obj)}{σ:St}{H F:Hp}{s:aq}(I:Inv X af σ H s)(hs:Same F H){ps:av}{ns:List Int}{v:V}(hn:gF ps=some ns)(b:cI X.K F (.ay ps) v) :
  ∃a,v=.ref a/\∃xs:Array (Int×Tok),s.heap.IsList a (intItems xs)/\ns=xs.toList.map (·.1):=by
 obtain⟨a,vs,rfl,ha,fR⟩:=aU.mp b;obtain⟨aN,r,pl,_⟩:=I.list (bG hs ha).sq;have ev:=mF hn fR;subst ev;have hi:=lG r;obtain⟨xs,ex⟩:=hi.allInts.items;refine⟨a,rfl,xs,?_,?_⟩
 ·rw[<-ex];exact pl.isList
 ·rw[<-hi.numsOf,<-nums_intItems,<-ex]
theorem EO(hc:X.A.handled=none):A3 X (.builtin "sum") A5:=by
 intro af s σ H xs us Q I rs ⟨H₀,aa,F,ρ,τ,ps,p,e,R,bs,k⟩;unfold A5 at e;split at e
 ·rename_i ps;cases z:gF ps with
  | none=>rw[z]at e;cases e
  | some ns =>
   rw[z]at e;cases e;obtain⟨v,rfl,b⟩:=dO bs;obtain⟨a,rfl,xs,hl,hn⟩:=Ma I R.sub z b;obtain⟨u,rfl,ru⟩:=iW rs;cases ru;refine sum_intListG hc hl λh' tk t' hk=>⟨.int ns.sum,H,I.kept (t':=tk) hk,⟨t',?_⟩,k _ H F R (Same.refl F) (aF.mpr rfl)⟩
   rw[preSum_eq,nu (by simp),hn]
 ·cases e
end
def Q6(fa:FE):FE:=λρ=>(fa ρ).bind λp=>match p with | .int i=>some (.int (-i)) | _=>none
theorem Ox{X:Cx}{H₀ aa:Hp}{a:aj}{fa:FE}{pos:Pos}(ha:PE X a (tE X.K H₀ aa fa)):PE X (.UnaryOp .USub a pos) (tE X.K H₀ aa (Q6 fa)):=(N5 Hi ha).imp <| by
 rintro σ H Q ⟨F,ρ,p,R,hf,q⟩
 obtain⟨x,h1,h2⟩:=ar hf;cases x with
 | int i =>
  cases h2;exact⟨F,ρ,_,R,h1,λv H1 F1 R1 s1 b1=>⟨i,aF.mp b1,q _ H1 F1 R1 s1 (aF.mpr rfl)⟩⟩
 | _=>cases h2
inductive Ty where
 | int | str | bool | tuple | list
def Ty.nm:Ty->String
 | .int=>"int" | .str=>"str" | .bool=>"bool" | .tuple=>"tuple" | .list=>"list"
def fU:Ty->PV->Bool
 | .int,.int _=>true
 | .int,.bl _=>true
 | .bool,.bl _=>true
 | .str,.str _=>true
 | .tuple,.aJ _=>true
 | .list,.ay _=>true
 | _,_=>false
def C5(x:Str):Option Ty :=
 if x==("int":Str)then some .int
 else if x==("str":Str)then some .str
 else if x==("bool":Str)then some .bool
 else if x==("tuple":Str)then some .tuple
 else if x==("list":Str)then some .list
 else none
def C6(t:Ty)(fa:FE):FE:=λρ=>(fa ρ).map λp=>.bl (fU t p)
def aac:PV->String
 | .cM=>"NoneType" | .bl _=>"bool" | .int _=>"int" | .str _=>"str" | .aJ _=>"tuple" | .ay _=>"list"
section
variable {K:ah}
theorem Mb(p:PV)(t:Ty):W.kitOne K (.type (aac p)) (.type t.nm)=some (fU t p):=by
 cases p<;>cases t<;>kernel_rfl
end
section
variable {X:Cx} {H₀ aa:Hp} {a:aj} {fa:FE} {pos p1 p2:Pos}
def rIs(K:ah)(t:Ty):List V->Hp->VK->Prop:=λxs H Q=>∃H₀ aa F ρ τ p x,xs=[x,.ty t.nm]/\cB K H₀ aa F ρ τ H/\cI K F p x/\Q (.bl (fU t p)) H
theorem Mc(t:Ty):jZ X (.builtin "isinstance") (rIs X.K t):=by
 intro af s σ H xs us Q I rs ⟨H₀,aa,F,ρ,τ,p,x,ex,R,b,q⟩;subst ex;obtain⟨u,w,rfl,ru,Qr⟩:=Hn rs;cases Qr;have e:=Mb (K:=X.K) p t;have fin:∀tk,EP X af σ Q (.bool (fU t p)) {s with toks:=tk}:=λtk=>⟨.bl _,H,I.tok tk,rfl,q⟩
 cases p with
 | cM =>
  rw[c8.mp b]at ru;cases ru;exact W.kia_one W.kitx_none I.wQ True.intro e (λz=>nomatch z) fin
 | bl y =>
  rw[bN.mp b]at ru;cases ru;exact W.kia_one W.kitx_bool I.wQ True.intro e (λz=>nomatch z) fin
 | int i =>
  rw[aF.mp b]at ru;obtain⟨tk,rfl⟩:=ru;exact W.kia_one W.kitx_int I.wQ True.intro e (λz=>nomatch z) fin
 | str y =>
  rw[cj.mp b]at ru;obtain⟨tk,rfl⟩:=ru;exact W.kia_one W.kitx_str I.wQ True.intro e (λz=>nomatch z) fin
 | aJ ps =>
  obtain⟨ad,vs,rfl,ha,_⟩:=bt.mp b;cases ru;obtain⟨aN,_,⟨o,h1,h2,_⟩,_⟩:=I.tuple (aQ R.sub ha);exact W.kia_one W.kitx_tuple I.wQ ⟨o,h1,h2⟩ e (λz=>nomatch z) fin
 | ay ps =>
  obtain⟨ad,vs,rfl,ha,_⟩:=aU.mp b;cases ru;obtain⟨aN,n,_,h1,_⟩:=I.qu (bG R.sub ha);exact W.kia_one W.kitx_list I.wQ ⟨_,h1,rfl⟩ e (λz=>nomatch z) fin
theorem oW:bootBuiltins "isinstance"=some (.builtin "isinstance"):=by kernel_rfl
theorem ju(t:Ty):bootBuiltins (Str.ofString t.nm)=some (.type t.nm):=by cases t<;>kernel_rfl
theorem Ic{x:Str}{t:Ty}(h:C5 x=some t):x=Str.ofString t.nm:=by
 unfold C5 at h;split at h
 ·rename_i e;cases h;exact bq e
 ·split at h
  ·rename_i e;cases h;exact bq e
  ·split at h
   ·rename_i e;cases h;exact bq e
   ·split at h
    ·rename_i e;cases h;exact bq e
    ·split at h
     ·rename_i e;cases h;exact bq e
     ·cases h
theorem aad{x:Str}{t:Ty}(ht:C5 x=some t)(hg:Gl X "isinstance")(hm:X.mg "isinstance"=none)(hg2:Gl X x)(hm2:X.mg x=none)(ha:PE X a (tE X.K H₀ aa fa))(hs:∀es,starEach (a::es) X.env=(false,eval a X.env)::starEach es X.env) :
  PE X (.Call (.Name "isinstance" p1) [a,.Name x p2] [] pos) (tE X.K H₀ aa (C6 t fa)):=by
 have hx:=Ic ht;subst hx;have hn:(Str.ofString t.nm)≠"__name__":=by cases t<;>decide
 have AK:((Str.ofString t.nm)==("__debug__":Str))=false:=by cases t<;>decide
 refine(iX (Mc t) hg hm oW (cR ha (cR (Lf (v:=.ty t.nm) hg2 hm2 (ju t) rfl hn AK) gD rfl) (hs _)) (by decide) (by decide) (hs _)).imp λσ H Q ⟨F,ρ,p,R,hf,q⟩=>?_
 unfold C6 at hf;cases z:fa ρ with
 | none=>rw[z]at hf;cases hf
 | some p' =>
  rw[z]at hf;cases hf;exact⟨F,ρ,p',R,z,λv H1 F1 R1 s1 b1=>⟨H₀,aa,F1,ρ,σ,p',v,rfl,R1,b1,q _ H1 F1 R1 s1 (bN.mpr rfl)⟩⟩
end
def SI(h:Heap)(it l:ab)(k:Nat)(xs:Array ag):Prop:=(h.IsListIter it l k/\h.IsList l xs)\/(h.IsTupleIter it l k/\h.IsTuple l xs)
theorem SI.at{h h':Heap}{it l:ab}{k:Nat}{xs:Array ag}(x:SI h it l k xs)(h1:∀o,h.get? it=some o->h'.get? it=some o)(h2:∀o,h.get? l=some o->h'.get? l=some o):SI h' it l k xs:=by
 rcases x with⟨⟨o,e,r⟩,⟨o',e',r'⟩⟩ | ⟨⟨o,e,r⟩,⟨o',e',r'⟩⟩
 ·exact .inl ⟨⟨o,h1 o e,r⟩,⟨o',h2 o' e',r'⟩⟩
 ·exact .inr ⟨⟨o,h1 o e,r⟩,⟨o',h2 o' e',r'⟩⟩
theorem SI.Oy{h:Heap}{it l:ab}{k:Nat}{xs:Array ag}(x:SI h it l k xs):∃o,h.get? it=some o/\∃vs,o.data=.fields vs:=by
 rcases x with⟨⟨o,e,_,d⟩,_⟩ | ⟨⟨o,e,_,d⟩,_⟩
 ·exact⟨o,e,_,d⟩
 ·exact⟨o,e,_,d⟩
theorem SI.sq{h:Heap}{it l:ab}{k:Nat}{xs:Array ag}(x:SI h it l k xs):∃o n,h.get? l=some o/\o.data=.seq xs n:=by
 rcases x with⟨_,⟨o,e,_,n,d⟩⟩ | ⟨_,⟨o,e,_,n,d⟩⟩
 ·exact⟨o,n,e,d⟩
 ·exact⟨o,n,e,d⟩
theorem SI.ne{h:Heap}{it l:ab}{k:Nat}{xs:Array ag}(x:SI h it l k xs):l≠it:=λz=>by
 obtain⟨o,e,vs,d⟩:=x.Oy;obtain⟨o',n,e',d'⟩:=x.sq;subst z;rw[e]at e';cases e';rw[d]at d';cases d'
section
variable {prog:bc} {w:aM} {A:bD} {E:cf} {s:aq}
theorem A6{it t:ab}{i:Nat}{aN:Array ag}{x:ag}{Q:cf}(sd:s.heap.IsTupleIter it t i)(ht:s.heap.IsTuple t aN)(hx:aN[i]?=some x)
  (hQ:∀h',h'.IsTupleIter it t (i+1)->Heap.SameBut it s.heap h'->Q x {s with heap:=h'}):wpAny (model prog w) A (Builtin.SmallTypes.nextOf (.ref it)) Q E s:=by
 obtain⟨o,ho,hc,hd⟩:=id sd;obtain⟨ol,C7,_,nl,wR⟩:=ht;unfold Builtin.SmallTypes.nextOf;refine ai (jN (name:=Str.ofString "__next__") sd.typeIs uE (iG uE sd.typeIs Gx (by
  show wpAny _ _ (field (.ref it) 0 >>= _) _ _ s;refine ai (jV ho hd (x:=.ref t) rfl ?_);show wpAny _ _ (if(Value.ref t==Value.none)=true then _ else _) _ _ s
  rw[if_neg (show ¬((Value.ref t==Value.none)=true)from gQ)]
  show wpAny _ _ (field (.ref it) 1 >>= _) _ _ s;refine ai (jV ho hd (x:=.int i 0) rfl ?_);show wpAny _ _ (seqItems? (.ref t) >>= _) _ _ s;refine ai (uT C7 wR ?_);simp only[eZ,hx];refine ai (pU ho hd (by simp) (aw ⟨x,rfl,aw (hQ _ ⟨_,uI _ ho (zT (ny hd _)),(z0 ..).trans hc,by rw[ny hd];simp[rawInt]⟩ (jh ..))⟩))) (Gv _)))
theorem A7{it t:ab}{i:Nat}{aN:Array ag}{Q:cf}(hh:A.handled=none)(sd:s.heap.IsTupleIter it t i)(ht:s.heap.IsTuple t aN)(hx:aN[i]?=none)
  (hE:∀h' e,Heap.ExtBut it s.heap h'->(∃o,h'.get? e=some o/\o.cls=.type "StopIteration")->E (.ref e) {s with heap:=h'}):wpAny (model prog w) A (Builtin.SmallTypes.nextOf (.ref it)) Q E s:=by
 obtain⟨o,ho,hc,hd⟩:=id sd;obtain⟨ol,C7,_,nl,wR⟩:=ht;unfold Builtin.SmallTypes.nextOf;refine ai (jN (name:=Str.ofString "__next__") sd.typeIs uE (iG uE sd.typeIs Gx (by
  show wpAny _ _ (field (.ref it) 0 >>= _) _ _ s;refine ai (jV ho hd (x:=.ref t) rfl ?_);show wpAny _ _ (if(Value.ref t==Value.none)=true then _ else _) _ _ s
  rw[if_neg (show ¬((Value.ref t==Value.none)=true)from gQ)]
  show wpAny _ _ (field (.ref it) 1 >>= _) _ _ s;refine ai (jV ho hd (x:=.int i 0) rfl ?_);show wpAny _ _ (seqItems? (.ref t) >>= _) _ _ s;refine ai (uT C7 wR ?_);simp only[eZ,hx];refine ai (p3 (ai (pU ho hd (by simp) ?_)))
  show wpAny _ _ (newExc (.type "StopIteration") [] >>= _) _ _ _;refine ai ?_;simp only[newExc,newTuple];refine ai (iD ?_ (by size_fits))
  refine ai (m:=firstArgMember _ _) (wpAny_of_eq (a:=Value.none) (by first | rfl | (simp only[firstArgMember];rfl)) ?_)
  refine iD ?_ (by size_fits)
  simp only[raiseNew];refine ai (wpAny_handled ?_)
  first | rw[show A.in1.handled=none from hh] | rw[hh]
  exact ai (aw (wpAny_throw (hE _ _ (((jh ..).extBut.push _).push _) ⟨_,dj _ rfl,rfl⟩)))) (Gv _)))
theorem SI.next{it l:ab}{k:Nat}{xs:Array ag}{x:ag}{Q:cf}(hi:SI s.heap it l k xs)(hx:xs[k]?=some x)(hQ:∀h',SI h' it l (k+1) xs->Heap.SameBut it s.heap h'->Q x {s with heap:=h'}) :
  wpAny (model prog w) A (Builtin.SmallTypes.nextOf (.ref it)) Q E s:=by
 have ne:=hi.ne;rcases hi with⟨h1,h2⟩ | ⟨h1,h2⟩
 ·exact wpAny_nextOf_list_item h1 h2 hx λh' a b=>hQ h' (.inl ⟨a,h2.extBut b.extBut ne⟩) b
 ·exact A6 h1 h2 hx λh' a b=>hQ h' (.inr ⟨a,h2.extBut b.extBut ne⟩) b
theorem SI.stop{it l:ab}{k:Nat}{xs:Array ag}{Q:cf}(hh:A.handled=none)(hi:SI s.heap it l k xs)(hx:xs[k]?=none)
  (hE:∀h' e,Heap.ExtBut it s.heap h'->(∃o,h'.get? e=some o/\o.cls=.type "StopIteration")->E (.ref e) {s with heap:=h'}):wpAny (model prog w) A (Builtin.SmallTypes.nextOf (.ref it)) Q E s:=by
 rcases hi with⟨h1,h2⟩ | ⟨h1,h2⟩
 ·exact wpAny_nextOf_list_end hh h1 h2 hx hE
 ·exact A7 hh h1 h2 hx hE
end
section
variable {prog:bc} {w:aM} {A:bD} {E:cf} {s:aq} {z TI TO i1 i2 l1 l2:Nat} {k:Nat} {xs ys:Array ag}
def t9(h:Heap)(l:ab)(xs:Array ag)(c:String):Prop:=(c="list_iterator"/\h.IsList l xs)\/(c="tuple_iterator"/\h.IsTuple l xs)
theorem ph{l:ab}{xs:Array ag}{c:String}{Q:cf}(h:t9 s.heap l xs c)(hQ:Q (.ref s.heap.objs.size) {s with heap:=s.heap.push {cls:=.type c,data:=.fields #[.ref l,.int 0 0]}}):wpAny (model prog w) A (pyIter (.ref l)) Q E s:=by
 rcases h with⟨rfl,h⟩ | ⟨rfl,h⟩
 ·exact uK h hQ
 ·exact wpAny_pyIter_tuple h hQ
end
def C8(K:ah)(H:Hp)(c:Bool)(l:ab)(vs:List V):Prop:=if c=true then kQ K H l vs else gI K H l vs
def Gj(h:Heap)(c:Bool)(it l:ab)(k:Nat):Prop:=if c=true then h.IsListIter it l k else h.IsTupleIter it l k
def ER(c:Bool):String:=if c=true then "list_iterator" else "tuple_iterator"
section
variable {X:Cx} {af:List (ab×Obj)} {σ:St} {H:Hp} {s:aq}
theorem C8.get(I:Inv X af σ H s){c:Bool}{l:ab}{vs:List V}(h:C8 X.K H c l vs):∃aN:b6,Vals vs aN/\t9 s.heap l aN.toArray (ER c):=by
 unfold C8 at h;unfold ER;cases c with
 | true =>
  obtain⟨aN,r,pl,_⟩:=I.list (show kQ X.K H l vs from h)
  exact⟨aN,r,.inl ⟨rfl,pl.isList⟩⟩
 | false =>
  obtain⟨aN,r,pl,_⟩:=I.tuple (show gI X.K H l vs from h)
  exact⟨aN,r,.inr ⟨rfl,pl⟩⟩
theorem C8.inj(I:Inv X af σ H s){c:Bool}{l:ab}{vs ws:List V}(h:C8 X.K H c l vs)(h':C8 X.K H c l ws):vs=ws:=by
 unfold C8 at h h';cases c with
 | true=>exact I.qh h h'
 | false=>exact I.nK h h'
theorem Oz{h:Heap}{c:Bool}{it l:ab}{k:Nat}{xs:Array ag}(h1:Gj h c it l k)(h2:t9 h l xs (ER c)):SI h it l k xs:=by
 unfold Gj at h1;cases c with
 | true =>
  rcases h2 with⟨_,q⟩ | ⟨q,_⟩
  ·exact .inl ⟨h1,q⟩
  ·exact absurd q (by decide)
 | false =>
  rcases h2 with⟨q,_⟩ | ⟨_,q⟩
  ·exact absurd q (by decide)
  ·exact .inr ⟨h1,q⟩
theorem Md{h:Heap}{c:Bool}{it l:ab}{k k':Nat}{xs:Array ag}{h0:Heap}(h1:SI h it l k xs)(h2:t9 h0 l xs (ER c))(kp:∀o,h0.get? l=some o->h.get? l=some o):Gj h c it l k:=by
 unfold Gj;cases c with
 | true =>
  rcases h2 with⟨_,⟨o,e,hc,_⟩⟩ | ⟨q,_⟩
  ·rcases h1 with⟨a,_⟩ | ⟨_,⟨o',e',Cv,_⟩⟩
   ·exact a
   ·have e2:=kp o e;rw[e']at e2;cases e2;rw[hc]at Cv;simp at Cv
  ·exact absurd q (by decide)
 | false =>
  rcases h2 with⟨q,_⟩ | ⟨_,⟨o,e,hc,_⟩⟩
  ·exact absurd q (by decide)
  ·rcases h1 with⟨_,⟨o',e',Cv,_⟩⟩ | ⟨a,_⟩
   ·have e2:=kp o e;rw[e']at e2;cases e2;rw[hc]at Cv;simp at Cv
   ·exact a
theorem Inv.turns{t':Nat}{h':Heap}{ch:List ab}(I:Inv X af σ H s)(hf:∀b∈ch,vg X af H b)(kp:∀b o,b∉ch->s.heap.get? b=some o->h'.get? b=some o):Inv X af σ H {s with heap:=h',toks:=t'}:=by
 have TY:∀b u,H b=some u->b∉ch:=λb u e z=>by rw[(hf b z).1]at e;cases e
 refine I.step (g':=s.gens) (d':=s.drawn) (ch:=ch) (λb hb=>⟨(hf b hb).2.2.2.1,(hf b hb).2.1,(hf b hb).2.2.2.2.1,(hf b hb).2.2.2.2.2⟩) (λb o _ _ hc e _=>kp b o hc e) (λb o _ _ hc e _=>⟨o.slots,kp b o hc e⟩) (λ_ _ _ _ n=>n)
  (λb o hc e=>⟨o,kp b o hc e⟩) (λ_ _ e=>e) (λ_ _ _ e=>e) (λ_ _ e=>e) (λm hm=>?_) (λb u e=>?_) I.bare
 ·obtain⟨o,es,ep,ho,r⟩:=hm;exact⟨o,es,ep,kp _ o (λz=>(hf _ z).2.1 rfl) ho,r⟩
 ·refine(I.hok b u e).xD (λc v hc q=>kp c v ?_ q) (λ_ q=>q) (λ_ _ q=>q) λ_ _ _ q=>q
  rcases hc with z | z
  ·rw[z];exact TY b u e
  ·exact TY c _ z
end
theorem Gj.at{h h':Heap}{c:Bool}{it l:ab}{k:Nat}(x:Gj h c it l k)(h1:∀o,h.get? it=some o->h'.get? it=some o):Gj h' c it l k:=by
 cases c with
 | true =>
  obtain⟨o,e,r⟩:=(show h.IsListIter it l k from x)
  exact(show h'.IsListIter it l k from⟨o,h1 o e,r⟩)
 | false =>
  obtain⟨o,e,r⟩:=(show h.IsTupleIter it l k from x)
  exact(show h'.IsTupleIter it l k from⟨o,h1 o e,r⟩)
theorem Gj.obj{h:Heap}{c:Bool}{it l:ab}{k:Nat}(x:Gj h c it l k):∃o,h.get? it=some o/\∀v,o.data≠.cell v:=by
 unfold Gj at x;split at x
 ·obtain⟨o,e,_,d⟩:=x;exact⟨o,e,λv=>by rw[d];simp⟩
 ·obtain⟨o,e,_,d⟩:=x;exact⟨o,e,λv=>by rw[d];simp⟩
def OA:aj->Bool
 | .Tuple _ _ _=>true
 | _=>false
def Ie:PV->Option av
 | .aJ ps=>some ps
 | .ay ps=>some ps
 | _=>none
def Ig(p q:PV):PV:=.aJ [p,q]
theorem Ih{K:ah}{F:Hp}{p:PV}{ps:av}{x:V}(h:Ie p=some ps)(b:cI K F p x):∃c l vs,x=.ref l/\C8 K F c l vs/\aP K F ps vs/\∀F',Same F F'->C8 K F' c l vs:=by
 cases p with
 | aJ qs =>
  cases h;obtain⟨l,vs,rfl,h1,h2⟩:=bt.mp b;exact⟨false,l,vs,rfl,h1,h2,λF' s=>aQ s h1⟩
 | ay qs =>
  cases h;obtain⟨l,vs,rfl,h1,h2⟩:=aU.mp b;exact⟨true,l,vs,rfl,h1.sq,h2,λF' s=>(bG s h1).sq⟩
 | _=>cases h
theorem Ii{prog:bc}{w:aM}{A:bD}{it l:ab}{xs:Array ag}(hh:A.handled=none):Draws prog w A it [it,l] xs.size (λi x=>xs[i]?=some x) (λi h=>SI h it l i xs) where
 live:=λi h st=>by
  obtain⟨o,e,_⟩:=st.Oy;exact⟨o,e⟩
 frame:=λi h h' st k=>st.at (λo e=>k it (by simp) o e) (λo e=>k l (by simp) o e)
 item:=λi s Q E hi st hQ=>SI.next st (pJ hi) λh' a b=>hQ _ h' s.toks (pJ hi) a b
 done:=λs Q E st hE=>SI.stop hh st (zR (aR _)) hE
set_option maxHeartbeats 2000000 in
theorem Ij(l:ab)(xs:Array ag)(c:String)(part:Obj) :
  Meets (Builtin.«enumerate.__new__» ⟨[.type "enumerate",.ref l],[]⟩) (λ_ R s=>t9 s.heap l xs c/\s.heap.get? l=some part /\
   ∀h1 h2:Heap,h1=s.heap.push {cls:=.type c,data:=.fields #[.ref l,.int 0 0]}->h2=h1.push {cls:=.type "enumerate",data:=.fields #[.none,.bool false,.ref s.heap.objs.size,rawInt 0,.none,.none]}->R (.ok (.ret (.ref h1.objs.size))) {s with heap:=h2}) :=
 .of_wp λprog w A R s h=>by
  obtain⟨hp,g,d,tk,os⟩:=s;obtain⟨hl,hpt,h⟩:=h;have hL:t9 (Shared.heap ⟨hp,g,d,tk,os⟩) l xs c:=hl;have vC:=sub_enumerate;rcases hl with⟨rfl,⟨o,e,hc,n,hd⟩⟩ | ⟨rfl,⟨o,e,hc,n,hd⟩⟩
  ·obtain⟨oc,od,odt,Ql⟩:=o;replace hc:oc=.type "list":=hc;replace hd:odt=.seq xs n:=hd;subst hc hd
   wp_walk using jM e
   refine wpAny_stack_any λst=>aw ?_
   split
   ·rename_i c' _ _ _ _ _;cases(c'==Value.type "enumerate")<;>(wp_walk using jM e,ph hL)<;>exact⟨_,rfl,h _ _ rfl rfl⟩
   ·wp_walk using jM e,ph hL
    exact⟨_,rfl,h _ _ rfl rfl⟩
  ·obtain⟨oc,od,odt,Ql⟩:=o;replace hc:oc=.type "tuple":=hc;replace hd:odt=.seq xs n:=hd;subst hc hd
   wp_walk using jM e
   refine wpAny_stack_any λst=>aw ?_
   split
   ·rename_i c' _ _ _ _ _;cases(c'==Value.type "enumerate")<;>(wp_walk using jM e,ph hL)<;>exact⟨_,rfl,h _ _ rfl rfl⟩
   ·wp_walk using jM e,ph hL
    exact⟨_,rfl,h _ _ rfl rfl⟩
theorem Me{prog:bc}{w:aM}{A:bD}{E:cf}{s:aq}{e it l:ab}{k:Nat}{i:Int}{xs:Array ag}{old:ag}{Q:lE->aq->Prop}(hh:A.handled=none)(a1:IsEnum s.heap e it i old)(st:SI s.heap it l k xs)(hx:xs[k]?=none)(hQ:∀h',Heap.ExtBut it s.heap h'->Q none {s with heap:=h'}):wpAny (model prog w) A (pyNext (.ref e)) Q E s:=by
 have ty:s.TypeIs (.ref e) "enumerate":=⟨_,a1,rfl⟩;unfold pyNext;refine ai (wpAny_attempt (jN (name:=Str.ofString "__next__") ty F.slot_enumerate_next (iG F.slot_enumerate_next ty F.entry_enumerate_next (by
  show wpAny _ _ (field (.ref e) 2 >>= _) _ _ _;refine ai (jV a1 rfl (x:=.ref it) rfl (ai (SI.stop hh st hx λh' y sb ⟨o,ho,hc⟩=>?_)))
  exact ai (Af (T:="StopIteration") (b:=true) ⟨o,ho,hc⟩ isSubtype_stop (aw (hQ _ sb)))) (F.args_enumerate_next_1 _))))
def Ien(K:ah)(c:Bool)(l:ab):It where
 go:=λi H=>∃vs v,C8 K H c l vs/\vs[i]?=some v
 yld:=λi H x H'=>∃T v,H T=none/\x=.ref T/\H'=upd H T (.aJ [.int i,v])/\∀vs,C8 K H c l vs->vs[i]?=some v
 stop:=λi H=>∃vs,C8 K H c l vs/\vs.length<=i
def eTn(e it l:Nat)(c:Bool)(i:Nat)(h:Heap):Prop:=(∃old,IsEnum h e it i old)/\Gj h c it l i
theorem Mf{P:bc}{w:aM}{K:ah}{elts:List aj}{x1:Nat}{Vd:Pos}{e it l:Nat}{c:Bool}(ord:it<e)(o1:l<it) :
  Turn P w K (.Tuple elts x1 Vd) (Ien K c l) [e,it] e (eTn e it l c) where
 mem:=bz
 obj:=by
  rintro i h ⟨⟨_,a1⟩,a2⟩ b hb
  simp only[aX,dB,dC]at hb;rcases hb with rfl | rfl
  ·exact⟨_,a1,λv=>by simp⟩
  ·exact a2.obj
 keep:=λi h h' ⟨⟨old,a1⟩,a2⟩ k=>⟨⟨old,k e (by simp) _ a1⟩,a2.at λo x=>k it (by simp) o x⟩
 item:=by
  rintro X hP hw hK hc i af s σ H E I hf ⟨⟨old,a1⟩,a2⟩ ⟨vs,v,hv,ev⟩
  subst hP hw hK;obtain⟨aN,r1,k1⟩:=hv.get I;obtain⟨x,ex,rx⟩:=r1.get ev;have dU:i<aN.toArray.size:=by
   have:=(cL.mp ex).1;simpa using this
  have ne:e≠it:=nF ord;have nel:e≠l:=nF (Nat.lt_trans o1 ord);have wR:X.A.in1.handled=none:=I.ok.hd hc;refine wpAny_pyNext_enum_itemD (Ii (xs:=aN.toArray) (l:=l) wR) a1 (Oz a2 k1) dU ne (by simp[ne,nel]) λx' h' tk Og hO st hT OB kp=>⟨_,rfl,?_⟩
  have xe:x'=x:=by
   have e1:aN.toArray[i]?=some x:=by simpa using ex
   rw[e1]at Og;cases Og;rfl
  subst xe;refine wpAny_letOwnedTupleGo_enum hO λXF aaf sb=>?_
  have big:∀b∈[e,it],b<s.heap.objs.size:=λb hb=>by
   simp only[aX,dB,dC]at hb;have h1:e<s.heap.objs.size:=bA a1;rcases hb with rfl | rfl<;>lia
  have eT:e≠s.heap.objs.size:=b8 (big e (by simp))
  have kp2:∀b o,b∉[e,it]->s.heap.get? b=some o->XF.get? b=some o:=λb o hb z=>by
   simp only[aX,dB,dC,not_or]at hb;exact sb.extBut _ _ hb.1 (kp b o hb.1 hb.2 z)
  have I1:Inv X af σ H {s with heap:=XF,toks:=tk+1}:=Inv.turns I hf kp2
  have hn:H s.heap.objs.size=none:=I.fresh;have XG:=I.Hd (H':=H) (aR _) hn;have pr:XF.get? s.heap.objs.size=some {cls:=.type "tuple",data:=.seq #[.int i tk,x']}:=sb.extBut _ _ (dN eT) hT
  have I2:=Inv.adopt (D:=s.heap.objs.size) (o:=.aJ [.int i,v]) I1 hn (by
    rcases XG.2.2.2.1 with q | q
    ·exact I.sz
    ·exact q) XG.2.1 XG.2.2.2.2.1 XG.2.2.2.2.2 ⟨(by show 2<=sizeLine;decide),[.int i tk,x'],.cons ⟨tk,rfl⟩ (.cons rx .nil),⟨_,pr,rfl,0,rfl⟩⟩
  refine⟨.ref s.heap.objs.size,_,I2,rfl,⟨s.heap.objs.size,v,hn,rfl,rfl,λQE h1=>?_⟩,⟨⟨_,aaf⟩,?_⟩,λb hb=>?_⟩
  ·rw[<-C8.inj I hv h1];exact ev
  ·have nli:l≠it:=b8 o1;have q:=Md (k':=i) st k1 λo z=>kp l o (dN nel) nli z
   exact q.at λo z=>sb.extBut _ _ (dN ne) z
  ·rw[upd_ne (b8 (big b hb))];exact(hf b hb).1
 done:=by
  rintro X hP hw hK hc i af s σ H E I hf ⟨⟨old,a1⟩,a2⟩ ⟨vs,hv,he⟩
  subst hP hw hK;obtain⟨aN,r1,k1⟩:=hv.get I;have hz:aN.toArray[i]?=none:=zR (by rw[bh,<-r1.length];exact he)
  refine Me (I.ok.hd hc) a1 (Oz a2 k1) hz λh' sb=>⟨rfl,?_⟩
  exact Inv.turns (t':=s.toks) I hf λb o hb z=>by
   simp only[aX,dB,dC,not_or]at hb;exact sb b o hb.2 z
 self:=λA i s Q E ⟨⟨_,a1⟩,_⟩ q=>wpAny_pyIter_enum a1 q
def gu:Nat->av->av
 | _,[]=>[]
 | k,p::r=>Ig (.int k) p::gu (k+1) r
theorem nU:∀(ps:av) (k i:Nat),(gu k ps)[i]?=ps[i]?.map λp=>Ig (.int ((k+i:Nat):Int)) p
 | [],k,i=>by simp[gu]
 | p::r,k,0=>by simp[gu]
 | p::r,k,i+1=>by
  simp only[gu,zN];rw[nU r (k+1) i,show k+1+i=k+(i+1) by lia]
def qH(fa:FE):bF:=λρ=>(fa ρ).bind λp=>(Ie p).map λps=>gu 0 ps
theorem Mg{K:ah}{F:Hp}{c:Bool}{l:ab}{ps:av}{vs:List V}(k1:∀F',Same F F'->C8 K F' c l vs)(b1:aP K F ps vs):HG K (Ien K c l) F (gu 0 ps):=by
 intro H₀ aa F' ρ σ H R s i;have h1:=k1 H (s.trans R.sub);refine⟨λp e=>?_,λe=>?_⟩
 ·rw[nU]at e;cases z1:ps[i]? with
  | none=>rw[z1]at e;cases e
  | some p1 =>
   rw[z1]at e;cases e;obtain⟨v,e1,c1'⟩:=b1.get z1;refine⟨⟨vs,v,h1,e1⟩,λx H' ⟨T,v',hn,hx,hH,hall⟩=>?_⟩
   have g1:=hall vs h1;rw[e1]at g1;cases g1;subst hx hH;obtain⟨R2,s2⟩:=R.laid (.aJ [.int i,v]) hn;refine⟨_,R2,s2,bt.mpr ⟨T,[.int i,v],rfl,gI.of aC,.cons ?_ (.cons (c1'.mono (s.trans s2)) .nil)⟩⟩;rw[gC];exact aF.mpr rfl
 ·refine⟨vs,h1,?_⟩;rw[nU]at e;cases z1:ps[i]? with
  | none =>
   have:=pK.mp z1;rw[b1.length]at this;exact this
  | some p1=>rw[z1]at e;cases e
section
variable {X:Cx} {H₀ aa:Hp} {a tg:aj} {fa:FE} {pos p:Pos}
theorem aag(ht:OA tg=true)(hg:Gl X "enumerate")(hm:X.mg "enumerate"=none)(ha:PE X a (tE X.K H₀ aa fa))(hs:starEach [a] X.env=[(false,eval a X.env)]) :
  PI X tg (.Call (.Name "enumerate" p) [a] [] pos) (tI X.K H₀ aa (qH fa)):=by
 intro af s σ H R I ⟨F,ρ,zs,Rp,hf,q⟩;obtain⟨pa,f1,hf⟩:=ar hf;cases f3:Ie pa with
 | none=>rw[f3]at hf;cases hf
 | some ps =>
  rw[f3]at hf;cases hf;have hA:=cR ha gD hs pos af s σ H (λvs H'=>∃F' x,vs=[x]/\cB X.K H₀ aa F' ρ σ H'/\Same F F'/\cI X.K F' pa x) I
   ⟨F,ρ,pa,Rp,f1,λv H1 F1 R1 s1 b1=>⟨F1,v,rfl,R1,s1,b1⟩⟩
  refine Call_ (ld_blt I hg hm boot_enumerate (jL (thn hA λus s1 ⟨vs,H1,I1,r1,F1,x,ev,R1,Td,b1⟩=>?_) hs rfl))
  subst ev;obtain⟨u1,rfl,Ve⟩:=iW r1;obtain⟨c1,l1,vs1,rfl,q1,bl1,k1⟩:=Ih f3 b1;cases Ve;obtain⟨aN,v1,kk1⟩:=(k1 H1 R1.sub).get I1;obtain⟨part,OC⟩:∃o,s1.heap.get? l1=some o:=by
   rcases kk1 with⟨_,⟨o,e,_⟩⟩ | ⟨_,⟨o,e,_⟩⟩
   ·exact⟨o,e⟩
   ·exact⟨o,e⟩
  have lt1:l1<s1.heap.objs.size:=bA OC;refine callType_new PySem.F.called_enumerate (by decide) (PySem.F.typeCall_enumerate_1 _) (PySem.F.newCall_enumerate_1 _) (λobj=>PySem.F.args_object_init_2 obj _) PySem.F.entry_enumerate_new (Ij l1 aN.toArray (ER c1) part) ⟨kk1,OC,λh1 h2 e1 e2=>?_⟩
  have z1:h1.objs.size=s1.heap.objs.size+1:=by rw[e1];exact jl ..
  have p1:∀b o,s1.heap.get? b=some o->h1.get? b=some o:=λb o e=>by rw[e1];exact bR _ e
  have p2:∀b o,h1.get? b=some o->h2.get? b=some o:=λb o e=>by rw[e2];exact bR _ e
  have g2:IsEnum h2 h1.objs.size s1.heap.objs.size 0 .none:=by rw[e2];exact dj _ rfl
  have g1:h2.get? s1.heap.objs.size=some {cls:=.type (ER c1),data:=.fields #[.ref l1,.int 0 0]}:=p2 _ _ (by rw[e1];exact dj _ rfl)
  have itc:Gj h2 c1 s1.heap.objs.size l1 0:=by
   cases c1 with
   | true=>exact(show h2.IsListIter s1.heap.objs.size l1 0 from⟨_,g1,rfl,rfl⟩)
   | false=>exact(show h2.IsTupleIter s1.heap.objs.size l1 0 from⟨_,g1,rfl,rfl⟩)
  have I2:Inv X af σ H1 {s1 with heap:=h2,toks:=s1.toks}:=I1.kept λb o e=>p2 _ _ (p1 _ _ e)
  have zA:∀b,s1.heap.objs.size<=b->H1 b=none:=λb hb=>I1.hok.fresh hb
  refine⟨⟨_,g2,rfl⟩,?_⟩;show wpAny _ _ (pyIter (.ref h1.objs.size)) _ _ {s1 with heap:=h2,toks:=s1.toks}
  refine wpAny_pyIter_enum g2 ?_;cases tg with
  | Tuple elts x1 Vd =>
   refine⟨h1.objs.size,[h1.objs.size,s1.heap.objs.size],_,_,H1,rfl,I2,Mf (it:=s1.heap.objs.size) (l:=l1) (c:=c1) (by lia) lt1,⟨⟨_,g2⟩,itc⟩,λb hb=>?_,q _ H1 F1 R1 Td (Mg k1 bl1)⟩
   simp only[aX,dB,dC]at hb;have QC:s1.heap.objs.size<=b:=by rcases hb with rfl | rfl<;>lia
   exact I1.Hd (H':=H1) QC (zA b QC)
  | _=>cases ht
end
theorem Mh{P:bc}{w:aM}{K:ah}{mg:dy}{base:Heap}{x qual:Str}{st:az}{f:ab}{fd:dk}{N ps:List Str}{k:Nat}{sp:Sp}(F:Ap K x qual st f fd)(S:dA N ps (aH st))(len:∀vs H Q E,sp vs H Q E->vs.length=ps.length)
  (hbody:∀(df:ag) (A:bD) (outer:List Env) (s:aq) (H:Hp) (vs:List V) (Q:VK) (E:XK),dR k (A.deeper (envOfC qual (aH st) s.heap.objs.size f df))->sp vs H Q E ->
   ∃t,oQ (jH (jK P w) P w K mg base N qual (aH st) f df A outer s H E) (cw st) t/\t {nx:=λ_ H'=>Q .cM H',rt:=Q} (start N vs) H):FnOk P w K mg base (jK P w) (k+1) f fd ps sp:=by
 obtain⟨oc,od,kV,doc,pm,an,df,ct,rP,rfl,lk,sT⟩:=F.ex;exact N8 lk sT S len λA outer s H vs Q E hr nh=>hbody df A outer s H vs Q E hr nh
def Mi(mg:dy)(D:Str)(dv:ag):Prop:=mg D=some dv\/(mg D=none/\bootBuiltins D=some dv/\D≠"__name__")
def Ik(K:ah)(mg:dy)(C D:Str)(b:Bool):Prop:=∃cls dv,ClsAt K C cls/\Mi mg D dv/\((∃Da,dv=.ref Da)\/∃T,dv=.type T)/\W.exmOne K cls dv=some b/\W.kitOne K cls dv=some b
def C9(K:ah)(mg:dy)(P:Params)(T:Str)(rows:List (Str×Str)):Prop :=
 ∃a es n,mg T=some (.ref a)/\K.lookup a=some ⟨.type "dict",none,.dict es n,#[]⟩/\W.KeysLit P es.toList/\∀k fn,rows.lookup k=some fn->∃f,W.nsIn K a k=some (some (.ref f))/\mg fn=some (.ref f)/\W.nsIn K mainGlobals fn=some (some (.ref f))
section
variable {X:Cx} {H₀ aa:Hp} {e ke:aj} {es:List aj} {fk:FE} {ts:bF} {pos p sp:Pos}
def aai(K:ah)(a:ab):R2:=λx y H Q=>∃k f,x=.ref a/\y=.str k/\W.nsIn K a k=some (some (.ref f))/\Q (.ref f) H
theorem Q7{a:ab}{es:Array DictEntry}{n:Nat}(hl:X.K.lookup a=some ⟨.type "dict",none,.dict es n,#[]⟩)(hk:W.KeysLit X.w.params es.toList):N9 X (aai X.K a):=by
 intro value slice af s σ H x y v u Q I rx ry ⟨k,f,ex,ey,e,q⟩ hs;subst ex ey;cases rx;obtain⟨t,rfl⟩:=ry;have hm:=W.mapOf_K (prog:=X.prog) I.wQ hl hk;exact tail_any hm.typeIs slot_dict_getitem.lookup (wpAny_getItem_of (strKind_is X.prog X.w k t) hm (W.find_K hl e) ⟨.ref f,H,I.tok _,rfl,q⟩) hs
theorem vD(v k:aj)(sp:Pos)(args:List aj)(pos:Pos)(env:Env):eval (.Call (.Subscript v k sp) args [] pos) env=(do callWith pos (<-eval (.Subscript v k sp) env) [] (backTo pos (starEach args env)) (backToKw pos (keywordEach [] env))):=rfl
def Q8(rows:List (Str×Str))(fns:List (Str×Nat))(call:f9)(ts:bF)(ρ:aE):PV->bP
 | .str k=>(rows.lookup k).bind λfn=>(fns.lookup fn).bind λm=>aK (aW m (call fn)) ts ρ
 | _=>none
def ES(rows:List (Str×Str))(fns:List (Str×Nat))(call:f9)(fk:FE)(ts:bF):FE:=λρ=>(fk ρ).bind (Q8 rows fns call ts ρ)
theorem Vf{T:Str}{rows:List (Str×Str)}{fns:List (Str×Nat)}{call:f9}(ht:C9 X.K X.mg X.w.params T rows)
  (T4:∀x n,fns.lookup x=some n->∃k f fd ps,FnOk X.prog X.w X.K X.mg X.base (jK X.prog X.w) k f fd ps (xY X.K n (call x))/\dR k X.A/\X.mg x=some (.ref f)/\W.keepIn X.K (.ref f)=true/\eL X.K fd ps [])
  (hg:Gl X T) (hk:PE X ke (tE X.K H₀ aa fk)) (hs:kA ke) (ha:PA X (e::es) (tA X.K H₀ aa ts)) (AK:(T==("__debug__":Str))=false) (he:starEach (e::es) X.env=(false,eval e X.env)::starEach es X.env) (mf:(backTo pos (starEach es X.env)).any (·.1)=false) :
  PE X (.Call (.Subscript (.Name T p) ke sp) (e::es) [] pos) (tE X.K H₀ aa (ES rows fns call fk ts)):=by
 intro af s σ H Q I ⟨F,ρ,pr,R,hf,q⟩;obtain⟨pk,h1,h2⟩:=ar hf;cases pk with
 | str k =>
  obtain⟨fn,h3,h2⟩:=ar (show(rows.lookup k).bind (λfn=>(fns.lookup fn).bind λm=>aK (aW m (call fn)) ts ρ)=some pr from h2)
  obtain⟨m,h4,h2⟩:=ar h2;obtain⟨a,Ep,n,t1,t2,t3,t4⟩:=ht;obtain⟨f,n1,n2,_⟩:=t4 k fn h3;obtain⟨j,f',fd,ps,G,hr,m1,m2,m3⟩:=T4 fn m h4;have:=bg (n2.symm.trans m1);cases this;rw[vD];refine ai (thn (xM (Q7 t2 t3) (Cw (v:=.ref a) hg t1 rfl AK) hk hs af s σ H (λv H1=>v=.ref f/\∃F1,cB X.K H₀ aa F1 ρ σ H1/\Same F F1) I ?_) λu s1 ⟨x,H1,I1,rx,ex,F1,R1,m1'⟩=>?_)
  ·exact⟨F,ρ,_,R,h1,λv H1 F1 R1 s1 b1=>⟨k,f,rfl,cj.mp b1,n1,rfl,F1,R1,s1⟩⟩
  ·subst ex;cases rx;refine W.callWith_K (h₀:=X.base) I.ok.mod.kin m2 (thn (ha pos af s1 σ H1 _ I1 (qx (n:=m) (g:=call fn) (E:=E0) (Q:=Q) ⟨F1,ρ,pr,R1,h2,λv H2 F2 R2 s2 b2=>q v H2 F2 R2 (m1'.trans s2) b2⟩)) λus s2 ⟨vs,H2,I2,r,q2⟩=>⟨I2.wQ,?_⟩) he mf
   exact Hq G hr m3 .nil mi I2 r q2
 | _=>cases h2
end
section
variable {X:Cx} {H₀ aa:Hp} {a b e:aj} {es:List aj} {fa fb:FE} {ts:bF} {pos p:Pos} {k n:Nat} {f:ab} {fd:dk} {ps:List Str} {x:Str} {g:av->cz}
def Vg(K:ah)(H₀ aa F:Hp)(ρ:aE)(σ:St)(Q:VK):Ent->Prop
 | .val p=>∀v H' F',cB K H₀ aa F' ρ σ H'->Same F F'->cI K F' p v->Q v H'
 | .own ps=>∀a vs H1 F',cB K H₀ aa F' ρ σ H1->Same F F'->aP K F' ps vs->H1 a=none->Q (.ref a) (upd H1 a (.ay vs))
 | _=>False
def tR(K:ah)(H₀ aa:Hp)(f:aE->cz):TE:=λσ H Q=>∃F ρ e,cB K H₀ aa F ρ σ H/\f ρ=some e/\Vg K H₀ aa F ρ σ Q e
def A8(f:FE):aE->cz:=λρ=>(f ρ).map .val
theorem Vh(h:PE X e (tE X.K H₀ aa fa)):PE X e (tR X.K H₀ aa (A8 fa)):=h.imp <| by
 rintro σ H Q ⟨F,ρ,en,R,hf,q⟩
 cases z:fa ρ with
 | none=>unfold A8 at hf;rw[z]at hf;cases hf
 | some p =>
  unfold A8 at hf;rw[z]at hf;cases hf;exact⟨F,ρ,p,R,z,q⟩
def yg(g:av->cz)(ts:bF):aE->cz:=λρ=>(ts ρ).bind g
theorem ET{σ:St}{H:Hp}{Q:VK}{E:XK}{K:ah}(h:tR K H₀ aa (yg (aW n g) ts) σ H Q):tu (xY K n g) [] E (tA K H₀ aa ts) σ H Q:=by
 obtain⟨F,ρ,en,R,hf,q⟩:=h;obtain⟨as,h1,h2⟩:=ar hf;cases en with
 | un=>exact q.elim
 | ex C=>exact q.elim
 | ob _=>exact q.elim
 | cg _=>exact q.elim
 | val p=>exact qx ⟨F,ρ,p,R,by unfold aK;rw[h1];show(aW n g as).bind oS=_;rw[h2];rfl,q⟩
 | own ps=>exact EE ⟨F,ρ,ps,R,by unfold mj;rw[h1];show(aW n g as).bind LL=_;rw[h2];rfl,q⟩
theorem Q9(F:FnOk X.prog X.w X.K X.mg X.base (jK X.prog X.w) k f fd ps (xY X.K n g))(hr:dR k X.A)(hg:Gl X x)(hm:X.mg x=some (.ref f))(hk:W.keepIn X.K (.ref f)=true)(hb:eL X.K fd ps [])
  (ha:PA X (e::es) (tA X.K H₀ aa ts)) (AK:(x==("__debug__":Str))=false:=by decide) (he:starEach (e::es) X.env=(false,eval e X.env)::starEach es X.env:=by rfl) (mf:(backTo pos (starEach es X.env)).any (·.1)=false:=by rfl) :
  PE X (.Call (.Name x p) (e::es) [] pos) (tR X.K H₀ aa (yg (aW n g) ts)):=(kz F hr hg hm hk hb .nil mi ha AK he mf).imp λ_ _ _ h=>ET h
def EU:PV->PV->cz
 | .ay xs,.ay ys=>if xs.length+ys.length<=fO then some (.own (xs++ys))else none
 | x,y=>(ck x y).map .val
def Mj(fa fb:FE):aE->cz:=λρ=>(fa ρ).bind λx=>(fb ρ).bind λy=>EU x y
def Vi(K:ah):R2:=λx y H Q=>∃H₀ aa F ρ τ pa pb en,EU pa pb=some en/\cB K H₀ aa F ρ τ H/\cI K F pa x/\cI K F pb y/\Vg K H₀ aa F ρ τ Q en
theorem yh{pa pb:PV}{en:Ent}(h:EU pa pb=some en):(∃xs ys,pa=.ay xs/\pb=.ay ys/\xs.length+ys.length<=fO/\en=.own (xs++ys))\/∃p,ck pa pb=some p/\en=.val p:=by
 unfold EU at h;split at h
 ·obtain⟨h1,h2⟩:=aA h;exact .inl ⟨_,_,rfl,rfl,h1,h2.symm⟩
 ·cases z:ck pa pb with
  | none=>rw[z]at h;cases h
  | some p=>rw[z]at h;cases h;exact .inr ⟨p,rfl,rfl⟩
theorem Ml:OpR X (binaryOp .Add) (Vi X.K):=by
 intro af s σ H x y v u Q I rx ry ⟨H₀,aa,F,ρ,τ,pa,pb,en,e,R,ba,bb,k⟩;rcases yh e with⟨xs,ys,rfl,rfl,hz,rfl⟩ | ⟨p,hp,rfl⟩
 ·obtain⟨a,vs,rfl,ha,fR⟩:=aU.mp ba;obtain⟨b,ws,rfl,hb,K1⟩:=aU.mp bb;cases rx;cases ry;obtain⟨aN,n,r,e1,z1⟩:=I.qu (bG R.sub ha);obtain⟨ie,n2,r2,e2,z2⟩:=I.qu (bG R.sub hb);have hl:=r.length;have QR:=r2.length;have Z8:vs.length+ws.length<=sizeLine:=by rw[<-fR.length,<-K1.length];exact d9 hz
  refine PySem.P.add_list e1 e2 ?_ (by rw[bh,bh];lia)
  have ea:aN.toArray++ie.toArray=(aN++ie).toArray:=by simp
  rw[ea];exact⟨.ref _,_,I.Uw (t':=s.toks) (r.append r2) (by rw[bX];lia),rfl,k _ _ _ _ R (Same.refl F) (fR.append K1) I.fresh⟩
 ·exact vB af s σ H x y v u Q I rx ry ⟨H₀,aa,F,ρ,τ,pa,pb,p,hp,R,ba,bb,k⟩
theorem Vj(ha:PE X a (tE X.K H₀ aa fa))(hb:PE X b (tE X.K H₀ aa fb)):PE X (.BinOp a .Add b pos) (tR X.K H₀ aa (Mj fa fb)):=(N4 Ml ha hb).imp <| by
 rintro σ H Q ⟨F,ρ,en,R,hf,q⟩
 obtain⟨x,h1,hf⟩:=ar hf;obtain⟨y,h2,hf⟩:=ar hf;refine⟨F,ρ,x,R,h1,λv H1 F1 R1 s1 b1=>⟨F1,ρ,y,R1,h2,λw H2 F2 R2 s2 b2=>⟨H₀,aa,F2,ρ,σ,x,y,en,hf,R2,b1.mono s2,b2,?_⟩⟩⟩
 cases en with
 | un=>exact q.elim
 | ex C=>exact q.elim
 | ob _=>exact q.elim
 | cg _=>exact q.elim
 | val p=>exact λv H' F' R' s' b'=>q v H' F' R' (s1.trans (s2.trans s')) b'
 | own ps=>exact λa vs H' F' R' s' b' hn=>q a vs H' F' R' (s1.trans (s2.trans s')) b' hn
def Il(i:Nat)(f:aE->cz):FS:=λρ=>(f ρ).bind λe=>if i<ρ.length then some (.nx (ρ.set i e))else none
theorem Im{i:Nat}{f:aE->cz}{t:TE}{D:jG}{σ:St}{H:Hp}(hv:∀ρ e,f ρ=some e->(∃p,e=.val p)\/∃ps,e=.own ps)(ht:∀σ H Q,tR X.K H₀ aa f σ H Q->t σ H Q)(h:tS X H₀ aa (Il i f) D σ H):lF t (gName i) D σ H:=by
 obtain⟨F,ρ,o,R,hf,q⟩:=h;obtain⟨en,h1,h2⟩:=ar hf;obtain⟨hi,rfl⟩:=aA h2;refine ht _ _ _ ⟨F,ρ,en,R,h1,?_⟩;rcases hv ρ en h1 with⟨p,rfl⟩ | ⟨ps,rfl⟩
 ·exact λv H1 F1 R1 s1 b1=>q F1 _ _ (R1.set hi b1) s1
 ·exact λa vs H1 F1 R1 s1 b1 hn=>q F1 _ _ (R1.HM hi hn b1) s1
theorem Mm(f:FE)(ρ:aE)(e:Ent)(h:A8 f ρ=some e):(∃p,e=.val p)\/∃ps,e=.own ps:=by
 unfold A8 at h;cases z:f ρ with
 | none=>rw[z]at h;cases h
 | some p=>rw[z]at h;cases h;exact .inl ⟨p,rfl⟩
theorem Mn(fa fb:FE)(ρ:aE)(e:Ent)(h:Mj fa fb ρ=some e):(∃p,e=.val p)\/∃ps,e=.own ps:=by
 obtain⟨x,h1,h⟩:=ar h;obtain⟨y,h2,h⟩:=ar h;rcases yh h with⟨xs,ys,_,_,_,rfl⟩ | ⟨p,_,rfl⟩
 ·exact .inr ⟨_,rfl⟩
 ·exact .inl ⟨_,rfl⟩
def lI:Ent->cz
 | .val p=>some (.val p)
 | .own ps=>some (.own ps)
 | _=>none
def qI(g:av->cz)(ts:bF):aE->cz:=λρ=>(ts ρ).bind λas=>(g as).bind lI
theorem ua{e e':Ent}(h:lI e=some e'):e'=e/\((∃p,e=.val p)\/∃ps,e=.own ps):=by
 unfold lI at h;split at h
 ·cases h;exact⟨rfl,.inl ⟨_,rfl⟩⟩
 ·cases h;exact⟨rfl,.inr ⟨_,rfl⟩⟩
 ·cases h
theorem Io(g:av->cz)(ts:bF)(ρ:aE)(e:Ent)(h:qI g ts ρ=some e):(∃p,e=.val p)\/∃ps,e=.own ps:=by
 obtain⟨as,h1,h⟩:=ar h;obtain⟨en,h2,h⟩:=ar h;obtain⟨rfl,h3⟩:=ua h;exact h3
theorem Mo{g:av->cz}{ts:bF}{ρ:aE}{e:Ent}(h:qI g ts ρ=some e):yg g ts ρ=some e:=by
 obtain⟨as,h1,h⟩:=ar h;obtain⟨en,h2,h⟩:=ar h;obtain⟨rfl,h3⟩:=ua h;unfold yg;rw[h1];exact h2
theorem Mp{e:aj}{g:av->cz}{ts:bF}(h:PE X e (tR X.K H₀ aa (yg g ts))):PE X e (tR X.K H₀ aa (qI g ts)):=h.imp λσ H Q ⟨F,ρ,en,R,hf,q⟩=>⟨F,ρ,en,R,Mo hf,q⟩
end
def Mq:av->bP
 | [.int i]=>if 0<=i/\i<1000 then some (.str (toString i))else none
 | _=>none
theorem EV{X:Cx}:A3 X (.type "str") Mq:=by
 intro af s σ H xs us Q I rs ⟨H₀,aa,F,ρ,τ,ps,p,e,R,bs,k⟩;unfold Mq at e;split at e
 ·rename_i i;obtain⟨⟨h0,h1⟩,rfl⟩:=aA e;obtain⟨v,rfl,b⟩:=dO bs;rw[aF.mp b]at rs;have hz:i.natAbs.log2<1920:=by
   by_cases h:i.natAbs=0
   ·rw[h];decide
   ·exact jR (Nat.log2_le_self _) (by lia)
  exact vi af s σ H _ us Q I rs ⟨i,rfl,hz,k _ H F R (Same.refl F) (cj.mpr rfl)⟩
 ·cases e
def EW(w:bP):PV->bP
 | .bl b=>if b=true then some (.bl true)else w
 | .ay ps=>if ps.isEmpty=true then w else some (.ay ps)
 | .aJ ps=>if ps.isEmpty=true then w else some (.aJ ps)
 | _=>none
def Vk(fa fb:FE):FE:=λρ=>(fa ρ).bind (EW (fb ρ))
theorem Ip{K:ah}{w:bP}{x p:PV}{F H:Hp}{v:V}(h:EW w x=some p)(b:cI K F x v)(s:Same F H):∃k,Uk K v H k/\(if k=true then p=x else w=some p):=by
 cases x with
 | bl c =>
  rw[bN.mp b];refine⟨c,rfl,?_⟩;cases c with
  | true=>exact(bg h).symm
  | false=>exact h
 | ay ps =>
  obtain⟨a,vs,rfl,h1,h2⟩:=aU.mp b;refine⟨!vs.isEmpty,.inl ⟨vs,(bG s h1).sq,rfl⟩,?_⟩;cases ps with
  | nil=>rw[h2.bL];exact h
  | cons q r =>
   obtain⟨v0,vr,rfl,_,_⟩:=h2.bO;exact(bg h).symm
 | aJ ps =>
  obtain⟨a,vs,rfl,h1,h2⟩:=bt.mp b;refine⟨!vs.isEmpty,.inr (.inl ⟨vs,aQ s h1,rfl⟩),?_⟩;cases ps with
  | nil=>rw[h2.bL];exact h
  | cons q r =>
   obtain⟨v0,vr,rfl,_,_⟩:=h2.bO;exact(bg h).symm
 | _=>cases h
theorem Vl{X:Cx}{H₀ aa:Hp}{a b:aj}{rest:List aj}{fa fb:FE}{pos:Pos}(ha:PE X a (tE X.K H₀ aa fa))(hb:PE X (.BoolOp .Or (b::rest) pos) (tE X.K H₀ aa fb)):PE X (.BoolOp .Or (a::b::rest) pos) (tE X.K H₀ aa (Vk fa fb)):=by
 intro af s σ H Q I ⟨F,ρ,p,R,hf,q⟩;obtain⟨x,h1,h2⟩:=ar hf;refine BoolOp_or (thn (ha af s σ H (λv H1=>∃F1,cB X.K H₀ aa F1 ρ σ H1/\Same F F1/\cI X.K F1 x v) I ⟨F,ρ,x,R,h1,λv H1 F1 R1 s1 b1=>⟨F1,R1,s1,b1⟩⟩) λv s1 ⟨xv,H1,I1,r1,F1,R1,m1,b1⟩=>?_)
 obtain⟨k,ht,hk⟩:=Ip h2 b1 R1.sub;refine thn (Qi af s1 σ H1 xv v (λk' H'=>k'=k/\H'=H1) I1 r1 ⟨k,ht,rfl,rfl⟩) λc s2 ⟨H2,I2,ec,eh⟩=>?_
 subst ec eh;cases c with
 | false=>exact hb af s2 σ H2 Q I2 ⟨F1,ρ,p,R1,hk,λv' H3 F3 R3 s3 b3=>q v' H3 F3 R3 (m1.trans s3) b3⟩
 | true =>
  have hk:p=x:=hk;subst hk;exact⟨xv,H2,I2,r1,q xv H2 F1 R1 m1 b1⟩
section
variable {X:Cx} {H₀ aa:Hp} {a b:aj} {fa fb:FE} {pos p qJ zp:Pos}
theorem yi{e:aj}{X:Cx}(h:starEach [e] X.env=(false,eval e X.env)::starEach [] X.env){pos:Pos}{Q:b6->aq->Prop}{E:cf}{s:aq}{M:Model}{A:bD}(hq:wpAny M A (eval e X.env) (λv s1=>Q [v] s1) E s):wpAny M A (spliced (backTo pos (starEach [e] X.env))) Q E s:=by
 rw[h];show wpAny _ _ (spliced ((false,eval e X.env)::backTo pos (starEach [] X.env))) _ _ s;exact Calls.spliced_cons (thn hq λv s1 q=>Calls.spliced_nil q)
end
def insI(x:Int):List Int->List Int
 | []=>[x]
 | y::r=>if x<=y then x::y::r else y::insI x r
def fV:List Int->List Int
 | []=>[]
 | x::r=>insI x (fV r)
theorem nV(x:Int):∀l:List Int,(insI x l).Perm (x::l)
 | []=>.refl _
 | y::r=>by
  unfold insI;split
  ·exact .refl _
  ·exact((nV x r).cons y).trans (.swap x y r)
theorem fu:∀l:List Int,(fV l).Perm l
 | []=>.refl _
 | x::r=>(nV x (fV r)).trans ((fu r).cons x)
theorem Dc(x:Int):∀l:List Int,l.Pairwise (· <= ·)->(insI x l).Pairwise (· <= ·)
 | [],_=>List.pairwise_singleton _ _
 | y::r,h=>by
  obtain⟨h1,h2⟩:=zY.mp h;unfold insI;split
  ·rename_i hx;refine zY.mpr ⟨λz hz=>?_,h⟩
   rcases aX.mp hz with rfl | hz
   ·exact hx
   ·exact Int.le_trans hx (h1 z hz)
  ·rename_i hx;refine zY.mpr ⟨λz hz=>?_,Dc x r h2⟩
   rcases aX.mp ((nV x r).mem_iff.mp hz)with rfl | hz
   ·lia
   ·exact h1 z hz
theorem qK:∀l:List Int,(fV l).Pairwise (· <= ·)
 | []=>.nil
 | x::r=>Dc x _ (qK r)
def Dd:av->bP
 | [.ay ps]=>(gF ps).bind λns=>if ns.length<64 then some (.ay ((fV ns).map .int))else none
 | _=>none
theorem qL:∀{us:b6} {ns:List Int},IntsAre us ns->Vals (ns.map V.int) us:=by
 intro us ns h;induction h with
 | nil=>exact .nil
 | cons a t _ ih=>exact .cons ⟨t,rfl⟩ ih
theorem kC{K:ah}{F:Hp}:∀ns:List Int,aP K F (ns.map .int) (ns.map V.int)
 | []=>.nil
 | n::r=>.cons (aF.mpr rfl) (kC r)
theorem A9{X:Cx}:A3 X (.builtin "sorted") Dd:=by
 intro af s σ H xs us Q I rs ⟨H₀,aa,F,ρ,τ,ps,p,e,R,bs,k⟩;unfold Dd at e;split at e
 ·rename_i ps;obtain⟨ns,z,e⟩:=ar e;obtain⟨h64,rfl⟩:=aA e;obtain⟨v,rfl,b⟩:=dO bs;obtain⟨a,vs,rfl,ha,fR⟩:=aU.mp b;obtain⟨aN,r,pl,_⟩:=I.list (bG R.sub ha).sq;have ev:=mF z fR;subst ev;have hi:=lG r;have cC:aN.length=ns.length:=by rw[<-r.length,aB]
  obtain⟨u,rfl,ru⟩:=iW rs;cases ru;refine sorted_ints pl.isList hi (by lia) λout Mr hI hp hu=>?_
  have e1:Mr=fV ns:=W.ksm_same (hp.trans (fu ns).symm) hu (qK ns);subst e1;obtain⟨ep,qM⟩:=sortedAll_at s.heap aN out;have hz:H (s.heap.objs.size+1)=none:=I.hok.fresh (pY _);obtain⟨R2,s2⟩:=R.laid (.ay ((fV ns).map V.int)) hz;refine⟨.ref (s.heap.objs.size+1),upd H (s.heap.objs.size+1) (.ay ((fV ns).map V.int)),I.laid (t':=s.toks) (λb u e=>sortedAll_old e) (pY _) ⟨?_,out.toList,ep,qL hI,qM⟩,rfl,k _ _ _ R2 s2 (aU.mpr ⟨_,_,rfl,m8.of aC,kC _⟩)⟩
  rw[aB,(fu ns).length_eq];exact bY (iH h64) (by decide)
 ·cases e
section
variable {X:Cx} {H₀ aa:Hp} {e:aj} {lo hi:Option aj} {fa:FE} {fl fh:FO} {pos p2:Pos}
def Ra:PV->Option av
 | .ay xs=>some xs
 | _=>none
def Ms(fa:FE)(fl fh:FO):aE->cz:=λρ=>(fa ρ).bind λp=>(fl ρ).bind λl=>(fh ρ).bind λh=>(Ra p).map λxs=>.own (ij xs l h)
theorem Vm(ha:PE X e (tE X.K H₀ aa fa))(hl:PO X lo (yf X.K H₀ aa fl))(hh:PO X hi (yf X.K H₀ aa fh)):PE X (.Subscript e (.Slice lo hi none p2) pos) (tR X.K H₀ aa (Ms fa fl fh)):=(xK CH ha hl hh).imp <| by
 rintro σ H Q ⟨F,ρ,en,R,hf,q⟩
 obtain⟨pa,h1,hf⟩:=ar hf;obtain⟨l,h2,hf⟩:=ar hf;obtain⟨h,h3,h4⟩:=ar hf;cases pa with
 | ay xs =>
  cases h4;refine⟨F,ρ,_,R,h1,λv H1 F1 R1 s1 b1=>⟨F1,ρ,l,R1,h2,λH2 F2 R2 s2=>⟨F2,ρ,h,R2,h3,λH3 F3 R3 s3=>?_⟩⟩⟩
  obtain⟨a,vs,rfl,ha,fR⟩:=aU.mp (b1.mono (s2.trans s3));exact⟨a,vs,rfl,(bG R3.sub ha).sq,λq' hq=>q q' _ H3 F3 R3 (s1.trans (s2.trans s3)) (fR.cut l h) hq⟩
 | _=>cases h4
theorem Mt(fa:FE)(fl fh:FO)(ρ:aE)(e:Ent)(h:Ms fa fl fh ρ=some e):(∃p,e=.val p)\/∃ps,e=.own ps:=by
 obtain⟨pa,h1,hf⟩:=ar h;obtain⟨l,h2,hf⟩:=ar hf;obtain⟨k,h3,h4⟩:=ar hf;cases pa with
 | ay xs=>cases h4;exact .inr ⟨_,rfl⟩
 | _=>cases h4
end
theorem Vn{α β:Type}{o:Option α}{f:α->β}{b:β}(h:o.map f=some b):∃a,o=some a/\f a=b:=by
 cases o with
 | none=>cases h
 | some a=>exact⟨a,rfl,bg h⟩
section
variable {X:Cx} {H₀ aa:Hp} {e:aj} {fa:FE} {pos p:Pos} {x:Str}
def Vo:PV->Option av
 | .ay xs=>some xs
 | .aJ xs=>some xs
 | _=>none
def Rb(fa:FE):aE->cz:=λρ=>(fa ρ).bind λp=>(Vo p).map λxs=>.own xs
theorem Vp(hg:Gl X "list")(hm:X.mg "list"=none)(ha:PE X e (tE X.K H₀ aa fa))(he:starEach [e] X.env=(false,eval e X.env)::starEach [] X.env):PE X (.Call (.Name "list" p) [e] [] pos) (tR X.K H₀ aa (Rb fa)) :=
 (iY (T:="list") jr hg hm (ju .list) (nN ha tV he) (by decide) (by decide) he rfl).imp <| by
  rintro σ H Q ⟨F,ρ,en,R,hf,q⟩
  obtain⟨pa,h1,hf⟩:=ar hf;refine⟨F,ρ,[pa],R,?_,λvs H1 F1 R1 s1 b1=>?_⟩
  ·show(fa ρ).bind _=_;rw[h1];rfl
  ·obtain⟨w,rfl,bw⟩:=dO b1;cases pa with
   | ay xs =>
    cases hf;obtain⟨a,us,rfl,ha,fR⟩:=aU.mp bw;exact⟨a,us,rfl,.inl (bG R1.sub ha).sq,λl hl=>q l us H1 F1 R1 s1 fR hl⟩
   | aJ xs =>
    cases hf;obtain⟨a,us,rfl,ha,fR⟩:=bt.mp bw;exact⟨a,us,rfl,.inr (aQ R1.sub ha),λl hl=>q l us H1 F1 R1 s1 fR hl⟩
   | _=>cases hf
theorem Mu(fa:FE)(ρ:aE)(e:Ent)(h:Rb fa ρ=some e):(∃p,e=.val p)\/∃ps,e=.own ps:=by
 obtain⟨pa,h1,h2⟩:=ar h;cases z:Vo pa with
 | none=>rw[z]at h2;cases h2
 | some xs=>rw[z]at h2;cases h2;exact .inr ⟨_,rfl⟩
end
section
variable {X:Cx} {H₀ aa:Hp}
def OD(fo:bF):bF:=λρ=>(fo (fm none ρ)).bind λps=>if ps.all j6=true then some ps else none
theorem ub{K:ah}{F F':Hp}:∀{ps:av} {vs:List V},ps.all j6=true->aP K F ps vs->aP K F' ps vs
 | [],_,_,b=>by rw[b.bL];exact .nil
 | p::ps,_,h,b=>by
  rw[gB,aG]at h;obtain⟨v,vr,rfl,b1,b2⟩:=b.bO;exact .cons (gX h.1 b1) (ub h.2 b2)
theorem yj{K:ah}{fo:bF}{σ:St}{H:Hp}{Q:VK}(h:tF K H₀ aa (OD fo) σ H Q):tF K H₀ aa fo σ H Q:=by
 obtain⟨F,ρ,ps,R,hf,q⟩:=h;obtain⟨ps',h1,h2⟩:=ar hf;obtain⟨hp,rfl⟩:=aA h2;obtain⟨F1,R1,s1,k1⟩:=R.k0 none;exact⟨F1,fm none ρ,ps',R1,h1,λa vs H1 F' R2 s2 b2 hn=>q a vs H1 F (R.LY R1 s1 k1 R2 s2) (Same.refl F) (ub hp b2) hn⟩
end
end L2.PL
namespace PySem
open Sem (wp)
theorem oX:entryFor table "set.__iter__"=some Builtin.«frozenset.__iter__» := entryFor_alias (id':="frozenset.__iter__") (by kernel_rfl) rfl (by decide +kernel) (by kernel_rfl)
theorem ez:Slot "set_iterator" "__next__" "set_iterator.__next__" :=
 .of (owner:="set_iterator") (n:="__next__") (by rw[typeLookup_type,builtinLookup_eq_fast];kernel_rfl) (by decide +kernel) (by decide +kernel) (by decide +kernel)
  (by first | exact .inl (by decide +kernel) | exact .inr (by decide +kernel)) (by rw[isSubtype_type];kernel_rfl)
theorem lg:entryFor table "set_iterator.__next__"=some Builtin.«set_iterator.__next__» := entryFor_of_tree (by kernel_rfl)
theorem mG(a:ag):argsOk "set_iterator.__next__" ⟨[a],[]⟩:=by unfold argsOk;kernel_rfl
theorem mH:Slot "set_iterator" "__iter__" "set_iterator.__iter__" :=
 .of (owner:="set_iterator") (n:="__iter__") (by rw[typeLookup_type,builtinLookup_eq_fast];kernel_rfl) (by decide +kernel) (by decide +kernel) (by decide +kernel)
  (by first | exact .inl (by decide +kernel) | exact .inr (by decide +kernel)) (by rw[isSubtype_type];kernel_rfl)
theorem se:entryFor table "set_iterator.__iter__"=some Builtin.«dict_keyiterator.__iter__» := entryFor_alias (id':="dict_keyiterator.__iter__") (by kernel_rfl) rfl (by decide +kernel) (by kernel_rfl)
theorem vE(a:ag):argsOk "set_iterator.__iter__" ⟨[a],[]⟩:=by unfold argsOk;kernel_rfl
def cH(es:Array (Int×ag))(ep:Nat)(t:SetTable):Obj:={cls:=.type "set",dict:=none,data:=.set es ep t,slots:=#[]}
abbrev BT(w:aM):Bool:=w.params.followText "set-order"
section
variable {prog:bc} {w:aM} {A:bD} {E:cf} {s:aq} {a:ab} {es:Array (Int×ag)} {ep:Nat} {t:SetTable}
theorem lJ{Q:Bool->aq->Prop}(h:Q (BT w) s):wpAny (model prog w) A setsByText Q E s:=by
 unfold setsByText;exact ai (Ag (aw h))
theorem vF{Q:Bool->aq->Prop}(hS:s.heap.get? a=some (cH es ep t))(hf:t.fits es.size=true)(hg:BT w=true\/t.plain=true)(h:Q false s):wpAny (model prog w) A (setDrawn a) Q E s:=by
 unfold setDrawn;refine ai (f6 hS rfl hf ?_);refine ai (lJ ?_);refine aw ?_;have e:(!BT w&&(!t.plain&&decide (es.size>1)))=false:=by
  rcases hg with g | g
  ·rw[g];rfl
  ·rw[g];cases BT w<;>rfl
 show Q (!BT w&&(!t.plain&&decide (es.size>1))) s;rw[e];exact h
theorem Ba{Q:cf}(hS:s.heap.get? a=some (cH es ep t))(hf:t.fits es.size=true)(hg:BT w=true\/t.plain=true)
  (hQ:Q (.ref s.heap.objs.size) {s with heap:=s.heap.push {cls:=.type "set_iterator",data:=.fields #[.int 0 0,.int 0 0,.ref a,.int es.size 0,.int ep 0]}}):wpAny (model prog w) A (pyIter (.ref a)) Q E s:=by
 have hT:s.TypeIs (.ref a) "set":=⟨_,hS,rfl⟩;refine wpAny_pyIter_slot hT F.slot_set_iter (iG F.slot_set_iter hT oX ?_ (F.args_set_iter_1 _));unfold Builtin.«frozenset.__iter__» Builtin.Frozenset.slot0;refine ai (ai (m:=slotArgs "__iter__" 0 _) (aw ?_));show wpAny _ _ (pure a) _ _ s;refine aw ?_;unfold Builtin.Frozenset.sizeOf setEntries;refine ai (ai (ai (f6 hS rfl hf (aw (aw ?_)))));refine ai (vF hS hf hg ?_);rw[if_neg gQ];refine ai (aw ?_);refine ai (wpAny_setEpoch_of hS rfl hf ?_);unfold newFields;refine ai (iD (aw ⟨_,rfl,"set_iterator",_,⟨_,dj _ rfl,rfl⟩,ez.lookup,?_⟩));simpa[rawInt]using hQ
end
section
variable {prog:bc} {w:aM} {A:bD} {E:cf} {s:aq} {a:ab} {es:Array (Int×ag)} {ep:Nat} {t:SetTable}
def De(t:SetTable):Nat->Nat
 | 0=>0
 | i+1=>t.place.getD i 0+1
def ei(w:aM)(t:SetTable)(i:Nat):Nat:=if BT w=true then 0 else De t i
def j9(w:aM)(a:ab)(ep:Nat)(es:Array (Int×ag)):Array (Int×ag):=if BT w=true then pickOrder (w.params.setOrder a ep) es else es
structure fI (w:aM) (a:ab) (ep:Nat) (es:Array (Int×ag)) (t:SetTable):Prop where
 fits:t.fits es.size=true
 size:(j9 w a ep es).size=es.size
 led:BT w=false->t.led=true/\t.plain=true/\∀i,i<=es.size->SetTable.below t.place (De t i)=i
theorem fI.ok(g:fI w a ep es t):BT w=true\/t.plain=true:=by
 cases h:BT w with
 | true=>exact .inl rfl
 | false=>exact .inr (g.led h).2.1
theorem fI.place(g:fI w a ep es t):t.place.size=es.size:=by
 have:=g.fits;simp only[SetTable.fits,aG,beq_iff_eq]at this;exact this.1
theorem yk(hS:s.heap.get? a=some (cH es ep t))(g:fI w a ep es t)(i:Nat)(hi:i<=es.size){Q:Option (ag×Nat)->aq->Prop}
  (h:Q (((j9 w a ep es)[i]?).map λe=>(e.2,ei w t (i+1))) s):wpAny (model prog w) A (setNext a (ei w t i) i ep) Q E s:=by
 unfold setNext;refine ai (f6 hS rfl g.fits ?_);refine ai (lJ ?_);cases hb:BT w with
 | true =>
  rw[if_pos rfl];dsimp only
  rw[if_neg (by simp)]
  unfold setWalk;refine ai (ai (f6 hS rfl g.fits ?_));refine ai (lJ ?_);rw[hb,if_pos rfl];refine ai (Ag ?_);refine aw (aw ?_);unfold j9 ei at h;rw[hb]at h;simp only[eH]at h;unfold ei;rw[hb];exact h
 | false =>
  obtain⟨hl,hp,hw⟩:=g.led hb;rw[if_neg gQ];refine ai (aw ?_);show wpAny _ _ (if(!t.plain&&decide (es.size>1))=true then _ else _) _ _ s
  rw[hp];rw[if_neg (by simp)]
  refine ai ?_;show wpAny _ _ (if(!t.led&&!es.isEmpty)=true then _ else _) _ _ s
  rw[hl,if_neg (by simp)]
  refine aw ?_;refine aw ?_;unfold j9 ei at h;rw[hb]at h;simp only[d8,du]at h;have e:SetTable.below t.place (ei w t i)=i:=by unfold ei;rw[hb,if_neg gQ];exact hw i hi
  rw[e];have mf:=g.place;by_cases dU:i<es.size
  ·have h1:es[i]?=some es[i]:=by simp[dU]
   have h2:t.place[i]?=some (t.place[i]'(by lia)):=by simp[show i<t.place.size by lia]
   rw[h1,h2];rw[h1]at h;have h3:De t (i+1)=t.place[i]'(by lia)+1:=by
    show t.place.getD i 0+1=_;simp[Array.getD,show i<t.place.size by lia]
   rw[h3]at h;exact h
  ·have h1:es[i]?=none:=by simp;lia
   rw[h1];rw[h1]at h;exact h
end
section
variable {prog:bc} {w:aM} {A:bD} {E:cf} {s:aq} {a it:ab} {es:Array (Int×ag)} {ep:Nat} {t:SetTable}
def fz(h:Heap)(it a:ab)(sl i n ep:Nat):Prop:=∃o,h.get? it=some o/\o.cls=.type "set_iterator"/\o.data=.fields #[.int sl 0,.int i 0,.ref a,.int n 0,.int ep 0]
theorem fz.typeIs{sl i n:Nat}(x:fz s.heap it a sl i n ep):s.TypeIs (.ref it) "set_iterator":=let ⟨o,ho,hc,_⟩:=x;⟨o,ho,hc⟩
theorem Iq(sd:fz s.heap it a (ei w t i) i es.size ep)(hS:s.heap.get? a=some (cH es ep t))(g:fI w a ep es t)(hi:i<es.size){Q:lE->aq->Prop}
  (hQ:∀v h',(∃e,(j9 w a ep es)[i]?=some e/\v=e.2)->fz h' it a (ei w t (i+1)) (i+1) es.size ep->Heap.SameBut it s.heap h'->Q (some v) {s with heap:=h'}):wpAny (model prog w) A (pyNext (.ref it)) Q E s:=by
 obtain⟨o,ho,hc,hd⟩:=id sd;unfold pyNext;refine ai (wpAny_attempt (jN (name:=Str.ofString "__next__") sd.typeIs ez (iG ez sd.typeIs lg ?_ (mG _))));unfold Builtin.«set_iterator.__next__»;refine ai (m:=slotArgs "__next__" 0 _) (aw ?_);refine ai (wpAny_fieldsOf ho hd ?_);dsimp only
 unfold setEntries;refine ai (ai (f6 hS rfl g.fits (aw ?_)));dsimp only
 rw[if_neg (by simp)]
 have h1:(j9 w a ep es)[i]?=some ((j9 w a ep es)[i]'(by rw[g.size];exact hi)):=by simp[g.size,hi]
 refine ai ?_;rw[show((ei w t i:Nat):Int).toNat=ei w t i from eZ _,show((i:Nat):Int).toNat=i from eZ _,show((ep:Nat):Int).toNat=ep from eZ _]
 refine yk hS g i (iH hi) ?_;rw[h1];dsimp only[Option.map]
 show wpAny _ _ (setField (.ref it) 0 (rawInt (ei w t (i+1):Nat)) >>= _) _ _ s;refine ai (pU ho hd (by simp) ?_)
 obtain⟨o1,g1,c1,d1⟩:∃o1,(s.heap.update it (Obj.mapFields (·.setIfInBounds 0 (rawInt (ei w t (i+1):Nat))))).get? it=some o1/\o1.cls=.type "set_iterator"/\o1.data=.fields #[.int (ei w t (i+1):Nat) 0,.int i 0,.ref a,.int es.size 0,.int ep 0] :=
  ⟨_,uI _ ho (zT (ny hd _)),(z0 ..).trans hc,by rw[ny hd];simp[rawInt]⟩
 have b1:Heap.SameBut it s.heap (s.heap.update it (Obj.mapFields (·.setIfInBounds 0 (rawInt (ei w t (i+1):Nat))))):=jh ..
 generalize (s.heap.update it (Obj.mapFields (·.setIfInBounds 0 (rawInt (ei w t (i+1):Nat)))))=H1 at g1 b1 ⊢
 refine ai (pU (s:={s with heap:=H1}) g1 d1 (by simp) ?_)
 have Rc:fz (H1.update it (Obj.mapFields (·.setIfInBounds 1 (rawInt ((i:Int)+1))))) it a (ei w t (i+1)) (i+1) es.size ep :=
  ⟨_,uI _ g1 (zT (ny d1 _)),(z0 ..).trans c1,by rw[ny d1];simp[rawInt]⟩
 exact aw ⟨_,rfl,aw (hQ _ _ ⟨_,h1,rfl⟩ Rc (b1.trans (jh ..)))⟩
theorem Mv(hh:A.handled=none)(sd:fz s.heap it a (ei w t es.size) es.size es.size ep)(hS:s.heap.get? a=some (cH es ep t))(g:fI w a ep es t){Q:lE->aq->Prop}
  (hQ:∀h',Heap.ExtBut it s.heap h'->Q none {s with heap:=h'}):wpAny (model prog w) A (pyNext (.ref it)) Q E s:=by
 obtain⟨o,ho,hc,hd⟩:=id sd;unfold pyNext;refine ai (wpAny_attempt (jN (name:=Str.ofString "__next__") sd.typeIs ez (iG ez sd.typeIs lg ?_ (mG _))));unfold Builtin.«set_iterator.__next__»;refine ai (m:=slotArgs "__next__" 0 _) (aw ?_);refine ai (wpAny_fieldsOf ho hd ?_);dsimp only
 unfold setEntries;refine ai (ai (f6 hS rfl g.fits (aw ?_)));dsimp only
 rw[if_neg (by simp)]
 have h1:(j9 w a ep es)[es.size]?=none:=by simp[g.size]
 refine ai ?_;rw[show((ei w t es.size:Nat):Int).toNat=ei w t es.size from eZ _,show((es.size:Nat):Int).toNat=es.size from eZ _,show((ep:Nat):Int).toNat=ep from eZ _]
 refine yk hS g es.size (aR _) ?_;rw[h1];dsimp only[Option.map]
 show wpAny _ _ (setField (.ref it) 2 .none >>= _) _ _ s;refine ai (pU ho hd (by simp) ?_)
 show wpAny _ _ (newExc (.type "StopIteration") [] >>= _) _ _ _;refine ai ?_;simp only[newExc,newTuple];refine ai (iD ?_ (by size_fits))
 refine ai (m:=firstArgMember _ _) (wpAny_of_eq (a:=Value.none) (by first | rfl | (simp only[firstArgMember];rfl)) ?_)
 refine iD ?_ (by size_fits)
 simp only[raiseNew];refine ai (wpAny_handled ?_);rw[show A.in1.handled=none from hh]
 refine ai (aw (wpAny_throw ?_));refine ai (Af (T:="StopIteration") (b:=true) ⟨_,dj _ rfl,rfl⟩ isSubtype_stop ?_);exact aw (hQ _ (((jh ..).extBut.push _).push _))
theorem Ir{sl i n:Nat}{Q:cf}(sd:fz s.heap it a sl i n ep)(h:Q (.ref it) s):wpAny (model prog w) A (pyIter (.ref it)) Q E s:=by
 refine wpAny_pyIter_slot sd.typeIs mH (iG mH sd.typeIs se ?_ (vE _));show wpAny _ _ (ret (.ref it)) _ _ s;exact aw ⟨_,rfl,"set_iterator",_,sd.typeIs,ez.lookup,h⟩
theorem Walks.aaj(hh:A.handled=none)(I a:ab)(hne:a≠I)(g:fI w a ep es t) :
  Walks prog w A I [I,a] [I] es.size (λi v=>∃e,(j9 w a ep es)[i]?=some e/\v=e.2) (λi h=>fz h I a (ei w t i) i es.size ep/\h.get? a=some (cH es ep t)) where
 sub:=λb hb=>by simp at hb;simp[hb]
 frame:=λ_ _ _ st hk=>⟨let ⟨o,ho,r⟩:=st.1;⟨o,hk I (by simp) o ho,r⟩,hk a (by simp) _ st.2⟩
 item:=λi s Q E hi st hQ=>Iq st.1 st.2 g hi λv h' hv Rc OB=>hQ v h' s.toks hv ⟨Rc,OB.extBut a _ hne st.2⟩ λb o hb e=>OB.extBut b o (λh=>hb (by simp[h])) e
 done:=λs Q E st hQ=>Mv hh st.1 st.2 g λh' XH=>hQ h' s.toks λb o hb e=>XH b o (λh=>hb (by simp[h])) e
 self:=λ_ _ _ _ st hQ=>Ir st.1 hQ
theorem Iu{r:ab}{Q:Bool->aq->Prop}(hT:s.TypeIs (.ref r) "set")(h:Q false s):wpAny (model prog w) A (Builtin.List.listLengthHint (.ref r)) Q E s:=by
 unfold Builtin.List.listLengthHint;refine ai (wpAny_specialOf hT F.slot_set_len.lookup ?_)
 generalize hid:("set.__len__":String)=id0
 wp_delta
 rw[show splitId id0=some ("set","__len__")from by subst hid;decide +kernel]
 subst hid;refine ai (Af (T:="set") (b:=true) hT (by rw[isSubtype_type];kernel_rfl) ?_)
 refine Ao (λhab=>absurd hab (by decide)) (λ_=>?_)
 refine Ao (λ_=>?_) (λhab=>absurd (by decide +kernel) hab)
 refine ai (pW hT ?_);exact aw h
theorem Mw(g:fI w a ep es t):W.KdlSrc prog w "set" a a es.size (λi v=>∃e,(j9 w a ep es)[i]?=some e/\v=e.2) (λh=>h.get? a=some (cH es ep t)) where
 type:=λ_ hm=>⟨_,hm,rfl⟩
 there:=λ_ hm=>⟨bA hm,bA hm⟩
 keep:=λ_ _ hm hk=>hk a (.inl rfl) _ hm
 notList:=by decide
 notTuple:=by decide
 hint:=λ_ _ _ _ hm hq=>Iu ⟨_,hm,rfl⟩ hq
 iter:=λA s hh hm=>⟨_,_,(λ_ _ hq=>Ba hm g.fits g.ok hq),Walks.aaj hh _ a (b8 (bA hm)) g,⟨⟨_,dj _ rfl,rfl,by
  have:ei w t 0=0:=by unfold ei De;split<;>rfl
  rw[this];rfl⟩,bR _ hm⟩⟩
end
section
open PyProof.Rows
theorem qN{α:Type}:∀(l:List α) (i:Nat) (h:i<l.length),([l[i]]++l.eraseIdx i).Perm l
 | [],i,h=>absurd h (by simp)
 | x::l,0,_=>.refl _
 | x::l,i+1,h=>by
  have h':i<l.length:=by simpa using h
  have ih:=qN l i h';rw[List.getElem_cons_succ,List.eraseIdx_cons_succ];exact(List.Perm.swap x l[i] (l.eraseIdx i)).trans (ih.cons x)
theorem Df{α:Type}(nx:Nat->Nat):∀(gi k:Nat) (left:List α) (out:Array α),gi=left.length->(pickOrder.go nx gi k left out).toList.Perm (out.toList++left)
 | 0,k,left,out,h=>by
  have:left=[]:=Gu h.symm;subst this;rw[fH];exact .refl _
 | gi+1,k,left,out,h=>by
  have hl:nx k%left.length<left.length:=jW _ (by lia)
  unfold pickOrder.go;rw[cx hl];refine(Df nx gi (k+1) (left.eraseIdx (nx k%left.length)) (out.push left[nx k%left.length]) (by rw[List.length_eraseIdx_of_lt hl];lia)).trans ?_
  rw[Array.toList_push,fZ];refine List.Perm.append_left _ ?_;exact qN left _ hl
theorem EX{α:Type}(nx:Nat->Nat)(xs:Array α):(pickOrder nx xs).toList.Perm xs.toList:=by
 unfold pickOrder;have:=Df nx xs.size 0 xs.toList #[] (by simp)
 simpa using this
theorem ym(w:aM)(a:ab)(ep:Nat)(es:Array (Int×ag)):(j9 w a ep es).toList.Perm es.toList:=by
 unfold j9;split
 ·exact EX _ _
 ·exact .refl _
theorem Iv(w:aM)(a:ab)(ep:Nat)(es:Array (Int×ag)):(j9 w a ep es).size=es.size:=by
 have:=(ym w a ep es).length_eq;simpa using this
def intOf:ag->Int
 | .int n _=>n
 | _=>0
theorem yn:∀(l:List (Int×ag)),(∀e∈l,∃n t,e.2=.int n t)->IntsAre (l.map (·.2)) (l.map λe=>intOf e.2)
 | [],_=>.nil
 | e::l,h=>by
  obtain⟨n,t,q⟩:=h e bz;have ih:=yn l λx hx=>h x (bE _ hx)
  rw[bJ,bJ,q];exact .cons n t ih
def i8(place:Array Nat)(led:Bool):SetTable:={mask:=7,place:=place,dummies:=#[],finger:=0,led:=led,moves:=0,plain:=true}
theorem Bb:∀k:_root_.Fin 64,hashInt ((k:Nat):Int)=((k:Nat):Int):=by decide +kernel
theorem Rg:∀(k:_root_.Fin 64) (led:Bool),(i8 #[] led).freeSlot ((k:Nat):Int)=some ((k:Nat)%8,false):=by decide +kernel
theorem Rh:∀(p:_root_.Fin 8) (k:_root_.Fin 64) (led:Bool),∃q:_root_.Fin 8,(i8 #[(p:Nat)] led).freeSlot ((k:Nat):Int)=some ((q:Nat),false)/\q≠p:=by decide +kernel
theorem Mx:∀p:_root_.Fin 8,SetTable.below #[(p:Nat)] 0=0/\SetTable.below #[(p:Nat)] ((p:Nat)+1)=1:=by decide +kernel
theorem My:∀p q:_root_.Fin 8,p<q->SetTable.below #[(p:Nat),(q:Nat)] 0=0/\SetTable.below #[(p:Nat),(q:Nat)] ((p:Nat)+1)=1/\SetTable.below #[(p:Nat),(q:Nat)] ((q:Nat)+1)=2:=by decide +kernel
theorem Mz:∀p q:_root_.Fin 8,q≠p->SetTable.below #[(p:Nat)] (q:Nat)=if p<q then 1 else 0:=by decide +kernel
theorem Vq(k:_root_.Fin 64)(led:Bool)(h:Int)(x:ag)(hh:h=((k:Nat):Int)):layNew (i8 #[] led) #[] h x=(#[(h,x)],i8 #[(k:Nat)%8] led,false,false):=by
 subst hh;unfold layNew;rw[Rg k led];rfl
theorem Vr(p:_root_.Fin 8)(k:_root_.Fin 64)(led:Bool)(h:Int)(x:ag)(hh:h=((k:Nat):Int))(e:Int×ag) :
  ∃q:_root_.Fin 8,q≠p/\layNew (i8 #[(p:Nat)] led) #[e] h x=if p<q then(#[e,(h,x)],i8 #[(p:Nat),(q:Nat)] led,false,false)else(#[(h,x),e],i8 #[(q:Nat),(p:Nat)] led,false,false):=by
 subst hh;obtain⟨q,hq,hne⟩:=Rh p k led;refine⟨q,hne,?_⟩;have hb:=Mz p q hne;unfold layNew;rw[hq];dsimp only
 unfold SetTable.put;show _=_;have js:SetTable.below (i8 #[(p:Nat)] led).place (q:Nat)=if p<q then 1 else 0:=hb
 rw[js];by_cases dU:p<q
 ·rw[if_pos dU,if_pos dU];rfl
 ·rw[if_neg dU,if_neg dU];rfl
end
section
open PyProof.Rows
section
variable {prog:bc} {w:aM} {A:bD} {E:cf} {s:aq} {a:ab} {es pj:Array (Int×ag)} {ep:Nat} {t t1:SetTable}
theorem yo(h:∀e∈es.toList,∃k tk,e.2=.int k tk/\e.1=hashInt k):ElemsOf (intKind prog w) es.toList:=λe he=>by
 obtain⟨k,tk,h1,h2⟩:=h e he;exact⟨⟨k,by rw[h1];exact intKind_is _ _ _ _,h2⟩,by rw[h1];rfl⟩
theorem vG(hS:s.heap.get? a=some (cH es ep t))(pj:Array (Int×ag))(t1:SetTable):(s.heap.update a (Obj.putSet pj t1)).get? a=some (cH pj (ep+1) t1):=by
 have:=uI (Obj.putSet pj t1) hS (by rw[putSet_of pj t1 (show(cH es ep t).data=_ from rfl)];rfl)
 rw[putSet_of pj t1 (show(cH es ep t).data=_ from rfl)]at this
 exact this
theorem Bc{k:Int}{tk:Tok}{Q:Bool->aq->Prop}(hS:s.heap.get? a=some (cH es ep t))(hf:t.fits es.size=true)(zC:∀e∈es.toList,∃k tk,e.2=.int k tk/\e.1=hashInt k)(hb:es.size+1<scanBound)
  (Ri:es.toList.findIdx? (λe=>(intKind prog w).is k e.2)=none) (hL:layNew t es (hashInt k) (.int k tk)=(pj,t1,false,false)) (hp:t1.plain=true) (QD:t1.tooFull=false) (hz:pj.size<=sizeLine)
  (h:Q true {s with heap:=s.heap.update a (Obj.putSet pj t1)}):wpAny (model prog w) A (setAddHashed a (.int k tk) (hashInt k)) Q E s:=by
 have hE:=yo (prog:=prog) (w:=w) zC;unfold setAddHashed setAddHashedIn;refine f7 (ai (f6 hS rfl hf ?_));dsimp only
 rw[byScan_of (x:=.int k tk) rfl (by lia) hE]
 simp only[↓reduceIte];unfold setAddByScan;refine ai ?_;refine ai (p3 ?_);refine ai (wpAny_setScan_of (knd:=intKind prog w) (k:=k) (intKind_is _ _ _ _) hS rfl hf hE ?_);rw[Ri];dsimp only
 rw[hL];dsimp only
 refine ai ?_;show wpAny _ _ (pure ()) _ _ s;refine aw ?_;rw[hp,if_pos rfl];refine ai ?_;rw[hashByValue_scannable 8 (x:=.int k tk) rfl];refine aw ?_;have e:(if plainKind (Value.int k tk)=true then t1 else {t1 with plain:=false})=t1:=if_pos rfl
 rw[e];refine ai (zZ hS rfl ?_ hz);rw[QD,if_neg (by simp)]
 exact aw (aw h)
theorem Be{k:Int}{tk:Tok}{j:Nat}{Q:Bool->aq->Prop}(hS:s.heap.get? a=some (cH es ep t))(hf:t.fits es.size=true)(zC:∀e∈es.toList,∃k tk,e.2=.int k tk/\e.1=hashInt k)(hb:es.size+1<scanBound)
  (hj:es.toList.findIdx? (λe=>(intKind prog w).is k e.2)=some j) (h:Q false s):wpAny (model prog w) A (setAddHashed a (.int k tk) (hashInt k)) Q E s:=by
 have hE:=yo (prog:=prog) (w:=w) zC;unfold setAddHashed setAddHashedIn;refine f7 (ai (f6 hS rfl hf ?_));dsimp only
 rw[byScan_of (x:=.int k tk) rfl (by lia) hE]
 simp only[↓reduceIte];unfold setAddByScan;refine ai ?_;refine ai (p3 ?_);refine ai (wpAny_setScan_of (knd:=intKind prog w) (k:=k) (intKind_is _ _ _ _) hS rfl hf hE ?_);rw[hj];dsimp only
 exact aw (aw h)
end
def fw(led:Bool)(xs:List Int)(es:Array (Int×ag))(t:SetTable):Prop :=
 (∀e∈es.toList,∃k tk,e.2=.int k tk/\e.1=hashInt k)/\(es.toList.map λe=>intOf e.2).Perm xs /\
 ((xs=[]/\es=#[]/\t=i8 #[] led)\/(∃(p:_root_.Fin 8) (x:Int),xs=[x]/\t=i8 #[(p:Nat)] led)\/∃(p q:_root_.Fin 8) (x y:Int),xs=[x,y]/\p<q/\t=i8 #[(p:Nat),(q:Nat)] led)
theorem fw.fits{led:Bool}{xs:List Int}{es:Array (Int×ag)}{t:SetTable}(h:fw led xs es t):t.fits es.size=true/\es.size=xs.length/\es.size<=2:=by
 obtain⟨_,hp,hc⟩:=h;have hl:=hp.length_eq;simp at hl;rcases hc with⟨rfl,rfl,rfl⟩ | ⟨p,x,rfl,rfl⟩ | ⟨p,q,x,y,rfl,_,rfl⟩
 ·exact⟨rfl,hl,by decide⟩
 ·simp at hl;exact⟨by rw[hl];rfl,hl,by lia⟩
 ·simp at hl;exact⟨by rw[hl];rfl,hl,by lia⟩
theorem fw.aak{w:aM}{a:ab}{ep:Nat}{xs:List Int}{es:Array (Int×ag)}{t:SetTable}(h:fw (!BT w) xs es t):fI w a ep es t:=by
 obtain⟨f1,f2,f3⟩:=h.fits;refine⟨f1,Iv w a ep es,λhb=>?_⟩
 obtain⟨_,hp,hc⟩:=h;rw[hb]at hc;rcases hc with⟨rfl,rfl,rfl⟩ | ⟨p,x,rfl,rfl⟩ | ⟨p,q,x,y,rfl,dU,rfl⟩
 ·refine⟨rfl,rfl,λi hi=>?_⟩
  have:i=0:=by simpa using hi
  subst this;rfl
 ·obtain⟨b1,b2⟩:=Mx p;refine⟨rfl,rfl,λi hi=>?_⟩
  have:es.size=1:=f2;have:i=0\/i=1:=by lia
  rcases this with rfl | rfl
  ·exact b1
  ·exact b2
 ·obtain⟨b1,b2,b3⟩:=My p q dU;refine⟨rfl,rfl,λi hi=>?_⟩
  have:es.size=2:=f2;have:i=0\/i=1\/i=2:=by lia
  rcases this with rfl | rfl | rfl
  ·exact b1
  ·exact b2
  ·exact b3
section
variable {prog:bc} {w:aM} {A:bD} {E:cf} {s:aq} {a:ab} {es:Array (Int×ag)} {ep:Nat} {t:SetTable}
def qO(xs:List Int)(k:Int):List Int:=if k∈xs then xs else xs++[k]
theorem Bf{led:Bool}{xs:List Int}{k:Int}{tk:Tok}{Q:Bool->aq->Prop}(hS:s.heap.get? a=some (cH es ep t))(h2:fw led xs es t)(hk:0<=k/\k<64)(hx:xs.length<=1)
  (h:∀b h' pj Vs t1,Heap.SameBut a s.heap h'->h'.get? a=some (cH pj Vs t1)->fw led (qO xs k) pj t1->Q b {s with heap:=h'}):wpAny (model prog w) A (setAddHashed a (.int k tk) (hashInt k)) Q E s:=by
 obtain⟨f1,f2,f3⟩:=h2.fits;obtain⟨zC,hp,hc⟩:=id h2;have hb:es.size+1<scanBound:=by
  have:scanBound=4096:=rfl
  lia
 have oY:∀e∈es.toList,(intKind prog w).is k e.2=true↔intOf e.2=k:=λe he=>by
  obtain⟨n,MA,q,_⟩:=zC e he;rw[q];show Value.isInt k (.int n MA)=true↔n=k;simp[Value.isInt]
 cases hr:es.toList.findIdx? (λe=>(intKind prog w).is k e.2)with
 | some j =>
  obtain⟨hj,hpj,_⟩:=Gr.mp hr;have hin:k∈xs:=by
   have h1:=(oY _ (uO hj)).mp hpj;exact hp.mem_iff.mp (aY.mpr ⟨_,uO hj,h1⟩)
  refine Be hS f1 zC hb hr ?_;have:=h false s.heap es ep t (Heap.SameBut.refl a s.heap) hS (by unfold qO;rw[if_pos hin];exact h2)
  exact this
 | none =>
  have Ri:k∉xs:=λhin=>by
   obtain⟨e,he,q⟩:=aY.mp (hp.mem_iff.mpr hin);have:=List.findIdx?_eq_none_iff.mp hr e he;rw[(oY e he).mpr q]at this;cases this
  have Rj:hashInt k=k:=by
   have:=Bb ⟨k.toNat,by lia⟩
   rw[show(((⟨k.toNat,by lia⟩:_root_.Fin 64):Nat):Int)=k from uJ hk.1]at this
   exact this
  have hkc:hashInt k=(((⟨k.toNat,by lia⟩:_root_.Fin 64):Nat):Int):=by
   rw[Rj];exact(uJ hk.1).symm
  have fin:∀pj t1,layNew t es (hashInt k) (.int k tk)=(pj,t1,false,false)->t1.plain=true->t1.tooFull=false->pj.size<=2->fw led (qO xs k) pj t1->wpAny (model prog w) A (setAddHashed a (.int k tk) (hashInt k)) Q E s:=λpj t1 hL q1 q2 q3 q4 =>
   Bc hS f1 zC hb hr hL q1 q2 (bY q3 (by decide)) (h true _ pj (ep+1) t1 (jh ..) (vG hS pj t1) q4)
  have Rl:qO xs k=xs++[k]:=by unfold qO;rw[if_neg Ri]
  rcases hc with⟨rfl,rfl,rfl⟩ | ⟨p,x,rfl,rfl⟩ | ⟨p,q,x,y,rfl,dU,rfl⟩
  ·refine fin _ _ (Vq ⟨k.toNat,by lia⟩ led _ _ hkc) rfl rfl (by simp) ?_
   rw[Rl];refine⟨λe he=>?_,.refl _,.inr (.inl ⟨⟨(⟨k.toNat,by lia⟩:_root_.Fin 64).val%8,jW _ (by decide)⟩,k,rfl,rfl⟩)⟩
   have he:e∈[(hashInt k,Value.int k tk)]:=he;have he:=dW.mp he;subst he;exact⟨k,tk,rfl,rfl⟩
  ·have Rm:es.size=1:=f2;obtain⟨e0,rfl⟩:∃e0,es=#[e0]:=Array.size_eq_one_iff.mp Rm
   obtain⟨q,hne,hL⟩:=Vr p ⟨k.toNat,by lia⟩ led (hashInt k) (.int k tk) hkc e0
   have hq:(intOf e0.2)=x:=by
    have hm:intOf e0.2∈[x]:=hp.mem_iff.mp (aY.mpr ⟨e0,by simp,rfl⟩)
    simpa using hm
   have h0:=zC e0 (by simp)
   by_cases dU:p<q
   ·rw[if_pos dU]at hL;refine fin _ _ hL rfl rfl (by simp) ?_
    rw[Rl];refine⟨λe he=>?_,?_,.inr (.inr ⟨p,q,x,k,rfl,dU,rfl⟩)⟩
    ·have he:e∈[e0,(hashInt k,Value.int k tk)]:=he;simp only[aX,dB,dC]at he;rcases he with rfl | rfl
     ·exact h0
     ·exact⟨k,tk,rfl,rfl⟩
    ·show [intOf e0.2,k].Perm ([x]++[k]);rw[hq];exact .refl _
   ·rw[if_neg dU]at hL;refine fin _ _ hL rfl rfl (by simp) ?_
    rw[Rl];refine⟨λe he=>?_,?_,.inr (.inr ⟨q,p,x,k,rfl,?_,rfl⟩)⟩
    ·have he:e∈[(hashInt k,Value.int k tk),e0]:=he;simp only[aX,dB,dC]at he;rcases he with rfl | rfl
     ·exact⟨k,tk,rfl,rfl⟩
     ·exact h0
    ·show [k,intOf e0.2].Perm ([x]++[k]);rw[hq];exact .swap x k []
    ·have h3:(q:Nat)≠(p:Nat):=λe=>hne (_root_.Fin.ext e)
     have h4:¬(p:Nat)<(q:Nat):=dU;show(q:Nat)<(p:Nat)
     lia
  ·simp at hx
end
end
end PySem
namespace PySem
open PyProof.Rows
def qP(val:Nat->Int):Nat->List Int
 | 0=>[]
 | i+1=>qO (qP val i) (val i)
theorem qQ(val:Nat->Int):∀i,(qP val i).length<=i
 | 0=>aR _
 | i+1=>by
  have:=qQ val i;unfold qP qO;split
  ·lia
  ·simp;lia
section
variable {prog:bc} {w:aM} {A:bD} {R:Result->aq->Prop} {I:ab} {fp wr:List ab} {G:Array GenState->Array GenState->Prop} {n:Nat} {P:Nat->ag->Prop} {St:Nat->aq->Prop}
theorem yq(W:WalksS prog w A.in1 I fp wr G n P St)(S:ab)(hSf:S∉fp)(val:Nat->Int)(Bg:∀i v,P i v->∃t,v=.int (val i) t)(Rn:∀i,i<n->0<=val i/\val i<64)(hn:n<=2)(led:Bool) :
  ∀(k i:Nat) (s:aq),n-i=k->i<=n->St i s->(∃es ep t,s.heap.get? S=some (cH es ep t)/\fw led (qP val i) es t) ->
   (∀s',Moved (S::wr) G s s'->(∃es ep t,s'.heap.get? S=some (cH es ep t)/\fw led (qP val n) es t)->R (.ok (.ret .none)) s') ->
   codeAny (model prog w) A (.builtin "set.update.loop" ⟨[.ref S,.ref I],[]⟩) R s:=by
 have Vt:S∉wr:=λh=>hSf (W.sub _ h)
 have vC:∀b∈wr,b∈S::wr:=λb hb=>bE _ hb
 intro k;induction k with
 | zero =>
  intro i s hk hi vc hS hR;have hin:i=n:=by lia
  subst hin;refine lB uG ?_;rw[pM nt _];show wpAny _ A.in1 (pyNext (.ref I) >>= _) _ _ s;refine ai (W.done s _ _ vc λs' hm=>?_)
  show wpAny _ A.in1 (ret Value.none) _ _ s';exact aw (hR s' (hm.mono vC) (by
   obtain⟨es,ep,t,ho,rest⟩:=hS;exact⟨es,ep,t,hm.heap S _ Vt ho,rest⟩))
 | succ k ih =>
  intro i s hk hi vc hS hR;have dU:i<n:=by lia
  refine lB uG ?_;rw[pM nt _];show wpAny _ A.in1 (pyNext (.ref I) >>= _) _ _ s;refine ai (W.item i s _ _ dU vc λv s' hP Ro hm=>?_)
  obtain⟨t,rfl⟩:=Bg i v hP;obtain⟨es,ep,tb,ho,h2⟩:=hS;have rN:=hm.heap S _ Vt ho;show wpAny _ A.in1 (holding [Value.int (val i) t] (setAdd S (.int (val i) t)) >>= _) _ _ s';refine ai (f7 ?_);unfold setAdd;refine f7 ?_;refine ai ((intKind prog w).pyHash (k:=val i) (intKind_is _ _ _ _) ?_);have OF:=qQ val i;refine Bf (s:={s' with toks:=s'.toks+1}) rN h2 (Rn i dU) (by lia) λb h' pj Vs t1 hsb hS2 Vu=>?_
  refine aw ⟨plainId_quiet nt _,ih (i+1) _ (by lia) dU (W.frame _ s' _ _ Ro (pY _) λb hb o e=>?_) ⟨pj,Vs,t1,hS2,Vu⟩ λHr Rq Rt=>?_⟩
  ·rw[hsb.2 b (λh:b=S=>hSf (by rw[<-h];exact hb))];exact e
  ·refine hR Hr (Moved.trans W.gtrans ((hm.mono vC).then_heap (pY _) λb o hb e=>?_) Rq) Rt
   rw[hsb.2 b (λh:b=S=>hb (by rw[h];exact bz))];exact e
end
section
variable {prog:bc} {w:aM} {A:bD} {E:cf} {s:aq}
theorem lh(a:ag){Q₁:cf}
  (h:Q₁ (.ref s.heap.objs.size) {s with heap:=s.heap.push {cls:=.type "set",dict:=none,data:=.set #[] 0 (.fresh 0 0 (!BT w))}}) :
  codeAny (model prog w) A (.call (.builtin "set.__new__") ⟨[.type "set",a],[]⟩) (wants Q₁ E) s:=by
 refine Am ?_;show wpAny _ A.in1 (do checkBuiltinCall "set.__new__" ⟨[.type "set",a],[]⟩;again (.builtin "set.__new__" ⟨[.type "set",a],[]⟩)) _ _ s
 refine ai (wpAny_of_eq (F.newCall_set_1 a) (aw ⟨plainId_quiet F.plain_set_new _,lB F.entry_set_new ?_⟩));rw[pM F.plain_set_new _];unfold Builtin.«set.__new__» Builtin.Frozenset.newClass;have vC:=sub_set_self;obtain⟨hp,g,d,tk,os⟩:=s;dsimp only
 wp_walk
 refine Ag (aw ?_);dsimp only
 simp only[newObj];refine ai (wpAny_alloc (aw ?_));exact aw h
end
theorem fw.nil(led:Bool):fw led [] #[] (i8 #[] led):=by
 refine⟨λe he=>?_,List.Perm.refl _,.inl ⟨rfl,rfl,rfl⟩⟩
 cases he
section
variable {prog:bc} {w:aM} {A:bD} {E:cf} {s:aq}
set_option maxHeartbeats 3200000 in
theorem yr{l:ab}{items:Array ag}{ns:List Int}{Q:cf}(hh:A.handled=none)(hl:s.heap.IsList l items)(hi:IntsAre items.toList ns)(hb:items.size<=2)(Rn:∀i,i<items.size->0<=ns.getD i 0/\ns.getD i 0<64)
  (h:∀(h':Heap) (tk:Nat) es ep t,h'.get? s.heap.objs.size=some (cH es ep t)->fw (!BT w) (qP (λi=>ns.getD i 0) items.size) es t->(∀b o,b<s.heap.objs.size->s.heap.get? b=some o->h'.get? b=some o)->Q (.ref s.heap.objs.size) {s with heap:=h',toks:=tk}) :
  wpAny (model prog w) A (call (.type "set") [.ref l]) Q E s:=by
 obtain⟨c,tl,aam⟩:=F.called_set.mro;have Vv:=F.called_set.made;have vC:=F.called_set.sub;refine pZ (Am ?_);show wpAny _ _ (callAny (.type "set") _) _ _ _;refine aw ⟨Code.quiet_builtin _ (by decide +kernel),lB F.entry_type_call ?_⟩
 rw[Around.under_plain (weight_type_call_type "set" [.ref l] []) rfl];have h1:=F.called_set.notType;have h2:=F.called_set.canCreate;have hct:=F.typeCall_set_1 (.ref l)
 repeat (any_goals (first | assumption | wp_step))
 refine jn (lh (.ref l) (E:=E) (Q₁:=λobj s₁=>obj=.ref s.heap.objs.size/\s₁={s with heap:=s.heap.push {cls:=.type "set",dict:=none,data:=.set #[] 0 (.fresh 0 0 (!BT w))}}) ⟨rfl,rfl⟩) λr s₁ hr=>?_
 cases r with
 | error e=>exact hr
 | ok fl =>
  cases fl with
  | ret obj =>
   obtain⟨rfl,rfl⟩:=hr;obtain⟨led,Bh⟩:∃led,led = !BT w:=⟨_,rfl⟩
   rw[<-Bh];have hS:(s.heap.push {cls:=.type "set",dict:=none,data:=.set #[] 0 (.fresh 0 0 led)}).get? s.heap.objs.size=some {cls:=.type "set",dict:=none,data:=.set #[] 0 (.fresh 0 0 led)}:=dj _ rfl
   have hT:Shared.TypeIs {s with heap:=s.heap.push {cls:=.type "set",dict:=none,data:=.set #[] 0 (.fresh 0 0 led)}} (.ref s.heap.objs.size) "set":=⟨_,hS,rfl⟩
   have hli:=F.called_set.init.lookup;have hbi:=F.called_set.init.bind (.ref s.heap.objs.size)
   repeat (any_goals (first | assumption | wp_step))
   refine jn (codeAny_call_builtin (R:=wants (λr ve=>r=.none/\∃h' tk,ve={s with heap:=h',toks:=tk} /\
     (∃es ep t,h'.get? s.heap.objs.size=some (cH es ep t)/\fw led (qP (λi=>ns.getD i 0) items.size) es t) /\
     (∀b o,b<s.heap.objs.size->s.heap.get? b=some o->h'.get? b=some o)) E) F.called_set.init.plain F.entry_set_init (check_set_init_1 hT ?_)) λRu ve qR=>?_
   ·obtain⟨ol,C7,hcl,nl,wR⟩:=hl;obtain⟨aan,Iw,Vw,Bi⟩:=ol;simp only at hcl wR;subst hcl;subst wR;have Rv:(s.heap.push {cls:=.type "set",dict:=none,data:=.set #[] 0 (.fresh 0 0 led)}).get? l=some {cls:=.type "list",dict:=Iw,data:=.seq items nl,slots:=Bi}:=bR _ C7
    have aao:=F.sub_list_set;have aap:=F.sub_list_frozenset;have hne:(Value.type "list"==Value.type "dict")=false:=by decide
    have OF:(s.heap.push {cls:=.type "set",dict:=none,data:=.set #[] 0 (.fresh 0 0 led)}).IsList l items:=⟨_,Rv,rfl,nl,rfl⟩
    unfold Builtin.«set.__init__» noKeywords Builtin.Frozenset.updateFrom
    generalize hPI:pyIter=PI
    wp_walk
    subst hPI;refine uK OF ?_;refine ai (wpAny_runValue ?_);have Vx:l<s.heap.objs.size:=bA C7;have hh3:A.in1.in1.in1.handled=none:=by simp[hh]
    have Rx:l≠(s.heap.push {cls:=.type "set",dict:=none,data:=.set #[] 0 (.fresh 0 0 led)}).objs.size:=by
     rw[jl];exact b8 (nz Vx)
    have hSf:s.heap.objs.size∉[(s.heap.push {cls:=.type "set",dict:=none,data:=.set #[] 0 (.fresh 0 0 led)}).objs.size,l]:=by
     rw[jl];simp only[aX,dW,dB,dC,not_or];exact⟨b8 (uQ _),nF Vx⟩
    have Bg:∀(i:Nat) (v:ag),items[i]?=some v->∃t,v=.int ((λi=>ns.getD i 0) i) t:=λi v hv =>
     PyProof.Rows.IntsAre.int_at hi i v (by rw[gz];exact hv)
    refine yq ((Walks.list hh3 _ l Rx items).toS) s.heap.objs.size hSf (λi=>ns.getD i 0) Bg Rn hb led (items.size-0) 0 _ (by lia) (dY _)
     ⟨⟨_,dj _ rfl,rfl,rfl⟩,(OF.push _)⟩ ?hS0 ?hR
    case hS0 =>
     exact⟨#[],0,i8 #[] led,bR _ hS,fw.nil led⟩
    case hR =>
     intro s' hm Ry;obtain⟨h',g',d',MA,Ql⟩:=s';have eg:g'=s.gens:=hm.gens;have ed:d'=s.drawn:=hm.drawn;have eo:Ql=s.os:=hm.os;subst eg;subst ed;subst eo;show wpAny _ _ _ _ _ _;refine aw ?_;show wpAny _ _ (ret Value.none) _ _ _;refine aw ⟨rfl,h',MA,rfl,Ry,λb o hb e=>?_⟩
     have hb1:b≠s.heap.objs.size:=b8 hb;have hb2:b≠(s.heap.push {cls:=.type "set",dict:=none,data:=.set #[] 0 (.fresh 0 0 led)}).objs.size:=by
      rw[jl];exact b8 (nz hb)
     exact hm.heap b o (by simp only[aX,dW,dB,dC,not_or];exact⟨hb1,hb2⟩) (bR _ (bR _ e))
   ·cases Ru with
    | error e=>exact qR
    | ok Iy =>
     cases Iy with
     | ret r =>
      obtain⟨rfl,h',tk,rfl,⟨es,ep,t,Ry,Vu⟩,Rj⟩:=qR
      repeat (any_goals (first | assumption | wp_step))
      exact h _ _ es ep t Ry (by rw[<-Bh];exact Vu) Rj
     | _=>exact qR.elim
  | _=>exact hr.elim
end
section
variable {prog:bc} {w:aM} {A:bD} {E:cf} {s:aq} {a:ab} {es:Array (Int×ag)} {ep:Nat} {t:SetTable}
theorem sh{xs:List Int}{Q:cf}(hh:A.handled=none)(hS:s.heap.get? a=some (cH es ep t))(h2:fw (!BT w) xs es t)
  (h:∀(h1 h':Heap) (tk:Nat) (D:ab) (out:Array ag) (Mr:List Int) (e:Nat),(∀b o,s.heap.get? b=some o->h1.get? b=some o)->(∀b o,h1.get? b=some o->h'.get? b=some o)->h1.objs.size<=D->h'.get? D=some (seqObj "list" out e)->IntsAre out.toList Mr->Mr.Perm xs->Mr.Pairwise (· <= ·)->Q (.ref D) {s with heap:=h',toks:=tk}) :
  wpAny (model prog w) A (call (.builtin "sorted") [.ref a]) Q E s:=by
 have g:fI w a ep es t:=h2.aak;obtain⟨f1,f2,f3⟩:=h2.fits;refine Calls.call_function_entry kind_sorted plain_sorted entry_sorted (args_sorted1 _) ?_;unfold Builtin.«sorted»;refine ai (m:=checkCount "sorted" 1 1 _) (aw ?_);refine ai (W.kdu_collect (A:=A.in1) (Mw (prog:=prog) g) (by simp[hh]) hS (bY f3 (by decide)) λh' tk acc hk si=>?_)
 have aav:acc.toList=(j9 w a ep es).toList.map (·.2):=by
  refine List.ext_getElem? λj=>?_
  rw[bU,gz,gz];by_cases hj:j<es.size
  ·have h1:j<acc.size:=by rw[si.1];exact hj
   obtain⟨e,he,hv⟩:=si.2 j acc[j] (by simp[h1])
   rw[he];simp[h1,hv]
  ·have h1:acc[j]?=none:=by
    have:=si.1;simp;lia
   have h2:(j9 w a ep es)[j]?=none:=by
    have:=g.size;simp;lia
   rw[h1,h2];rfl
 have hop:=ym w a ep es;have hI:IntsAre acc.toList ((j9 w a ep es).toList.map λe=>intOf e.2):=by
  rw[aav];exact yn _ λe he=>by
   obtain⟨k,tk,q,_⟩:=h2.1 e (hop.mem_iff.mp he);exact⟨k,tk,q⟩
 have yt:((j9 w a ep es).toList.map λe=>intOf e.2).Perm xs:=(hop.map _).trans h2.2.1
 have cC:acc.toList.length<=2:=by
  rw[eY,si.1];exact f3
 refine ai (wpAny_newList ?_ (bY cC (by decide)))
 have T1:(h'.push (seqObj "list" acc.toList.toArray 0)).get? h'.objs.size=some (seqObj "list" acc.toList.toArray 0):=dj _ rfl;show wpAny _ _ _ _ _ {s with heap:=h'.push (seqObj "list" acc.toList.toArray 0),toks:=tk}
 refine ai (f7 (iG slot_list_sort ⟨_,T1,rfl⟩ entry_list_sort (list_sort_tree (s:={s with heap:=h'.push (seqObj "list" acc.toList.toArray 0),toks:=tk}) T1 hI (by lia) λout Mr a1 a2 a3=>⟨_,rfl,?_⟩) (args_list_sort _)))
 obtain⟨e,qM⟩:=sortedHeap_at (out:=out) (vs:=acc.toList) T1;refine aw ⟨_,rfl,h h' _ tk h'.objs.size out Mr e hk (λb o hb=>?_) (aR _) qM a1 (a2.trans yt) a3⟩
 have dU:b<h'.objs.size:=bA hb;rw[sortedHeap_old (b8 dU) (by rw[size_push'];exact nz dU)]
 exact bR _ hb
end
end PySem
namespace L2.PL
open PySem PySem.Spec PyProof.Rows
def Rz(ts:bF):FE:=λρ=>(ts ρ).bind λps=>(gF ps).bind λns=>if(ns.length<=2/\ns.all (λn=>decide (0<=n/\n<64))=true)then some (.ay ((fV (qP (λi=>ns.getD i 0) ns.length)).map .int))else none
section
variable {X:Cx} {H₀ aa:Hp} {es:List aj} {ts:bF} {pos p qJ zp lp:Pos}
theorem RA(hh:X.A.handled=none)(Vy:Gl X "sorted")(Vz:X.mg "sorted"=none)(hg:Gl X "set")(hm:X.mg "set"=none)(ha:PA X es (tA X.K H₀ aa ts)) :
  PE X (.Call (.Name "sorted" p) [.Call (.Name "set" zp) [.List es lp] [] qJ] [] pos) (tE X.K H₀ aa (Rz ts)):=by
 intro af s σ H Q I ⟨F,ρ,z,Rp,hf,q⟩;obtain⟨ps,f1,hf⟩:=ar hf;obtain⟨ns,f2,hf⟩:=ar hf;obtain⟨⟨QR,hal⟩,e0⟩:=aA hf;clear hf;subst e0;have mf:ps.length<=2:=by
  have:∀{l:av} {m:List Int},gF l=some m->l.length=m.length:=λ{l}=>by
   induction l with
   | nil=>intro m h;cases h;rfl
   | cons a l ih =>
    intro m h;cases a with
    | int i =>
     obtain⟨m',h1,h2⟩:=Vn (show(gF l).map (λns=>i::ns)=some m from h)
     subst h2;rw[aZ,aZ,ih h1]
    | _=>cases h
  rw[this f2];exact QR
 refine lx (ld_blt I Vy Vz boot_sorted ?_ (by decide) (by decide))
 refine zG (yi rfl ?_) rfl rfl;have hA:=CN (pos:=lp) ha af s σ H (λv H'=>∃F' l vs,v=.ref l/\cB X.K H₀ aa F' ρ σ H'/\Same F F'/\H' l=some (.ay vs)/\aP X.K F' ps vs) I
  ⟨F,ρ,ps,Rp,(by show(ts ρ).bind _=_;rw[f1];exact if_pos (bY mf (by decide))),λa vs H1 F' R1 s1 b1 hn=>⟨F',a,vs,rfl,R1.CL (.ay vs) hn,s1,aC,b1⟩⟩
 refine Call_ (ld_blt I hg hm boot_set (jL (yi rfl (thn hA λu s1 ⟨v,H1,I1,r1,F1,l,vs,ev,R1,VA,hl,b1⟩=>?_)) rfl rfl))
 subst ev;cases r1;obtain⟨aN,r,pl,_⟩:=I1.list (kQ.of hl);have ev:=mF f2 b1;subst ev;have hi:=lG r;have cC:aN.length=ns.length:=by rw[<-r.length,aB]
 have hsz:aN.toArray.size=ns.length:=by rw[bh];exact cC
 refine yr (items:=aN.toArray) (ns:=ns) hh pl.isList hi (by lia) (λi hi'=>?_) λh' tk Ep ep t hS h2 hk=>?_
 ·have hin:i<ns.length:=by lia
  have:=dt.mp hal _ (uO hin);rw[zH,cx hin];exact pQ this
 ·rw[hsz]at h2;have I2:Inv X af σ H1 {s1 with heap:=h',toks:=tk}:=I1.kept λb o e=>hk b o (bA e) e
  refine sh (s:={s1 with heap:=h',toks:=tk}) hh hS h2 λh1 XF MA D out Mr e k1 k2 hD qM hI hp hu=>?_
  have I3:Inv X af σ H1 {s1 with heap:=h1,toks:=MA}:=I2.kept (t':=MA) k1
  have e1:Mr=fV (qP (λi=>ns.getD i 0) ns.length):=W.ksm_same (hp.trans (fu _).symm) hu (qK _)
  subst e1;have hz:H1 D=none:=I3.hok.fresh hD;obtain⟨R2,s2⟩:=R1.laid (.ay ((fV (qP (λi=>ns.getD i 0) ns.length)).map V.int)) hz
  refine⟨.ref D,upd H1 D (.ay ((fV (qP (λi=>ns.getD i 0) ns.length)).map V.int)),I3.laid (t':=MA) k2 hD ⟨?_,out.toList,e,qL hI,qM⟩,rfl,q _ _ _ R2 (VA.trans s2) (aU.mpr ⟨_,_,rfl,m8.of aC,kC _⟩)⟩
  rw[aB,(fu _).length_eq];have:=qQ (λi=>ns.getD i 0) ns.length
  exact bY this (bY QR (by decide))
end
def RB:av->Option (List Int)
 | [.int n]=>if 0<=n/\n<=1000 then some (rangeInts 0 1 n.toNat)else none
 | [.int a,.int b]=>if 0<=a/\a<=b/\b<=1000 then some (rangeInts a 1 (b-a).toNat)else none
 | [.int a,.int b,.int c]=>if(-1000<=a/\a<=1000 /\ -1000<=b/\b<=a/\c = -1)then some (rangeInts a (-1) (a-b).toNat)else none
 | _=>none
def lrg(ts:bF):bF:=λρ=>(ts ρ).bind λps=>(RB ps).map λl=>l.map .int
section
variable {X:Cx} {H₀ aa:Hp} {e:aj} {es:List aj} {ts:bF} {pos p qJ zp:Pos}
theorem Bj{a c:Int}{n:Nat}{acc:Array ag}(h:ItemsOf (fun(i:Nat) (v:ag)=>∃t:Tok,v=Value.int (a+i*c) t) acc n):Vals ((rangeInts a c n).map V.int) acc.toList:=by
 have:∀(l:b6) (k:Nat),(∀(j:Nat) (v:ag),l[j]?=some v->∃t:Tok,v=Value.int (a+((k+j:Nat):Int)*c) t)->Vals (((List.range' k l.length).map fun(i:Nat)=>a+(i:Int)*c).map V.int) l:=by
  intro l;induction l with
  | nil=>intro k _;exact .nil
  | cons x l ih =>
   intro k hx;obtain⟨t,ht⟩:=hx 0 x rfl;rw[aZ,List.range'_succ,bJ,bJ];refine .cons ⟨t,by rw[ht];rfl⟩ (ih (k+1) λj v hv=>?_)
   have:=hx (j+1) v (by simpa using hv)
   rw[show k+(j+1)=k+1+j by lia]at this
   exact this
 have h2:=this acc.toList 0 λj v hv=>by
  rw[gC];exact h.2 j v (by rw[<-gz];exact hv)
 rw[eY,h.1,<-List.range_eq_range']at h2;exact h2
theorem VB(hh:X.A.handled=none)(Vy:Gl X "list")(Vz:X.mg "list"=none)(hg:Gl X "range")(hm:X.mg "range"=none)(ha:PA X (e::es) (tA X.K H₀ aa ts))(hs:starEach (e::es) X.env=(false,eval e X.env)::starEach es X.env)(N3:(backTo qJ (starEach es X.env)).any (·.1)=false) :
  PE X (.Call (.Name "list" p) [.Call (.Name "range" zp) (e::es) [] qJ] [] pos) (tF X.K H₀ aa (lrg ts)):=by
 intro af s σ H Q I ⟨F,ρ,zs,Rp,hf,q⟩;obtain⟨ps,f1,hf⟩:=ar hf;obtain⟨ns,f2,e0⟩:=Vn hf;clear hf;subst e0;refine lx (ld_blt I Vy Vz (ju .list) ?_ (by decide) (by decide))
 refine jL (yi rfl ?_) rfl rfl;have hA:=ha qJ af s σ H (λvs H'=>∃F',cB X.K H₀ aa F' ρ σ H'/\Same F F'/\aP X.K F' ps vs) I ⟨F,ρ,ps,Rp,f1,λvs H1 F1 R1 s1 b1=>⟨F1,R1,s1,b1⟩⟩
 refine Call_ (ld_blt I hg hm boot_range (jL (thn hA λus s1 ⟨vs,H1,I1,r1,F1,R1,VA,b1⟩=>?_) hs N3))
 have fin:∀(r:ab) (h1:Heap) (VC:Nat) (a b c:Int) (t u v:Tok) (n:Nat),(∀b o,s1.heap.get? b=some o->h1.get? b=some o)->IsRange h1 r a b c t u v->Builtin.Range.small a b c=true->Builtin.Range.rangeSize a b c=n->n<=3000->ns=rangeInts a c n ->
   wpAny (model X.prog X.w) X.A (call (.type "list") [.ref r]) (EP X af σ Q) X.xe {s1 with heap:=h1,toks:=VC}:=λr h1 VC a b c t u v n hk hr Rn hn Iz LB=>by
  refine call_list_range (s:={s1 with heap:=h1,toks:=VC}) hh hr Rn hn (by lia) λh' tk acc c' Xz hS si=>?_
  have I2:Inv X af σ H1 {s1 with heap:=h1,toks:=VC}:=I1.kept (t':=VC) hk
  have hz:H1 h1.objs.size=none:=I2.hok.fresh (aR _);have hv:=Bj si;rw[<-LB]at hv;refine⟨.ref h1.objs.size,upd H1 h1.objs.size (.ay (ns.map V.int)),I2.laid (t':=tk) Xz (aR _) ⟨?_,acc.toList,c',hv,hS⟩,rfl,q _ _ H1 F1 R1 VA (kC ns) hz⟩;rw[aB,LB,rangeInts_length];exact bY Iz (by decide)
 unfold RB at f2;split at f2
 ·rename_i n _;obtain⟨⟨h0,h1⟩,e1⟩:=aA f2;obtain⟨v,rfl,bv⟩:=dO b1;rw[aF.mp bv]at r1;obtain⟨u,rfl,ru⟩:=iW r1;obtain⟨tk0,rfl⟩:=ru;refine call_range_1 ?_;refine fin _ _ _ 0 n 1 _ _ _ n.toNat (λb o e=>bR _ e) (uZ ..) ?_ ?_ (by lia) e1.symm
  ·exact small_one (by decide) (by decide) (by lia) (by lia)
  ·unfold Builtin.Range.rangeSize;rw[if_pos (by decide)]
   split<;>lia
 ·rename_i a b _;obtain⟨⟨h0,h1,h2⟩,e1⟩:=aA f2;obtain⟨v1,v2,rfl,bv1,bv2⟩:=C4 b1;rw[aF.mp bv1,aF.mp bv2]at r1;obtain⟨u1,u2,rfl,Ve,ru2⟩:=Hn r1;obtain⟨k1,rfl⟩:=Ve;obtain⟨k2,rfl⟩:=ru2;refine call_range_2 ?_;refine fin _ _ _ a b 1 _ _ _ (b-a).toNat (λb o e=>bR _ e) (uZ ..) (small_one (by lia) (by lia) (by lia) (by lia)) (rangeSize_nat a b) (by lia) e1.symm
 ·rename_i a b c _;obtain⟨⟨h0,h1,h2,h3,rfl⟩,e1⟩:=aA f2;obtain⟨v1,r,rfl,bv1,b1'⟩:=b1.bO;obtain⟨v2,v3,rfl,bv2,bv3⟩:=C4 b1';rw[aF.mp bv1,aF.mp bv2,aF.mp bv3]at r1;cases r1 with
  | cons Ve r1 =>
   obtain⟨u2,u3,rfl,ru2,ru3⟩:=Hn r1;obtain⟨k1,rfl⟩:=Ve;obtain⟨k2,rfl⟩:=ru2;obtain⟨k3,rfl⟩:=ru3;refine call_range_3 (by decide) ?_ (Or.inl (PyProof.noPylong_small (by lia)))
   refine fin _ _ _ a b (-1) _ _ _ (a-b).toNat (λb o e=>bR _ e) (uZ ..) (W.small_down (by lia) (by lia) (by lia) (by lia)) (W.rangeSize_downNat a b) (by lia) e1.symm
 ·cases f2
end
abbrev VD:=aE->Option Ob
def tO(K:ah)(H₀ aa:Hp)(f:VD):TE:=λσ H Q=>∃F ρ o,cB K H₀ aa F ρ σ H/\f ρ=some o/\∀a H' F',cB K H₀ aa F' ρ σ H'->Same F F'->vq K F' o a->Q (.ref a) H'
section
variable {X:Cx} {H₀ aa:Hp} {e ke:aj} {es:List aj} {fo:VD} {fe fk:FE} {ts:bF} {pos p sp:Pos} {x:Str} {k n:Nat} {f:ab} {fd:dk} {ps:List Str} {g:Ob->av->cz}
def rdO(i:Nat):VD:=λρ=>match ρ[i]? with | some (.ob o)=>some o | _=>none
def RC(n:Nat)(g:Ob->av->cz):Ob->av->cz:=λo ps=>if ps.length=n then g o ps else none
def Bk(K:ah)(mg:dy)(P:Params)(T:Str)(rows:List (Str×PV)):Prop :=
 ∃a es n,mg T=some (.ref a)/\K.lookup a=some ⟨.type "dict",none,.dict es n,#[]⟩/\W.KeysLit P es.toList/\∀k p,rows.lookup k=some p->∃u v,W.nsIn K a k=some (some u)/\RelV v u/\∀F,cI K F p v
def MB(i:Nat)(ρ:aE)(k:PV):bP:=match ρ[i]? with
 | some (.own ps)=>(match k with | .int n=>atI ps n | _=>none)
 | some (.val p)=>bC p k
 | _=>none
def VE(i:Nat)(fk:FE):FE:=λρ=>(fk ρ).bind (MB i ρ)
theorem IA{i:Nat}(hx:PE X (.Name x p) (iS i))(hk:PE X ke (tE X.K H₀ aa fk))(hs:kA ke):PE X (.Subscript (.Name x p) ke sp) (tE X.K H₀ aa (VE i fk)):=by
 intro af s σ H Q I ⟨F,ρ,pr,R,hf,q⟩;obtain⟨k,h1,h2⟩:=ar hf;unfold MB at h2;split at h2
 ·rename_i ps hp;split at h2
  ·rename_i n;obtain⟨a,vs,e1,e2,e3,e4,e5⟩:=R.own i ps hp;refine xM vm hx hk hs af s σ H Q I ⟨.ref a,e1,F,ρ,.int n,R,h1,λw H1 F1 R1 s1 b1=>?_⟩
   obtain⟨a',QE,g1,g2,g3,g4,g5⟩:=R1.own i ps hp;rw[e1]at g1;cases g1;obtain⟨v,hv,bv⟩:=g5.atI h2;exact⟨a,QE,n,v,rfl,aF.mp b1,kQ.of g2,hv,q v H1 F1 R1 s1 bv⟩
  ·cases h2
 ·rename_i p' hp;refine Vc (tQ (H₀:=H₀) (aa:=aa) i hx) hk hs af s σ H Q I ⟨F,ρ,pr,R,?_,q⟩;have hr:rd i ρ=some p':=by unfold rd;rw[hp]
  show(rd i ρ).bind (λa=>(fk ρ).bind λb=>bC a b)=_
  rw[hr,bo,h1];exact h2
 ·cases h2
def spI(K:ah)(n:Nat)(mk:av->Option (List (Str×Fd))):Sp:=λvs H Q _=>∃F C dx x us ps fs,vs=.ref x::us/\H x=some (.Po C dx [])/\S5 K C/\F x=none/\Same F H/\aP K F ps us/\ps.length=n/\mk ps=some fs/\(∀f∈fs,nI K C f.1)/\fs.length<=900 /\
 ∀F' H',(∃ws,F' x=some (.Po C dx ws)/\AU K F' fs ws)->Same F' H'->Same F F'->(∀b o,H b=some o->b≠x->H' b=some o)->(∀b o,F' b=some o->b≠x->F b=some o\/H b=none)->Q .cM H'
end
def lK:bQ->PV
 | .inl i=>.int i
 | .inr x=>.str x
def EY:PV->Option bQ
 | .int i=>some (.inl i)
 | .str x=>some (.inr x)
 | _=>none
def EZ:av->Option (List bQ)
 | []=>some []
 | p::r=>(EY p).bind λk=>(EZ r).map λks=>k::ks
def jF:PV->Option (List bQ)
 | .aJ ps=>if ps.length<1000 then EZ ps else none
 | _=>none
def dq(ks:List bQ):PV:=.aJ (ks.map lK)
def factsOf:av->Option (List (List bQ))
 | []=>some []
 | p::r=>(jF p).bind λk=>(factsOf r).map λks=>k::ks
theorem vH{p:PV}{k:bQ}(h:EY p=some k):p=lK k:=by
 cases p<;>first | (cases h;rfl) | cases h
theorem Dg:∀{ps:av} {ks:List bQ},EZ ps=some ks->ps=ks.map lK
 | [],_,h=>by cases h;rfl
 | p::r,ks,h=>by
  obtain⟨k,h1,h⟩:=ar h;obtain⟨l,h2,rfl⟩:=je.mp h;rw[vH h1,Dg h2];rfl
theorem yu{p:PV}{ks:List bQ}(h:jF p=some ks):p=dq ks/\ks.length<1000:=by
 cases p with
 | aJ ps =>
  obtain⟨hl,h⟩:=ax (show(if ps.length<1000 then EZ ps else none)=some ks from h)
  have e:=Dg h;subst e;rw[aB]at hl;exact⟨rfl,hl⟩
 | _=>cases h
theorem lM:∀{ps:av} {ks:List (List bQ)},factsOf ps=some ks->ps=ks.map dq/\∀k∈ks,k.length<1000
 | [],_,h=>by cases h;exact⟨rfl,λ_ z=>nomatch z⟩
 | p::r,ks,h=>by
  obtain⟨k,h1,h⟩:=ar h;obtain⟨l,h2,rfl⟩:=je.mp h;obtain⟨e1,l1⟩:=yu h1;obtain⟨e2,l2⟩:=lM h2;rw[e1,e2];exact⟨rfl,λz hz=>(aX.mp hz).elim (λq=>q▸l1) (l2 z)⟩
section
variable {K:ah} {F F' H H':Hp}
theorem qS{k:bQ}{v:V}:cI K F (lK k) v↔v=kV k:=by
 cases k with
 | inl i=>exact aF
 | inr x=>exact cj
theorem nW:∀{ks:List bQ} {vs:List V},aP K F (ks.map lK) vs->vs=ks.map kV
 | [],_,h=>h.bL
 | k::ks,_,h=>by
  obtain⟨v,r,rfl,h1,h2⟩:=h.bO;rw[qS.mp h1,nW h2];rfl
theorem Dh{ks:List bQ}{v:V}(h:cI K F (dq ks) v):∃a,v=.ref a/\gI K F a (ks.map kV):=by
 obtain⟨a,vs,rfl,h1,h2⟩:=bt.mp h;rw[nW h2]at h1;exact⟨a,rfl,h1⟩
end
abbrev eJ:=List (List bQ×Int)
def IB(ks:List (List bQ))(k:List bQ):Bool:=ks.any λj=>decide (j=k)
def eE(told:eJ)(c:Int)(f:List bQ):eJ:=if IB (told.map (·.1)) f=true then told else told++[(f,c)]
def cS(told:eJ)(c:Int):List (List bQ)->eJ
 | []=>told
 | f::r=>cS (eE told c f) c r
theorem ud(c:Int)(f:List bQ):∀(l:List (List bQ)) (told:eJ),cS told c (l++[f])=eE (cS told c l) c f
 | [],_=>rfl
 | g::l,told=>ud c f l (eE told c g)
theorem E1(told:eJ)(c:Int)(f:List bQ):(eE told c f).length<=told.length+1:=by
 unfold eE;split
 ·lia
 ·rw[bX];exact aR _
theorem kE(c:Int):∀(l:List (List bQ)) (told:eJ),(cS told c l).length<=told.length+l.length
 | [],_=>aR _
 | g::l,told=>by
  have h1:=kE c l (eE told c g);have h2:=E1 told c g;show(cS (eE told c g) c l).length<=_;rw[aZ]
  lia
def toldP(t:List bQ×Int):PV:=.aJ (t.1.map lK++[.int t.2])
def eX(out:List bQ->Option (List (List bQ))):Nat->Nat->eJ->Option eJ
 | 0,_,_=>none
 | n+1,k,told=>match told[k]? with
  | none=>some told
  | some t=>(out t.1).bind λfs=>if told.length+fs.length<fO then eX out n (k+1) (cS told k fs)else none
theorem mI{K:ah}{F H:Hp}{ρ:aE}{σ:St}(hs:Same F H)(hn:∀e∈ρ,(∀ps,e≠.own ps)/\∀m,e≠.cg m)(hv:∀(i:Nat) (p:PV),ρ[i]?=some (.val p)->∃v,σ[i]?=some (some v)/\cI K F p v)
  (ho:∀(i:Nat) (o:Ob),ρ[i]?=some (.ob o)->∃a,σ[i]?=some (some (.ref a))/\vq K F o a) (hl:ρ.length=σ.length):cB K H F F ρ σ H where
 sub:=hs
 keep:=Same.refl H
 base:=Same.refl F
 fresh:=λ_ _ e=>.inl e
 val:=hv
 own:=λi ps e=>absurd rfl ((hn _ (b9 e)).1 ps)
 apart:=λi j ps qs a e=>absurd rfl ((hn _ (b9 e)).1 ps)
 obs:=ho
 cg:=λi m e=>absurd rfl ((hn _ (b9 e)).2 m)
 len:=hl
def tEx(K:ah)(f:FE):TE:=λσ H Q=>∃H₀ aa,tE K H₀ aa f σ H Q
theorem VF{X:Cx}{e:aj}{f:FE}(h:∀H₀ aa,PE X e (tE X.K H₀ aa f)):PE X e (tEx X.K f):=λaf s σ H Q I ⟨H₀,aa,q⟩=>h H₀ aa af s σ H Q I q
section
variable {X:Cx}
def rKn(K:ah):R2:=λx y H Q=>∃b d xs k,x=.ref b/\y=.ref d/\Rd H d (.dT xs)/\iI K H xs/\gI K H b (k.map kV)/\Q (.bl (!(atKey xs k).isSome)) H
theorem OG(hu:X.A.units+1<cLine):OpR X (compareOp .NotIn) (rKn X.K):=by
 intro af s σ H x y v u Q I rx ry ⟨b,d,xs,k,ex,ey,h1,h2,h3,q⟩;subst ex ey;cases rx;cases ry;exact UE hu I h1 h2 h3 λs' I'=>⟨.bl (!(atKey xs k).isSome),H,I',rfl,q⟩
def OH(K:ah)(td ty tv:TE):TS:=λD σ H=>tv σ H λv H1=>td σ H1 λx H2=>ty σ H2 λy H3=>∃a b xs k,x=.ref a/\y=.ref b/\H3 a=some (.dT xs)/\iI K H3 xs/\gI K H3 b (k.map kV)/\xs.length<sizeLine /\
 ∀r,RelV v r->D.nx σ (upd H3 a (.dT (storedH xs k b r)))
theorem Di{o i value:aj}{td ty tv:TE}{pos gp:Pos}(hu:X.A.units+1<cLine)(ho:PE X o td)(hi:PE X i ty)(hv:PE X value tv)(hs:swapsWith value (some (.Subscript o i gp)) pos.line X.env=pure false) :
  PS X (.Assign [.Subscript o i gp] value pos) (OH X.K td ty tv):=by
 intro af s σ H D I h;refine wpAny_Assign_Subscript (thn (hv af s σ H _ I h) λr s1 ⟨v,H1,I1,rv,q1⟩=>thn (ho af s1 σ H1 _ I1 q1) λu s2 ⟨x,H2,I2,rx,q2⟩=>thn (hi af s2 σ H2 _ I2 q2) λiv s3 ⟨y,H3,I3,ry,a,b,xs,k,ex,ey,e1,e2,e3,e4,q3⟩=>?_) hs
 subst ex ey;cases rx;cases ry;exact Qy hu I3 e1 e2 e3 e4 λs4 I4=>⟨σ,_,I4,q3 r rv⟩
end
def qT(p:Nat->Pos):az :=
 .FunctionDef (name:="tell_new")
  (args:={posonlyargs:=[],args:=[{arg:="told",annotation:=none,pos:=p 0},{arg:="known",annotation:=none,pos:=p 1},{arg:="facts",annotation:=none,pos:=p 2},{arg:="came",annotation:=none,pos:=p 3}],vararg:=none,kwonlyargs:=[],kw_defaults:=[],kwarg:=none,defaults:=[]})
  (body:=[.For (.Name "fact" (p 4)) (.Name "facts" (p 5)) [.If (.Compare (.Name "fact" (p 6)) [.NotIn] [.Name "known" (p 7)] (p 8))
   [.Assign [.Subscript (.Name "known" (p 9)) (.Name "fact" (p 10)) (p 11)] (.Constant (.bool true) 0 (p 12)) (p 13),
   .Expr (.Call (.Attribute (.Name "told" (p 14)) "append" (p 15)) [.BinOp (.Name "fact" (p 16)) .Add (.Tuple [.Name "came" (p 17)] 0 (p 18)) (p 19)] [] (p 20)) (p 21)] [] (p 22)] [] (p 23)])
  (decorator_list:=[]) (returns:=none) (type_params:=[])
  (scope:={kind:=.function,names:=[(Str.ofString "told",.local),(Str.ofString "known",.local),(Str.ofString "facts",.local),(Str.ofString "came",.local),(Str.ofString "fact",.local)],isGenerator:=false,isCoroutine:=false,more:=[]})
  (tscope:=none) (bind:="tell_new") (pos:=p 24)
def gY(p:Nat->Pos):az :=
 .FunctionDef (name:="spread")
  (args:={posonlyargs:=[],args:=[{arg:="firsts",annotation:=none,pos:=p 0},{arg:="outcomes",annotation:=none,pos:=p 1}],vararg:=none,kwonlyargs:=[],kw_defaults:=[],kwarg:=none,defaults:=[]})
  (body:=[.Assign [.Name "told" (p 2)] (.List [] (p 3)) (p 4),.Assign [.Name "known" (p 5)] (.Dict [] [] (p 6)) (p 7),
   .Expr (.Call (.Name "tell_new" (p 8)) [.Name "told" (p 9),.Name "known" (p 10),.Name "firsts" (p 11),.UnaryOp .USub (.Constant (.int 1) 0 (p 12)) (p 13)] [] (p 14)) (p 15),
   .Assign [.Name "k" (p 16)] (.Constant (.int 0) 0 (p 17)) (p 18),
   .While (.Compare (.Name "k" (p 19)) [.Lt] [.Call (.Name "len" (p 20)) [.Name "told" (p 21)] [] (p 22)] (p 23))
    [.Expr (.Call (.Name "tell_new" (p 24)) [.Name "told" (p 25),.Name "known" (p 26),.Call (.Name "outcomes" (p 27)) [.Subscript (.Subscript (.Name "told" (p 28)) (.Name "k" (p 29)) (p 30)) (.Slice none (some (.UnaryOp .USub (.Constant (.int 1) 0 (p 31)) (p 32))) none (p 33)) (p 34)] [] (p 35),.Name "k" (p 36)] [] (p 37)) (p 38),
    .AugAssign (.Name "k" (p 39)) .Add (.Constant (.int 1) 0 (p 40)) (p 41)] [] (p 42),
   .Return (some (.Name "told" (p 43))) (p 44)])
  (decorator_list:=[]) (returns:=none) (type_params:=[])
  (scope:={kind:=.function,names:=[(Str.ofString "firsts",.local),(Str.ofString "outcomes",.local),(Str.ofString "told",.local),(Str.ofString "known",.local),(Str.ofString "k",.local),(Str.ofString "tell_new",.globalImplicit),(Str.ofString "len",.globalImplicit)],isGenerator:=false,isCoroutine:=false,more:=[]})
  (tscope:=none) (bind:="spread") (pos:=p 45)
abbrev OI:List Str:=["told","known","facts","came","fact"]
abbrev pq:List Str:=["firsts","outcomes","told","known","k"]
structure yv (K:ah) (F H:Hp) (l d:ab) (told:eJ) (ws:List V) (xs:List (List bQ×ab×ag)):Prop where
 hl:H l=some (.ay ws)
 b:aP K F (told.map toldP) ws
 hd:H d=some (.dT xs)
 ks:xs.map (·.1)=told.map (·.1)
 at_:iI K F xs
 fl:F l=none
 fd:F d=none
theorem yv.to{K:ah}{F H F' H':Hp}{l d:ab}{told:eJ}{ws:List V}{xs:List (List bQ×ab×ag)}(B:yv K F H l d told ws xs)(f:Same F F')(h:Same H H')(n:∀b o,F' b=some o->F b=some o\/H b=none):yv K F' H' l d told ws xs where
 hl:=h _ _ B.hl
 b:=B.b.mono f
 hd:=h _ _ B.hd
 ks:=B.ks
 at_:=λx hx=>aQ f (B.at_ x hx)
 fl:=by
  cases q:F' l with
  | none=>rfl
  | some o =>
   rcases n l o q with z | z
   ·rw[B.fl]at z;cases z
   ·rw[B.hl]at z;cases z
 fd:=by
  cases q:F' d with
  | none=>rfl
  | some o =>
   rcases n d o q with z | z
   ·rw[B.fd]at z;cases z
   ·rw[B.hd]at z;cases z
structure ka (aa H₀ F H:Hp) (l d:ab):Prop where
 f:Same aa F
 s:Same F H
 k:∀b o,b≠l->b≠d->H₀ b=some o->H b=some o
 n:∀b o,F b=some o->aa b=some o\/H₀ b=none
def E2(K:ah):Sp:=λvs H Q _=>∃F l d va c told fk ws xs,vs=[.ref l,.ref d,va,.int c]/\Same F H/\yv K F H l d told ws xs/\cI K F (.ay (fk.map dq)) va/\(∀k∈fk,k.length<1000)/\told.length+fk.length<fO /\
 ∀F' H' ws' xs',ka F H F' H' l d->yv K F' H' l d (cS told c fk) ws' xs'->Q .cM H'
theorem ka.refl{F H:Hp}{l d:ab}(h:Same F H):ka F H F H l d:=⟨Same.refl F,h,λ_ _ _ _ e=>e,λ_ _ e=>.inl e⟩
section
variable {prog:bc} {w:aM} {K:ah} {mg:dy} {base:Heap} {p:Nat->Pos} {f:ab} {fd:dk}
set_option maxHeartbeats 1000000 in
theorem MC(Fn:Ap K "tell_new" "tell_new" (qT p) f fd)(S:dA OI ["told","known","facts","came"] (aH (qT p)))(hp:((p 15).endLine==(p 20).line)=true)(k:Nat):FnOk prog w K mg base (jK prog w) (k+1) f fd ["told","known","facts","came"] (E2 K):=by
 refine Mh Fn S (λvs H Q E ⟨F,l,d,va,c,told,fk,ws,xs,e,_⟩=>by rw[e];rfl) λdf A outer s H vs Q E hr nh=>?_
 obtain⟨F0,l,d,va,c,told,fk,ws,xs,rfl,hs,B0,hfa,hsz,Hx,hq⟩:=nh;have hu:=Uz hr;refine⟨_,ky (Hf Ab rfl (CA (pv 2)) (Cz (i:=4) S.nd rfl (Or.inl rfl)) (ky (N2 (me (OG hu) (pv 4) (pv 1) rfl)
  (gn (Di hu (pv 1) (pv 4) N1 rfl) (ky (gk (xP nr zJ zL nM (pv 0)
   (cR (VF λH₀ aa=>UO vB mr (tQ 4 (pv 4)) (Ol (nN (tQ 3 (pv 3)) tV rfl))) gD rfl) rfl rfl hp rfl rfl)))) Cy))),?_⟩
 obtain⟨a,vs,rfl,ha,fR⟩:=aU.mp hfa;refine⟨_,rfl,a,rfl,⟨vs,(bG hs ha).sq⟩,Hh (K:=K) (xs:=vs) (λi σ H1=>∃F x ws xs,σ=[some (.ref l),some (.ref d),some (.ref a),some (.int c),x]/\ka F0 H F H1 l d/\yv K F H1 l d (cS told c (fk.take i)) ws xs) ?_ ?_ ?_ ?_⟩
 ·exact⟨F0,none,ws,xs,rfl,ka.refl hs,B0⟩
 ·intro i σ H1 hi ⟨F,x,K2,Bl,_,Pa,B⟩;exact(bG Pa.s (bG Pa.f ha)).sq
 ·intro i x σ H1 hx ⟨F,y,K2,Bl,e,Pa,B⟩;subst e;obtain⟨pf,hpf,Oi⟩:=fR.UL hx;rw[bU]at hpf;obtain⟨fc,hf,rfl⟩:=je.mp hpf;obtain⟨b,rfl,hb⟩:=Dh Oi;have tk:cS told c (fk.take (i+1))=eE (cS told c (fk.take i)) c fc:=by
   rw[List.take_add_one,hf];exact ud c fc _ _
  have hbF:gI K F b (fc.map kV):=aQ Pa.f hb;refine⟨.ref b,rfl,.ref d,rfl,b,d,Bl,fc,rfl,rfl,.inl B.hd,λz hz=>aQ Pa.s (B.at_ z hz),aQ Pa.s hbF,_,rfl,?_⟩
  have hks:=tM Bl fc;rw[B.ks]at hks;by_cases hm:IB ((cS told c (fk.take i)).map (·.1)) fc=true
  ·have Rm:(atKey Bl fc).isSome=true:=hks.trans hm;rw[Rm];refine UA ⟨F,some (.ref b),K2,Bl,rfl,Pa,?_⟩;rw[tk,eE,if_pos hm];exact B
  ·have Rm:(atKey Bl fc).isSome=false:=by
    rw[hks];exact Bool.eq_false_iff.mpr hm
   rw[Rm];have Qp:atKey Bl fc=none:=by
    cases z:atKey Bl fc with
    | none=>rfl
    | some q=>rw[z]at Rm;cases Rm
   have cC:(cS told c (fk.take i)).length<=told.length+fk.length:=bY (kE c _ told) (by rw[gR];lia)
   have hxl:Bl.length<sizeLine:=by
    have e1:Bl.length=(cS told c (fk.take i)).length:=by rw[<-aB (f:=(·.1)),B.ks,aB]
    rw[e1];exact cy (jR cC Hx) (d9 (aR _))
   refine UB ⟨.ref d,rfl,.ref b,rfl,d,b,Bl,fc,rfl,rfl,B.hd,λz hz=>aQ Pa.s (B.at_ z hz),aQ Pa.s hbF,hxl,λr XI=>?_⟩
   rw[storedH_new Qp];have wR:l≠d:=G6 B.hl B.hd (λz=>nomatch z)
   have sF:Same F (upd H1 d (.dT (Bl++[(fc,b,r)]))):=λz o e=>by
    rw[upd_ne (ne_of_none e B.fd)];exact Pa.s _ _ e
   refine⟨.ref l,rfl,.inl ⟨rfl,K2,kQ.of ((upd_ne wR).trans B.hl)⟩,_,F,F,[.un,.un,.un,.val (.int c),.val (dq fc)],.aJ (fc.map lK++[.int c]),mI sF (λe he=>?_) (λj q e=>?_) (λj o e=>?_) rfl,?_,λv H2 F2 R2 s2 b2=>?_⟩
   ·simp only[aX,dB,dC]at he;rcases he with rfl | rfl | rfl | rfl | rfl<;>exact⟨(λ_ z=>by cases z),(λ_ z=>by cases z)⟩
   ·match j,e with
    | 3,e=>cases e;exact⟨_,rfl,aF.mpr rfl⟩
    | 4,e=>cases e;exact⟨_,rfl,Oi.mono Pa.f⟩
   ·exact absurd (b9 e) (by simp)
   ·have VG:=hsz fc (b9 hf);have h1:ck (dq fc) (.aJ [.int c])=some (.aJ (fc.map lK++[.int c])):=by
     show sizeOk ((fc.map lK).length+1) _=_;unfold sizeOk;rw[if_pos (by rw[aB];exact bY VG (by decide))]
    show(if(1:Nat)<=fO then some (PV.aJ [.int c])else none).bind (λy=>ck (dq fc) y)=_
    rw[if_pos (by decide)]
    exact h1
   ·have nl:F2 l=none:=by
     cases q:F2 l with
     | none=>rfl
     | some o =>
      rcases R2.fresh l o q with z | z
      ·rw[B.fl]at z;cases z
      ·rw[upd_ne wR,B.hl]at z;cases z
    have nd:F2 d=none:=by
     cases q:F2 d with
     | none=>rfl
     | some o =>
      rcases R2.fresh d o q with z | z
      ·rw[B.fd]at z;cases z
      ·rw[aC]at z;cases z
    have QR:H2 l=some (.ay K2):=R2.keep _ _ ((upd_ne wR).trans B.hl);have Oa:K2.length<sizeLine:=by
     have e1:K2.length=(cS told c (fk.take i)).length:=by rw[<-B.b.length,aB]
     rw[e1];exact cy (jR cC Hx) (d9 (aR _))
    refine⟨l,K2,v,rfl,rfl,QR,Oa,F2,some (.ref b),K2++[v],Bl++[(fc,b,r)],rfl,⟨Pa.f.trans R2.base,λz o e=>?_,λz o h1 h2 e=>?_,λz o e=>?_⟩,?_⟩
    ·rw[upd_ne (ne_of_none e nl)];exact R2.sub _ _ e
    ·rw[upd_ne h1];exact R2.keep _ _ (by rw[upd_ne h2];exact Pa.k z o h1 h2 e)
    ·rcases R2.fresh z o e with q | q
     ·exact Pa.n z o q
     ·refine .inr ?_;cases hz:H z with
      | none=>rfl
      | some o' =>
       have h1:z≠l:=λy=>by rw[y,nl]at e;cases e
       have h2:z≠d:=λy=>by rw[y,nd]at e;cases e
       rw[upd_ne h2,Pa.k z o' h1 h2 hz]at q;cases q
    ·rw[tk,eE,if_neg hm];refine⟨aC,?_,?_,?_,λz hz=>?_,nl,nd⟩
     ·rw[c9];exact(B.b.mono R2.base).append (.cons b2 .nil)
     ·rw[upd_ne (dN wR)];exact R2.keep _ _ aC
     ·rw[c9,c9,B.ks];rfl
     ·rcases dM.mp hz with hz | hz
      ·exact aQ R2.base (B.at_ z hz)
      ·obtain rfl:z=(fc,b,r):=by simpa using hz
       exact aQ R2.base hbF
 ·intro σ H1 ⟨F,x,K2,Bl,_,Pa,B⟩;refine hq F H1 K2 Bl Pa ?_;have e1:vs.length=fk.length:=by rw[<-fR.length,aB]
  rw[e1,List.take_length]at B;exact B
end
def IC(X:Cx)(eO:Hp)(fa:ab)(out:List bQ->Option (List (List bQ))):Prop:=∀(af:List (ab×Obj)) (s:aq) (σ:St) (H F:Hp) (b:ab) (f:List bQ) (fk:List (List bQ)) (Q:VK),Inv X af σ H s->Same eO F->Same F H->cI X.K F (dq f) (.ref b)->out f=some fk ->
 (∀v H' F',Same H H'->Same F F'->Same F' H'->(∀a o,F' a=some o->F a=some o\/H a=none)->cI X.K F' (.ay (fk.map dq)) v->Q v H')->wpAny (model X.prog X.w) X.A (call (.ref fa) [.ref b]) (EP X af σ Q) X.xe s
def VH(K:ah)(eO:Hp)(out:List bQ->Option (List (List bQ)))(Q:VK):List V->Hp->Prop
 | [v],H1=>∃F b f fk,v=.ref b/\Same eO F/\Same F H1/\cI K F (dq f) (.ref b)/\out f=some fk /\
  ∀v' H' F',Same H1 H'->Same F F'->Same F' H'->(∀a o,F' a=some o->F a=some o\/H1 a=none)->cI K F' (.ay (fk.map dq)) v'->Q v' H'
 | _,_=>False
def aaC(K:ah)(eO:Hp)(fa:ab)(out:List bQ->Option (List (List bQ)))(i:Nat)(te:TE):TE:=λσ H Q=>σ[i]?=some (some (.ref fa))/\te σ H λv H1=>VH K eO out Q [v] H1
theorem RD{X:Cx}{eO:Hp}{fa:ab}{out:List bQ->Option (List (List bQ))}{i:Nat}{y:Str}{p pos:Pos}{e:aj}{te:TE}{o:Obj}{u:HO}{RE:dk}(hy:PE X (.Name y p) (iS i))(ha:PE X e te)(Tf:X.H₀ fa=some (.k0 o u))(hfd:o.data=.func RE)(L:IC X eO fa out)
  (he:starEach [e] X.env=(false,eval e X.env)::starEach [] X.env:=by rfl):PE X (.Call (.Name y p) [e] [] pos) (aaC X.K eO fa out i te):=by
 intro af s σ H Q I ⟨e1,h⟩;refine lx (thn (hy af s σ H (λv H1=>v=.ref fa/\H1=H) I ⟨_,e1,rfl,rfl⟩) λv s1 ⟨z,H1,I1,rx,ex,eh⟩=>?_)
 subst ex eh;cases rx;have hP:∀{cE:St} {H':Hp} {s':aq},Inv X af cE H' s'->s'.heap.get? fa=some o:=λ{cE H' s'} J=>(J.hok fa _ (J.base.frzs fa o u Tf)).1
 have hk:∀h:Heap,h.get? fa=some o->∃k,(k=Keeper.frame\/k=Keeper.machine\/k=Keeper.boundFrame)/\W.Looks (model X.prog X.w) h (keeperOf (.ref fa)) k:=λh ho=>by
  obtain⟨c1,c2,c3,c4⟩:=o;cases hfd;exact⟨.frame,.inl rfl,(W.Looks.ld (part:=none) ho).andThen .now⟩
 have OJ:wpAny (model X.prog X.w) X.A (spliced (backTo pos (starEach [e] X.env))) (λus s2=>s2.heap.get? fa=some o/\wpAny (model X.prog X.w) X.A (call (.ref fa) ([]++us)) (EP X af σ Q) X.xe s2) X.xe s1 :=
  thn ((cR ha gD he) pos af s1 σ H1 (VH X.K eO out Q) I1 h) λus s2 ⟨vs,H2,I2,r,q⟩=>⟨hP I2,by
   match vs,r,q with
   | [v],r,⟨F,b,f,fk,ev,q1,q2,q3,q4,q5⟩ =>
    subst ev;obtain⟨u2,rfl,ru⟩:=iW r;cases ru;exact L af s2 σ H2 F b f fk Q I2 q1 q2 q3 q4 q5⟩
 rw[he]at OJ ⊢;exact W.callWith_of (P:=λh=>h.get? fa=some o) rfl hk (PySem.Calls.evalArgs_plain OJ)
theorem ka.trans{F0 H0 F H F' H':Hp}{l d:ab}(P1:ka F0 H0 F H l d)(P2:ka F H F' H' l d)(nl:F' l=none)(nd:F' d=none):ka F0 H0 F' H' l d:=by
 refine⟨P1.f.trans P2.f,P2.s,λb o h1 h2 e=>P2.k b o h1 h2 (P1.k b o h1 h2 e),λb o e=>?_⟩
 rcases P2.n b o e with q | q
 ·exact P1.n b o q
 ·refine .inr ?_;cases hz:H0 b with
  | none=>rfl
  | some o' =>
   have h1:b≠l:=λy=>by rw[y,nl]at e;cases e
   have h2:b≠d:=λy=>by rw[y,nd]at e;cases e
   rw[P1.k b o' h1 h2 hz]at q;cases q
theorem ka.of{F H F' H':Hp}{l d:ab}(h1:Same H H')(h2:Same F F')(h3:Same F' H')(h4:∀b o,F' b=some o->F b=some o\/H b=none):ka F H F' H' l d:=⟨h2,h3,λb o _ _ e=>h1 b o e,h4⟩
def MD(H:Hp)(l:ab):Hp:=λb=>if b=l then none else H b
theorem vI{H:Hp}{l:ab}:MD H l l=none:=if_pos rfl
theorem iu{H:Hp}{l b:ab}(h:b≠l):MD H l b=H b:=if_neg h
theorem ID(ps:av)(c:PV):ij (ps++[c]) none (some (-1))=ps:=by
 have h0:HT.eu (ps++[c]).length 0 none=0:=by simp[HT.eu]
 have h1:HT.eu (ps++[c]).length (ps++[c]).length (some (-1))=ps.length:=by
  show(if(-1:Int)<0 then((-1:Int)+(((ps++[c]).length:Nat):Int)).toNat else min (-1:Int).toNat (ps++[c]).length)=_
  rw[if_pos (by decide),bX]
  show(-1+((ps.length+1:Nat):Int)).toNat=_
  lia
 unfold ij;rw[h0,h1,List.drop_zero,Nat.sub_zero,List.take_left]
section
variable {prog:bc} {w:aM} {K:ah} {mg:dy} {base:Heap} {p:Nat->Pos} {f fT fa:ab} {Dj:dk} {df:ag} {A:bD} {outer:List Env} {s:aq} {H:Hp} {E:XK} {k:Nat} {o:Obj} {u:HO} {RE:dk} {eO:Hp} {out:List bQ->Option (List (List bQ))}
abbrev cxS(prog:bc)(w:aM)(K:ah)(mg:dy)(base:Heap)(p:Nat->Pos)(f:ab)(df:ag)(A:bD)(outer:List Env)(s:aq)(H:Hp)(E:XK):Cx:=jH (jK prog w) prog w K mg base pq "spread" (aH (gY p)) f df A outer s H E
set_option maxHeartbeats 1000000 in
theorem yw(S:dA pq ["firsts","outcomes"] (aH (gY p)))(FT:FnOk prog w K mg base (jK prog w) k fT Dj ["told","known","facts","came"] (E2 K)) (hr:dR k (A.deeper (envOfC "spread" (aH (gY p)) s.heap.objs.size f df))) (mT:mg "tell_new"=some (.ref fT)) (kT:W.keepIn K (.ref fT)=true)
  (bT:eL K Dj ["told","known","facts","came"] []) (mL:mg "len"=none) (Tf:H fa=some (.k0 o u)) (hfd:o.data=.func RE) (L:IC (cxS prog w K mg base p f df A outer s H E) eO fa out) (hsz:∀f fk,out f=some fk->∀x∈fk,x.length<1000)
  {va:V} {RF:List (List bQ)} {n:Nat} {res:eJ} {Q:VK} (h1:Same eO H) (h2:cI K eO (.ay (RF.map dq)) va) (h3:∀x∈RF,x.length<1000) (h4:RF.length<fO) (h5:eX out n 0 (cS [] (-1) RF)=some res)
  (hq:∀l ws F' H',Same H H'->Same eO F'->Same F' H'->(∀b o,F' b=some o->eO b=some o\/H b=none)->H l=none->F' l=none->H' l=some (.ay ws)->aP K F' (res.map toldP) ws->Q (.ref l) H') :
  ∃t,oQ (cxS prog w K mg base p f df A outer s H E) (cw (gY p)) t/\t {nx:=λ_ H'=>Q .cM H',rt:=Q} (start pq [va,.ref fa]) H:=by
 refine⟨_,gn (vd (i:=2) S.nd rfl (Or.inl rfl) (Ho gD)) (gn (vd (i:=3) S.nd rfl (Or.inl rfl) CK)
  (gn (gk (kz FT hr rfl mT kT bT .nil mi (cR (pv 2) (cR (pv 3) (cR (pv 0) (cR (N5 Hi u9) gD))))))
  (gn (vd (i:=4) S.nd rfl (Or.inl rfl) u9)
  (gn (Hc Ab (me N6 (pv 4) (iX jq rfl mL uU (cR (pv 2) gD)) rfl)
   (gn (gk (kz FT hr rfl mT kT bT .nil mi (cR (pv 2) (cR (pv 3) (cR (RD (i:=1) (pv 1) (VF λH₀ aa=>Ow (IA (i:=2) (pv 2) (tQ 4 (pv 4)) (λ_ _=>rfl)) H9 (Ia (Ox Oj))) Tf hfd L) (cR (pv 4) gD))))))
    (ky (Hb (i:=4) (ti:=AF λi j=>.int (i+j)) S.nd rfl (Or.inl rfl) u9 (λaf s σ H x y v u Q I r1 r2 t=>iop_add af s σ H x y v u Q I r1 r2 t)))))
  (ky (vb (pv 2))))))),?_⟩
 refine⟨dY _,λl hl=>?_⟩
 intro d hd;have XJ:l≠d:=λz=>by rw[z,aC]at hd;cases hd
 have hHd:H d=none:=by rw[upd_ne (dN XJ)]at hd;exact hd
 have sH2:Same H (upd (upd H l (.ay [])) d (.dT [])):=λb ob e=>by rw[upd_ne (ne_of_none e hHd),upd_ne (ne_of_none e hl)];exact e
 have fl:eO l=none:=h1.free hl;have fdn:eO d=none:=h1.free hHd;refine⟨_,rfl,_,rfl,_,rfl,1,rfl,eO,l,d,va,-1,[],RF,[],[],rfl,h1.trans sH2,⟨?_,.nil,aC,rfl,(λ_ z=>by cases z),fl,fdn⟩,h2,h3,by rw[pT,gC];exact h4,λF2 H2 ws2 xs2 XM B2=>?_⟩
 ·rw[upd_ne XJ,aC]
 have P0:ka eO H F2 H2 l d:=⟨XM.f,XM.s,λb ob e1 e2 e=>XM.k b ob e1 e2 (sH2 _ _ e),λb ob e=>by
  rcases XM.n b ob e with q | q
  ·exact .inl q
  ·exact .inr (sH2.free q)⟩
 have hl0:(cS [] (-1) RF).length<fO:=jR (kE (-1) RF []) (by rw[pT,gC];exact h4)
 refine⟨λm σ H1=>∃(j:Nat) (told:eJ) (F:Hp) (ws:List V) (xs:List (List bQ×ab×ag)),σ=[some va,some (.ref fa),some (.ref l),some (.ref d),some (.int j)]/\eX out m j told=some res/\ka eO H F H1 l d/\yv K F H1 l d told ws xs/\told.length<fO,
  ⟨n,0,_,F2,ws2,xs2,rfl,h5,P0,B2,hl0⟩,?_⟩
 rintro m σ H1 ⟨j,told,F,ws,xs,rfl,nh,Pa,B,Hx⟩
 have Oa:ws.length=told.length:=by rw[<-B.b.length,aB]
 refine⟨_,rfl,_,rfl,l,ws,rfl,.inl (kQ.of B.hl),j,ws.length,rfl,rfl,_,rfl,?_⟩;cases m with
 | zero=>cases nh
 | succ m =>
  cases ht:told[j]? with
  | none =>
   have nh:(match told[j]? with | none=>some told | some t=>(out t.1).bind λfs=>if told.length+fs.length<fO then eX out m (j+1) (cS told j fs)else none)=some res:=nh
   rw[ht]at nh;cases nh;have Tg:res.length<=j:=pK.mp ht;rw[e9 (by rw[Oa];lia)]
   refine UA ⟨_,rfl,hq l ws F H1 (λb ob e=>Pa.k b ob (λz=>by rw[z,hl]at e;cases e) (λz=>by rw[z,hHd]at e;cases e) e) Pa.f Pa.s Pa.n hl B.fl B.hl B.b⟩
  | some t =>
   have nh:(match told[j]? with | none=>some told | some t=>(out t.1).bind λfs=>if told.length+fs.length<fO then eX out m (j+1) (cS told j fs)else none)=some res:=nh
   rw[ht]at nh;obtain⟨fk,Bm,nh⟩:=ar nh;obtain⟨OK,nh⟩:=ax nh;have Tg:j<told.length:=(cL.mp ht).1;rw[fg (by rw[Oa];lia)]
   refine UB ⟨_,λcE H' z=>⟨m,uQ m,z⟩,?_⟩
   have RG:∀(i:Nat) (q:av),([.un,.un,.own (told.map toldP),.un,.val (.int j)]:aE)[i]?=some (.own q)->i=2/\q=told.map toldP:=λi q e=>by
    match i,e with
    | 2,e=>cases e;exact⟨rfl,rfl⟩
    | i+3,e=>exact absurd (b9 (show([.un,.val (.int j)]:aE)[i]?=some (.own q)from e)) (by simp)
   refine⟨_,rfl,_,rfl,rfl,MD H1 l,F,F,[.un,.un,.own (told.map toldP),.un,.val (.int j)],dq t.1,?_,?_,λv H3 F3 R3 s3 b3=>?_⟩
   ·exact {
     sub:=Pa.s
     keep:=λb ob e=>by
      by_cases z:b=l
      ·subst z;rw[vI]at e;cases e
      ·rw[iu z]at e;exact e
     base:=Same.refl F
     fresh:=λ_ _ e=>.inl e
     val:=λi q e=>by
      match i,e with
      | 4,e=>cases e;exact⟨_,rfl,aF.mpr rfl⟩
     own:=λi q e=>by
      obtain⟨rfl,rfl⟩:=RG i q e;exact⟨l,ws,rfl,B.hl,vI,B.fl,B.b⟩
     apart:=λi1 i2 q1 q2 a e1 e2 _ _=>by
      rw[(RG i1 q1 e1).1,(RG i2 q2 e2).1]
     obs:=λi q e=>absurd (b9 e) (by simp)
     cg:=λi q e=>absurd (b9 e) (by simp)
     len:=rfl}
   ·show((MB 2 [.un,.un,.own (told.map toldP),.un,.val (.int j)] (.int j)).bind λq=>Ov none (some (-1)) q)=_
    have e1:MB 2 [.un,.un,.own (told.map toldP),.un,.val (.int j)] (.int j)=some (toldP t):=by
     show atI (told.map toldP) (j:Int)=_;exact cJ (by rw[bU,ht];rfl)
    rw[e1];show some (PV.aJ (ij (t.1.map lK++[.int t.2]) none (some (-1))))=_;rw[ID];rfl
   ·obtain⟨b,rfl,hb⟩:=Dh b3;obtain⟨l',ws3,g1,g2,_,g4,g5⟩:=R3.own 2 _ rfl;cases g1;have gd:H3 d=some (.dT xs):=R3.keep _ _ (by rw[iu (dN XJ)];exact B.hd)
    have nd3:F3 d=none:=by
     cases q:F3 d with
     | none=>rfl
     | some ob =>
      rcases R3.fresh d ob q with z | z
      ·rw[B.fd]at z;cases z
      ·rw[iu (dN XJ),B.hd]at z;cases z
    have B3:yv K F3 H3 l d told ws3 xs:=⟨g2,g5,gd,B.ks,λx hx=>aQ R3.base (B.at_ x hx),g4,nd3⟩
    have P3:ka F H1 F3 H3 l d:=⟨R3.base,R3.sub,λb ob e1 _ e=>R3.keep _ _ (by rw[iu e1];exact e),λb ob e=>by
     rcases R3.fresh b ob e with q | q
     ·exact .inl q
     ·refine .inr ?_;have e1:b≠l:=λy=>by rw[y,g4]at e;cases e
      rw[iu e1]at q;exact q⟩
    refine⟨F3,b,t.1,fk,rfl,Pa.f.trans R3.base,R3.sub,b3,Bm,λv' H4 F4 z1 z2 z3 z4 z5=>?_⟩
    have B4:=B3.to z2 z1 z4;have P4:ka F3 H3 F4 H4 l d:=ka.of z1 z2 z3 z4;have Pa4:ka eO H F4 H4 l d:=(Pa.trans P3 g4 nd3).trans P4 B4.fl B4.fd;refine⟨_,rfl,F4,l,d,v',j,told,fk,ws3,xs,rfl,z3,B4,z5,hsz _ _ Bm,OK,λF5 H5 ws5 xs5 Pa5 B5=>?_⟩
    refine⟨_,rfl,j,1,rfl,rfl,j+1,cS told j fk,F5,ws5,xs5,rfl,nh,Pa4.trans Pa5 B5.fl B5.fd,B5,jR (kE j fk told) OK⟩
end
def vJ(fb:FE)(vK:aE)(f:List bQ):Option (List (List bQ)):=(fb (.val (dq f)::vK)).bind λq=>match q with
 | .ay fs=>factsOf fs
 | _=>none
theorem ue{fb:FE}{vK:aE}{f:List bQ}{fk:List (List bQ)}(h:vJ fb vK f=some fk):fb (.val (dq f)::vK)=some (.ay (fk.map dq))/\∀x∈fk,x.length<1000:=by
 obtain⟨q,h1,h2⟩:=ar h;cases q with
 | ay fs =>
  obtain⟨e,l⟩:=lM h2;rw[e]at h1;exact⟨h1,l⟩
 | _=>cases h2
structure ME (K:ah) (F:Hp) (vK:aE) (τ:St):Prop where
 no:∀e∈vK,(∀ps,e≠.own ps)/\∀m,e≠.cg m
 val:∀(i:Nat) (p:PV),vK[i]?=some (.val p)->∃v,τ[i]?=some (some v)/\cI K F p v
 obs:∀(i:Nat) (o:Ob),vK[i]?=some (.ob o)->∃a,τ[i]?=some (some (.ref a))/\vq K F o a
 len:vK.length=τ.length
theorem ME.rep{K:ah}{eO F H:Hp}{vK:aE}{τ:St}(C:ME K eO vK τ)(f:Same eO F)(h:Same F H){p:PV}{v:V}(b:cI K F p v):cB K H F F (.val p::vK) (some v::τ) H:=by
 refine mI h (λe he=>?_) (λi q e=>?_) (λi q e=>?_) ?_
 ·rcases aX.mp he with rfl | he
  ·exact⟨(λ_ z=>by cases z),(λ_ z=>by cases z)⟩
  ·exact C.no e he
 ·cases i with
  | zero=>cases e;exact⟨v,rfl,b⟩
  | succ i =>
   obtain⟨x,h1,h2⟩:=C.val i q (by simpa using e)
   exact⟨x,by simpa using h1,h2.mono f⟩
 ·cases i with
  | zero=>cases e
  | succ i =>
   obtain⟨x,h1,h2⟩:=C.obs i q (by simpa using e)
   exact⟨x,by simpa using h1,h2.mono f⟩
 ·rw[aZ,aZ,C.len]
theorem RH{X:Cx}{eO:Hp}{fa:ab}{qual x:Str}{params:Arguments}{body:aj}{scope:Scope}{cl:List (Str×ab)}{N:List Str}{τ:St}{vK:aE}{fb:FE}{k:Nat}(ZZ:X.ex=[])(hL:HC X.H₀ fa qual params body scope cl)(hC:j2 X.s₀.heap X.H₀ scope cl N τ)(hF:ME X.K eO vK τ)(hr:dR (k+1) X.A)
  (hb:∀(pm df Ez u:ag),bindArgs (W.kla_fn "<lambda>" qual params body scope cl pm df Ez) ⟨[u],[]⟩=pure [(x,u)]) (hk:scope.kind=.function) (Qz:scope.isCoroutine=false) (QA:scope.isGenerator=false) (hx:scope.names.lookup x=some .local) (nc:∀y∈scope.names,y.2≠.cell)
  (hbody:∀(df:ag) (s:aq) (H H₀ aa:Hp),dR k (X.A.deeper (W.envX qual scope s.heap.objs.size fa df cl))->PE (Tc (jK X.prog X.w) X.prog X.w X.K X.mg X.base (x::N) qual scope fa df cl X.A X.stack s H E0) body (tE X.K H₀ aa fb)):IC X eO fa (vJ fb vK):=by
 intro af s σ H F b f fk Q I s1 s2 bf ho q;obtain⟨h1,h2⟩:=ue ho;obtain⟨o,u,pm,df,Ez,c,oc,uc,vs,t,k1,k2,rfl,k3,k4,k5⟩:=hL;have g1:s.heap.get? fa=some o:=(I.hok fa _ (I.base.frzs fa o u k1)).1;have g2:s.heap.get? c=some oc:=(I.hok c _ (I.base.frzs c oc uc k3)).1;have C:j2 s.heap H scope cl N τ:=hC.un (by have:=I.base;rw[ZZ]at this;exact this)
 refine pZ (jn (LF (CX:=jK X.prog X.w) (E:=E0) (x:=x) (N:=N) (τ:=τ) (v:=.ref b) g1 k2 ⟨c,oc,vs,t,rfl,g2,k4,k5⟩ hr I.Qk (hb _ _ _ _) rfl hk Qz QA hx nc C ⟨_,hbody (.ref c) s H H F (hr.deeper _),F,.val (dq f)::vK,_,hF.rep s1 s2 bf,h1,λv H' F' R' s' b'=>q v H' F' R'.keep s' R'.sub R'.fresh b'⟩) λr s' hq=>?_)
 cases r with
 | error e=>exact mi af σ H s e s' I hq
 | ok fl =>
  cases fl with
  | ret u=>exact I.after hq
  | next=>exact False.elim hq
  | brk=>exact False.elim hq
  | cont=>exact False.elim hq
def uf:Nat:=5000
def jv(fe fb:FE)(link:List (Option Nat)):bF:=λρ=>(fe ρ).bind λq=>match q with
 | .ay fs=>(factsOf fs).bind λfk=>if fk.length<fO then(eX (vJ fb (bB link ρ)) uf 0 (cS [] (-1) fk)).map λtold=>told.map toldP else none
 | _=>none
theorem vL{fe fb:FE}{link:List (Option Nat)}{ρ:aE}{ps:av}(h:jv fe fb link ρ=some ps):∃fk told,fe ρ=some (.ay (fk.map dq))/\(∀x∈fk,x.length<1000)/\fk.length<fO/\eX (vJ fb (bB link ρ)) uf 0 (cS [] (-1) fk)=some told/\ps=told.map toldP:=by
 obtain⟨q,h1,h⟩:=ar h;cases q with
 | ay fs =>
  obtain⟨fk,h2,h⟩:=ar (show(factsOf fs).bind _=some ps from h)
  obtain⟨h3,h⟩:=ax h;obtain⟨told,h4,rfl⟩:=je.mp h;obtain⟨e,l⟩:=lM h2;rw[e]at h1;exact⟨fk,told,h1,l,h3,h4,rfl⟩
 | _=>cases h
theorem MF{K:ah}{H₀ aa F H:Hp}{ρ:aE}{σ:St}(R:cB K H₀ aa F ρ σ H)(link:List (Option Nat)):ME K F (bB link ρ) (inner link σ):=by
 have R':=R.inner link;refine⟨λe he=>?_,R'.val,R'.obs,R'.len⟩
 obtain⟨i,hi⟩:=jg he;rcases cU hi with rfl | ⟨j,q,_,_,rfl⟩ | ⟨j,q,_,_,rfl⟩<;>exact⟨(λ_ z=>by cases z),(λ_ z=>by cases z)⟩
structure qU (X:Cx) (x:Str) (N:List Str) (link:List (Option Nat)) (scope:Scope):Prop where
 kind:scope.kind=.function
 co:scope.isCoroutine=false
 gen:scope.isGenerator=false
 par:scope.names.lookup x=some .local
 cell:∀y∈scope.names,y.2≠.cell
 free:∀y∈scope.names,y.2=.free->(X.env.kindOf y.1=some .cell\/X.env.kindOf y.1=some .free)
 len:link.length=N.length
 link:∀(i j:Nat) (y:Str),link[i]?=some (some j)->N[i]?=some y->X.N[j]?=some y/\scope.names.lookup y=some .free
theorem MG{X:Cx}{af:List (ab×Obj)}{σ:St}{H:Hp}{s:aq}{x:Str}{N:List Str}{link:List (Option Nat)}{scope:Scope}(I:Inv X af σ H s)(S:qU X x N link scope):j2 s.heap H scope (jI X.env scope.names []) N (inner link σ) where
 inj:=λy z c h1 h2=>I.ok.inj y z c (cD h1) (cD h2)
 has:=λy hy=>by
  have hm:=dJ hy;obtain⟨c,hc⟩:=I.ok.has y (S.free _ hm rfl);obtain⟨c',h'⟩:=j3 (env:=X.env) scope.names [] hm ⟨c,hc⟩;cases z:(jI X.env scope.names []).lookup y with
  | some c2=>exact⟨c2,rfl⟩
  | none=>exact absurd h' (by intro hh;have:=List.lookup_eq_none_iff.mp z (y,c') hh;simp at this)
 cell:=λy c h=>I.cell y c (cD h)
 free:=λy c h=>I.freeC y c (cD h)
 val:=λi y v h1 h2=>by
  unfold L2.PL.inner at h2;rw[bU]at h2;cases z:link[i]? with
  | none=>rw[z]at h2;cases h2
  | some o =>
   rw[z]at h2;cases o with
   | none=>cases h2
   | some j =>
    have h2:(σ[j]?).join=some v:=bg h2;have h3:σ[j]?=some (some v):=by
     cases w:σ[j]? with
     | none=>rw[w]at h2;cases h2
     | some q=>rw[w]at h2;exact dw some h2
    obtain⟨g1,g2⟩:=S.link i j y z h1;have hm:=dJ g2;obtain⟨m,_,hl⟩:=I.loc;have hfk:X.env.kindOf y=some .cell\/X.env.kindOf y=some .free:=S.free _ hm rfl;obtain⟨u,ru,lk⟩:=hl j y v g1 h3 (by
     rcases hfk with q | q
     ·exact .inr (.inl q)
     ·exact .inr (.inr q))
    rcases lk with⟨q,_⟩ | ⟨_,c,hc,hi⟩
    ·rcases hfk with q' | q'<;>rw[q]at q'<;>cases q'
    ·obtain⟨c',h'⟩:=j3 (env:=X.env) scope.names [] hm ⟨c,hc⟩;cases zz:(jI X.env scope.names []).lookup y with
     | none=>exact absurd h' (by intro hh;have:=List.lookup_eq_none_iff.mp zz (y,c') hh;simp at this)
     | some c2 =>
      have:=cD zz;rw[hc]at this;cases this;exact⟨c,u,g2,rfl,hi,ru⟩
 len:=by unfold L2.PL.inner;rw[aB];exact S.len
structure IE (K:ah) (mg:dy) (p q:Nat->Pos) (fs fT:ab) (IF Dj:dk):Prop where
 S:Ap K "spread" "spread" (gY p) fs IF
 mS:mg "spread"=some (.ref fs)
 bS:eL K IF ["firsts","outcomes"] []
 scS:dA pq ["firsts","outcomes"] (aH (gY p))
 T:Ap K "tell_new" "tell_new" (qT q) fT Dj
 mT:mg "tell_new"=some (.ref fT)
 bT:eL K Dj ["told","known","facts","came"] []
 scT:dA OI ["told","known","facts","came"] (aH (qT q))
 line:((q 15).endLine==(q 20).line)=true
 len:mg "len"=none
structure OL (X:Cx):Prop where
 ex:∃x c T,x∈dD/\W.tabIn X.K x=some (c,T)/\W.codeHdIn X.K c T=true/\X.env.code=.ref c/\X.env.qual++"<lambda>"=rV x
 blt:xU X.mg X.base
def oneArg(x:Str)(ap:Pos):Arguments:={posonlyargs:=[],args:=[{arg:=x,annotation:=none,pos:=ap}],vararg:=none,kwonlyargs:=[],kw_defaults:=[],kwarg:=none,defaults:=[]}
theorem E3{x:Str}{ap:Pos}{qual:Str}{body:aj}{scope:Scope}{cl:List (Str×ab)}(pm df Ez u:ag):bindArgs (W.kla_fn "<lambda>" qual (oneArg x ap) body scope cl pm df Ez) ⟨[u],[]⟩=pure [(x,u)]:=by
 have hs:seqItems? Value.none=pure none:=rfl;unfold bindArgs;simp only[oneArg,pX,bJ,gS,aZ,pT,List.zip_cons_cons,List.zip_nil_right,hs,pure_bind,List.forIn_nil,Ad];simp[List.lookup]
section
variable {X:Cx} {H₀ aa:Hp} {e body:aj} {fe fb:FE} {scope:Scope} {x:Str} {ap lp p1 pos:Pos} {N:List Str} {link:List (Option Nat)} {p q:Nat->Pos} {fs fT:ab} {IF Dj:dk} {k:Nat}
def aaG(X:Cx)(H₀ aa F:Hp)(ρ:aE)(σ:St)(fk:List (List bQ))(qual:Str)(params:Arguments)(body:aj)(scope:Scope)(cl:List (Str×ab)):List V->Hp->Prop
 | [va,vf],H1=>∃F1 fa,vf=.ref fa/\cB X.K H₀ aa F1 ρ σ H1/\Same F F1/\cI X.K F1 (.ay (fk.map dq)) va/\HC H1 fa qual params body scope cl
 | _,_=>False
theorem IG(D:IE X.K X.mg p q fs fT IF Dj)(L:OL X)(hg:Gl X "spread")(hr:dR (k+2) X.A)(he:PE X e (tE X.K H₀ aa fe))(mf:starEach [e,.Lambda (oneArg x ap) body scope lp] X.env=(false,eval e X.env)::starEach [.Lambda (oneArg x ap) body scope lp] X.env)(S:qU X x N link scope)
  (hbody:∀(qual:Str) (fa:ab) (df:ag) (cl:List (Str×ab)) (A:bD) (stack:List Env) (s:aq) (H MH eO:Hp),dR k (A.deeper (W.envX qual scope s.heap.objs.size fa df cl))->PE (Tc (jK X.prog X.w) X.prog X.w X.K X.mg X.base (x::N) qual scope fa df cl A stack s H E0) body (tE X.K MH eO fb)) :
  PE X (.Call (.Name "spread" p1) [e,.Lambda (oneArg x ap) body scope lp] [] pos) (tF X.K H₀ aa (jv fe fb link)):=by
 intro af s σ H Q I ⟨F,ρ,ps,R,hf,hq⟩;obtain⟨fk,told,h1,h2,h3,h4,rfl⟩:=vL hf;obtain⟨⟨xn,c,T,l1,l2,l3,l4,l5⟩,hB⟩:=L;have hcl:closureFor scope X.env=pure (jI X.env scope.names []):=qz λy hy hy2=>I.ok.has y.1 (S.free y hy hy2)
 refine lx (ld_glob I hg D.mS ?_ rfl);refine W.callWith_K (h₀:=X.base) I.ok.mod.kin D.S.kp (thn ((cR he (cR (QB l1 l2 l3 l4 l5 hB rfl hcl) gD rfl) mf) pos af s σ H (aaG X H₀ aa F ρ σ fk (rV xn) (oneArg x ap) body scope (jI X.env scope.names [])) I ?_) λus s1 ⟨vs,H1,I1,r,q1⟩=>⟨I1.wQ,?_⟩) mf rfl
 ·exact⟨F,ρ,_,R,h1,λva H1 F1 R1 s1 b1 fa H2 hn sm fr hL=>⟨F1,fa,rfl,R1.after sm (Same.refl F1) (R1.sub.trans sm) (λ_ _ e=>.inl e),s1,b1,hL⟩⟩
 ·match vs,r,q1 with
  | [va,vf],r,⟨F1,fa,ev,R1,Td,b1,hL⟩ =>
   subst ev;obtain⟨o,u,pm,aea,Ez,c',oc,uc,QE,t,k1,k2,k3⟩:=id hL;have FT:=MC (prog:=X.prog) (w:=X.w) (mg:=X.mg) (base:=X.base) D.T D.scT D.line k;refine pZ (jn (UJ (CX:=jK X.prog X.w) (E:=E0) (Q:=Q) (k:=k+1) D.S D.scS hr I1.Qk (args:=⟨us,[]⟩) (us:=us++[]) (D.bS s1 us I1.wQ (by rw[fH,<-r.length];rfl)) (by rw[fH];exact r) rfl (λdf =>
    yw D.scS FT (hr.deeper _) D.mT D.T.kp D.bT D.len k1 k2
     (RH (x:=x) (N:=N) (τ:=inner link σ) (k:=k) rfl hL (MG I1 S) (MF R1 link) (hr.deeper _) E3 S.kind S.co S.gen S.par S.cell (λdf s H MH eO XI=>hbody _ _ _ _ _ _ _ _ _ _ XI))
     (λf fk' ho=>(ue ho).2) R1.sub b1 h2 h3 h4 (λl ws F' H' g1 g2 g3 g4 g5 g6 g7 g8=>?_))) λr s' OM=>?_)
   ·have e1:upd (MD H' l) l (.ay ws)=H':=by
     funext b
     by_cases z:b=l
     ·subst z;rw[aC,g7]
     ·rw[upd_ne z,iu z]
    rw[<-e1];refine hq l ws _ F' (R1.after (λb ob e=>?_) g2 (λb ob e=>?_) g4) (Td.trans g2) g8 vI
    ·rw[iu (ne_of_none e g5)];exact g1 _ _ e
    ·rw[iu (ne_of_none e g6)];exact g3 _ _ e
   ·cases r with
    | error e=>exact mi af σ H1 s1 e s' I1 OM
    | ok fl =>
     cases fl with
     | ret u=>exact I1.after OM
     | next=>exact False.elim OM
     | brk=>exact False.elim OM
     | cont=>exact False.elim OM
end
end L2.PL
namespace L2
open PySem PySem.Spec PyProof.Rows
section
variable {X:Cx}
theorem IH{pos:Pos}:PE X (.Dict [] [] pos) (CJ (.dK [])):=λaf s σ H Q I h =>
 wpAny_Dict_empty ⟨.ref s.heap.objs.size,_,I.laid (a:=s.heap.objs.size) (o:=.dK []) (t':=s.toks) (λ_ _ q=>bR _ q) (aR _)
  ⟨dY _,lu.mpr (dN (b8 (xT I))),[],.nil,Heap.DictOf.new s.heap⟩,rfl,h _ (I.hok.fresh (aR _))⟩
theorem RI{v:V}{o:lE}(h:En (some v) o):∃u,o=some u/\RelV v u:=by
 cases o with
 | none=>exact h.elim
 | some u=>exact⟨u,rfl,h⟩
def aaH:R2:=λx y H Q=>∃a kvs k v,x=.ref a/\y=kV k/\Rd H a (.dK kvs)/\kR kvs k=some v/\Q v H
theorem VI:N9 X aaH:=by
 intro value slice af s σ H x y v u Q I rx ry h hs;obtain⟨a,kvs,k,z,rfl,rfl,hr,hv,q⟩:=h;cases rx;obtain⟨_,hd,vs,Th,dd⟩:=Od I.hok hr;obtain⟨w',hw,Qr⟩:=RI (o:=valueAt vs k) (by rw[<-hv];exact Th.val k)
 exact tail_any dd.typeIs PySem.F.slot_dict_getitem.lookup (wpAny_getItem_of (Hz ry) dd.mapOf hw ⟨z,H,I.tok _,Qr,q⟩) hs
def VJ:V->List V->Hp->VK->Prop:=λx vs H Q=>∃a kvs k y,x=.ref a/\vs=[kV k,y]/\H a=some (.dK kvs)/\kvs.length<sizeLine/\(∀v,kR kvs k=some v->Q v H)/\(kR kvs k=none->Q y (upd H a (.dK (kvs++[(k,y)]))))
theorem RJ:ZG X "dict.setdefault" VJ:=by
 intro af s σ H x xs v us Q I rx rv h;obtain⟨a,kvs,k,y,rfl,rfl,e,hl,h1,h2⟩:=h;cases rx;obtain⟨u1,u2,rfl,r1,r2⟩:=rv.two;obtain⟨z,hd,vs,Th,dd⟩:=UC I.hok e;refine call_meetsIn Gw dd.typeIs PySem.F.entry_dict_setdefault (PySem.F.args_dict_setdefault_3 _ _ _) (kt_meets_setdefault (et X.prog X.w) a (Hz r1) hd u2) ⟨vs,dd,by rw[<-Th.length];exact z,λw hw=>?_,λhn h' Xu hs=>?_⟩
 ·have rk:=Th.val k;rw[hw]at rk;cases hv:kR kvs k with
  | none=>rw[hv]at rk;exact rk.elim
  | some v0=>rw[hv]at rk;exact⟨v0,H,I.tok _,rk,h1 v0 hv⟩
 ·have rk:=Th.val k;rw[hn]at rk;have hv:kR kvs k=none:=by
   cases hv:kR kvs k with
   | none=>rfl
   | some v0=>rw[hv]at rk;exact rk.elim
  have VL:=Th.put k r2;rw[Hy y hv]at VL;have he:∃q,h'.get? a=some q:=let ⟨q,_,_,hq,_⟩:=Xu;⟨q,hq⟩
  exact⟨y,_,I.write (x:=a) (e:=a) (o:=.dK (kvs++[(k,y)])) (by rw[e];exact True.intro) (.inl rfl) (λc q' hc z=>(hs.2 c hc).trans z) he ⟨by rw[bX];exact hl,hd,_,VL,Xu⟩,r2,h2 hv⟩
def Dl:V->List V->Hp->VK->Prop:=λx vs H Q=>∃(l:ab) (xs:List V) (i:Int) (y:V),x=.ref l/\vs=[.int i,y]/\H l=some (.ay xs)/\xs.length<sizeLine/\0<=i/\i<=1000000/\Q .cM (upd H l (.ay (xs.take i.toNat++y::xs.drop i.toNat)))
theorem RK{i:Int}(h0:0<=i)(hi:i<=1000000):¬(!Builtin.List.listFitsIndex i)=true:=by
 unfold Builtin.List.listFitsIndex;have h1:decide (-(2^63:Int)<=i)=true:=fg (Int.le_trans (by decide) h0)
 have h2:decide (i<2^63)=true:=fg (Int.lt_of_le_of_lt hi (by decide))
 rw[h1,h2];simp
def RL(i:Int)(u:ag):Array ag->Array ag:=λxs=>have k:=if i<0 then(i+((xs.size:Nat):Int)).toNat else min i.toNat xs.size;(xs.extract 0 k).push u++xs.extract k
theorem MI{i:Int}(h0:0<=i)(aN:b6)(u:ag):RL i u aN.toArray=(aN.take i.toNat++u::aN.drop i.toNat).toArray:=by
 unfold RL;have h1:¬i<0:=by lia
 simp only[h1,du,bh];apply Array.ext';simp only[Array.toList_append,Array.toList_push,Array.toList_extract,List.extract_eq_drop_take];by_cases hb:i.toNat<=aN.length
 ·rw[Al hb];have h2:List.take (aN.length-i.toNat) (List.drop i.toNat aN)=List.drop i.toNat aN:=nu (by rw[lA];exact aR _)
  simp[h2]
 ·rw[Aj (by lia)]
  have h1:aN.take i.toNat=aN:=nu (by lia)
  have h2:aN.drop i.toNat=[]:=List.drop_of_length_le (by lia)
  simp[h1,h2]
theorem E4:Uv X "list.insert" Dl:=by
 intro af s σ H x vs v us Q I rx rv h;obtain⟨l,xs,i,y,rfl,rfl,hH,hz,h0,hi,q⟩:=h;cases rx;obtain⟨u1,u2,rfl,⟨t,rfl⟩,r2⟩:=rv.two;obtain⟨z,aN,n,r,hl,e⟩:=I.Ly hH;have hsz:aN.toArray.size<=sizeLine:=by rw[bh];lia
 have Iz:=r.length;have J:=I.Lx (t':=s.toks) (f:=RL i u2) (its':=aN.take i.toNat++u2::aN.drop i.toNat) hH e (MI h0 aN u2) ((r.take i.toNat).append (.cons r2 (r.drop i.toNat))) (by rw[bX,aZ,gR,lA];lia)
 exact nH F.slot_list_insert ⟨_,e,rfl⟩ F.entry_list_insert (F.args_list_insert_3 _ _ _) (@PySem.AutoListH.list_insert_list_int_val_1 l aN.toArray n i t u2 (RK h0 hi) hsz) ⟨e,.cM,_,J,rfl,q⟩
end
end L2
namespace L2.PL
open PySem PySem.Spec PyProof.Rows
def VM:av->Option av:=λps=>some ps.reverse
theorem MJ{K:ah}:Ou K xQ VM:=by
 intro H₀ aa F ρ σ H a ps qs vs Q hg R ha b1 k;cases hg;exact⟨a,vs,rfl,rfl,ha,k _ b1.reverse⟩
def RM:av->av->Option av:=λps as=>match as with
 | [.int i,p]=>if(0<=i/\i<=1000000/\ps.length<fO)then some (ps.take i.toNat++p::ps.drop i.toNat)else none
 | _=>none
theorem MK{K:ah}:LZ K Dl RM:=by
 intro H₀ aa F ρ σ H a ps as qs vs ws Q hg R ha b1 b2 k;unfold RM at hg;split at hg
 ·rename_i i p;obtain⟨⟨h1,h2,h3⟩,rfl⟩:=aA hg;obtain⟨w1,r1,rfl,XN,br1⟩:=b2.bO;obtain⟨w2,r2,rfl,bw2,br2⟩:=br1.bO;rw[br2.bL];rw[aF.mp XN];exact⟨a,vs,i,w2,rfl,rfl,ha,cy (by rw[<-b1.length];exact h3) (d9 (aR _)),h1,h2,k _ ((b1.take _).append (.cons bw2 (b1.drop _)))⟩
 ·cases hg
def Dm:Ent->Bool
 | .cg _=>false
 | _=>true
def Dn:Dk->Bool
 | .l _=>true
 | _=>false
def gZ(b:Bool):Ent->Bool
 | .cg m=>Dn m != b
 | _=>true
theorem ML{b:Bool}{ρ:aE}(h:ρ.all Dm=true):ρ.all (gZ b)=true:=dt.mpr λe he=>by
 have:=dt.mp h e he;cases e with
 | cg m=>cases this
 | _=>rfl
def di(kvs:List (bQ×PV))(k:bQ):bP:=(kvs.find? λkv=>decide (kv.1=k)).map (·.2)
section
variable {K:ah} {H₀ aa F H:Hp} {ρ:aE} {σ:St}
theorem vM{kvs:List (bQ×PV)}{vs:List (bQ×V)}(h:xV K F kvs vs)(k:bQ):(∀p,di kvs k=some p->∃v,kR vs k=some v/\cI K F p v)/\(di kvs k=none->kR vs k=none):=by
 unfold xV at h;induction h with
 | nil=>exact⟨(λp e=>by cases e),λ_=>rfl⟩
 | @cons p q ps qs hq t ih =>
  obtain⟨h1,h2⟩:=hq;by_cases e:p.1=k
  ·have l1:di (p::ps) k=some p.2:=by simp[di,nD,e]
   rw[l1,qo (h1.symm.trans e)];exact⟨(λx z=>by cases z;exact⟨_,rfl,h2⟩),(λz=>by cases z)⟩
  ·have l1:di (p::ps) k=di ps k:=by simp[di,nD,e]
   rw[l1,qp (λz=>e (h1.trans z))]
   exact ih
theorem cB.vN(R:cB K H₀ aa F ρ σ H){i:Nat}(hi:i<ρ.length){a:ab}{m:Dk}(hm:iJ K F H (Nw H₀ F) a m)(h0:H₀ a=none)(hF:F a=none):cB K H₀ aa F (ρ.set i (.cg m)) (σ.set i (some (.ref a))) H where
 sub:=R.sub
 keep:=R.keep
 base:=R.base
 fresh:=R.fresh
 val:=λj q e=>by
  by_cases h:i=j
  ·subst h;rw[bW hi]at e;cases e
  ·rw[bj h]at e ⊢;exact R.val j q e
 own:=λj q e=>by
  by_cases h:i=j
  ·subst h;rw[bW hi]at e;cases e
  ·rw[bj h]at e ⊢;exact R.own j q e
 apart:=λj k ps qs a h1 h2 h3 h4=>by
  by_cases hj:i=j
  ·subst hj;rw[bW hi]at h1;cases h1
  ·by_cases hk:i=k
   ·subst hk;rw[bW hi]at h2;cases h2
   ·rw[bj hj]at h1 h3;rw[bj hk]at h2 h4;exact R.apart j k ps qs a h1 h2 h3 h4
 obs:=λj q e=>by
  by_cases h:i=j
  ·subst h;rw[bW hi]at e;cases e
  ·rw[bj h]at e ⊢;exact R.obs j q e
 cg:=λj q e=>by
  by_cases h:i=j
  ·subst h;rw[bW hi]at e;cases e;exact⟨a,bW (by rw[<-R.len];exact hi),hm,h0,hF⟩
  ·rw[bj h]at e ⊢;exact R.cg j q e
 len:=by rw[gT,gT];exact R.len
theorem cB.putD(R:cB K H₀ aa F ρ σ H){i:Nat}{a:ab}{m m':Dk}{H':Hp}(hi:ρ[i]?=some (.cg m))(ha:σ[i]?=some (some (.ref a)))(sub:Same F H')(keep:Same H₀ H')(oth:∀b o,H b=some o->qt m o=false->H' b=some o)
  (hm:iJ K F H' (Nw H₀ F) a m') (ho:(ρ.set i .un).all (gZ (Dn m))=true):cB K H₀ aa F (ρ.set i (.cg m')) σ H':=by
 have dU:i<ρ.length:=(cL.mp hi).1;obtain⟨a',e1,e2,h3,h4⟩:=R.cg i m hi;rw[ha]at e1;cases e1;exact {
  sub:=sub
  keep:=keep
  base:=R.base
  fresh:=R.fresh
  val:=λj q e=>by
   by_cases h:i=j
   ·subst h;rw[bW dU]at e;cases e
   ·rw[bj h]at e;exact R.val j q e
  own:=λj ls e=>by
   by_cases h:i=j
   ·subst h;rw[bW dU]at e;cases e
   ·rw[bj h]at e;obtain⟨b,us,q1,q2,q3⟩:=R.own j ls e;exact⟨b,us,q1,oth b _ q2 (by cases m<;>rfl),q3⟩
  apart:=λj k l1 l2 b e1 e2 e3 e4=>by
   by_cases hj:i=j
   ·subst hj;rw[bW dU]at e1;cases e1
   ·by_cases hk:i=k
    ·subst hk;rw[bW dU]at e2;cases e2
    ·rw[bj hj]at e1;rw[bj hk]at e2;exact R.apart j k l1 l2 b e1 e2 e3 e4
  obs:=λj q e=>by
   by_cases h:i=j
   ·subst h;rw[bW dU]at e;cases e
   ·rw[bj h]at e;exact R.obs j q e
  cg:=λj q e=>by
   by_cases h:i=j
   ·subst h;rw[bW dU]at e;cases e;exact⟨a,ha,hm,h3,h4⟩
   ·rw[bj h]at e;have hk:=dt.mp ho (.cg q) (b9 (i:=j) (by rw[bj h];exact e))
    obtain⟨b,q1,q2,q3,q4⟩:=R.cg j q e;refine⟨b,q1,q2.to (Same.refl F) (λc o z d _=>oth c o z ?_) (λ_ _ _ z=>z),q3,q4⟩
    cases m<;>cases q<;>cases o<;>first | rfl | (cases d;done) | (cases hk;done)
  len:=by rw[gT];exact R.len}
theorem cB.II(R:cB K H₀ aa F ρ σ H){i:Nat}{a:ab}{m m':Dk}{o:HO}(hi:ρ[i]?=some (.cg m))(ha:σ[i]?=some (some (.ref a)))(hd:Dn m=false)(hm:iJ K F (upd H a o) (Nw H₀ F) a m')(ho:(ρ.set i .un).all (gZ (Dn m))=true):cB K H₀ aa F (ρ.set i (.cg m')) σ (upd H a o):=by
 obtain⟨a',e1,e2,h3,h4⟩:=R.cg i m hi;rw[ha]at e1;cases e1;have sub:∀{G:Hp},G a=none->Same G H->Same G (upd H a o):=λ{G} hg s b ob e=>by
  rw[upd_ne (ne_of_none e hg)];exact s _ _ e
 refine R.putD hi ha (sub h4 R.sub) (sub h3 R.keep) (λb ob e d=>?_) hm ho
 rw[upd_ne]
 ·exact e
 ·rintro rfl
  cases m with
  | t kvs=>obtain⟨xs,q,_⟩:=e2;rw[e]at q;cases q;cases d
  | k kvs=>obtain⟨xs,q,_⟩:=e2;rw[e]at q;cases q;cases d
  | l dQ=>cases hd
end
section
variable {X:Cx} {H₀ aa:Hp} {ke a b:aj} {fk fa fb:FE} {x:Str} {p pos sp:Pos} {i:Nat}
def RN(i:Nat):FS:=λρ=>if i<ρ.length then some (.nx (ρ.set i (.cg (.k []))))else none
theorem IJ{D:jG}{σ:St}{H:Hp}(h:tS X H₀ aa (RN i) D σ H):lF (CJ (.dK [])) (gName i) D σ H:=by
 obtain⟨F,ρ,o,R,hf,q⟩:=h;obtain⟨hi,rfl⟩:=aA hf;intro d hd;exact q F _ _ ((R.CL (.dK []) hd).vN hi ⟨[],aC,.nil⟩ (R.keep.free hd) (R.sub.free hd)) (Same.refl F)
def getD(i:Nat)(fk:FE):FE:=λρ=>(fk ρ).bind λq=>match ρ[i]? with
 | some (.ob (.dct (.k kvs)))=>(EY q).bind λk=>di kvs k
 | _=>none
theorem RO(hx:PE X (.Name x p) (iS i))(hk:PE X ke (tE X.K H₀ aa fk))(hs:kA ke):PE X (.Subscript (.Name x p) ke sp) (tE X.K H₀ aa (getD i fk)):=by
 intro af s σ H Q I ⟨F,ρ,pr,R,hf,q⟩;obtain⟨qk,h1,h2⟩:=ar hf;split at h2
 ·rename_i kvs hp;obtain⟨k,h3,h4⟩:=ar h2;obtain⟨a,e1,vs,e2,e3⟩:=R.obs i _ hp;refine xM VI hx hk hs af s σ H Q I ⟨.ref a,e1,F,ρ,qk,R,h1,λw H1 F1 R1 s1 b1=>?_⟩
  obtain⟨v,g1,g2⟩:=(vM e3 k).1 pr h4;rw[vH h3]at b1;exact⟨a,vs,k,v,rfl,qS.mp b1,.inl (R1.sub _ _ (s1 _ _ e2)),g1,q v H1 F1 R1 s1 (g2.mono s1)⟩
 ·cases h2
def RP(i:Nat)(fk fv:FE):FS:=λρ=>(fk ρ).bind λqk=>(fv ρ).bind λqv=>match ρ[i]? with
 | some (.cg (.k kvs))=>(EY qk).bind λk=>if(kvs.length<fO/\(ρ.set i .un).all Dm=true)then(match di kvs k with
  | some _=>some (.nx ρ)
  | none=>some (.nx (ρ.set i (.cg (.k (kvs++[(k,qv)]))))))else none
 | _=>none
theorem Dp{K:ah}{F:Hp}:∀{kvs:List (bQ×PV)} {vs:List (bQ×V)},xV K F kvs vs->∀{k:bQ} {p:PV} {v:V},cI K F p v->xV K F (kvs++[(k,p)]) (vs++[(k,v)])
 | _,_,.nil,_,_,_,b=>.cons ⟨rfl,b⟩ .nil
 | _,_,.cons r t,_,_,_,b=>.cons r (Dp t b)
theorem MM{D:jG}{σ:St}{H:Hp}(h:tS X H₀ aa (RP i fa fb) D σ H):tDrop (ZL X.K "dict" VJ (iS i) (tA X.K H₀ aa (ae fa (ae fb ao)))) D σ H:=by
 obtain⟨F,ρ,o,R,hf,q⟩:=h;obtain⟨qk,h1,hf⟩:=ar hf;obtain⟨qv,h2,hf⟩:=ar hf;split at hf
 ·rename_i kvs hp;obtain⟨k,h3,hf⟩:=ar hf;obtain⟨⟨h4,h5⟩,hf⟩:=ax hf;obtain⟨a,e1,⟨vs,e2,e3⟩,e4,e5⟩:=R.cg i _ hp;refine⟨.ref a,e1,.inr (.inr (.inl ⟨rfl,.inl ⟨vs,e2⟩⟩)),F,ρ,[qk,qv],R,?_,λws H1 F1 R1 s1 b1=>?_⟩
  ·show(fa ρ).bind _=_;rw[h1];show((ae fb ao) ρ).map _=_;show(((fb ρ).bind λx=>(ao ρ).map λxs=>x::xs).map _)=_
   rw[h2];rfl
  ·obtain⟨w1,r1,rfl,XN,br1⟩:=b1.bO;obtain⟨w2,r2,rfl,bw2,br2⟩:=br1.bO;rw[br2.bL];rw[vH h3]at XN;rw[qS.mp XN];obtain⟨a',g1,⟨vs1,g2,g3⟩,g4,g5⟩:=R1.cg i _ hp;rw[e1]at g1;cases g1;have hl:vs1.length<sizeLine:=by
    rw[<-uW g3];exact cy h4 (d9 (aR _))
   refine⟨a,vs1,k,w2,rfl,rfl,g2,hl,λv hv=>?_,λhv=>?_⟩
   ·cases hk:di kvs k with
    | none=>rw[(vM g3 k).2 hk]at hv;cases hv
    | some pv =>
     rw[hk]at hf;cases hf;exact q F1 σ H1 R1 s1
   ·cases hk:di kvs k with
    | some pv =>
     obtain⟨v,z,_⟩:=(vM g3 k).1 pv hk;rw[z]at hv;cases hv
    | none =>
     rw[hk]at hf;cases hf;exact q F1 σ _ (R1.II hp e1 rfl ⟨_,aC,Dp g3 bw2⟩ (ML h5)) s1
 ·cases hf
end
section
variable {K:ah} {H₀ aa F F' H H':Hp} {ρ:aE} {σ cE:St} {a:ab} {bs:List ab} {acc:List (List Int)}
theorem MN{i:Nat}{p:PV}{v:V}(hs:Same F H)(h:σ[i]?=some (some v))(b:cI K F p v):cB K H F F ((List.replicate σ.length Ent.un).set i (.val p)) σ H:=by
 have no:∀(j:Nat) (e:Ent),((List.replicate σ.length Ent.un).set i (.val p))[j]?=some e->e=.un\/j=i/\e=.val p:=λj e q=>by
  by_cases z:i=j
  ·subst z;rw[bW (by rw[jP];exact(cL.mp h).1)]at q
   exact .inr ⟨rfl,(bg q).symm⟩
  ·rw[bj z,jO]at q;split at q
   ·exact .inl (bg q).symm
   ·cases q
 refine mI hs (λe he=>?_) (λj q e=>?_) (λj q e=>?_) (by rw[gT,jP])
 ·obtain⟨j,hj⟩:=jg he;rcases no j e hj with rfl | ⟨_,rfl⟩<;>exact⟨(λ_ z=>by cases z),λ_ z=>by cases z⟩
 ·rcases no j _ e with z | ⟨rfl,z⟩
  ·cases z
  ·cases z;exact⟨v,h,b⟩
 ·rcases no j _ e with z | ⟨_,z⟩<;>cases z
def MO(K:ah)(fi:bF):TI:=λσ H R=>∃b:Hp×Hp,tI K b.1 b.2 fi σ H R
theorem RQ{X:Cx}{tg iter:aj}{fi:bF}(h:∀H₀ aa,PI X tg iter (tI X.K H₀ aa fi)):PI X tg iter (MO X.K fi):=λaf s σ H R I ⟨b,hw⟩=>h b.1 b.2 af s σ H R I hw
end
section
variable {X:Cx} {H₀ aa:Hp} {i f x y o:Nat}
def RR(K:ah)(g:eI)(fl:bF):TB:=λv σ H Q=>∃b:Hp×Hp,tG K b.1 b.2 g v σ H λiU H1=>tF K b.1 b.2 fl iU H1 λy H2=>Q (some y) iU H2
theorem yx{link:List (Option Nat)}{ρ:aE}{e:Ent}(h:e∈bB link ρ):(∀ps,e≠.own ps)/\∀m,e≠.cg m:=by
 obtain⟨j,hj⟩:=jg h;rcases cU hj with rfl | ⟨_,_,_,_,rfl⟩ | ⟨_,_,_,_,rfl⟩<;>exact⟨(λ_ z=>by cases z),λ_ z=>by cases z⟩
theorem cB.now{K:ah}{H₀ aa F H:Hp}{ρ:aE}{σ:St}(R:cB K H₀ aa F ρ σ H)(hn:∀e∈ρ,(∀ps,e≠.own ps)/\∀m,e≠.cg m):cB K H F F ρ σ H:=mI R.sub hn R.val R.obs R.len
theorem IK{link:List (Option Nat)}{g:eI}{fl:bF}{L:List Nat}{F H:Hp}{ρ:aE}{σ:St}{ps qs:av}{Q:VK}(hg:KG L g)(hL:∀i∈L,link[i]?=some none)(VG:∀ρ,fl ρ=some [])(R:cB X.K H₀ aa F ρ σ H)(hf:ρ[f]?=some (.val (.ay ps)))
  (hc:cW link (dH (rd f)) g (λ_=>some .cM) ρ=some qs) (Qp:∀e∈ρ,(∀ps,e≠.own ps)/\∀m,e≠.cg m) (q:∀(F' H':Hp) (a:ab) (bs:List ab),bs.length=ps.length->Same F F'->Same F' H'->Same H H'->(∀b u,F' b=some u->F b=some u\/H b=none)->H' a=none->bs.Nodup->(∀b∈bs,H' b=some (.ay [])/\H b=none/\F' b=none)->Q (.ref a) (upd H' a (.ay (bs.map .ref)))) :
  oC link (MO X.K (dH (rd f))) (RR X.K g fl) σ H Q:=by
 have XO:dH (rd f) ρ=some ps:=by
  unfold dH rd;rw[hf];rfl
 unfold cW at hc;rw[XO,bo]at hc;obtain⟨cC,hm⟩:=ax hc;have VN:∀(k:Nat) (p:PV),ps[k]?=some p->∃eM,g p (bB link ρ)=some eM:=λk p hk=>by
  clear cC XO hf q hc;induction ps generalizing k qs with
  | nil=>cases hk
  | cons p0 r ih =>
   obtain⟨o1,e1,e2⟩:=ar (show((g p0 (bB link ρ)).bind λ_=>some PV.cM).bind (λy=>(j4 (λp=>(g p (bB link ρ)).bind λ_=>some PV.cM) r).map λys=>y::ys)=some qs from by rw[<-hm];rfl)
   cases k with
   | zero=>cases hk;obtain⟨eM,e3,_⟩:=ar e1;exact⟨eM,e3⟩
   | succ k =>
    cases w:j4 (λp=>(g p (bB link ρ)).bind λ_=>some PV.cM) r with
    | none=>rw[w]at e2;cases e2
    | some ys=>exact ih w k hk
 refine⟨(H,F),F,ρ,ps,R.now Qp,XO,λJ H1 F1 R1 s1 wk=>?_⟩
 refine⟨λk m acc cE H'=>m=ps.length-k/\k<=ps.length/\∃F' bs,acc=bs.map .ref/\bs.length=k/\bs.Nodup/\cB X.K H' F' F' (bB link ρ) cE H'/\Same F1 F'/\Same H1 H'/\(∀b u,F' b=some u->F1 b=some u\/H1 b=none)/\∀b∈bs,H' b=some (.ay [])/\H1 b=none/\F' b=none,
  ⟨ps.length,rfl,dY _,F1,[],rfl,rfl,.nil,(R1.inner link).now λe he=>yx he,Same.refl _,Same.refl _,(λ_ _ e=>.inl e),λb hb=>by cases hb⟩,?_⟩
 rintro k m acc cE H' ⟨rfl,hk,F',bs,rfl,yb,Bn,R',sF,sH,fr,hb⟩
 obtain⟨wg,U4⟩:=wk H' F' F' (bB link ρ) cE H' R' sF k;by_cases dU:k<ps.length
 ·obtain⟨go,wy⟩:=wg ps[k] (cx dU);have hsz:k<sizeLine:=cy dU (d9 cC);refine .inr ⟨go,by rw[aB,yb];exact hsz,λu H2 yl=>?_⟩
  obtain⟨F2,R2,s2,b2⟩:=wy u H2 yl;obtain⟨eM,e1⟩:=VN k _ (cx dU);obtain⟨l1,k1⟩:=hg _ _ _ e1;refine⟨(H',F'),F2,bB link ρ,ps[k],eM,R2,b2,e1,λo8 H3 F3 R3 s3=>⟨F3,eM,[],R3,VG _,λa vs H4 F4 R4 s4 b4 hn=>⟨ps.length-(k+1),by lia,rfl,dU,F4,bs++[a],?_,by rw[bX,yb];rfl,?_,?_,sF.trans R4.base,sH.trans (R4.keep.trans (dS hn)),?_,?_⟩⟩⟩
  ·rw[c9];rfl
  ·refine uL.mpr ⟨Bn,cY.mpr ⟨by simp,.nil⟩,λx hx z hz=>?_⟩
   rw[dW]at hz;subst hz;exact ne_of_none (R4.keep _ _ (hb x hx).1) hn
  ·rw[b4.bL];exact((R4.LV l1 k1 hL).CL (.ay []) hn).now λe he=>yx he
  ·intro b u e;rcases R4.fresh b u e with z | z
   ·exact fr b u z
   ·exact .inr (sH.free z)
  ·intro b hbm;rcases dM.mp hbm with z | z
   ·obtain⟨h1,h2,h3⟩:=hb b z;refine⟨dS hn _ _ (R4.keep _ _ h1),h2,?_⟩;cases w:F4 b with
    | none=>rfl
    | some u =>
     rcases R4.fresh b u w with z | z
     ·have z:F' b=some u:=z;rw[h3]at z;cases z
     ·have z:H' b=none:=z;rw[h1]at z;cases z
   ·rw[dW]at z;subst z;refine⟨by rw[b4.bL];exact aC,sH.free (R4.keep.free hn),R4.sub.free hn⟩
 ·have e:k=ps.length:=by lia
  subst e;refine .inl ⟨U4 (jf (aR _)),by rw[aB,yb];exact d9 cC,λD hn=>?_⟩
  refine q F' H' D bs yb (s1.trans sF) R'.sub (R1.keep.trans sH) (λb u e=>?_) hn Bn λb hbm=>?_
  ·rcases fr b u e with z | z
   ·exact R1.fresh b u z
   ·exact .inr (R1.keep.free z)
  ·obtain⟨h1,h2,h3⟩:=hb b hbm;exact⟨h1,R1.keep.free h2,h3⟩
end
section
variable {X:Cx} {af:List (ab×Obj)} {σ:St} {H:Hp} {s:aq} {b:ab} {vs:List V}
theorem RS{P:bc}{w:aM}{h:Heap}(x:dE P w H h b (.ay vs))(H':Hp):dE P w H' h b (oA b vs):=by
 obtain⟨z,aN,n,r,e⟩:=x;exact⟨⟨z,aN,n,r,e⟩,⟨_,e⟩,λh1 h2 ⟨z,aN,n,r,e⟩ k=>⟨z,aN,n,r,k _ e⟩⟩
theorem RT{P:bc}{w:aM}{h:Heap}(x:dE P w H h b (oA b vs))(H':Hp):dE P w H' h b (.ay vs):=x.1
theorem Inv.toLs(I:Inv X af σ H s)(h:H b=some (.ay vs)):Inv X af σ (upd H b (oA b vs)) s:=by
 have ok:=I.hok b _ h;obtain⟨_,_,_,_,e⟩:=id ok;exact I.write (t':=s.toks) (h':=s.heap) (e:=b) (by rw[h];trivial) (.inl rfl) (λ_ _ _ e=>e) ⟨_,e⟩ (RS ok _)
theorem Inv.IL(I:Inv X af σ H s)(h:H b=some (oA b vs)):Inv X af σ (upd H b (.ay vs)) s:=by
 have ok:=I.hok b _ h;obtain⟨_,⟨_,e⟩,_⟩:=id ok;exact I.write (t':=s.toks) (h':=s.heap) (e:=b) (by rw[h];trivial) (.inl rfl) (λ_ _ _ e=>e) ⟨_,e⟩ (RT ok _)
theorem RU{o:HO}(h:H b=some o):upd H b o=H:=by
 funext c
 unfold upd;split
 ·rename_i e;rw[e,h]
 ·rfl
def ON:R2:=λx y H Q=>∃p xs i v,x=.ref p/\y=.int i/\H p=some (oA p xs)/\atI xs i=some v/\Q v H
theorem VO:N9 X ON:=by
 intro value slice af s σ H x y v u Q I rx ry h hs;obtain⟨p,xs,i,z,rfl,rfl,hq,he,q⟩:=h;refine thn (vm value slice af s σ (upd H p (.ay xs)) _ _ v u (λz' H'=>z'=z/\H'=upd H p (.ay xs)) (Inv.IL I hq) rx ry ⟨p,xs,i,z,rfl,rfl,kQ.of aC,he,rfl,rfl⟩ hs) λv' s' ⟨z',H',I',r',e1,e2⟩=>?_
 subst e1 e2;have I2:=Inv.toLs I' aC;rw[u7,RU hq]at I2;exact⟨z',H,I2,r',q⟩
def IM:V->List V->Hp->VK->Prop:=λx vs H Q=>∃l xs y,x=.ref l/\vs=[y]/\H l=some (oA l xs)/\xs.length<sizeLine/\Q .cM (upd H l (oA l (xs++[y])))
theorem IP:Uv X "list.append" IM:=by
 intro af s σ H x vs v us Q I rx rv h;obtain⟨l,xs,y,rfl,rfl,hH,hz,q⟩:=h;refine thn (nM af s σ (upd H l (.ay xs)) _ _ v us (λz' H'=>z'=.cM/\H'=upd H l (.ay (xs++[y]))) (Inv.IL I hH) rx rv ⟨l,xs,y,rfl,rfl,aC,hz,rfl,by rw[u7]⟩) λv' s' ⟨z',H',I',r',e1,e2⟩=>?_
 subst e1 e2;have I2:=Inv.toLs I' aC;rw[u7]at I2;exact⟨_,_,I2,r',q⟩
end
section
variable {X:Cx} {o e:aj} {to:TE} {t:TA} {u0 j1:Pos}
def IQ(to:TE)(t:TA):TE:=λσ H Q=>to σ H λx H1=>(∃p xs,x=.ref p/\H1 p=some (oA p xs))/\t σ H1 λxs H2=>IM x xs H2 Q
theorem IS(ho:PE X o to)(ha:PA X [e] t)
  (xN:attributeBase o "append" X.env (eval o X.env)=eval o X.env)
  (Qv:((backTo j1 (starEach [e] X.env)).all (λx=>!x.1)&&(backToKw j1 (keywordEach [] X.env)).all (λx=>x.1.isSome)
   && decide ([e].length+([]:List Keyword).length+(if([]:List Keyword).isEmpty then 0 else 1)<30))=true)
  (xO:(u0.endLine==j1.line)=true) (hs:starEach [e] X.env=(false,eval e X.env)::starEach [] X.env) (AO:(backTo j1 (starEach [] X.env)).any (·.1)=false) :
  PE X (.Call (.Attribute o "append" u0) [e] [] j1) (IQ to t):=by
 intro af s σ H Q I h;refine wpAny_Call_method_late xN Qv xO rfl (thn (ho af s σ H _ I h) λv s1 ⟨x,H1,I1,r1,⟨p,xs,ex,hp⟩,q1⟩=>?_)
 subst ex;obtain⟨h1,h2⟩:=AN (Inv.IL I1 hp) r1 (T:="list") (.inl ⟨rfl,xs,kQ.of aC⟩);refine⟨"list","list.append",nr,zJ,zL,h1,h2,?_⟩;have hA:=ha j1 af s1 σ H1 _ I1 q1;rw[hs]at hA ⊢;refine zQ (by show(false || (backTo j1 (starEach [] X.env)).any (·.1))=false;rw[AO]<;>rfl) (Calls.evalArgs_plain ?_)
 exact thn hA λus s2 ⟨vs,H2,I2,r2,q2⟩=>IP af s2 σ H2 _ vs v us Q I2 r1 r2 q2
end
section
variable {X:Cx} {H₀ aa:Hp} {i f:Nat}
def lj(H:Hp):List ab->Hp
 | []=>H
 | b::r=>upd (lj H r) b (oA b [])
theorem kG{H:Hp}{c:ab}:∀{bs:List ab},c∉bs->lj H bs c=H c
 | [],_=>rfl
 | b::r,h=>by
  rw[lj,upd_ne (λz=>h (by rw[z];exact bz))]
  exact kG λz=>h (bE _ z)
theorem ug{H:Hp}{c:ab}:∀{bs:List ab},c∈bs->lj H bs c=some (oA c [])
 | [],h=>nomatch h
 | b::r,h=>by
  rw[lj];by_cases z:c=b
  ·subst z;exact aC
  ·rw[upd_ne z];exact ug ((aX.mp h).resolve_left z)
theorem uh{af:List (ab×Obj)}{σ:St}{s:aq}{H:Hp}:∀{bs:List ab},bs.Nodup->(∀b∈bs,H b=some (.ay []))->Inv X af σ H s->Inv X af σ (lj H bs) s
 | [],_,_,I=>I
 | b::r,hn,h,I=>by
  rw[cY]at hn;exact Inv.toLs (uh hn.2 (λc hc=>h c (bE _ hc)) I) (by rw[kG hn.1];exact h b bz)
theorem MP{st:az}{t t':TS}(h:PS X st t)(hi:∀D σ H,t' D σ H->t {D with nx:=λiU H1=>∃H2,(∀af s,Inv X af iU H1 s->Inv X af iU H2 s)/\D.nx iU H2} σ H):PS X st t':=by
 intro af s σ H D I hw;refine thn (h af s σ H _ I (hi D σ H hw)) λfl s1 q=>?_
 cases fl with
 | next =>
  obtain⟨iU,H1,I1,H2,v,q⟩:=q;exact⟨iU,H2,v _ _ I1,q⟩
 | _=>exact q
theorem IT{st:az}{t t':TS}(h:PS X st t)(hi:∀D σ H,t' D σ H->∃H1,(∀af s,Inv X af σ H s->Inv X af σ H1 s)/\t D σ H1):PS X st t':=by
 intro af s σ H D I hw;obtain⟨H1,v,q⟩:=hi D σ H hw;exact h af s σ H1 D (v _ _ I) q
def IU(link:List (Option Nat))(g:eI)(i f:Nat):FS:=λρ=>match ρ[f]? with
 | some (.val (.ay ps))=>if((cW link (dH (rd f)) g (λ_=>some .cM) ((List.replicate ρ.length Ent.un).set f (.val (.ay ps)))).isSome&&decide (i<ρ.length))=true then some (.nx (ρ.set i (.cg (.l (List.replicate ps.length [])))))else none
 | _=>none
theorem IV{K:ah}{F H:Hp}{N:ab->Prop}:∀{bs:List ab},(∀b∈bs,N b/\H b=some (oA b []))->ig K F H N (List.replicate bs.length []) bs
 | [],_=>.nil
 | b::r,h=>.cons ⟨(h b bz).1,[],(h b bz).2,.nil⟩ (IV λc hc=>h c (bE _ hc))
theorem RV{st:az}{link:List (Option Nat)}{g:eI}{fl:bF}{L:List Nat}(hg:KG L g)(hL:∀i∈L,link[i]?=some none)(VG:∀ρ,fl ρ=some [])
  (h:PS X st (lF (oC link (MO X.K (dH (rd f))) (RR X.K g fl)) (gName i))):PS X st (tS X H₀ aa (IU link g i f)):=by
 refine MP h λD σ H ⟨F,ρ,o,R,hf,q⟩=>?_
 unfold IU at hf;split at hf
 ·rename_i ps hp;obtain⟨hc,rfl⟩:=aA hf;rw[aG,jk]at hc;obtain⟨XQ,hi⟩:=hc;obtain⟨qs,XQ⟩:=zK.mp XQ;obtain⟨v,v1,v2⟩:=R.val f _ hp;have aaL:f<σ.length:=(cL.mp v1).1;rw[R.len]at XQ;have R0:=MN (K:=X.K) R.sub v1 v2;have Qp:∀e∈(List.replicate σ.length Ent.un).set f (.val (.ay ps)),(∀ps,e≠.own ps)/\∀m,e≠.cg m:=λe he=>by
   rcases List.mem_or_eq_of_mem_set he with z | z
   ·rw[(List.mem_replicate.mp z).2];exact⟨(λ_ z=>by cases z),λ_ z=>by cases z⟩
   ·subst z;exact⟨(λ_ z=>by cases z),λ_ z=>by cases z⟩
  refine IK hg hL VG R0 (bW (by rw[jP];exact aaL)) XQ Qp λF' H' a bs yb sF sub sH fr hn Bn hb=>?_
  have hab:∀b∈bs,b≠a:=λb js=>ne_of_none (hb b js).1 hn
  have ha:a∉bs:=λz=>hab a z rfl
  refine⟨upd (lj (upd H' a (.ay (bs.map .ref))) bs) a (oA a (bs.map .ref)),λaf s I=>?_,?_⟩
  ·exact Inv.toLs (uh Bn (λb js=>by rw[upd_ne (hab b js)];exact(hb b js).1) I) (by rw[kG ha];exact aC)
  ·have at1:∀c o,H' c=some o->c∉bs->upd (lj (upd H' a (.ay (bs.map .ref))) bs) a (oA a (bs.map .ref)) c=some o:=λc o e hc=>by
    rw[upd_ne (ne_of_none e hn),kG hc,upd_ne (ne_of_none e hn)];exact e
   have at2:∀c∈bs,upd (lj (upd H' a (.ay (bs.map .ref))) bs) a (oA a (bs.map .ref)) c=some (oA c []):=λc hc=>by
    rw[upd_ne (hab c hc),ug hc]
   have R1:cB X.K H₀ aa F' ρ σ (upd (lj (upd H' a (.ay (bs.map .ref))) bs) a (oA a (bs.map .ref))):=R.after (λc o e=>at1 c o (sH _ _ e) λhc=>by rw[(hb c hc).2.1]at e;cases e) sF (λc o e=>at1 c o (sub _ _ e) λhc=>by rw[(hb c hc).2.2]at e;cases e) fr
   refine q F' _ _ (R1.vN hi (m:=.l (List.replicate ps.length [])) (a:=a) ⟨bs,aC,cY.mpr ⟨ha,Bn⟩,?_⟩ (R.keep.free (sH.free hn)) (sub.free hn)) sF;rw[<-yb];exact IV λb js=>⟨⟨R.keep.free (hb b js).2.1,(hb b js).2.2⟩,at2 b js⟩
 ·cases hf
theorem iJ.add{K:ah}{F F' H:Hp}{a:ab}{m:Dk}(h:iJ K F H (Nw H₀ F) a m)(e:Same F F')(k:∀b o,H b=some o->qt m o=true->F b=none->F' b=none):iJ K F' H (Nw H₀ F') a m:=by
 cases m with
 | t kvs=>obtain⟨xs,h1,h2⟩:=h;exact⟨xs,h1,h2.mono e⟩
 | k kvs=>obtain⟨xs,h1,h2⟩:=h;exact⟨xs,h1,h2.mono e⟩
 | l dQ=>obtain⟨bs,h1,h2,h3⟩:=h;exact⟨bs,h1,h2,Paired.G7 h3 λps b ⟨⟨g0,g1⟩,vs,g2,g3⟩=>⟨⟨g0,k _ _ g2 rfl g1⟩,vs,g2,g3.mono e⟩⟩
theorem cB.aaM{K:ah}{F H:Hp}{ρ:aE}{σ:St}(R:cB K H₀ aa F ρ σ H){c:ab}{o:HO}(hc:H c=some o)(ho:∀xs,o≠.ay xs)(hd:∀m,qt m o=false)(fr:aa c=some o\/H₀ c=none):∃F',cB K H₀ aa F' ρ σ H/\Same F F'/\F' c=some o/\∀b u,F' b=some u->F b=some u\/∀m,qt m u=false:=by
 have sm:Same F (upd F c o):=λb u e=>by
  by_cases z:b=c
  ·subst z;rw[aC];rw[R.sub _ _ e]at hc;exact hc.symm
  ·rw[upd_ne z];exact e
 refine⟨upd F c o,?_,sm,aC,λb u e=>?_⟩
 case refine_2 =>
  by_cases z:b=c
  ·subst z;rw[aC]at e;cases e;exact .inr hd
  ·rw[upd_ne z]at e;exact .inl e
 exact {
  sub:=λb u e=>by
   by_cases z:b=c
   ·subst z;rw[aC]at e;rw[hc];exact e
   ·rw[upd_ne z]at e;exact R.sub _ _ e
  keep:=R.keep
  base:=R.base.trans sm
  fresh:=λb u e=>by
   by_cases z:b=c
   ·subst z;rw[aC]at e;cases e;exact fr
   ·rw[upd_ne z]at e;exact R.fresh _ _ e
  val:=λi p e=>let ⟨v,h1,h2⟩:=R.val i p e;⟨v,h1,h2.mono sm⟩
  own:=λi ps e=>by
   obtain⟨a,vs,h1,h2,h3,h4,h5⟩:=R.own i ps e;exact⟨a,vs,h1,h2,h3,by rw[upd_ne (G6 h2 hc λz=>ho _ z.symm)];exact h4,h5.mono sm⟩
  apart:=R.apart
  obs:=λi o e=>let ⟨a,h1,h2⟩:=R.obs i o e;⟨a,h1,h2.mono sm⟩
  cg:=λi m e=>by
   obtain⟨a,h1,h2,h3,h4⟩:=R.cg i m e;have key:∀b u,H b=some u->qt m u=true->F b=none->upd F c o b=none:=λb u e1 e2 e3=>by
    rw[upd_ne]
    ·exact e3
    ·rintro rfl
     rw[hc]at e1;cases e1;rw[hd m]at e2;cases e2
   refine⟨a,h1,h2.add sm key,h3,?_⟩;cases m with
   | t kvs=>obtain⟨xs,g,_⟩:=h2;exact key a _ g rfl h4
   | k kvs=>obtain⟨xs,g,_⟩:=h2;exact key a _ g rfl h4
   | l dQ=>obtain⟨bs,g,_⟩:=h2;exact key a _ g rfl h4
  len:=R.len}
def OP:PV->Bool
 | .aJ ps=>ps.all j6
 | p=>j6 p
theorem nX{K:ah}{F F':Hp}:∀{ps:av} {vs:List V},ps.all j6=true->aP K F ps vs->aP K F' ps vs
 | [],_,_,h=>by rw[h.bL];exact .nil
 | p::r,_,hp,h=>by
  rw[gB,aG]at hp;obtain⟨v,w,rfl,h1,h2⟩:=h.bO;exact .cons (gX hp.1 h1) (nX hp.2 h2)
theorem cB.VQ{K:ah}{F F2 H:Hp}{ρ pe:aE}{σ zB:St}(R:cB K H₀ aa F ρ σ H)(R2:cB K H₀ aa F2 pe zB H){p:PV}{v:V}(hp:OP p=true)(hb:cI K F2 p v):∃F',cB K H₀ aa F' ρ σ H/\Same F F'/\cI K F' p v/\∀b u,F' b=some u->F b=some u\/∀m,qt m u=false:=by
 cases p with
 | aJ ps =>
  obtain⟨c,vs,rfl,hs,yb⟩:=bt.mp hb;have add:∀o,F2 c=some o->(∀xs,o≠.ay xs)->(∀m,qt m o=false)->(∀F',F' c=some o->gI K F' c vs)->∃F',cB K H₀ aa F' ρ σ H/\Same F F'/\cI K F' (.aJ ps) (.ref c)/\∀b u,F' b=some u->F b=some u\/∀m,qt m u=false:=λo h1 h2 h3 h4=>by
   obtain⟨F',g1,g2,g3,g4⟩:=R.aaM (R2.sub _ _ h1) h2 h3 (R2.fresh _ _ h1);exact⟨F',g1,g2,bt.mpr ⟨c,vs,rfl,h4 _ g3,nX hp yb⟩,g4⟩
  rcases hs with(h | ⟨o,h⟩) | h
  ·exact add _ h (λ_ z=>nomatch z) (λm=>by cases m<;>rfl) λF' e=>.inl (.inl e)
  ·exact add _ h (λ_ z=>nomatch z) (λm=>by cases m<;>rfl) λF' e=>.inl (.inr ⟨o,e⟩)
  ·exact⟨F,R,Same.refl F,bt.mpr ⟨c,vs,rfl,.inr h,nX hp yb⟩,λ_ _ z=>.inl z⟩
 | ay _=>cases hp
 | cM=>exact⟨F,R,Same.refl F,gX rfl hb,λ_ _ z=>.inl z⟩
 | bl _=>exact⟨F,R,Same.refl F,gX rfl hb,λ_ _ z=>.inl z⟩
 | int _=>exact⟨F,R,Same.refl F,gX rfl hb,λ_ _ z=>.inl z⟩
 | str _=>exact⟨F,R,Same.refl F,gX rfl hb,λ_ _ z=>.inl z⟩
section
variable {K:ah} {F F' H:Hp} {N N':ab->Prop}
theorem OQ:∀{dQ:List av} {bs:List ab},ig K F H N dQ bs->∀{j:Nat} {ps:av},dQ[j]?=some ps->∃b,bs[j]?=some b/\N b/\∃vs,H b=some (oA b vs)/\aP K F ps vs
 | _,_,.nil,_,_,h=>nomatch h
 | _,_,.cons r t,0,_,h=>by cases h;exact⟨_,rfl,r⟩
 | _,_,.cons r t,j+1,_,h=>OQ (show ig K F H N _ _ from t) (j:=j) h
theorem vO{H':Hp}:∀{dQ:List av} {bs:List ab},ig K F H N dQ bs->Same F F'->(∀b∈bs,H' b=H b)->(∀b∈bs,N b->N' b)->ig K F' H' N' dQ bs
 | _,_,.nil,_,_,_=>.nil
 | _,_,.cons ⟨h1,vs,h2,h3⟩ t,e,k,n=>.cons ⟨n _ bz h1,vs,(k _ bz).trans h2,h3.mono e⟩ (vO (show ig K F H N _ _ from t) e (λb hb=>k b (bE _ hb)) λb hb=>n b (bE _ hb))
theorem IW{q:PV}{w:V}(hq:cI K F q w):∀{dQ:List av} {bs:List ab},ig K F H N dQ bs->bs.Nodup->∀{j:Nat} {ps:av} {b:ab} {vs:List V},dQ[j]?=some ps->bs[j]?=some b->aP K F ps vs->ig K F (upd H b (oA b (vs++[w]))) N (dQ.set j (ps++[q])) bs
 | _,_,.nil,_,_,_,_,_,h,_,_=>nomatch h
 | _,_,.cons ⟨h1,us,h2,h3⟩ t,hn,0,_,_,vs,e1,e2,hb=>by
  cases e1;cases e2;rw[cY]at hn;exact .cons ⟨h1,_,aC,hb.append (.cons hq .nil)⟩ (vO (show ig K F H N _ _ from t) (Same.refl F) (λc hc=>upd_ne λz=>hn.1 (by rw[<-z];exact hc)) λ_ _ z=>z)
 | _,_,.cons ⟨h1,us,h2,h3⟩ t,hn,j+1,_,b,vs,e1,e2,hb=>by
  rw[cY]at hn;exact .cons ⟨h1,us,by rw[upd_ne λz=>hn.1 (by rw[z];exact b9 (show _=some b from e2))];exact h2,h3⟩ (IW hq (show ig K F H N _ _ from t) hn.2 (j:=j) e1 e2 hb)
end
def RW(i:Nat)(fk fe:FE):FS:=λρ=>(fk ρ).bind λqk=>(fe (fm none ρ)).bind λqe=>match ρ[i]?,qk with
 | some (.cg (.l dQ)),.int j=>if(0<=j/\OP qe=true/\(ρ.set i .un).all (gZ true)=true)then(dQ[j.toNat]?).bind λps=>if ps.length<fO then some (.nx (ρ.set i (.cg (.l (dQ.set j.toNat (ps++[qe]))))))else none else none
 | _,_=>none
theorem IX{fk fe:FE}{D:jG}{σ:St}{H:Hp}(h:tS X H₀ aa (RW i fk fe) D σ H):tDrop (IQ (Tb ON (iS i) (tE X.K H₀ aa fk)) (tA X.K H₀ aa (ae fe ao))) D σ H:=by
 obtain⟨F,ρ,o,R,hf,q⟩:=h;obtain⟨qk,h1,hf⟩:=ar hf;obtain⟨qe,h2,hf⟩:=ar hf;split at hf
 ·rename_i dQ j hp _;obtain⟨⟨c1,c2,c3⟩,hf⟩:=ax hf;obtain⟨ps,h3,hf⟩:=ar hf;obtain⟨c4,rfl⟩:=aA hf;obtain⟨a,e1,_⟩:=R.cg i _ hp;refine⟨.ref a,e1,F,ρ,.int j,R,h1,λv H1 F1 R1 s1 b1=>?_⟩
  obtain⟨a',g1,⟨bs,g2,g3,g4⟩,g5,g6⟩:=R1.cg i _ hp;rw[e1]at g1;cases g1;obtain⟨b,gb,⟨gn1,gn2⟩,vs,gv,gl⟩:=OQ g4 h3;have qM:atI (bs.map V.ref) j=some (.ref b):=by
   have:j=((j.toNat:Nat):Int):=by lia
   rw[this];exact cJ (by rw[bU,gb];rfl)
  obtain⟨Ff,Rf,sf,kf⟩:=R1.k0 none;refine⟨a,_,j,.ref b,rfl,aF.mp b1,g2,qM,⟨b,vs,rfl,gv⟩,Ff,fm none ρ,[qe],Rf,?_,λws H2 F2 R2 s2 b2=>?_⟩
  ·show(fe (fm none ρ)).bind _=_;rw[h2];rfl
  ·obtain⟨w,r,rfl,bw,br⟩:=b2.bO;rw[br.bL];have R3:=R1.LY Rf sf kf R2 s2;obtain⟨F4,R4,s4,b4,n4⟩:=R3.VQ R2 c2 bw;have up:∀c o,nO X.K H₀ F1 H1 none ρ σ c->H1 c=some o->H2 c=some o:=λc o z1 z2=>R2.sub _ _ (s2 _ _ (kf c o z1 z2))
   have hin:∀c∈bs,nO X.K H₀ F1 H1 none ρ σ c:=λc hc=>.inr ⟨i,dQ,bs,hp,g4,hc⟩
   have hbm:=b9 gb;have hB:H2 b=some (oA b vs):=up b _ (hin b hbm) gv;have hA:H2 a=some (oA a (bs.map .ref)):=up a _ (.inl ⟨i,_,hp,(λz=>by cases z),e1⟩) g2
   rw[cY]at g3;refine⟨b,vs,w,rfl,rfl,hB,cy (by rw[<-gl.length];exact c4) (d9 (aR _)),?_⟩
   have f4:∀c∈bs,Nw H₀ F1 c->Nw H₀ F4 c:=λc hc ⟨z1,z2⟩=>⟨z1,by
    cases y:F4 c with
    | none=>rfl
    | some u =>
     rcases n4 c u y with y2 | y2
     ·rw[z2]at y2;cases y2
     ·obtain⟨_,us,y3⟩:=g4.mem hc;have y4:=up c _ (hin c hc) y3;rw[R4.sub _ _ y]at y4;cases y4;cases y2 (.l [])⟩
   have L4:ig X.K F4 H2 (Nw H₀ F4) dQ bs:=vO g4 (s4) (λc hc=>by
    obtain⟨_,us,z⟩:=g4.mem hc;rw[up c _ (hin c hc) z,z]) f4
   have hnb:Nw H₀ F4 b:=f4 b hbm ⟨gn1,gn2⟩;have sub:∀{G:Hp},G b=none->Same G H2->Same G (upd H2 b (oA b (vs++[w]))):=λ{G} hg s c u e=>by rw[upd_ne (ne_of_none e hg)];exact s _ _ e
   refine q F4 σ _ (R4.putD (m:=.l dQ) hp e1 (sub hnb.2 R4.sub) (sub hnb.1 R4.keep) (λc u z1 z2=>?_) ⟨bs,?_,cY.mpr g3,IW b4 L4 g3.2 h3 gb (gl.mono s4)⟩ c3) (s1.trans s4)
   ·rw[upd_ne]
    ·exact z1
    ·rintro rfl
     rw[hB]at z1;cases z1;cases z2
   ·rw[upd_ne (λz=>g3.1 (by rw[z];exact hbm))]
    exact hA
 ·cases hf
theorem Dq{K:ah}{F H:Hp}{N:ab->Prop}:∀{dQ:List av} {bs:List ab},ig K F H N dQ bs->bs.Nodup->∃H1,(∀af σ s,Inv X af σ H s->Inv X af σ H1 s)/\(∀c,c∉bs->H1 c=H c)/\Paired (λps b=>∃vs,H1 b=some (.ay vs)/\aP K F ps vs) dQ bs
 | _,_,.nil,_=>⟨H,λ_ _ _ I=>I,λ_ _=>rfl,.nil⟩
 | _,_,.cons (b:=b) ⟨_,vs,h2,h3⟩ t,hn=>by
  rw[cY]at hn;obtain⟨H1,i1,i2,i3⟩:=Dq (show ig K F H N _ _ from t) hn.2
  have hb:H1 b=some (oA b vs):=(i2 b hn.1).trans h2;refine⟨upd H1 b (.ay vs),λaf σ s I=>Inv.IL (i1 af σ s I) hb,λc hc=>?_,.cons ⟨vs,aC,h3⟩ ?_⟩
  ·rw[upd_ne (λz=>hc (by rw[z];exact bz))]
   exact i2 c λz=>hc (bE _ z)
  ·have:∀{dQ:List av} {bs:List ab},Paired (λps b=>∃vs,H1 b=some (.ay vs)/\aP K F ps vs) dQ bs->b∉bs->Paired (λps c=>∃us,upd H1 b (.ay vs) c=some (.ay us)/\aP K F ps us) dQ bs:=λ{dQ bs} h=>by
    induction h with
    | nil=>intro _;exact .nil
    | @cons ps c dQ bs r t ih =>
     intro hb;obtain⟨us,r1,r2⟩:=r;refine .cons ⟨us,?_,r2⟩ (ih λz=>hb (bE _ z))
     rw[upd_ne (λz=>hb (by rw[<-z];exact bz))]
     exact r1
   exact this i3 hn.1
def RX(i:Nat)(f:FS):FS:=λρ=>match ρ[i]? with
 | some (.cg (.l dQ))=>if(ρ.set i .un).all (gZ true)=true then f (ρ.set i (.val (.ay (dQ.map .ay))))else none
 | _=>f ρ
open Classical in
theorem VR{st:az}{fs:FS}(h:PS X st (tS X H₀ aa fs)):PS X st (tS X H₀ aa (RX i fs)):=by
 refine IT h λD σ H ⟨F,ρ,o,R,hf,q⟩=>?_
 unfold RX at hf;split at hf
 ·rename_i dQ hp;obtain⟨hc,hf⟩:=ax hf;have dU:i<ρ.length:=(cL.mp hp).1;obtain⟨a,e1,⟨bs,g2,g3,g4⟩,g5,g6⟩:=R.cg i _ hp;have g3':=cY.mp g3;obtain⟨H1,i1,i2,i3⟩:=Dq (X:=X) g4 g3'.2;have ha1:H1 a=some (oA a (bs.map .ref)):=(i2 a g3'.1).trans g2;have zC:∀c,c≠a->c∉bs->upd H1 a (.ay (bs.map .ref)) c=H c:=λc z1 z2=>by rw[upd_ne z1];exact i2 c z2
  have tag:∀c o,H c=some o->qt (.l []) o=false->c≠a/\c∉bs:=λc o z1 z2=>by
   constructor
   ·intro z;subst z;rw[g2]at z1;cases z1;cases z2
   ·intro z;obtain⟨_,us,y⟩:=g4.mem z;rw[y]at z1;cases z1;cases z2
  have frn:∀c o,F c=some o->c≠a/\c∉bs:=λc o z1=>by
   constructor
   ·intro z;subst z;rw[g6]at z1;cases z1
   ·intro z;obtain⟨⟨_,y⟩,_⟩:=g4.mem z;rw[y]at z1;cases z1
  have kpn:∀c o,H₀ c=some o->c≠a/\c∉bs:=λc o z1=>by
   constructor
   ·intro z;subst z;rw[g5]at z1;cases z1
   ·intro z;obtain⟨⟨y,_⟩,_⟩:=g4.mem z;rw[y]at z1;cases z1
  let F1:Hp:=λc=>if c=a\/c∈bs then upd H1 a (.ay (bs.map .ref)) c else F c
  have f1:∀c,c=a\/c∈bs->F1 c=upd H1 a (.ay (bs.map .ref)) c:=λc z=>if_pos z
  have f2:∀c,c≠a->c∉bs->F1 c=F c:=λc z1 z2=>if_neg λz=>z.elim z1 z2
  have sm:Same F F1:=λc o z=>by obtain⟨y1,y2⟩:=frn c o z;rw[f2 c y1 y2];exact z
  have hv:cI X.K F1 (.ay (dQ.map .ay)) (.ref a):=by
   refine aU.mpr ⟨a,bs.map .ref,rfl,m8.of (by rw[f1 a (.inl rfl)];exact aC),?_⟩
   have:∀{dQ:List av} {cs:List ab},Paired (λps b=>∃vs,H1 b=some (.ay vs)/\aP X.K F ps vs) dQ cs->(∀c∈cs,c∈bs)->aP X.K F1 (dQ.map .ay) (cs.map .ref):=λ{dQ cs} h=>by
    induction h with
    | nil=>intro _;exact .nil
    | @cons ps c dQ cs r t ih =>
     intro hcs;obtain⟨us,r1,r2⟩:=r;have hcb:=hcs c bz;refine .cons (aU.mpr ⟨c,us,rfl,m8.of ?_,r2.mono sm⟩) (ih λd hd=>hcs d (bE _ hd))
     rw[f1 c (.inr hcb),upd_ne (λz=>g3'.1 (by rw[<-z];exact hcb))]
     exact r1
   exact this i3 λ_ z=>z
  refine⟨upd H1 a (.ay (bs.map .ref)),λaf s I=>Inv.IL (i1 af σ s I) ha1,F1,_,o,?_,hf,q.mono sm⟩
  exact {
   sub:=λc o z=>by
    by_cases hc:c=a\/c∈bs
    ·rw[f1 c hc]at z;exact z
    ·have z1:c≠a:=λy=>hc (.inl y)
     have z2:c∉bs:=λy=>hc (.inr y)
     rw[f2 c z1 z2]at z;rw[zC c z1 z2];exact R.sub _ _ z
   keep:=λc o z=>by obtain⟨y1,y2⟩:=kpn c o z;rw[zC c y1 y2];exact R.keep _ _ z
   base:=R.base.trans sm
   fresh:=λc o z=>by
    by_cases hc:c=a\/c∈bs
    ·refine .inr ?_;rcases hc with rfl | hc
     ·exact g5
     ·exact(g4.mem hc).1.1
    ·rw[f2 c (λy=>hc (.inl y)) (λy=>hc (.inr y))]at z;exact R.fresh _ _ z
   val:=λj p z=>by
    by_cases hj:i=j
    ·subst hj;rw[bW dU]at z;cases z;exact⟨_,e1,hv⟩
    ·rw[bj hj]at z;obtain⟨v,h1,h2⟩:=R.val j p z;exact⟨v,h1,h2.mono sm⟩
   own:=λj ps z=>by
    by_cases hj:i=j
    ·subst hj;rw[bW dU]at z;cases z
    ·rw[bj hj]at z;obtain⟨c,vs,h1,h2,h3,h4,h5⟩:=R.own j ps z;obtain⟨y1,y2⟩:=tag c _ h2 rfl;exact⟨c,vs,h1,by rw[zC c y1 y2];exact h2,h3,by rw[f2 c y1 y2];exact h4,h5.mono sm⟩
   apart:=λj k ps qs c z1 z2 z3 z4=>by
    have old:∀(m:Nat) (l:av),(ρ.set i (.val (.ay (dQ.map .ay))))[m]?=some (.own l)->ρ[m]?=some (.own l):=λm l z=>by
     by_cases hm:i=m
     ·subst hm;rw[bW dU]at z;cases z
     ·rw[bj hm]at z;exact z
    exact R.apart j k ps qs c (old j ps z1) (old k qs z2) z3 z4
   obs:=λj o z=>by
    by_cases hj:i=j
    ·subst hj;rw[bW dU]at z;cases z
    ·rw[bj hj]at z;obtain⟨c,h1,h2⟩:=R.obs j o z;exact⟨c,h1,h2.mono sm⟩
   cg:=λj m z=>by
    by_cases hj:i=j
    ·subst hj;rw[bW dU]at z;cases z
    ·rw[bj hj]at z;have hk:=dt.mp hc (.cg m) (b9 (i:=j) (by rw[bj hj];exact z))
     obtain⟨c,h1,h2,h3,h4⟩:=R.cg j m z;have hm:∀dQ,m≠.l dQ:=λdQ y=>by subst y;cases hk
     have ht:∃o,H c=some o/\qt (.l []) o=false:=by
      cases m with
      | t kvs=>obtain⟨xs,y,_⟩:=h2;exact⟨_,y,rfl⟩
      | k kvs=>obtain⟨xs,y,_⟩:=h2;exact⟨_,y,rfl⟩
      | l dQ=>exact absurd rfl (hm dQ)
     obtain⟨o,y1,y2⟩:=ht;obtain⟨y3,y4⟩:=tag c o y1 y2;exact⟨c,h1,h2.toT hm sm (zC c y3 y4),h3,by rw[f2 c y3 y4];exact h4⟩
   len:=by rw[gT];exact R.len}
 ·exact⟨H,λ_ _ I=>I,F,ρ,o,R,hf,q⟩
end
def qV(kvs:List (List bQ×PV))(k:List bQ):Bool:=kvs.any λx=>decide (x.1=k)
def MQ(kvs:List (List bQ×PV))(k:List bQ)(q:PV):List (List bQ×PV):=if qV kvs k=true then kvs.map λx=>if x.1=k then(x.1,q)else x else kvs++[(k,q)]
section
variable {K:ah} {F:Hp}
theorem mJ{kvs:List (List bQ×PV)}{xs:List (List bQ×ab×ag)}(h:qr K F kvs xs):iI K F xs/\kvs.length=xs.length/\∀k,(atKey xs k).isSome=qV kvs k:=by
 have:xs.map (·.1)=kvs.map (·.1)/\iI K F xs:=by
  unfold qr at h;induction h with
  | nil=>exact⟨rfl,λ_ z=>nomatch z⟩
  | @cons p q ps qs r t ih =>
   obtain⟨r1,r2,_⟩:=r;refine⟨by rw[bJ,bJ,ih.1,r1],λx hx=>?_⟩
   rcases aX.mp hx with rfl | hx
   ·rw[<-r1];exact r2
   ·exact ih.2 x hx
 refine⟨this.2,by have:=dw List.length this.1;rw[aB,aB]at this;exact this.symm,λk=>?_⟩
 rw[tM,this.1];unfold qV;rw[List.any_map];rfl
theorem RY{kvs:List (List bQ×PV)}{xs:List (List bQ×ab×ag)}(h:qr K F kvs xs){k:List bQ}{b:ab}(hb:gI K F b (k.map kV)){q:PV}{v:V}{r:ag}(hv:cI K F q v)(hr:RelV v r):qr K F (MQ kvs k q) (storedH xs k b r):=by
 have hk:=(mJ h).2.2 k;unfold MQ;cases e:qV kvs k with
 | true =>
  rw[e]at hk;obtain⟨p,hp⟩:=zK.mp hk;rw[if_pos rfl,storedH_old hp];clear hk hp e;unfold qr at h ⊢;induction h with
  | nil=>exact .nil
  | @cons p q' ps qs r' t ih =>
   obtain⟨r1,r2,r3⟩:=r';refine .cons ?_ ih;by_cases z:p.1=k
   ·have z1:(λx:List bQ×PV=>if x.1=k then(x.1,q)else x) p=(p.1,q):=if_pos z
    have z2:putAt k r q'=(q'.1,q'.2.1,r):=if_pos (r1.symm.trans z);rw[z1,z2];exact⟨r1,r2,v,hv,hr⟩
   ·have z1:(λx:List bQ×PV=>if x.1=k then(x.1,q)else x) p=p:=if_neg z
    have z2:putAt k r q'=q':=if_neg λy=>z (r1.trans y)
    rw[z1,z2];exact⟨r1,r2,r3⟩
 | false =>
  rw[e]at hk;rw[if_neg (by simp),storedH_new (by cases y:atKey xs k with | none=>rfl | some _=>rw[y]at hk;cases hk)]
  clear hk e;unfold qr at h ⊢;induction h with
  | nil=>exact .cons ⟨rfl,hb,v,hv,hr⟩ .nil
  | cons r' t ih=>exact .cons r' ih
end
section
variable {X:Cx} {H₀ aa:Hp} {e ke:aj} {fk fv:FE} {x:Str} {p pos sp:Pos} {i:Nat}
def E5(i:Nat):FS:=λρ=>if i<ρ.length then some (.nx (ρ.set i (.cg (.t []))))else none
theorem IY{D:jG}{σ:St}{H:Hp}(h:tS X H₀ aa (E5 i) D σ H):lF (CJ (.dT [])) (gName i) D σ H:=by
 obtain⟨F,ρ,o,R,hf,q⟩:=h;obtain⟨hi,rfl⟩:=aA hf;intro d hd;exact q F _ _ ((R.CL (.dT []) hd).vN hi ⟨[],aC,.nil⟩ (R.keep.free hd) (R.sub.free hd)) (Same.refl F)
theorem pw{K:ah}{F:Hp}{qk:PV}{ks:List bQ}{v:V}(h:jF qk=some ks)(b:cI K F qk v):∃c,v=.ref c/\gI K F c (ks.map kV):=by
 obtain⟨rfl,_⟩:=yu h;obtain⟨c,vs,rfl,hs,hb⟩:=bt.mp b;rw[nW hb]at hs;exact⟨c,rfl,hs⟩
def Bo(i:Nat)(fk fv:FE):FS:=λρ=>(fv ρ).bind λqv=>(fk ρ).bind λqk=>match ρ[i]? with
 | some (.cg (.t kvs))=>(jF qk).bind λks=>if(kvs.length<fO/\(ρ.set i .un).all (gZ false)=true)then some (.nx (ρ.set i (.cg (.t (MQ kvs ks qv)))))else none
 | _=>none
theorem IZ{D:jG}{σ:St}{H:Hp}(h:tS X H₀ aa (Bo i fk fv) D σ H):OH X.K (iS i) (tE X.K H₀ aa fk) (tE X.K H₀ aa fv) D σ H:=by
 obtain⟨F,ρ,o,R,hf,q⟩:=h;obtain⟨qv,h1,hf⟩:=ar hf;obtain⟨qk,h2,hf⟩:=ar hf;split at hf
 ·rename_i kvs hp;obtain⟨ks,h3,hf⟩:=ar hf;obtain⟨⟨c1,c2⟩,rfl⟩:=aA hf;refine⟨F,ρ,qv,R,h1,λv H1 F1 R1 s1 b1=>?_⟩
  obtain⟨a,e1,_⟩:=R1.cg i _ hp;refine⟨.ref a,e1,F1,ρ,qk,R1,h2,λy H3 F3 R3 s3 b3=>?_⟩
  obtain⟨a',g1,⟨xs,g2,g3⟩,g4,g5⟩:=R3.cg i _ hp;rw[e1]at g1;cases g1;obtain⟨c,rfl,hs⟩:=pw h3 b3;obtain⟨k1,k2,_⟩:=mJ g3;refine⟨a,c,xs,ks,rfl,rfl,g2,λz hz=>aQ R3.sub (k1 z hz),aQ R3.sub hs,by rw[<-k2];exact cy c1 (d9 (aR _)),λr hr=>?_⟩
  exact q F3 σ _ (R3.II hp e1 rfl ⟨_,aC,RY g3 hs (b1.mono s3) hr⟩ c2) (s1.trans s3)
 ·cases hf
def Bp(ρ:aE)(i:Nat):Option (List (List bQ×PV)):=match ρ[i]? with
 | some (.cg (.t kvs))=>some kvs
 | some (.ob (.dct (.t kvs)))=>some kvs
 | _=>none
theorem vP{K:ah}{F H:Hp}{ρ:aE}{σ:St}{kvs:List (List bQ×PV)}(h:Bp ρ i=some kvs)(R:cB K H₀ aa F ρ σ H):∃a xs,σ[i]?=some (some (.ref a))/\Rd H a (.dT xs)/\qr K F kvs xs:=by
 unfold Bp at h;split at h
 ·rename_i hp;cases h;obtain⟨a,e1,⟨xs,e2,e3⟩,_⟩:=R.cg i _ hp;exact⟨a,xs,e1,.inl e2,e3⟩
 ·rename_i hp;cases h;obtain⟨a,e1,xs,e2,e3⟩:=R.obs i _ hp;exact⟨a,xs,e1,.inl (R.sub _ _ e2),e3⟩
 ·cases h
def inB(b:Bool)(i:Nat)(fk:FE):fj:=λρ=>(fk ρ).bind λqk=>(jF qk).bind λks=>(Bp ρ i).map λkvs=>if b=true then !qV kvs ks else qV kvs ks
def rKi(K:ah):R2:=λx y H Q=>∃b d xs k,x=.ref b/\y=.ref d/\Rd H d (.dT xs)/\iI K H xs/\gI K H b (k.map kV)/\Q (.bl (atKey xs k).isSome) H
theorem VS(hu:X.A.units+1<cLine):OpR X (compareOp .In) (rKi X.K):=by
 intro af s σ H x y v u Q I rx ry ⟨b,d,xs,k,ex,ey,h1,h2,h3,q⟩;subst ex ey;cases rx;cases ry;exact UD hu I h1 h2 h3 λs' I'=>⟨.bl (atKey xs k).isSome,H,I',rfl,q⟩
theorem yy{b:Bool}{ρ:aE}{r:Bool}(h:inB b i fk ρ=some r):∃qk ks kvs,fk ρ=some qk/\jF qk=some ks/\Bp ρ i=some kvs/\r=if b=true then !qV kvs ks else qV kvs ks:=by
 obtain⟨qk,h1,h⟩:=ar h;obtain⟨ks,h2,h⟩:=ar h;cases z:Bp ρ i with
 | none=>rw[z]at h;cases h
 | some kvs=>rw[z]at h;cases h;exact⟨qk,ks,kvs,h1,h2,rfl,rfl⟩
def VT:CmpOp->Option Bool
 | .In=>some false
 | .NotIn=>some true
 | _=>none
theorem VU{op:CmpOp}{b:Bool}(ho:VT op=some b)(hu:X.A.units+1<cLine)(hk:PE X ke (tE X.K H₀ aa fk))(hx:PE X (.Name x p) (iS i)):PT X (.Compare ke [op] [.Name x p] pos) (tT X.K H₀ aa (inB b i fk)):=by
 cases op with
 | NotIn =>
  cases ho;refine(me (OG hu) hk hx rfl).imp λσ H Q ⟨F,ρ,r,R,hf,q⟩=>?_
  obtain⟨qk,ks,kvs,h1,h2,h3,rfl⟩:=yy hf;refine⟨F,ρ,qk,R,h1,λv H1 F1 R1 s1 b1=>?_⟩
  obtain⟨a,xs,e1,e2,e3⟩:=vP h3 R1;obtain⟨c,rfl,hs⟩:=pw h2 b1;obtain⟨k1,_,k3⟩:=mJ e3;refine⟨.ref a,e1,c,a,xs,ks,rfl,rfl,e2,λz hz=>aQ R1.sub (k1 z hz),aQ R1.sub hs,_,rfl,?_⟩
  rw[k3];exact q H1 F1 R1 s1
 | In =>
  cases ho;refine(me (VS hu) hk hx rfl).imp λσ H Q ⟨F,ρ,r,R,hf,q⟩=>?_
  obtain⟨qk,ks,kvs,h1,h2,h3,rfl⟩:=yy hf;refine⟨F,ρ,qk,R,h1,λv H1 F1 R1 s1 b1=>?_⟩
  obtain⟨a,xs,e1,e2,e3⟩:=vP h3 R1;obtain⟨c,rfl,hs⟩:=pw h2 b1;obtain⟨k1,_,k3⟩:=mJ e3;refine⟨.ref a,e1,c,a,xs,ks,rfl,rfl,e2,λz hz=>aQ R1.sub (k1 z hz),aQ R1.sub hs,_,rfl,?_⟩
  rw[k3];exact q H1 F1 R1 s1
 | _=>cases ho
theorem Ja{A:bD}{E:cf}{s:aq}{d:ab}{o:Obj}{es:Array DictEntry}{ep n:Nat}{Q:cf}(hd:(d==sysModules)=false)(ho:s.heap.get? d=some o)(hc:o.ExactDict)(aaO:o.data=.dict es ep)(hn:es.size=n)(VV:(n:Int)<2^63)
  (h:Q (.int n (s.toks+1)) {s with toks:=s.toks+1+1}):wpAny (model X.prog X.w) A (call (.builtin "len") [.ref d]) Q E s:=by
 have ty:s.TypeIs (.ref d) "dict":=⟨o,ho,hc.1⟩;have hm:MeetsIn X.prog X.w (Builtin.«dict.__len__» ⟨[.ref d],[]⟩) (λ_ R s'=>s'.heap.get? d=some o/\R (.ok (.ret (.int n s'.toks))) {s' with toks:=s'.toks+1}):=.of_wp <| by
  rintro A R s' ⟨rN,hR⟩
  show wpAny _ _ (dictSize d >>= _) _ _ s';unfold dictSize;refine ai (ai (wpAny_dictEntries rN aaO (aw ?_)));refine ai (m:=Builtin.Dict.pendingCount d) (wpAny_pendingCount_other hd ?_);refine wpAny_ret_mkInt ?_;rw[Nat.add_zero,hn];exact hR
 refine Calls.call_function_entry kind_len plain_len entry_len (args_len1 _) ?_;unfold Builtin.«len»;refine ai (m:=PySem.oneArg "len" _) (aw ?_);refine ai (m:=callSpecial? (.ref d) (Str.ofString "__len__")) (jN (name:=Str.ofString "__len__") ty F.slot_dict_len (call_meetsIn F.slot_dict_len ty F.entry_dict_len (F.args_dict_len_1 _) hm ⟨ho,?_⟩));show wpAny _ _ _ _ _ {s with toks:=s.toks+1}
 refine ai (f7 (aw ?_));refine ai (wpAny_letGo ?_);show wpAny _ _ (if((n:Nat):Int)<0 then _ else _) _ _ _
 rw[if_neg (by lia)]
 show wpAny _ _ (if((n:Nat):Int)>=2^63 then _ else _) _ _ _
 rw[if_neg (by lia)]
 exact ai (wpAny_mkInt (aw ⟨_,rfl,h⟩))
theorem yz:jZ X (.builtin "len") (λxs H Q=>∃p ys,xs=[.ref p]/\Rd H p (.dT ys)/\Q (.int ys.length) H):=by
 intro af s σ H xs us Q I rs ⟨p,ys,e,h,q⟩;subst e;obtain⟨u,rfl,ru⟩:=iW rs;cases ru;obtain⟨z,y,o,es,ep,h1,h2,h3,h4,h5⟩:=(show dE X.prog X.w H s.heap p (.dT ys)from HA I.hok h)
 have hn:es.size=ys.length:=by rw[<-eY,h4,aB]
 refine Ja (X:=X) y h1 h2 h3 hn ?_ ⟨.int ys.length,H,I.tok _,⟨_,rfl⟩,q⟩;have:ys.length<=2^62:=bY z (by decide)
 have h62:(2:Nat)^62=4611686018427387904:=by decide
 have h63:(2:Int)^63=9223372036854775808:=by decide
 lia
def MR(i:Nat):FE:=λρ=>(Bp ρ i).map λkvs=>.int kvs.length
theorem RZ{cp:Pos}(hg:Gl X "len")(hm:X.mg "len"=none)(hx:PE X (.Name x p) (iS i)):PE X (.Call (.Name "len" sp) [.Name x p] [] cp) (tE X.K H₀ aa (MR i)):=(iX yz hg hm uU (cR hx gD)).imp <| by
 rintro σ H Q ⟨F,ρ,r,R,hf,q⟩
 unfold MR at hf;cases z:Bp ρ i with
 | none=>rw[z]at hf;cases hf
 | some kvs =>
  rw[z]at hf;cases hf;obtain⟨a,xs,e1,e2,e3⟩:=vP z R;refine⟨.ref a,e1,a,xs,rfl,e2,q _ H F R (Same.refl F) (aF.mpr ?_)⟩;rw[(mJ e3).2.1]
def OR(ts:bF):bF:=λρ=>(ts ρ).bind λps=>match ps with | [.int i,.int j]=>if(0<=i/\i<1000000/\0<=j/\j<1000000)then some ((List.range (j-i).toNat).map fun(k:Nat)=>.int (i+k))else none | _=>none
theorem Jb{tg a b:aj}{p pos:Pos}{ts:bF}(hg:Gl X "range")(hm:X.mg "range"=none)(ha:PA X [a,b] (tA X.K H₀ aa ts))(hs:starEach [a,b] X.env=[(false,eval a X.env),(false,eval b X.env)])(N3:starEach [b] X.env=[(false,eval b X.env)]):PI X tg (.Call (.Name "range" p) [a,b] [] pos) (tI X.K H₀ aa (OR ts)) :=
 (Et hg hm ha hs N3).imp <| by
  rintro σ H Rr ⟨F,ρ,ps,R,hf,q⟩
  obtain⟨as,h1,h2⟩:=ar hf;refine⟨F,ρ,as,R,h1,λvs H1 F1 R1 s1 b1=>?_⟩
  match as,h2 with
  | [.int i,.int j],h2 =>
   obtain⟨⟨z1,z2,z3,z4⟩,rfl⟩:=aA h2;obtain⟨v,r,rfl,bv,br⟩:=b1.bO;obtain⟨v',r',rfl,bv',br'⟩:=br.bO;rw[br'.bL,aF.mp bv,aF.mp bv'];exact⟨i,j,rfl,⟨by lia,by lia,by lia,by lia⟩,q _ H1 F1 R1 s1 (qy i (j-i).toNat)⟩
def OS(K:ah)(n:Nat)(g:Ob->av->cz):Sp:=λvs H Q E=>∃F o ps e a us,vs=us++[.ref a]/\Same F H/\vq K F o a/\aP K F ps us/\ps.length=n/\g o ps=some e/\Om K H F Q E e
abbrev aaP(X:Cx)(fns:List (Str×Nat))(call:Str->Ob->av->cz):Prop:=∀x n,fns.lookup x=some n->∃k f fd ps,FnOk X.prog X.w X.K X.mg X.base (jK X.prog X.w) k f fd ps (OS X.K n (call x))/\dR k X.A/\X.mg x=some (.ref f)/\W.keepIn X.K (.ref f)=true/\eL X.K fd ps []
def Bq(g:Ob->av->cz)(i:Nat)(f1 f2:FE):FE:=λρ=>(f1 ρ).bind λp1=>(f2 ρ).bind λp2=>(rdO i ρ).bind λo=>(g o [p1,p2]).bind oS
theorem Br{f1 f2:FE}{n:Nat}{g:Ob->av->cz}{σ:St}{H:Hp}{Q:VK}{E:XK}{K:ah}(h:tE K H₀ aa (Bq (RC n g) i f1 f2) σ H Q):tu (OS K n g) [] E (CB (tE K H₀ aa f1) (CB (tE K H₀ aa f2) (CB (iS i) Ul))) σ H Q:=by
 obtain⟨F,ρ,p,R,hf,q⟩:=h;obtain⟨p1,h1,hf⟩:=ar hf;obtain⟨p2,h2,hf⟩:=ar hf;obtain⟨o,h0,hf⟩:=ar hf;obtain⟨en,h5,h4⟩:=ar hf;obtain⟨hl,h3⟩:=ax (show(if [p1,p2].length=n then g o [p1,p2]else none)=some en from h5)
 refine⟨F,ρ,p1,R,h1,λv1 H1 F1 R1 s1 b1=>⟨F1,ρ,p2,R1,h2,λv2 H2 F2 R2 s2 b2=>?_⟩⟩
 unfold rdO at h0;split at h0
 ·rename_i z;cases h0;obtain⟨a,g1,g2⟩:=R2.obs i _ z;refine⟨.ref a,g1,?_⟩;show OS K n g [v1,v2,.ref a] H2 Q E;refine⟨F2,o,[p1,p2],en,a,[v1,v2],rfl,R2.sub,g2,.cons (b1.mono s2) (.cons b2 .nil),hl,h3,?_⟩;cases en with
  | un=>cases h4
  | ex C=>cases h4
  | ob _=>cases h4
  | cg _=>cases h4
  | val p' =>
   cases h4;exact λv F3 H3 P ff b3=>q v H3 F3 (R2.after P.keep P.base P.sub P.fresh) (s1.trans (s2.trans ff)) b3
  | own ps =>
   cases h4;intro a' UY F3 H3 P ff ha hn fn b3;obtain⟨z1,z2,z3,z4⟩:=xZ P ha hn fn;exact q _ H3 _ (R2.after P.keep z1 z3 z4) (s1.trans (s2.trans z1)) (aU.mpr ⟨a',UY,rfl,m8.of aC,b3.mono z2⟩)
 ·cases h0
theorem Jc{f1 f2:FE}{n k:Nat}{g:Ob->av->cz}{e1 e2:aj}{f:ab}{fd:dk}{ps:List Str}{y:Str}{yp:Pos}(F:FnOk X.prog X.w X.K X.mg X.base (jK X.prog X.w) k f fd ps (OS X.K n g))(hr:dR k X.A)(hg:Gl X x)(hm:X.mg x=some (.ref f))(hk:W.keepIn X.K (.ref f)=true)(hb:eL X.K fd ps [])
  (h1:PE X e1 (tE X.K H₀ aa f1)) (h2:PE X e2 (tE X.K H₀ aa f2)) (h3:PE X (.Name y yp) (iS i)) (AK:(x==("__debug__":Str))=false) (s1:∀es,starEach (e1::es) X.env=(false,eval e1 X.env)::starEach es X.env) (s2:∀es,starEach (e2::es) X.env=(false,eval e2 X.env)::starEach es X.env) :
  PE X (.Call (.Name x p) [e1,e2,.Name y yp] [] pos) (tE X.K H₀ aa (Bq (RC n g) i f1 f2)):=(kz F hr hg hm hk hb .nil mi (cR h1 (cR h2 (cR h3 gD) (s2 _)) (s1 _)) AK (s1 _) (by rw[s2];rfl)).imp λ_ _ _ h=>Br h
theorem pz{K:ah}{F H:Hp}{o:Ob}{a:ab}{ps:av}{vs:List V}{N:List Str}(hs:Same F H)(ho:vq K F o a)(hb:aP K F ps vs):cB K H F F (ps.map .val++.ob o::List.replicate (N.length-(ps.length+1)) .un) (start N (vs++[.ref a])) H:=by
 have hl:=hb.length;have no:∀(j:Nat) (e:Ent),(ps.map Ent.val++Ent.ob o::List.replicate (N.length-(ps.length+1)) Ent.un)[j]?=some e->(∃q,ps[j]?=some q/\e=.val q)\/(j=ps.length/\e=.ob o)\/e=.un:=λj e h=>by
  rcases Nat.lt_trichotomy j ps.length with z | z | z
  ·rw[fX (by simpa using z),bU]at h
   cases w:ps[j]? with
   | none=>rw[w]at h;cases h
   | some q=>rw[w]at h;cases h;exact .inl ⟨q,rfl,rfl⟩
  ·subst z;rw[gP (by simp),aB,Nat.sub_self]at h
   cases h;exact .inr (.inl ⟨rfl,rfl⟩)
  ·rw[gP (by rw[aB];lia),aB]at h
   obtain⟨m,hm⟩:∃m,j-ps.length=m+1:=⟨j-ps.length-1,by lia⟩
   rw[hm,zN,jO]at h;split at h
   ·cases h;exact .inr (.inr rfl)
   ·cases h
 refine mI hs (λe he=>?_) (λj q e=>?_) (λj q e=>?_) ?_
 ·obtain⟨j,hj⟩:=jg he;rcases no j e hj with⟨_,_,rfl⟩ | ⟨_,rfl⟩ | rfl<;>exact⟨(λ_ z=>by cases z),λ_ z=>by cases z⟩
 ·rcases no j _ e with⟨q',h1,z⟩ | ⟨_,z⟩ | z
  ·cases z;obtain⟨v,g1,g2⟩:=hb.get h1;refine⟨v,?_,g2⟩;have hj:j<vs.length:=by rw[<-hl];exact(cL.mp h1).1
   unfold start;rw[c9,fZ,fX (by rw[aB];exact hj),bU,g1]
   rfl
  ·cases z
  ·cases z
 ·rcases no j _ e with⟨_,_,z⟩ | ⟨rfl,z⟩ | z
  ·cases z
  ·cases z;refine⟨a,?_,ho⟩;unfold start;rw[c9,fZ,gP (by rw[aB,hl];exact aR _),aB,hl,Nat.sub_self]
   rfl
  ·cases z
 ·unfold start;simp only[aZ,bX,aB,jP,pT,hl]
  lia
end
end L2.PL
namespace PySem
theorem Bs{α:Type} [DecidableEq α]:∀(l U:List α),l.Nodup->(∀x∈l,x∈U)->l.length<=U.length
 | [],_,_,_=>dY _
 | x::l,U,h,s=>by
  rw[cY]at h;have hx:=s x bz;have ih:=Bs l (U.erase x) h.2 λy hy=>(List.mem_erase_of_ne (show y≠x from λe=>h.1 (by rw[<-e];exact hy))).mpr (s y (bE _ hy))
  rw[List.length_erase_of_mem hx]at ih;have:=List.length_pos_of_mem hx;rw[aZ]
  lia
def zD(M:Nat):Nat->Nat->Nat
 | 0,i=>i
 | s+1,i=>zD M s ((i*5+1)%M)
def E6(M:Nat):Nat->Nat->List Nat
 | 0,_=>[]
 | n+1,i=>i::E6 M n ((i*5+1)%M)
theorem mK(M:Nat):∀(a b i:Nat),zD M (a+b) i=zD M b (zD M a i)
 | 0,b,i=>by rw[gC];rfl
 | a+1,b,i=>by rw[Nat.succ_add];exact mK M a b _
theorem nY(M:Nat):∀(n i s:Nat),s<n->(E6 M n i)[s]?=some (zD M s i)
 | 0,_,_,h=>absurd h (nC _)
 | n+1,i,0,_=>rfl
 | n+1,i,s+1,h=>by
  show(E6 M n ((i*5+1)%M))[s]?=some (zD M s ((i*5+1)%M));exact nY M n _ s (by lia)
def gG:List Nat:=[8,32,128,512,2048]
theorem Jd:gG.all (λM=>(E6 M M 0).tail.all (· != 0)&&zD M M 0==0)=true:=by decide +kernel
theorem mM(M:Nat):∀(n i:Nat),(E6 M n i).length=n
 | 0,_=>rfl
 | n+1,i=>by rw[E6,aZ,mM M n]
section
variable {M:Nat} (hM:M∈gG)
include hM
theorem eP:0<M:=by
 simp only[gG,aX,dB,dC]at hM
 lia
theorem Bt:∀(s i:Nat),i<M->zD M s i<M
 | 0,i,h=>h
 | s+1,i,_=>Bt s _ (jW _ (eP hM))
theorem Je{i j:Nat}(hi:i<M)(hj:j<M)(h:(i*5+1)%M=(j*5+1)%M):i=j:=by
 simp only[gG,aX,dB,dC]at hM;rcases hM with rfl | rfl | rfl | rfl | rfl<;>lia
theorem Dr:∀(s i j:Nat),i<M->j<M->zD M s i=zD M s j->i=j
 | 0,i,j,_,_,h=>h
 | s+1,i,j,hi,hj,h=>Je hM hi hj (Dr s _ _ (jW _ (eP hM)) (jW _ (eP hM)) h)
theorem R6{s:Nat}(h0:0<s)(hs:s<M):zD M s 0≠0:=by
 have h:=dt.mp Jd M hM;rw[aG]at h;obtain⟨n,rfl⟩:∃n,s=n+1:=⟨s-1,by lia⟩
 have h1:=nY M M 0 (n+1) hs;have h2:zD M (n+1) 0∈(E6 M M 0).tail:=by
  refine b9 (i:=n) ?_;rw[List.getElem?_tail];exact h1
 simpa using dt.mp h.1 _ h2
theorem Jf:zD M M 0=0:=by
 have h:=dt.mp Jd M hM;rw[aG]at h;simpa using h.2
theorem R7:(E6 M M 0).Nodup:=by
 refine List.pairwise_iff_getElem.mpr λa b ha hb hab e=>?_
 have e:(E6 M M 0)[a]?=(E6 M M 0)[b]?:=by rw[cx ha,cx hb,e]
 rw[mM]at hb;rw[nY M M 0 a (by lia),nY M M 0 b hb]at e
 have e:=bg e;obtain⟨d,rfl⟩:∃d,b=a+d:=⟨b-a,by lia⟩
 rw[Nat.add_comm a d,mK]at e;exact R6 hM (s:=d) (by lia) (by lia) (Dr hM a _ _ (Bt hM d 0 (eP hM)) (eP hM) e.symm)
theorem Ds{j:Nat}(hj:j<M):∃s,s<M/\zD M s 0=j:=by
 by_cases h:j∈E6 M M 0
 ·obtain⟨s,hs,e⟩:=List.getElem_of_mem h;have OB:s<M:=by rw[mM]at hs;exact hs
  refine⟨s,OB,?_⟩;have h1:=nY M M 0 s OB;rw[cx hs,e]at h1;exact(bg h1).symm
 ·have nd:(j::E6 M M 0).Nodup:=cY.mpr ⟨h,R7 hM⟩;have sub:(j::E6 M M 0) ⊆ List.range M:=λx hx=>by
   rw[cZ];rcases aX.mp hx with rfl | hx
   ·exact hj
   ·obtain⟨s,hs⟩:=jg hx;have OB:s<M:=by
     have:=(cL.mp hs).1;rw[mM]at this;exact this
    rw[nY M M 0 s OB]at hs;rw[<-bg hs];exact Bt hM s 0 (eP hM)
  have:=Bs _ (List.range M) nd sub;rw[aZ,mM,fY]at this
  lia
theorem R8{i j:Nat}(hi:i<M)(hj:j<M):∃s,s<M/\zD M s i=j:=by
 obtain⟨a,ha,rfl⟩:=Ds hM hi;obtain⟨b,hb,rfl⟩:=Ds hM hj;by_cases h:a<=b
 ·exact⟨b-a,by lia,by rw[<-mK];congr 1;lia⟩
 ·refine⟨b+M-a,by lia,?_⟩
  rw[<-mK,show a+(b+M-a)=M+b by lia,mK,Jf hM]
def lp(mask:Nat):Nat->Nat×Nat->Nat×Nat
 | 0,x=>x
 | n+1,x=>lp mask n (SetTable.leap mask x.1 x.2)
omit hM in
theorem Jg(mask:Nat):∀(a b:Nat) (x:Nat×Nat),lp mask (a+b) x=lp mask b (lp mask a x)
 | 0,b,x=>by rw[gC];rfl
 | a+1,b,x=>by rw[Nat.succ_add];exact Jg mask a b _
omit hM in
theorem Jh(mask:Nat):∀(n:Nat) (x:Nat×Nat),(lp mask n x).2=x.2/32^n
 | 0,x=>by show x.2=_;rw[Nat.pow_zero,Nat.div_one]
 | n+1,x=>by
  show(lp mask n (SetTable.leap mask x.1 x.2)).2=_;rw[Jh mask n];show x.2/32/32^n=_;rw[Nat.div_div_eq_div_mul,Nat.pow_succ,Nat.mul_comm]
theorem Dt:∀(n i:Nat),lp (M-1) n (i,0)=(zD M n i,0)
 | 0,i=>rfl
 | n+1,i=>by
  have e:SetTable.leap (M-1) i 0=((i*5+1)%M,0):=by
   unfold SetTable.leap;have:=eP hM;rw[show M-1+1=M by lia]
  show lp (M-1) n (SetTable.leap (M-1) i 0)=_;rw[e,Dt n];rfl
theorem OT:∀(n:Nat) (x:Nat×Nat),x.1<M->(lp (M-1) n x).1<M
 | 0,x,h=>h
 | n+1,x,_=>by
  refine OT n _ ?_;have:=eP hM;show(x.1*5+1+x.2/32)%(M-1+1)<M;rw[show M-1+1=M by lia]
  exact jW _ this
theorem OU{i p j:Nat}(hi:i<M)(hp:p<2^64)(hj:j<M):∃n,n<=M+12/\(lp (M-1) n (i,p)).1=j:=by
 have h13:(lp (M-1) 13 (i,p)).2=0:=by
  rw[Jh];exact Nat.div_eq_of_lt (cy hp (by decide))
 have hl:=OT hM 13 (i,p) hi;obtain⟨s,hs,e⟩:=R8 hM hl hj;refine⟨13+s,by lia,?_⟩
 rw[Jg,show lp (M-1) 13 (i,p)=((lp (M-1) 13 (i,p)).1,0)from Prod.ext rfl h13,Dt hM,e]
end
theorem Du(h:Int):SetTable.bits h<2^64:=by
 unfold SetTable.bits;have:=nv h (b:=2^64) (by decide)
 have:=jT h (b:=2^64) (by decide)
 lia
end PySem
namespace PySem
open SetTable
theorem ui{mask:Nat}{owner:Array (Option Nat)}:∀(gi i p:Nat),(∃n,n<gi/\owner.getD (lp mask n (i,p)).1 (some 0)=none)->∃j,layClean.free mask owner gi i p=some j/\owner.getD j (some 0)=none
 | 0,_,_,⟨_,h,_⟩=>absurd h (nC _)
 | gi+1,i,p,⟨n,hn,e⟩=>by
  unfold layClean.free;cases hf:(List.range (runEnd mask i+1-i)).find? (λk=>(owner.getD (i+k) (some 0)).isNone)with
  | some k =>
   have:=List.find?_some hf;exact⟨i+k,rfl,by simpa using this⟩
  | none =>
   cases n with
   | zero =>
    have h0:=List.find?_eq_none.mp hf 0 (cZ.mpr (by unfold runEnd;split<;>lia))
    rw[Nat.add_zero,show owner.getD i (some 0)=none from e]at h0
    exact absurd rfl h0
   | succ n=>exact ui gi _ _ ⟨n,by lia,e⟩
structure Ji (M:Nat) (owner:Array (Option Nat)) (k:Nat):Prop where
 size:owner.size=M
 cnt:owner.toList.countP Option.isSome=k
 lt:∀v,some v∈owner.toList->v<k
theorem Jj{M:Nat}(hM:M∈gG){owner:Array (Option Nat)}{k:Nat}(I:Ji M owner k)(hk:k<M)(h:Int):∃j,layClean.free (M-1) owner (turns (M-1)) (bits h%(M-1+1)) (bits h)=some j/\Ji M (owner.setIfInBounds j (some k)) (k+1):=by
 have hp:=eP hM;obtain⟨x,hx,hn⟩:∃x∈owner.toList,¬x.isSome=true:=by
  refine uF λz=>?_
  have:owner.toList.countP Option.isSome=owner.toList.length:=List.countP_eq_length.mpr λa ha=>uF λy=>z ⟨a,ha,y⟩
  rw[I.cnt,eY,I.size]at this
  lia
 obtain⟨j0,XR⟩:=jg hx;have hxn:x=none:=by cases x with | none=>rfl | some v=>exact absurd rfl hn
 subst hxn;have dU:j0<M:=by
  have:=(cL.mp XR).1;rw[eY,I.size]at this;exact this
 obtain⟨n,hn1,hn2⟩:=OU hM (i:=bits h%(M-1+1)) (p:=bits h) (by rw[show M-1+1=M by lia];exact jW _ hp) (Du h) dU
 have hg:∀j,owner.getD j (some 0)=none->owner.toList[j]?=some none:=λj e=>by
  rw[uD]at e;rw[gz];cases z:owner[j]? with
  | none=>rw[z]at e;cases e
  | some v=>rw[z]at e;rw[show v=none from e]
 obtain⟨j,e1,e2⟩:=ui (mask:=M-1) (owner:=owner) (turns (M-1)) (bits h%(M-1+1)) (bits h) ⟨n,by unfold turns;lia,by rw[hn2,uD,<-gz,XR];rfl⟩
 refine⟨j,e1,?_⟩;have hj:=hg j e2;have Tg:=(cL.mp hj).1;have hjv:owner.toList[j]=none:=(cL.mp hj).2;refine⟨by rw[Array.size_setIfInBounds];exact I.size,?_,λv hv=>?_⟩
 ·rw[Gy,List.countP_set Tg,I.cnt,hjv];rfl
 ·rw[Gy]at hv;rcases List.mem_or_eq_of_mem_set hv with z | z
  ·have:=I.lt v z;lia
  ·cases z;lia
theorem yA{M:Nat}(hM:M∈gG):∀(hs:List Int) (owner:Array (Option Nat)) (k:Nat),Ji M owner k->k+hs.length<M ->
  ∃Jk,hs.foldl (λacc h=>do let (owner,k) <-acc;let j <-layClean.free (M-1) owner (turns (M-1)) (bits h%(M-1+1)) (bits h);pure (owner.setIfInBounds j (some k),k+1)) (some (owner,k))=some (Jk,k+hs.length)/\Ji M Jk (k+hs.length)
 | [],owner,k,I,_=>⟨owner,rfl,I⟩
 | h::hs,owner,k,I,hl=>by
  rw[aZ]at hl;obtain⟨j,e,I'⟩:=Jj hM I (by lia) h
  obtain⟨o',e2,I2⟩:=yA hM hs _ _ I' (by lia)
  refine⟨o',?_,by rw[aZ,show k+(hs.length+1)=k+1+hs.length by lia];exact I2⟩
  rw[List.foldl_cons,aZ,show k+(hs.length+1)=k+1+hs.length by lia,<-e2]
  congr 1
  show(layClean.free (M-1) owner (turns (M-1)) (bits h%(M-1+1)) (bits h)).bind _=_;rw[e];rfl
theorem MS{M:Nat}(hM:M∈gG)(f m:Nat)(led pl:Bool){hs:Array Int}(hn:hs.size<M):∃place order,laid (M-1) f m led pl hs=some ({mask:=M-1,place:=place,dummies:=#[],finger:=f,led:=led,moves:=m,plain:=pl},order)/\place.size=hs.size/\order.size=hs.size/\∀k∈order.toList,k<hs.size:=by
 have hp:=eP hM;have I0:Ji M (Array.replicate (M-1+1) none) 0:=by
  refine⟨by rw[Array.size_replicate];lia,?_,λv hv=>?_⟩
  ·rw[Array.toList_replicate,List.countP_replicate];rfl
  ·rw[Array.toList_replicate]at hv;have:=(List.mem_replicate.mp hv).2;cases this
 obtain⟨owner,e,I⟩:=yA hM hs.toList _ 0 I0 (by rw[eY];lia)
 rw[gC,eY]at e I;have hl:layClean (M-1) hs=some owner:=by
  unfold layClean;rw[<-Array.foldl_toList,e];rfl
 have cC:((List.range (M-1+1)).filterMap λj=>(owner.getD j none).map (j,·)).length=hs.size:=by
  rw[Gs,<-I.cnt];have e1:owner.toList=(List.range (M-1+1)).map λj=>owner.getD j none:=by
   refine List.ext_getElem? λj=>?_
   rw[bU,gz];by_cases z:j<M
   ·rw[jQ (by lia)]
    show owner[j]?=some (owner.getD j none);rw[uD,pJ (by rw[I.size];exact z)]
    rfl
   ·rw[zR (by rw[I.size];lia),jf (by rw[fY];lia)]
    rfl
  rw[e1,List.countP_map];refine List.countP_congr λj _=>?_
  simp
 refine⟨_,_,by unfold laid;rw[hl];rfl,?_,?_,λk hk=>?_⟩
 ·rw[bh,aB];exact cC
 ·rw[bh,aB];exact cC
 ·obtain⟨⟨j,v⟩,hm,rfl⟩:=aY.mp hk;obtain⟨j',_,e2⟩:=ly.mp hm;cases z:owner.getD j' none with
  | none=>rw[z]at e2;cases e2
  | some v' =>
   rw[z]at e2;cases e2;refine I.lt v ?_;rw[uD]at z;cases y:owner[j]? with
   | none=>rw[y]at z;cases z
   | some u =>
    rw[y]at z;rw[show u=some v from z]at y
    exact b9 (by rw[gz];exact y)
theorem vQ(j:Nat):has #[] j=false:=by
 unfold has;simp
theorem Bu{t:SetTable}(hd:t.dummies=#[]){j:Nat}(h:j∉t.place.toList):t.slot j=.empty:=by
 unfold slot;have:(t.place[below t.place j]?==some j)=false:=by
  rw[lu];intro e;exact h (b9 (by rw[gz];exact e))
 simp only[this,hd,vQ];rfl
theorem E7{t:SetTable}{j i:Nat}(h:t.slot j=.live i):t.place[i]?=some j:=by
 unfold slot at h;simp only at h;split at h
 ·rename_i e;cases h;exact bq e
 ·split at h<;>cases h
theorem Bv{t:SetTable}(hd:t.dummies=#[]){j:Nat}:t.slot j≠.dummy:=by
 unfold slot;simp only[hd,vQ];split
 ·intro z;cases z
 ·intro z;cases z
def lN(t:SetTable):Nat->Probe->Probe
 | 0,p=>p
 | m+1,p=>lN t m (t.advance p)
theorem pA(t:SetTable):∀(a b:Nat) (p:Probe),lN t (a+b) p=lN t b (lN t a p)
 | 0,b,p=>by rw[gC];rfl
 | a+1,b,p=>by rw[Nat.succ_add];exact pA t a b _
def nZ(t:SetTable)(x:Nat×Nat):Probe:={j:=x.1,more:=runEnd t.mask x.1-x.1,i:=x.1,perturb:=x.2,dummy:=none}
theorem Dv(t:SetTable):∀(c j i p:Nat),lN t (c+1) {j:=j,more:=c,i:=i,perturb:=p,dummy:=none}=nZ t (leap t.mask i p)
 | 0,j,i,p=>rfl
 | c+1,j,i,p=>by
  show lN t (c+1) (t.advance {j:=j,more:=c+1,i:=i,perturb:=p,dummy:=none})=_
  exact Dv t c (j+1) i p
theorem Jl(t:SetTable):∀(n:Nat) (x:Nat×Nat),∃m,m<=10*n/\lN t m (nZ t x)=nZ t (lp t.mask n x)
 | 0,x=>⟨0,aR _,rfl⟩
 | n+1,x=>by
  obtain⟨m,h1,h2⟩:=Jl t n (leap t.mask x.1 x.2);refine⟨runEnd t.mask x.1-x.1+1+m,by have:runEnd t.mask x.1-x.1<=9:=(by unfold runEnd;split<;>lia);lia,?_⟩
  rw[pA,show lN t (runEnd t.mask x.1-x.1+1) (nZ t x)=nZ t (leap t.mask x.1 x.2)from Dv t _ _ _ _,h2]
  rfl
theorem yB{t:SetTable}(hM:t.mask+1∈gG)(hd:t.dummies=#[])(hz:t.place.size<=t.mask)(h:Int):∃m,m<10*turns t.mask/\t.slot (lN t m (t.probeStart h)).j=.empty:=by
 obtain⟨j,hj,hn⟩:∃j,j<t.mask+1/\j∉t.place.toList:=by
  refine uF λz=>?_
  have:=Bs (List.range (t.mask+1)) t.place.toList uP λx hx=>uF λy=>z ⟨x,cZ.mp hx,y⟩
  rw[fY,eY]at this
  lia
 obtain⟨n,h1,h2⟩:=OU hM (i:=bits h%(t.mask+1)) (p:=bits h) (jW _ (Nat.succ_pos _)) (Du h) hj;obtain⟨m,h3,h4⟩:=Jl t n (bits h%(t.mask+1),bits h);refine⟨m,by unfold turns;lia,?_⟩
 rw[show t.probeStart h=nZ t (bits h%(t.mask+1),bits h)from rfl,h4]
 show t.slot (lp t.mask n (bits h%(t.mask+1),bits h)).1=_;rw[show t.mask+1-1=t.mask by lia]at h2
 rw[h2];exact Bu hd hn
theorem qW{t:SetTable}{hashAt:Nat->Int}{h:Int}(hd:t.dummies=#[]):∀(m gi:Nat) (p:Probe),m<gi->p.dummy=none->t.slot (lN t m p).j=.empty ->
  (∃j,probe.go t hashAt h gi p=some (.empty j none))\/∃b i,b<m/\probe.go t hashAt h gi p=some (.candidate (lN t b p).j i (lN t (b+1) p))/\t.slot (lN t b p).j=.live i
 | m,0,_,h,_,_=>absurd h (nC _)
 | m,gi+1,p,hf,hp,he=>by
  unfold probe.go;cases hs:t.slot p.j with
  | empty=>exact .inl ⟨p.j,by rw[hp]⟩
  | dummy=>exact absurd hs (Bv hd)
  | live i =>
   cases m with
   | zero=>rw[show lN t 0 p=p from rfl,hs]at he;cases he
   | succ m =>
    by_cases hh:(hashAt i==h)=true
    ·exact .inr ⟨0,i,Nat.succ_pos _,by simp only[hh,eH];rfl,hs⟩
    ·have u6:(t.advance p).dummy=none:=by
      unfold advance;split
      ·exact hp
      ·exact hp
     rcases qW hd m gi (t.advance p) (by lia) u6 he with⟨j,e⟩ | ⟨b,i',h1,h2,h3⟩
     ·exact .inl ⟨j,by simp only[hh,if_neg];exact e⟩
     ·exact .inr ⟨b+1,i',by lia,by simp only[hh,if_neg];exact h2,h3⟩
section
variable {prog:bc} {w:aM} {A:bD} {E:cf} {s:aq} {K:Type} [DecidableEq K] {knd:KeyKind prog w K} {ks:List K} {a x:ab}
theorem E8(n:Nat){v:ag}(h:carriedByValue v=true):ofAClassStatement n v=pure false:=by
 cases v<;>first | cases h;done | (cases n<;>rfl)
theorem E9(n:Nat){v:ag}(h:carriedByValue v=true):∃b,hashByValue n v=pure b:=by
 cases v<;>first | cases h;done | (cases n<;>exact⟨_,rfl⟩)
theorem uj{Q:Bool->aq->Prop}(hk:IsTupleKey knd s.heap ks a)(h:Q false s):wpAny (model prog w) A (ofAClassStatement 8 (.ref a)) Q E s:=by
 have hT:=hk.typeIs;obtain⟨o,items,n,ho,_,hd,hi⟩:=hk;unfold ofAClassStatement;refine ai (pW hT ?_);dsimp only
 refine ai (aw ?_);simp only[pV,d8,du];refine ai (uT ho hd ?_);dsimp only
 refine ai ?_;rw[<-Array.forIn_toList];refine Ae _ (λrest r s'=>r.1=none/\s'=s/\∀v∈rest,carriedByValue v=true) _ ?_ ?_ _ _ ⟨rfl,rfl,hi.byValue⟩
 ·rintro v rest r s' ⟨hr,rfl,hall⟩
  rw[E8 _ (hall v bz)];refine ai (aw ?_);simp only[d8,du];exact aw ⟨rfl,rfl,λu VW=>hall u (bE _ VW)⟩
 ·rintro⟨r1,r2⟩ s' ⟨hr,rfl,_⟩
  simp only at hr;subst hr;exact aw h
theorem Fb{Q:Bool->aq->Prop}(hk:IsTupleKey knd s.heap ks a)(h:∀b,Q b s):wpAny (model prog w) A (hashByValue 8 (.ref a)) Q E s:=by
 have hT:=hk.typeIs;obtain⟨o,items,n,ho,_,hd,hi⟩:=hk;unfold hashByValue;refine ai (wpAny_specialOf hT F.slot_tuple_hash.lookup ?_);refine ai (uT ho hd ?_);refine ai ?_;show wpAny _ _ (forIn items _ _) _ _ s;rw[<-Array.forIn_toList];refine Ae _ (λrest r s'=>s'=s/\∀v∈rest,carriedByValue v=true) _ ?_ ?_ _ _ ⟨rfl,hi.byValue⟩
 ·rintro v rest r s' ⟨rfl,hall⟩
  obtain⟨b,e⟩:=E9 7 (hall v bz);rw[e];refine ai (aw ?_);cases b with
  | true =>
   simp only[pV,d8,du];exact aw ⟨rfl,λu VW=>hall u (bE _ VW)⟩
  | false =>
   simp only[Bool.not_false,eH];exact aw (aw (h false))
 ·rintro⟨r1,r2⟩ s' ⟨rfl,_⟩
  cases r1 with
  | none=>exact aw (h true)
  | some b=>exact aw (h b)
theorem Bw{Q:Bool->aq->Prop}(hx:IsTupleKey knd s.heap ks x){ys:b6}(hy:∀y∈ys,∃k b,y=.ref b/\IsTupleKey knd s.heap k b)(h:Q false s):wpAny (model prog w) A (searchCouldBeSeen (.ref x) ys) Q E s:=by
 unfold searchCouldBeSeen;refine ai ?_;refine Ae _ (λrest r s'=>r.1=none/\s'=s/\∀y∈rest,∃k b,y=.ref b/\IsTupleKey knd s.heap k b) _ ?_ ?_ _ _ ⟨rfl,rfl,hy⟩
 ·rintro v rest r s' ⟨hr,rfl,hall⟩
  obtain⟨k',b,rfl,hb⟩:=hall v bz;have go:∀y∈rest,∃k b,y=Value.ref b/\IsTupleKey knd s'.heap k b:=λu VW=>hall u (bE _ VW)
  dsimp only
  by_cases hc:((x==b) || (carriedByValue (.ref x)&&carriedByValue (.ref b)))=true
  ·rw[if_pos hc];exact aw ⟨rfl,rfl,go⟩
  ·rw[if_neg hc];refine ai (wpAny_eqIsQuiet_tuple hx ?_);simp only[pV,d8,du];refine ai (wpAny_eqIsQuiet_tuple hb ?_);simp only[pV,d8,du];refine ai (uj hx ?_);simp only[d8,du];refine ai (uj hb ?_);simp only[d8,du];exact aw ⟨rfl,rfl,go⟩
 ·rintro⟨r1,r2⟩ s' ⟨hr,rfl,_⟩
  simp only at hr;subst hr;exact aw h
end
theorem R9{t:SetTable}{f:Nat->Int}{h:Int}{p:Probe}{m:Nat}{GB:Met}(hP:t.probe f h p=some GB)(hd:t.dummies=#[])(hm:m<10*turns t.mask)(hp:p.dummy=none)(he:t.slot (lN t m p).j=.empty) :
  (∃j,GB=.empty j none)\/∃b i,b<m/\GB=.candidate (lN t b p).j i (lN t (b+1) p)/\t.slot (lN t b p).j=.live i:=by
 have hP:probe.go t f h (10*turns t.mask) p=some GB:=hP;rcases qW (hashAt:=f) (h:=h) hd m _ p hm hp he with⟨j,e⟩ | ⟨b,i,h1,h2,h3⟩
 ·rw[hP]at e;exact .inl ⟨j,bg e⟩
 ·rw[hP]at h2;exact .inr ⟨b,i,h1,bg h2,h3⟩
theorem MT{t:SetTable}{f:Nat->Int}{h:Int}{p:Probe}{m:Nat}(hP:∀GB,t.probe f h p=some GB->False)(hd:t.dummies=#[])(hm:m<10*turns t.mask)(hp:p.dummy=none)(he:t.slot (lN t m p).j=.empty):False:=by
 rcases qW (hashAt:=f) (h:=h) hd m _ p hm hp he with⟨j,e⟩ | ⟨b,i,h1,h2,h3⟩
 ·exact hP _ e
 ·exact hP _ h2
section
variable {prog:bc} {w:aM} {K:Type} [DecidableEq K]
structure lO (knd:KeyKind prog w K) (h:Heap) (ks:List (List K)) (es:Array (Int×ag)) (t:SetTable):Prop where
 mask:t.mask+1∈gG
 Ti:t.dummies=#[]
 size:t.place.size=es.size
 room:es.size*5<t.mask*3
 len:es.size=ks.length
 elems:∀e∈es.toList,∃k∈ks,∃b,e.2=.ref b/\IsTupleKey knd h k b
variable {A:bD} {E:cf} {s:aq} {knd:KeyKind prog w K} {ks:List (List K)} {k:List K} {a x:ab} {es:Array (Int×ag)} {ep:Nat} {t:SetTable}
theorem lO.fill{h:Heap}(S:lO knd h ks es t):t.fill=es.size:=by
 unfold SetTable.fill;rw[S.Ti,S.size];rfl
theorem lO.fits{h:Heap}(S:lO knd h ks es t):t.fits es.size=true:=by
 have:=S.room;unfold SetTable.fits;rw[S.fill,S.size];simp only[pS,Bool.true_and,jk]
 lia
theorem lO.way{h:Heap}(S:lO knd h ks es t):t.gaveWay=false:=by
 have:=S.mask;unfold SetTable.gaveWay;simp only[gG,aX,dB,dC]at this;rw[lu]
 lia
theorem uk(t:SetTable):∀(m:Nat) (p:Probe),p.dummy=none->(lN t m p).dummy=none
 | 0,p,h=>h
 | m+1,p,h=>uk t m _ (by
  unfold advance;split
  ·exact h
  ·exact h)
theorem oG{h:Int}{Q:SetFound->aq->Prop}(hS:s.heap.get? a=some (cH es ep t))(S:lO knd s.heap ks es t)(hx:IsTupleKey knd s.heap k x)(hk:k∉ks)(hu:A.units<cLine)(hQ:∀j,Q (.free j false) s){m:Nat}(hm:m<10*turns t.mask)(he:t.slot (lN t m (t.probeStart h)).j=.empty) :
  ∀(gi c:Nat) (Jm:Option Probe),c<=m->m-c<gi->Jm.getD (t.probeStart h)=lN t c (t.probeStart h)->wpAny (model prog w) A (setSearchFrom a (.ref x) h true gi Jm) Q E s
 | 0,c,_,_,hf,_=>absurd hf (nC _)
 | gi+1,c,Jm,hc,hf,vc=>by
  unfold setSearchFrom;refine ai (f6 hS rfl S.fits ?_);dsimp only
  rw[S.way,vc];simp only[d8,du];have XH:t.slot (lN t (m-c) (lN t c (t.probeStart h))).j=.empty:=by
   rw[<-pA,show c+(m-c)=m by lia]
   exact he
  have hpd:(lN t c (t.probeStart h)).dummy=none:=uk t c _ rfl;split
  ·rename_i GB hP;rcases R9 hP S.Ti (m:=m-c) (by lia) hpd XH with⟨j,rfl⟩ | ⟨b,i,hb,rfl,hl⟩
   ·exact aw (hQ j)
   ·have mf:=E7 hl;have hi:i<es.size:=by
     rw[<-S.size];exact(Array.getElem?_eq_some_iff.mp mf).1
    obtain⟨e0,he0⟩:∃e0,es[i]?=some e0:=⟨_,pJ hi⟩
    obtain⟨k',Rj,y,hy,hyk⟩:=S.elems e0 (b9 (by rw[gz];exact he0))
    obtain⟨h0,v0⟩:=e0;simp only at hy;subst hy;have rest:wpAny (model prog w) A (do
      let some (_,y):=es[i]? | unsupported "internal:set-entry"
      let OW <-holding [y] (eqBool y (.ref x))
      let (Ep,_,t') <-setState a
      if true&&OW then return SetFound.there none
      let some same:=t'.sameMemory t.moves t.mask | unsupported "set.changed-during-lookup:is-the-new-block-at-the-old-address"
      let VX <-match(if same then t'.slot (lN t b (lN t c (t.probeStart h))).j else .empty)with
       | .live i'=>match Ep[i']? with
        | some (_,y')=>do pure (if <-isSame y' y then some i' else none)
        | none=>pure none
       | _=>pure none
      match VX with
      | none=>rule "set.search.anew";setSearchFrom a (.ref x) h true gi none
      | some i'=>if OW then return .there (some i')else setSearchFrom a (.ref x) h true gi (some (lN t (b+1) (lN t c (t.probeStart h))))) Q E s:=by
     rw[he0];dsimp only
     refine ai (f7 (wpAny_eqBool_tuple hu hyk hx ?_));rw[e9 (show ¬k'=k from λz=>hk (by rw[<-z];exact Rj))]
     refine ai (f6 hS rfl S.fits ?_);dsimp only
     simp only[uV,d8,du];have Rn:t.sameMemory t.moves t.mask=some true:=by
      unfold sameMemory;simp
     rw[Rn];dsimp only
     simp only[eH];rw[hl];dsimp only
     rw[he0];dsimp only
     refine ai (wpAny_isSame_ref_self ?_);simp only[eH];refine ai (aw ?_);dsimp only
     refine oG hS S hx hk hu hQ hm he gi (c+(b+1)) _ (by lia) (by lia) ?_
     show lN t (b+1) (lN t c (t.probeStart h))=_;rw[<-pA]
    cases Bh:t.led with
    | true =>
     simp only[Bh,pV,d8,du];exact rest
    | false =>
     simp only[Bh,Bool.not_false,eH];refine ai (Bw hx (λv hv=>?_) ?_)
     ·obtain⟨e1,he1,rfl⟩:=aY.mp hv;have hm1:e1∈es.toList:=by
       have:=Array.mem_toList_iff.mp he1;exact Array.mem_toList_iff.mpr (Array.mem_filter.mp this).1
      obtain⟨k2,_,b2,q1,q2⟩:=S.elems e1 hm1;exact⟨k2,b2,q1,q2⟩
     ·simp only[d8,du];exact rest
  ·rename_i hP;exact(MT hP S.Ti (m:=m-c) (by lia) hpd XH).elim
end
theorem qX{xs:Array Nat}{j:Nat}:∀(gi lo hi:Nat),lo<=hi->below.go xs j gi lo hi<=hi
 | 0,lo,hi,h=>h
 | gi+1,lo,hi,h=>by
  unfold below.go;split
  ·dsimp only
   split
   ·exact qX gi _ _ (by lia)
   ·exact bY (qX gi _ _ (by lia)) (by lia)
  ·exact h
theorem yC(xs:Array Nat)(j:Nat):below xs j<=xs.size:=qX _ _ _ (dY _)
theorem ll{α:Type}{xs:Array α}{p:Nat}{x:α}:(insertAt xs p x).toList=xs.toList.take p++x::(xs.toList.drop p).take (xs.size-p):=by
 unfold insertAt;simp[Array.toList_append,Array.toList_extract,List.extract]
theorem lq{α:Type}{xs:Array α}{p:Nat}{x:α}(h:p<=xs.size):(insertAt xs p x).size=xs.size+1:=by
 rw[<-eY,ll];simp only[bX,aZ,gR,lA,eY]
 lia
theorem mN{α:Type}{xs:Array α}{p:Nat}{x y:α}(h:y∈(insertAt xs p x).toList):y∈xs.toList\/y=x:=by
 rw[ll]at h;rcases dM.mp h with z | z
 ·exact .inl (zU z)
 ·rcases aX.mp z with z | z
  ·exact .inr z
  ·exact .inl (List.mem_of_mem_drop (zU z))
section
variable {prog:bc} {w:aM} {K:Type} [DecidableEq K] {A:bD} {E:cf} {s:aq} {knd:KeyKind prog w K} {ks:List (List K)} {k:List K} {a x:ab} {es:Array (Int×ag)} {ep:Nat} {t:SetTable}
theorem Dw{h h':Heap}{b:ab}(x:IsTupleKey knd h k b)(ho:h.get? a=some (cH es ep t))(hs:Heap.SameBut a h h'):IsTupleKey knd h' k b:=by
 obtain⟨o,items,n,e,c,d,i⟩:=x;have hb:b≠a:=λz=>by
  subst z;rw[ho]at e;cases e;cases d
 exact⟨o,items,n,(hs.2 b hb).trans e,c,d,i⟩
theorem MU{mask n:Nat}(hM:mask+1∈gG)(h1:n*5>=mask*3)(h2:(n-1)*5<mask*3)(hn:0<n)(hb:n<1200):sizeAbove (grown n)∈gG/\n<sizeAbove (grown n)/\n*5<(sizeAbove (grown n)-1)*3/\sizeAbove (grown n)<=2048:=by
 simp only[gG,aX,dB,dC]at hM;rcases hM with e | e | e | e | e
 ·obtain rfl:n=5:=by lia
  decide +kernel
 ·obtain rfl:n=19:=by lia
  decide +kernel
 ·obtain rfl:n=77:=by lia
  decide +kernel
 ·obtain rfl:n=307:=by lia
  decide +kernel
 ·lia
theorem Sa{h:Int}{Q:Bool->aq->Prop}(hS:s.heap.get? a=some (cH es ep t))(S:lO knd s.heap ks es t)(hx:IsTupleKey knd s.heap k x)(hk:k∉ks)(hu:A.units<cLine)(hb:es.size+1<1200)
  (hQ:∀h' Ep TX t',Heap.SameBut a s.heap h'->h'.get? a=some (cH Ep TX t')->lO knd h' (ks++[k]) Ep t'->(∀e∈Ep.toList,e∈es.toList\/e.2=.ref x)->Q true {s with heap:=h'}):wpAny (model prog w) A (setAddHashed a (.ref x) h) Q E s:=by
 have VY:=S.room;have hmk:t.mask<=2047:=by
  have:=S.mask;simp only[gG,aX,dB,dC]at this
  lia
 unfold setAddHashed setAddHashedIn;refine f7 (ai (f6 hS rfl S.fits ?_));dsimp only
 rw[show byScan (.ref x) es=false from rfl]
 simp only[d8,du];obtain⟨m,hm,he⟩:=yB S.mask S.Ti (by rw[S.size];lia) h
 refine ai (oG hS S hx hk hu (λj=>?_) hm he 100000 0 none (dY _) (by unfold turns at hm;lia) rfl)
 dsimp only
 refine ai (f6 hS rfl S.fits ?_);dsimp only
 have aaR:t.put j=({t with place:=insertAt t.place (below t.place j) j,dummies:=#[]},below t.place j):=by
  unfold put;rw[S.Ti,vQ];rfl
 rw[aaR];dsimp only
 have yb:below t.place j<=es.size:=by rw[<-S.size];exact yC _ _
 have vR:(insertAt es (below t.place j) (h,Value.ref x)).size=es.size+1:=lq yb;have Sb:(insertAt t.place (below t.place j) j).size=es.size+1:=by rw[lq (yC _ _),S.size]
 have fin:∀pl:Bool,wpAny (model prog w) A (do
   storeSet a (insertAt es (below t.place j) (h,Value.ref x)) {t with place:=insertAt t.place (below t.place j) j,dummies:=#[],plain:=pl}
   if !false&&({t with place:=insertAt t.place (below t.place j) j,dummies:=#[],plain:=pl}:SetTable).tooFull then setRelay a (SetTable.grown (es.size+1))
   return true) Q E s:=λpl=>by
  refine ai (zZ hS rfl ?_ (by rw[vR];exact bY (iH hb) (by decide)))
  have OX:({t with place:=insertAt t.place (below t.place j) j,dummies:=#[],plain:=pl}:SetTable).fill=es.size+1:=by
   show(insertAt t.place (below t.place j) j).size+0=_;rw[Sb]
  have XS:=vG hS (insertAt es (below t.place j) (h,Value.ref x)) {t with place:=insertAt t.place (below t.place j) j,dummies:=#[],plain:=pl}
  have Te:Heap.SameBut a s.heap (s.heap.update a (Obj.putSet (insertAt es (below t.place j) (h,Value.ref x)) {t with place:=insertAt t.place (below t.place j) j,dummies:=#[],plain:=pl})):=jh ..
  have zC:∀(h':Heap),Heap.SameBut a s.heap h'->∀e∈(insertAt es (below t.place j) (h,Value.ref x)).toList,∃k'∈ks++[k],∃b,e.2=.ref b/\IsTupleKey knd h' k' b:=λh' sb e he=>by
   rcases mN he with z | z
   ·obtain⟨k',h1,b,h2,h3⟩:=S.elems e z;exact⟨k',iB _ h1,b,h2,Dw h3 hS sb⟩
   ·subst z;exact⟨k,eG _ (dW.mpr rfl),x,rfl,Dw hx hS sb⟩
  have C7:∀e∈(insertAt es (below t.place j) (h,Value.ref x)).toList,e∈es.toList\/e.2=.ref x:=λe he=>(mN he).imp id λz=>by rw[z]
  have cC:es.size+1=(ks++[k]).length:=by rw[bX,S.len];rfl
  unfold tooFull;rw[OX];dsimp only
  by_cases hf:(es.size+1)*5>=t.mask*3
  ·simp only[hf,decide_true,Bool.not_false,Bool.true_and,eH];obtain⟨g1,g2,g3,g4⟩:=MU S.mask hf (by rw[Nat.add_sub_cancel];exact VY) (Nat.succ_pos _) hb
   have VV:({t with place:=insertAt t.place (below t.place j) j,dummies:=#[],plain:=pl}:SetTable).fits (insertAt es (below t.place j) (h,Value.ref x)).size=true:=by
    unfold SetTable.fits;rw[OX,vR];show((insertAt t.place (below t.place j) j).size==es.size+1&&decide (es.size+1<=t.mask))=true;rw[Sb,pS,Bool.true_and,jk]
    lia
   obtain⟨place,order,l1,l2,l3,l4⟩:=MS g1 t.finger (({t with place:=insertAt t.place (below t.place j) j,dummies:=#[],plain:=pl}:SetTable).movedTo (sizeAbove (grown (es.size+1))-1)) t.led pl (hs:=(insertAt es (below t.place j) (h,Value.ref x)).map (·.1)) (by rw[Array.size_map,vR];exact g2)
   rw[Array.size_map,vR]at l2 l3 l4;have VZ:(order.filterMap ((insertAt es (below t.place j) (h,Value.ref x))[·]?)).size=es.size+1:=by
    rw[<-eY,zP,Gs,<-l3,<-eY,List.countP_eq_length];intro v hv;rw[pJ (by rw[vR];exact l4 v hv)]
    rfl
   refine ai ?_;unfold setRelay;refine ai (f6 XS rfl VV ?_);dsimp only
   rw[if_neg (by have:(2048:Nat)<=sizeLine:=(by decide);lia)]
   have hre:({t with place:=insertAt t.place (below t.place j) j,dummies:=#[],plain:=pl}:SetTable).relaid ((insertAt es (below t.place j) (h,Value.ref x)).map (·.1)) (grown (es.size+1))=_:=l1
   rw[hre];refine ai ?_;show wpAny _ _ (if((order.filterMap ((insertAt es (below t.place j) (h,Value.ref x))[·]?)).size != (insertAt es (below t.place j) (h,Value.ref x)).size)=true then _ else _) _ _ _
   rw[VZ,vR,if_neg (by simp)]
   refine aw ?_;dsimp only
   refine zZ XS rfl ?_ (by rw[VZ];exact bY (iH hb) (by decide))
   refine aw (hQ _ _ _ _ (Te.trans (jh ..)) (vG (s:={s with heap:=_}) XS _ _) ⟨?_,rfl,?_,?_,?_,λe he=>?_⟩ λe he=>?_)
   ·show sizeAbove (grown (es.size+1))-1+1∈gG;rw[show sizeAbove (grown (es.size+1))-1+1=sizeAbove (grown (es.size+1)) by lia]
    exact g1
   ·rw[VZ];exact l2
   ·rw[VZ];exact g3
   ·rw[VZ];exact cC
   ·rw[zP]at he;obtain⟨v,_,hv⟩:=ly.mp he;exact zC _ (Te.trans (jh ..)) e (b9 (by rw[gz];exact hv))
   ·rw[zP]at he;obtain⟨v,_,hv⟩:=ly.mp he;exact C7 e (b9 (by rw[gz];exact hv))
  ·simp only[hf,decide_false,uV,d8,du];exact aw (hQ _ _ _ _ Te XS ⟨S.mask,rfl,by rw[vR];exact Sb,by rw[vR];show(es.size+1)*5<t.mask*3;lia,by rw[vR];exact cC,zC _ Te⟩ C7)
 cases mf:t.plain with
 | true =>
  simp only[eH];refine ai (Fb hx λb=>?_)
  cases b with
  | true=>simp only[eH];exact fin true
  | false=>simp only[d8,du];exact fin false
 | false =>
  simp only[d8,du];refine ai (aw ?_);simp only[eH];exact fin false
end
end PySem
namespace PySem
open PyProof.Rows SetTable
section
variable {prog:bc} {w:aM} {K:Type} [DecidableEq K] {knd:KeyKind prog w K}
theorem lO.moved{h h':Heap}{ks:List (List K)}{es:Array (Int×ag)}{t:SetTable}(S:lO knd h ks es t)(hk:∀e∈es.toList,∃b,e.2=.ref b/\∀o,h.get? b=some o->h'.get? b=some o):lO knd h' ks es t :=
 ⟨S.mask,S.Ti,S.size,S.room,S.len,λe he=>by
  obtain⟨k,h1,b,h2,o,items,n,ho,r⟩:=S.elems e he;obtain⟨b',h3,h4⟩:=hk e he;rw[h2]at h3;cases h3;exact⟨k,h1,b,h2,o,items,n,h4 o ho,r⟩⟩
end
section
variable {prog:bc} {w:aM} {K:Type} [DecidableEq K] {knd:KeyKind prog w K} {A:bD} {R:Result->aq->Prop} {I:ab} {fp wr:List ab} {G:Array GenState->Array GenState->Prop} {n:Nat} {P:Nat->ag->Prop} {St:Nat->aq->Prop}
theorem Fc(W:WalksS prog w A.in1 I fp wr G n P St)(S:ab)(hSf:S∉fp){ks:List (List K)}(hl:ks.length=n)(Bn:ks.Nodup)(hn:n<1199)(hu:A.in1.units<cLine){s₀:aq}
  (Bg:∀i v,P i v->∃b k,v=.ref b/\ks[i]?=some k/\b∉S::wr/\IsTupleKey knd s₀.heap k b) :
  ∀(c i:Nat) (s:aq),n-i=c->i<=n->St i s->(∀b o,b∉S::wr->s₀.heap.get? b=some o->s.heap.get? b=some o) ->
   (∃es ep t,s.heap.get? S=some (cH es ep t)/\lO knd s.heap (ks.take i) es t/\∀e∈es.toList,∃b,e.2=.ref b/\b∉S::wr) ->
   (∀s',Moved (S::wr) G s s'->(∃es ep t,s'.heap.get? S=some (cH es ep t)/\es.size=n/\t.fits es.size=true)->R (.ok (.ret .none)) s') ->
   codeAny (model prog w) A (.builtin "set.update.loop" ⟨[.ref S,.ref I],[]⟩) R s:=by
 have Vt:S∉wr:=λh=>hSf (W.sub _ h)
 have vC:∀b∈wr,b∈S::wr:=λb hb=>bE _ hb
 intro c;induction c with
 | zero =>
  intro i s hk hi vc ho hS hR;have hin:i=n:=by lia
  subst hin;refine lB uG ?_;rw[pM nt _];show wpAny _ A.in1 (pyNext (.ref I) >>= _) _ _ s;refine ai (W.done s _ _ vc λs' hm=>?_)
  show wpAny _ A.in1 (ret Value.none) _ _ s';exact aw (hR s' (hm.mono vC) (by
   obtain⟨es,ep,t,ho,T,_⟩:=hS;exact⟨es,ep,t,hm.heap S _ Vt ho,by rw[T.len,gR];lia,T.fits⟩))
 | succ c ih =>
  intro i s hk hi vc ho hS hR;have dU:i<n:=by lia
  refine lB uG ?_;rw[pM nt _];show wpAny _ A.in1 (pyNext (.ref I) >>= _) _ _ s;refine ai (W.item i s _ _ dU vc λv s' hP Ro hm=>?_)
  obtain⟨b,k,rfl,hki,hbn,aaS⟩:=Bg i v hP;obtain⟨es,ep,tb,hoS,T,hin⟩:=hS;have rN:∀b o,b∉S::wr->s₀.heap.get? b=some o->s'.heap.get? b=some o:=λb o hb e=>hm.heap b o (λz=>hb (bE _ z)) (ho b o hb e)
  have aaT:=hm.heap S _ Vt hoS;have T':lO knd s'.heap (ks.take i) es tb:=T.moved λe he=>by
   obtain⟨b',h1,h2⟩:=hin e he;exact⟨b',h1,λo e=>hm.heap b' o (λz=>h2 (bE _ z)) e⟩
  have OY:IsTupleKey knd s'.heap k b:=by
   obtain⟨o,items,n,h1,r⟩:=aaS;exact⟨o,items,n,rN b o hbn h1,r⟩
  have hnk:k∉ks.take i:=λz=>by
   obtain⟨j,hj,e⟩:=List.getElem_of_mem z;rw[gR]at hj;rw[List.getElem_take]at e;have:=cL.mp hki;obtain⟨h1,h2⟩:=this;exact absurd (h2.trans e.symm) (λy=>(List.pairwise_iff_getElem.mp Bn j i (by lia) h1 (by lia)) y.symm)
  show wpAny _ A.in1 (holding [Value.ref b] (setAdd S (.ref b)) >>= _) _ _ s';refine ai (f7 ?_);unfold setAdd;refine f7 ?_;refine ai (wpAny_pyHash_tuple hu OY ?_);have hsz:es.size=i:=by rw[T.len,gR];lia
  refine Sa (s:={s' with toks:=s'.toks+(k.length+1)}) aaT T' OY hnk hu (by lia) λh' pj Vs t1 hsb hS2 T2 C7=>?_
  have aaU:∀b o,b∉S::wr->s₀.heap.get? b=some o->h'.get? b=some o:=λb o hb e=>(hsb.2 b (λh:b=S=>hb (by rw[h];exact bz))).trans (rN b o hb e)
  have T3:lO knd h' (ks.take (i+1)) pj t1:=by
   rw[List.take_add_one,hki];exact T2
  refine aw ⟨plainId_quiet nt _,ih (i+1) _ (by lia) dU (W.frame _ s' _ _ Ro (Nat.le_add_right ..) λb hb o e=>?_) aaU ⟨pj,Vs,t1,hS2,T3,λe he=>?_⟩ λHr Rq Rt=>?_⟩
  ·exact(hsb.2 b (λh:b=S=>hSf (by rw[<-h];exact hb))).trans e
  ·rcases C7 e he with z | z
   ·exact hin e z
   ·exact⟨b,z,hbn⟩
  ·refine hR Hr (Moved.trans W.gtrans ((hm.mono vC).then_heap (Nat.le_add_right ..) λb o hb e=>?_) Rq) Rt
   exact(hsb.2 b (λh:b=S=>hb (by rw[h];exact bz))).trans e
end
section
variable {prog:bc} {w:aM} {A:bD} {E:cf} {s:aq} {K:Type} [DecidableEq K] {knd:KeyKind prog w K}
set_option maxHeartbeats 3200000 in
theorem Fe{l:ab}{items:Array ag}{ks:List (List K)}{Q:cf}(hh:A.handled=none)(hl:s.heap.IsList l items)(hi:∀(i:Nat) (v:ag),items[i]?=some v->∃b k,v=.ref b/\ks[i]?=some k/\IsTupleKey knd s.heap k b)(hlk:ks.length=items.size)(Bn:ks.Nodup)(hb:items.size<1199)(hu:A.units+3<cLine)
  (h:∀(h':Heap) (tk:Nat) es ep t,h'.get? s.heap.objs.size=some (cH es ep t)->es.size=items.size/\t.fits es.size=true->(∀b o,b<s.heap.objs.size->s.heap.get? b=some o->h'.get? b=some o)->Q (.ref s.heap.objs.size) {s with heap:=h',toks:=tk}) :
  wpAny (model prog w) A (call (.type "set") [.ref l]) Q E s:=by
 obtain⟨c,tl,aam⟩:=F.called_set.mro;have Vv:=F.called_set.made;have vC:=F.called_set.sub;refine pZ (Am ?_);show wpAny _ _ (callAny (.type "set") _) _ _ _;refine aw ⟨Code.quiet_builtin _ (by decide +kernel),lB F.entry_type_call ?_⟩
 rw[Around.under_plain (weight_type_call_type "set" [.ref l] []) rfl];have h1:=F.called_set.notType;have h2:=F.called_set.canCreate;have hct:=F.typeCall_set_1 (.ref l)
 repeat (any_goals (first | assumption | wp_step))
 refine jn (lh (.ref l) (E:=E) (Q₁:=λobj s₁=>obj=.ref s.heap.objs.size/\s₁={s with heap:=s.heap.push {cls:=.type "set",dict:=none,data:=.set #[] 0 (.fresh 0 0 (!BT w))}}) ⟨rfl,rfl⟩) λr s₁ hr=>?_
 cases r with
 | error e=>exact hr
 | ok fl =>
  cases fl with
  | ret obj =>
   obtain⟨rfl,rfl⟩:=hr;obtain⟨led,Bh⟩:∃led,led = !BT w:=⟨_,rfl⟩
   rw[<-Bh];have hS:(s.heap.push {cls:=.type "set",dict:=none,data:=.set #[] 0 (.fresh 0 0 led)}).get? s.heap.objs.size=some {cls:=.type "set",dict:=none,data:=.set #[] 0 (.fresh 0 0 led)}:=dj _ rfl
   have hT:Shared.TypeIs {s with heap:=s.heap.push {cls:=.type "set",dict:=none,data:=.set #[] 0 (.fresh 0 0 led)}} (.ref s.heap.objs.size) "set":=⟨_,hS,rfl⟩
   have hli:=F.called_set.init.lookup;have hbi:=F.called_set.init.bind (.ref s.heap.objs.size)
   repeat (any_goals (first | assumption | wp_step))
   refine jn (codeAny_call_builtin (R:=wants (λr ve=>r=.none/\∃h' tk,ve={s with heap:=h',toks:=tk} /\
     (∃es ep t,h'.get? s.heap.objs.size=some (cH es ep t)/\es.size=items.size/\t.fits es.size=true) /\
     (∀b o,b<s.heap.objs.size->s.heap.get? b=some o->h'.get? b=some o)) E) F.called_set.init.plain F.entry_set_init (check_set_init_1 hT ?_)) λRu ve qR=>?_
   ·obtain⟨ol,C7,hcl,nl,wR⟩:=hl;obtain⟨aan,Iw,Vw,Bi⟩:=ol;simp only at hcl wR;subst hcl;subst wR;have Rv:(s.heap.push {cls:=.type "set",dict:=none,data:=.set #[] 0 (.fresh 0 0 led)}).get? l=some {cls:=.type "list",dict:=Iw,data:=.seq items nl,slots:=Bi}:=bR _ C7
    have aao:=F.sub_list_set;have aap:=F.sub_list_frozenset;have hne:(Value.type "list"==Value.type "dict")=false:=by decide
    have OF:(s.heap.push {cls:=.type "set",dict:=none,data:=.set #[] 0 (.fresh 0 0 led)}).IsList l items:=⟨_,Rv,rfl,nl,rfl⟩
    unfold Builtin.«set.__init__» noKeywords Builtin.Frozenset.updateFrom
    generalize hPI:pyIter=PI
    wp_walk
    subst hPI;refine uK OF ?_;refine ai (wpAny_runValue ?_);have Vx:l<s.heap.objs.size:=bA C7;have hh3:A.in1.in1.in1.handled=none:=by simp[hh]
    have Rx:l≠(s.heap.push {cls:=.type "set",dict:=none,data:=.set #[] 0 (.fresh 0 0 led)}).objs.size:=by
     rw[jl];exact b8 (nz Vx)
    have hSf:s.heap.objs.size∉[(s.heap.push {cls:=.type "set",dict:=none,data:=.set #[] 0 (.fresh 0 0 led)}).objs.size,l]:=by
     rw[jl];simp only[aX,dW,dB,dC,not_or];exact⟨b8 (uQ _),nF Vx⟩
    have Bg:∀(i:Nat) (v:ag),items[i]?=some v->∃b k,v=.ref b/\ks[i]?=some k/\b∉[s.heap.objs.size,(s.heap.push {cls:=.type "set",dict:=none,data:=.set #[] 0 (.fresh 0 0 led)}).objs.size]/\IsTupleKey knd s.heap k b:=λi v hv=>by
     obtain⟨b,k,e1,e2,e3⟩:=hi i v hv;refine⟨b,k,e1,e2,?_,e3⟩;obtain⟨o,_,_,ho,_⟩:=e3;have:=bA ho;rw[jl];simp only[aX,dB,dC,not_or];exact⟨b8 this,b8 (nz this)⟩
    refine Fc (knd:=knd) (s₀:=s) ((Walks.list hh3 _ l Rx items).toS) s.heap.objs.size hSf hlk Bn hb ?hu Bg (items.size-0) 0 _ (by lia) (dY _)
     ⟨⟨_,dj _ rfl,rfl,rfl⟩,(OF.push _)⟩ (λb o _ e=>bR _ (bR _ e)) ?hS0 ?hR
    case hu=>exact hu
    case hS0 =>
     exact⟨#[],0,.fresh 0 0 led,bR _ hS,⟨by show 7+1∈gG;decide,rfl,rfl,by show 0*5<7*3;decide,rfl,λe he=>by cases he⟩,λe he=>by cases he⟩
    case hR =>
     intro s' hm Ry;obtain⟨h',g',d',MA,Ql⟩:=s';have eg:g'=s.gens:=hm.gens;have ed:d'=s.drawn:=hm.drawn;have eo:Ql=s.os:=hm.os;subst eg;subst ed;subst eo;show wpAny _ _ _ _ _ _;refine aw ?_;show wpAny _ _ (ret Value.none) _ _ _;refine aw ⟨rfl,h',MA,rfl,Ry,λb o hb e=>?_⟩
     have hb1:b≠s.heap.objs.size:=b8 hb;have hb2:b≠(s.heap.push {cls:=.type "set",dict:=none,data:=.set #[] 0 (.fresh 0 0 led)}).objs.size:=by
      rw[jl];exact b8 (nz hb)
     exact hm.heap b o (by simp only[aX,dW,dB,dC,not_or];exact⟨hb1,hb2⟩) (bR _ (bR _ e))
   ·cases Ru with
    | error e=>exact qR
    | ok Iy =>
     cases Iy with
     | ret r =>
      obtain⟨rfl,h',tk,rfl,⟨es,ep,t,Ry,Vu⟩,Rj⟩:=qR
      repeat (any_goals (first | assumption | wp_step))
      exact h _ _ es ep t Ry Vu Rj
     | _=>exact qR.elim
  | _=>exact hr.elim
end
end PySem
namespace L2.PL
open PySem PySem.Spec PyProof.Rows
def MV(fe:FE):FE:=λρ=>(fe ρ).bind λp=>match p with
 | .ay ps=>(factsOf ps).bind λks=>if(ks.Nodup/\ps.length<1199)then some (.int ps.length)else none
 | _=>none
theorem yD{K:ah}{F:Hp}:∀{ps:av} {ks:List (List bQ)} {vs:List V},factsOf ps=some ks->aP K F ps vs->ks.length=ps.length/\∀(i:Nat) (v:V),vs[i]?=some v->∃c k,v=.ref c/\ks[i]?=some k/\gI K F c (k.map kV)
 | [],ks,vs,h,b=>by
  cases h;rw[b.bL];exact⟨rfl,λi v z=>by cases z⟩
 | p::r,ks,vs,h,b=>by
  obtain⟨k,h1,h⟩:=ar (show(jF p).bind (λk=>(factsOf r).map λks=>k::ks)=some ks from h)
  cases z:factsOf r with
  | none=>rw[z]at h;cases h
  | some ks' =>
   rw[z]at h;cases h;obtain⟨v,w,rfl,b1,b2⟩:=b.bO;obtain⟨e1,e2⟩:=yD z b2;refine⟨by rw[aZ,aZ,e1],λi u hu=>?_⟩
   cases i with
   | zero =>
    cases hu;obtain⟨c,rfl,hs⟩:=pw h1 b1;exact⟨c,k,rfl,rfl,hs⟩
   | succ i=>exact e2 i u hu
section
variable {X:Cx} {H₀ aa:Hp} {e:aj} {fe:FE} {pos p qJ zp:Pos}
theorem Sd(hh:X.A.handled=none)(hu:X.A.units+10<cLine)(Vy:Gl X "len")(Vz:X.mg "len"=none)(hg:Gl X "set")(hm:X.mg "set"=none)(he:PE X e (tE X.K H₀ aa fe))(hs:starEach [e] X.env=[(false,eval e X.env)]) :
  PE X (.Call (.Name "len" p) [.Call (.Name "set" zp) [e] [] qJ] [] pos) (tE X.K H₀ aa (MV fe)):=by
 intro af s σ H Q I ⟨F,ρ,z,Rp,hf,q⟩;obtain⟨pv,f1,hf⟩:=ar hf;split at hf
 ·rename_i ps;obtain⟨ks,f2,hf⟩:=ar hf;obtain⟨⟨Bn,hl⟩,e0⟩:=aA hf;subst e0;refine Call_ (ld_blt I Vy Vz uU ?_);refine zG (yi rfl ?_) rfl rfl;have hA:=he af s σ H (λv H'=>∃F' l vs,v=.ref l/\cB X.K H₀ aa F' ρ σ H'/\Same F F'/\m8 X.K F' l vs/\aP X.K F' ps vs) I
   ⟨F,ρ,_,Rp,f1,λv H1 F1 R1 s1 b1=>by obtain⟨l,vs,rfl,h1,h2⟩:=aU.mp b1;exact⟨F1,l,vs,rfl,R1,s1,h1,h2⟩⟩
  refine Call_ (ld_blt I hg hm boot_set (jL (yi hs (thn hA λu s1 ⟨v,H1,I1,r1,F1,l,vs,ev,R1,VA,OF,b1⟩=>?_)) hs rfl))
  subst ev;cases r1;obtain⟨aN,r,pl,_⟩:=I1.list (bG R1.sub OF).sq;obtain⟨k1,k2⟩:=yD f2 b1;have cC:aN.length=ps.length:=by rw[<-r.length,b1.length]
  have hsz:aN.toArray.size=ps.length:=by rw[bh];exact cC
  refine Fe (knd:=et X.prog X.w) (items:=aN.toArray) (ks:=ks) hh pl.isList (λi v hv=>?_) (by rw[k1,hsz]) Bn (by lia) (by lia) λh' tk Ep ep t hS h2 hk=>?_
  ·rw[List.getElem?_toArray]at hv;obtain⟨u,hu1⟩:∃u,vs[i]?=some u:=⟨_,cx (by rw[r.length];exact(cL.mp hv).1)⟩
   obtain⟨v',V0,hu2⟩:=r.get hu1;rw[hv]at V0;cases V0;obtain⟨c,k,rfl,g1,g2⟩:=k2 i u hu1;cases hu2;exact⟨c,k,rfl,g1,key_is I1 (aQ R1.sub g2)⟩
  ·obtain⟨h3,h4⟩:=h2;rw[hsz]at h3;have I2:Inv X af σ H1 {s1 with heap:=h',toks:=tk}:=I1.kept λb o e=>hk b o (bA e) e
   refine call_len_set hS ⟨rfl,rfl,rfl⟩ rfl h4 (by rw[h3];have h63:(2:Int)^63=9223372036854775808:=(by decide);lia) ?_
   refine⟨.int Ep.size,H1,I2.tok _,⟨_,rfl⟩,q _ _ _ R1 VA (aF.mpr ?_)⟩;rw[h3]
 ·cases hf
end
section
variable {X:Cx} {H₀ aa:Hp} {x:Str} {p pos:Pos} {i:Nat}
def Fg(i:Nat):FS:=λρ=>match ρ[i]? with
 | some (.cg m)=>some (.rt (.cg m))
 | _=>none
theorem Se(h:PE X (.Name x p) (iS i)):PS X (.Return (some (.Name x p)) pos) (tS X H₀ aa (Fg i)):=(vb h).imp <| by
 rintro D σ H ⟨F,ρ,o,R,hf,q⟩
 unfold Fg at hf;split at hf
 ·rename_i m z;cases hf;obtain⟨a,h1,h2,h3,h4⟩:=R.cg i m z;exact⟨_,h1,q a F H R.post (Same.refl F) h2 h3 h4⟩
 ·cases hf
def Fh(i:Nat)(g:av->cz)(ts:bF):FS:=λρ=>(ts ρ).bind λas=>(g as).bind λen=>match en with
 | .cg (.t kvs)=>if i<ρ.length then some (.nx (ρ.set i (.cg (.t kvs))))else none
 | _=>none
theorem Jn{n:Nat}{g:av->cz}{ts:bF}{D:jG}{σ:St}{H:Hp}{E:XK}(h:tS X H₀ aa (Fh i (aW n g) ts) D σ H):lF (tu (xY X.K n g) [] E (tA X.K H₀ aa ts)) (gName i) D σ H:=by
 obtain⟨F,ρ,o,R,hf,q⟩:=h;obtain⟨as,h1,hf⟩:=ar hf;obtain⟨en,h2,hf⟩:=ar hf;obtain⟨hl,h3⟩:=ax (show(if as.length=n then g as else none)=some en from h2)
 split at hf
 ·rename_i kvs;obtain⟨hi,rfl⟩:=aA hf;refine⟨F,ρ,as,R,h1,λvs H1 F1 R1 s1 b1=>?_⟩
  show xY X.K n g (vs++[]) H1 _ E;rw[fH];refine⟨F1,as,_,R1.sub,b1,hl,h3,λa F2 H2 P ff hd hn fn=>?_⟩
  exact q F2 _ _ ((R1.after P.keep P.base P.sub P.fresh).vN hi (m:=.t kvs) hd (R1.keep.free hn) fn) (s1.trans ff)
 ·cases hf
end
structure Gm where
 sc:List (Str×NameKind)
 N:List Str
 fns:List (Str×Nat)
 cons:List (Str×PV)
 dg:List Str
 chg:List Str
 own:Bool
 call:f9
 exc:List Str
 sub:List ((Str×Str)×Bool)
 tabs:List (Str×List (Str×Str))
 OZ:List Str
 yE:List (Str×Nat)
 mj:Str->Ob->av->cz
 cls:List (Str×Nat)
 make:Str->av->Option (List (Str×Fd))
 flds:List Str
 fy:List (Str×List (Str×PV))
 wU:Bool
 NY:List Str
 dct:List Str
 K5:List Str
def slot(Γ:Gm)(x:Str):Option Nat:=Γ.N.findIdx? (· == x)
def rO(Γ:Gm)(x:Str):Bool:=match Γ.sc.lookup x with | some .local=>true | some .cell=>true | some .free=>true | _=>false
def wV(Γ:Gm)(x:Str):Bool:=match Γ.sc.lookup x with | some .local=>true | some .cell=>Γ.own | _=>false
def sj(Γ:Gm)(x:Str):Bool:=match Γ.sc.lookup x with | some .globalImplicit=>true | _=>false
def cu(x:Str):Bool:=!(x==("__debug__":Str))&&!(x==("__classdict__":Str))&&!(x==("__name__":Str))
structure Jo (Γ:Gm) (X:Cx):Prop where
 ex:∃p q fs fT IF Dj k,IE X.K X.mg p q fs fT IF Dj/\dR (k+2) X.A /\
  (∀x n,Γ.fns.lookup x=some n->∃j f fd ps,j<=k/\FnOk X.prog X.w X.K X.mg X.base (jK X.prog X.w) j f fd ps (xY X.K n (Γ.call x))/\X.mg x=some (.ref f)/\W.keepIn X.K (.ref f)=true/\eL X.K fd ps []) /\
  ∀x n,Γ.yE.lookup x=some n->∃j f fd ps,j<=k/\FnOk X.prog X.w X.K X.mg X.base (jK X.prog X.w) j f fd ps (OS X.K n (Γ.mj x))/\X.mg x=some (.ref f)/\W.keepIn X.K (.ref f)=true/\eL X.K fd ps []
 lam:OL X
structure V1 (Γ:Gm) (X:Cx):Prop where
 yE:aaP X Γ.yE Γ.mj
 ns:∀x a,W.nsIn X.K mainGlobals x=some (some (.ref a))->X.mg x=some (.ref a)
 cls:∀C n,Γ.cls.lookup C=some n->∃k Ca f fd ps,Mk X.K Ca f/\S5 X.K Ca/\(∀f,Γ.flds.contains f=true->nI X.K Ca f)/\FnOk X.prog X.w X.K X.mg X.base (jK X.prog X.w) k f fd ps (spI X.K n (Γ.make C))/\dR (k+1) X.A/\X.mg C=some (.ref Ca)/\eL X.K fd ps []
 fy:∀T rows,Γ.fy.lookup T=some rows->Bk X.K X.mg X.w.params T rows
 wU:Γ.wU=true->Jo Γ X
structure GOk (Γ:Gm) (X:Cx):Prop where
 names:X.env.scope.names=Γ.sc
 N:X.N=Γ.N
 nd:X.N.Nodup
 kind:X.env.scope.kind=.function
 calm:X.calm=true
 hd:X.A.handled=none
 un:X.A.units+1150<cLine
 own:Γ.own=true->∀x,X.fn x=true
 fns:∀x n,Γ.fns.lookup x=some n->∃k f fd ps,FnOk X.prog X.w X.K X.mg X.base (jK X.prog X.w) k f fd ps (xY X.K n (Γ.call x))/\dR k X.A/\X.mg x=some (.ref f)/\W.keepIn X.K (.ref f)=true/\eL X.K fd ps []
 cons:∀x p,Γ.cons.lookup x=some p->∃u v,X.mg x=some u/\RelV v u/\∀F,cI X.K F p v
 dg:∀x,Γ.dg.contains x=true->X.mg x=none
 excs:∀C,Γ.exc.contains C=true->sM X.K C
 subs:∀C D b,Γ.sub.lookup (C,D)=some b->Ik X.K X.mg C D b
 tabs:∀T rows,Γ.tabs.lookup T=some rows->C9 X.K X.mg X.w.params T rows
 su:V1 Γ X
def bZ:aj->Bool
 | .Starred _ _=>false
 | .Set _ _ _=>false
 | _=>true
def gK:aj->Bool
 | .Slice _ _ _ _=>false
 | _=>true
def Dx:aj->Bool
 | .Tuple _ _ _=>false
 | .ListComp _ _ _ _=>false
 | .SetComp _ _ _ _=>false
 | .DictComp _ _ _ _ _=>false
 | _=>true
def n0:aj->Bool
 | .ListComp _ _ _ _=>false
 | .SetComp _ _ _ _=>false
 | .DictComp _ _ _ _ _=>false
 | _=>true
theorem vS{e:aj}(h:Dx e=true):n0 e=true:=by
 cases e<;>first | rfl | cases h
def Jp:aj->Bool
 | .UnaryOp .Not _ _=>false
 | .BoolOp _ _ _=>false
 | .IfExp _ _ _ _=>false
 | .Compare _ _ _ _=>false
 | _=>true
theorem aO{e:aj}(h:bZ e=true)(es:List aj)(env:Env):starEach (e::es) env=(false,eval e env)::starEach es env:=by
 cases e<;>first | rfl | cases h
theorem iw{e:aj}(h:bZ e=true)(op:CmpOp):behindInMarks op e=false:=by
 cases e<;>first | rfl | cases h
theorem Bx{e:aj}(h:bZ e=true)(env:Env)(x:ag):foldedSetIterable e env x=pure x:=by
 cases e<;>first | rfl | cases h
theorem kc{e:aj}(h:gK e=true):kA e:=by
 intro o i;cases e<;>first | rfl | cases h
theorem Jq{e:aj}(h:Jp e=true)(env:Env)(ip:Sem ag):isTrue e env ip=(do let v <-ip;standAt e.pos;holding [v] (truthy v)):=by
 cases e with
 | UnaryOp op a p=>cases op<;>first | rfl | cases h
 | BoolOp _ _ _=>cases h
 | IfExp _ _ _ _=>cases h
 | Compare _ _ _ _=>cases h
 | _=>rfl
theorem fA{e:aj}(h:n0 e=true)(t:Option aj)(l:Nat)(env:Env):swapsWith e t l env=pure false:=by
 cases e<;>first | rfl | cases h
theorem fB{es:List aj}(h:es.all bZ=true)(env:Env)(pos:Pos):(backTo pos (starEach es env)).any (·.1)=false:=by
 induction es with
 | nil=>rfl
 | cons e es ih =>
  rw[gB,aG]at h;rw[aO h.1];exact ih h.2
noncomputable def oZ:Nat->Gm->aj->Option (eI×List Nat)
 | 0,_,_=>none
 | n+1,Γ,e=>match e with
  | .Name x _=>if wV Γ x=true then(slot Γ x).map λi=>(aD i,[i])else none
  | .Tuple es _ _=>(es.foldr (λe r=>(oZ n Γ e).bind λg=>r.map λgs=>(b0 g.1 gs.1,g.2++gs.2)) (some (fP,[]))).map λgs=>(gE es.length gs.1,gs.2)
  | _=>none
theorem Jr{Γ:Gm}{x:Str}{i:Nat}(h:slot Γ x=some i):Γ.N[i]?=some x:=by
 unfold slot at h;obtain⟨hi,hp,_⟩:=Gr.mp h;rw[cx hi];exact dw some (bq hp)
section
variable {Γ:Gm} {X:Cx} {x:Str} {pos:Pos}
theorem GOk.Js(G:GOk Γ X)(h:rO Γ x=true):S8 X.env.scope x:=by
 unfold rO at h;unfold S8;rw[G.names];split at h<;>simp_all
theorem GOk.Sf(G:GOk Γ X)(h:wV Γ x=true):NZ X.env.scope x/\(X.fn x=true\/X.env.scope.names.lookup x=some .local):=by
 unfold wV at h;unfold NZ;rw[G.names];split at h
 ·rename_i z;exact⟨.inl z,.inr z⟩
 ·rename_i z;exact⟨.inr z,.inl (G.own h x)⟩
 ·cases h
theorem GOk.iM(G:GOk Γ X)(h:sj Γ x=true):Gl X x:=by
 unfold sj at h;show X.env.scope.names.lookup x=_;rw[G.names];split at h
 ·assumption
 ·cases h
theorem GOk.i9(G:GOk Γ X){i:Nat}(h:slot Γ x=some i):X.N[i]?=some x:=by
 rw[G.N];exact Jr h
theorem jw(G:GOk Γ X):∀(n:Nat) (e:aj) (g:eI×List Nat),oZ n Γ e=some g->(∀H₀ aa:Hp,PG X e (tG X.K H₀ aa g.1))/\KG g.2 g.1/\(∀env:Env,(assignEach [e] env).map (·.2)=[assign e env])/\∀(es:List aj) (env:Env),assignEach (e::es) env=(false,assign e env)::assignEach es env
 | 0,_,_,h=>by cases h
 | n+1,e,g,h=>by
  cases e with
  | Name x p =>
   have h:(if wV Γ x=true then(slot Γ x).map λi=>(aD i,[i])else none)=some g:=h
   obtain⟨hs,h⟩:=ax h;cases z:slot Γ x with
   | none=>rw[z]at h;cases h
   | some i =>
    rw[z]at h;cases h;obtain⟨h1,h2⟩:=G.Sf hs;exact⟨λH₀ aa=>QM i (Cz G.nd (G.i9 z) h1 h2),LR i,λ_=>rfl,λ_ _=>rfl⟩
  | Tuple es k p =>
   have all:∀(es:List aj) (gs:(av->aE->Option aE)×List Nat),es.foldr (λe r=>(oZ n Γ e).bind λg=>r.map λgs=>(b0 g.1 gs.1,g.2++gs.2)) (some (fP,[]))=some gs ->
     (∀H₀ aa:Hp,Gh X es (U0 X.K H₀ aa gs.1))/\U8 gs.2 gs.1/\∀env:Env,(assignEach es env).length=es.length/\(assignEach es env).findIdx? (·.1)=none:=by
    intro es;induction es with
    | nil =>
     intro gs h;cases h;exact⟨λH₀ aa=>QN,LU,λenv=>⟨rfl,rfl⟩⟩
    | cons e es ih =>
     intro gs h;rw[List.foldr_cons]at h;obtain⟨g1,e1,h⟩:=ar h;cases z:es.foldr (λe r=>(oZ n Γ e).bind λg=>r.map λgs=>(b0 g.1 gs.1,g.2++gs.2)) (some (fP,[]))with
     | none=>rw[z]at h;cases h
     | some g2 =>
      rw[z]at h;cases h;obtain⟨a1,a2,a3,a4⟩:=jw G n e g1 e1;obtain⟨b1,b2,b3⟩:=ih g2 z;refine⟨λH₀ aa=>LO (a1 H₀ aa) (b1 H₀ aa) (by rw[a4];rfl),HL a2 b2,λenv=>?_⟩
      rw[a4];obtain⟨c1,c2⟩:=b3 env;exact⟨by rw[aZ,aZ,c1],by rw[List.findIdx?_cons];simp[c2]⟩
   have h:(es.foldr (λe r=>(oZ n Γ e).bind λg=>r.map λgs=>(b0 g.1 gs.1,g.2++gs.2)) (some (fP,[]))).map (λgs=>(gE es.length gs.1,gs.2))=some g:=h
   cases z:es.foldr (λe r=>(oZ n Γ e).bind λg=>r.map λgs=>(b0 g.1 gs.1,g.2++gs.2)) (some (fP,[]))with
   | none=>rw[z]at h;cases h
   | some gs =>
    rw[z]at h;cases h;obtain⟨b1,b2,b3⟩:=all es gs z;exact⟨λH₀ aa=>U1 G.calm (b1 H₀ aa) (b3 _).1 (b3 _).2,QO b2,λ_=>rfl,λ_ _=>rfl⟩
  | _=>cases h
end
def By(x:Str):Option (av->bP) :=
 if x==("len":Str)then some dZ
 else if x==("tuple":Str)then some qG
 else if x==("list":Str)then some Ib
 else if x==("int":Str)then some A4
 else if x==("sum":Str)then some A5
 else if x==("sorted":Str)then some Dd
 else if x==("str":Str)then some Mq
 else none
def vT(x:Str):List aj->Option (Str×List aj)
 | [.Call (.Name z _) [.List l _] [] _]=>if(x==("sorted":Str)&&z==("set":Str))=true then some (z,l)else none
 | _=>none
theorem vU{x:Str}{es:List aj}{z:Str}{l:List aj}(h:vT x es=some (z,l)):x="sorted"/\z="set"/\∃p lp pos,es=[.Call (.Name z p) [.List l lp] [] pos]:=by
 unfold vT at h;split at h
 ·split at h
  ·rename_i hc;cases h;rw[aG]at hc;exact⟨bq hc.1,bq hc.2,_,_,_,rfl⟩
  ·cases h
 ·cases h
def vV(x:Str):List aj->Option (Str×aj×List aj)
 | [.Call (.Name z _) (b::bs) [] _]=>if(x==("list":Str)&&z==("range":Str))=true then some (z,b,bs)else none
 | _=>none
theorem vW{x:Str}{es:List aj}{z:Str}{b:aj}{bs:List aj}(h:vV x es=some (z,b,bs)):x="list"/\z="range"/\∃p pos,es=[.Call (.Name z p) (b::bs) [] pos]:=by
 unfold vV at h;split at h
 ·split at h
  ·rename_i hc;cases h;rw[aG]at hc;exact⟨bq hc.1,bq hc.2,_,_,rfl⟩
  ·cases h
 ·cases h
def kh(scope:Scope):List Str:=(scope.names.filter λy=>match y.2 with | .local=>true | .free=>true | _=>false).map (·.1)
def eQ(Γ:Gm)(scope:Scope):List (Option Nat):=(kh scope).map λx=>match scope.names.lookup x with | some .free=>slot Γ x | _=>none
def Bz(Γ:Gm)(scope:Scope):List (Str×NameKind):=scope.names.map fun(n,k)=>if(k==NameKind.free&&Γ.sc.lookup n==some .cell)then(n,NameKind.cell)else(n,k)
def oH(Γ:Gm)(scope:Scope):Gm:={Γ with sc:=Bz Γ scope,N:=kh scope,chg:=[],own:=false,wU:=false}
def vX:ScopeKind->Bool
 | .function=>true
 | _=>false
def ki(Γ:Gm)(scope:Scope)(L:List Nat):Bool :=
 vX scope.kind&&scope.names.all (λy=>match y.2 with
  | .cell=>false
  | .local=>(match scope.names.lookup y.1 with | some .local=>true | _=>false)
  | .free=>(match Γ.sc.lookup y.1 with | some .cell=>true | some .free=>true | _=>false)
  | _=>true)&&decide (kh scope).Nodup&&L.all λi=>match(eQ Γ scope)[i]? with | some none=>true | _=>false
def vY:Arguments->Option (Str×Pos)
 | ⟨[],[⟨x,none,ap⟩],none,[],[],none,[]⟩=>some (x,ap)
 | _=>none
def isFree(k:Option NameKind):Bool:=match k with | some .free=>true | _=>false
def vZ(scope:Scope):List Str:=(scope.names.filter λy=>isFree (some y.2)).map (·.1)
def pB(Γ:Gm)(scope:Scope):List (Option Nat):=(vZ scope).map (slot Γ)
def V2(Γ:Gm)(x:Str)(scope:Scope):Gm:={Γ with sc:=scope.names,N:=x::vZ scope,chg:=[],own:=false,wU:=false,cls:=[]}
def Jt(Γ:Gm)(x:Str)(scope:Scope):Bool :=
 vX scope.kind&&!scope.isCoroutine&&!scope.isGenerator&&(match scope.names.lookup x with | some .local=>true | _=>false)&&scope.names.all (λy=>match y.2 with
  | .cell=>false
  | .free=>(match Γ.sc.lookup y.1 with | some .cell=>true | some .free=>true | _=>false)&&isFree (scope.names.lookup y.1)
  | _=>true)&&decide (x::vZ scope).Nodup
def Ju(Γ:Gm)(x:Str)(f:FE):FE:=if(x==("len":Str)&&!Γ.chg.isEmpty)=true then lH f else f
theorem MW{Γ:Gm}{X:Cx}{x:Str}{e:aj}{f:FE}{H₀ aa:Hp}(h:PE X e (tE X.K H₀ aa f)):PE X e (tE X.K H₀ aa (Ju Γ x f)):=by
 unfold Ju;split
 ·exact HP h
 ·exact h
def isQ:aj->Bool
 | .Attribute _ _ _=>true
 | .Call (.Name _ _) (_::_) [] _=>true
 | .Call (.Subscript _ _ _) (_::_) [] _=>true
 | .Subscript (.Name _ _) _ _=>true
 | _=>false
def Dy:aj->Option (Option aj×Option aj)
 | .Slice lo hi none _=>some (lo,hi)
 | _=>none
theorem v5{e:aj}{lo hi:Option aj}(h:Dy e=some (lo,hi)):∃p,e=.Slice lo hi none p:=by
 cases e<;>first | (cases h;done) | skip
 rename_i a b c p;cases c<;>first | (cases h;done) | skip
 cases h;exact⟨p,rfl⟩
def BA:aj->Option (Str×aj)
 | .Call (.Name z _) [e] [] _=>some (z,e)
 | _=>none
theorem yF{a:aj}{z:Str}{e:aj}(h:BA a=some (z,e)):∃zp qJ,a=.Call (.Name z zp) [e] [] qJ:=by
 unfold BA at h;split at h
 ·cases h;exact⟨_,_,rfl⟩
 ·cases h
def pC(Γ:Gm):aj->Option Nat
 | .Name y _=>if(cu y&&rO Γ y&&Γ.dct.contains y)=true then slot Γ y else none
 | _=>none
mutual
noncomputable def cm:Nat->Gm->aj->Option FE
 | 0,_,_=>none
 | n+1,Γ,e=>match(match isQ e with | true=>MX n Γ e | false=>none)with | some f=>some f | none=>match e with
  | .Constant (.int i) _ _=>some λ_=>some (.int i)
  | .Constant (.bool i) _ _=>some λ_=>some (.bl i)
  | .Constant .none _ _=>some λ_=>some .cM
  | .Constant (.str i) _ _=>some λ_=>some (.str i)
  | .Name x _=>if cu x=true then(if rO Γ x=true then(slot Γ x).map rd else if sj Γ x=true then(Γ.cons.lookup x).map λp=>λ_=>some p else none)else none
  | .BinOp a op b _=>(QS op).bind λg=>(cm n Γ a).bind λfa=>(cm n Γ b).map λfb=>ak fa fb g
  | .UnaryOp .Not a _=>(cm n Γ a).map AW
  | .UnaryOp .USub a _=>(cm n Γ a).map Q6
  | .BoolOp op vs _=>Jv n Γ op vs
  | .Compare a [op] [b] _=>if bZ b=true then(A2 op).bind λg=>(cm n Γ a).bind λfa=>(cm n Γ b).map λfb=>ak fa fb g else none
  | .Compare a [op,vh] [b,c] _=>if bZ c=true then(A2 op).bind λg=>(A2 vh).bind λg'=>(cm n Γ a).bind λfa=>(cm n Γ b).bind λfb=>(cm n Γ c).map λfc=>chain fa fb fc g g' else none
  | .IfExp c a b _=>(sv n Γ c).bind λgc=>(cm n Γ a).bind λfa=>(cm n Γ b).map λfb=>xX gc fa fb
  | .Tuple es _ _=>(kj n Γ es).map bM
  | .List es _=>(kj n Γ es).map λts=>cq (dG ts)
  | .Subscript a b _=>(match Dy b with
   | some (lo,hi)=>(cm n Γ a).bind λfa=>(Fi n Γ lo).bind λfl=>(Fi n Γ hi).map λfh=>cutE fa fl fh
   | none=>if gK b=true then(cm n Γ a).bind λfa=>(cm n Γ b).map λfb=>ak fa fb bC else none)
  | .ListComp elt [⟨tg,iter,ifs,0⟩] scope _=>(Jw n Γ elt tg iter ifs scope).map cq
  | .Call (.Name x _) (a::es) [] _=>if(cu x&&sj Γ x&&(a::es).all bZ)=true then(match Γ.fns.lookup x with
    | some m=>(kj n Γ (a::es)).map λts=>aK (aW m (Γ.call x)) ts
    | none=>if Γ.dg.contains x=true then(if x==("isinstance":Str)then Jx n Γ (a::es)else match vT x (a::es)with
     | some (z,l)=>if(sj Γ z&&Γ.dg.contains z)=true then(kj n Γ l).map Rz else none
     | none=>match vV x (a::es)with
     | some (z,b,bs)=>if(sj Γ z&&Γ.dg.contains z&&(b::bs).all bZ)=true then(kj n Γ (b::bs)).map λts=>cq (lrg ts)else none
     | none=>(By x).bind λg=>(kj n Γ (a::es)).map λts=>Ju Γ x (dh g ts))else none)else none
  | .Call (.Subscript (.Name T _) ke _) (a::es) [] _=>if(cu T&&sj Γ T&&gK ke&&(a::es).all bZ)=true then(Γ.tabs.lookup T).bind λrows=>(cm n Γ ke).bind λfk=>(kj n Γ (a::es)).map λts=>ES rows Γ.fns Γ.call fk ts else none
  | _=>none
noncomputable def MX:Nat->Gm->aj->Option FE
 | 0,_,_=>none
 | n+1,Γ,e=>match e with
  | .Call (.Name x _) (a::es) [] _=>Dz n Γ x a es
  | .Subscript (.Name T _) ke _=>if(cu T&&gK ke)=true then(if(rO Γ T&&Γ.NY.contains T)=true then(slot Γ T).bind λi=>(cm n Γ ke).map λfk=>getD i fk else if(rO Γ T&&Γ.chg.contains T)=true then(slot Γ T).bind λi=>(cm n Γ ke).map λfk=>VE i fk else none)else none
  | _=>none
noncomputable def Dz:Nat->Gm->Str->aj->List aj->Option FE
 | 0,_,_,_,_=>none
 | n+1,Γ,x,a,es=>match es with
  | [.Lambda args body scope _]=>if(x==("spread":Str)&&sj Γ x&&Γ.wU&&bZ a)=true then(vY args).bind λxa=>if Jt Γ xa.1 scope=true then(cm n Γ a).bind λfe=>(cm n (V2 Γ xa.1 scope) body).map λfb=>cq (jv fe fb (pB Γ scope))else none else none
  | []=>if(x==("len":Str)&&sj Γ x&&Γ.dg.contains x)=true then(match pC Γ a with
   | some i=>some (MR i)
   | none=>(BA a).bind λze=>if(ze.1==("set":Str)&&sj Γ ze.1&&Γ.dg.contains ze.1&&bZ ze.2)=true then(cm n Γ ze.2).map MV else none)else none
  | [b,d]=>if(cu x&&sj Γ x&&bZ a&&bZ b)=true then(Γ.yE.lookup x).bind λm=>(pC Γ d).bind λi=>(cm n Γ a).bind λf1=>(cm n Γ b).map λf2=>Bq (RC m (Γ.mj x)) i f1 f2 else none
  | _=>none
noncomputable def Jy:Nat->Gm->aj->Option VD
 | 0,_,_=>none
 | n+1,Γ,e=>none
noncomputable def sv:Nat->Gm->aj->Option fj
 | 0,_,_=>none
 | n+1,Γ,e=>match e with
  | .UnaryOp .Not a _=>(sv n Γ a).map kW
  | .BoolOp op vs _=>Jz n Γ op vs
  | .Compare a [op] [b] _=>match pC Γ b with
   | some i=>(VT op).bind λq=>(cm n Γ a).map λfk=>inB q i fk
   | none=>if bZ b=true then(A2 op).bind λg=>(cm n Γ a).bind λfa=>(cm n Γ b).map λfb=>toB (ak fa fb g)else none
  | .Compare a [op,vh] [b,c] _=>if bZ c=true then(A2 op).bind λg=>(A2 vh).bind λg'=>(cm n Γ a).bind λfa=>(cm n Γ b).bind λfb=>(cm n Γ c).map λfc=>toB (chain fa fb fc g g')else none
  | e=>if Jp e=true then(cm n Γ e).map toB else none
noncomputable def Jv:Nat->Gm->BoolOp->List aj->Option FE
 | 0,_,_,_=>none
 | n+1,Γ,op,[a]=>cm n Γ a
 | n+1,Γ,.And,a::b::r=>(cm n Γ a).bind λfa=>(Jv n Γ .And (b::r)).map λfb=>qw fa fb
 | n+1,Γ,.Or,a::b::r=>(cm n Γ a).bind λfa=>(Jv n Γ .Or (b::r)).map λfb=>Vk fa fb
 | _,_,_,_=>none
noncomputable def Jz:Nat->Gm->BoolOp->List aj->Option fj
 | 0,_,_,_=>none
 | n+1,Γ,op,[a]=>sv n Γ a
 | n+1,Γ,.And,a::b::r=>(sv n Γ a).bind λfa=>(Jz n Γ .And (b::r)).map λfb=>AV fa fb
 | n+1,Γ,.Or,a::b::r=>(sv n Γ a).bind λfa=>(Jz n Γ .Or (b::r)).map λfb=>Gi fa fb
 | _,_,_,_=>none
noncomputable def kj:Nat->Gm->List aj->Option bF
 | 0,_,_=>none
 | n+1,Γ,[]=>some ao
 | n+1,Γ,e::es=>if bZ e=true then(cm n Γ e).bind λf=>(kj n Γ es).map λfs=>ae f fs else none
noncomputable def Fi:Nat->Gm->Option aj->Option FO
 | 0,_,_=>none
 | n+1,Γ,none=>some C3
 | n+1,Γ,some e=>(cm n Γ e).map ee
noncomputable def Jx:Nat->Gm->List aj->Option FE
 | 0,_,_=>none
 | n+1,Γ,[a,.Name t _]=>if(cu t&&sj Γ t&&Γ.dg.contains t)=true then(C5 t).bind λg=>(cm n Γ a).map λfa=>C6 g fa else none
 | _,_,_=>none
noncomputable def JA:Nat->Gm->aj->aj->Option bF
 | 0,_,_,_=>none
 | n+1,Γ,tg,e=>match e with
  | .Call (.Name x _) [a] [] _=>if(x==("range":Str)&&sj Γ x&&Γ.dg.contains x&&bZ a)=true then(kj n Γ [a]).map fQ
    else if(x==("enumerate":Str)&&sj Γ x&&Γ.dg.contains x&&bZ a&&OA tg)=true then(cm n Γ a).map qH
    else(cm n Γ e).map dH
  | .Call (.Name x _) [a,b] [] _=>if(x==("range":Str)&&sj Γ x&&Γ.dg.contains x&&bZ a&&bZ b)=true then(kj n Γ [a,b]).map OR else(cm n Γ e).map dH
  | e=>if bZ e=true then(cm n Γ e).map dH else none
noncomputable def Jw:Nat->Gm->aj->aj->aj->List aj->Scope->Option bF
 | 0,_,_,_,_,_,_=>none
 | n+1,Γ,elt,tg,iter,ifs,scope=>if bZ iter=true then(JA n Γ tg iter).bind λfi=>(oZ n (oH Γ scope) tg).bind λg=>if ki Γ scope g.2=true then(match ifs with
   | []=>(cm n (oH Γ scope) elt).map λfe=>cW (eQ Γ scope) fi g.1 fe
   | [c]=>(sv n (oH Γ scope) c).bind λft=>(cm n (oH Γ scope) elt).map λfe=>CV (eQ Γ scope) fi g.1 ft fe
   | _=>none)else none else none
end
theorem ej{x:Str}(h:cu x=true):(x==("__debug__":Str))=false/\(x==("__classdict__":Str))=false/\x≠"__name__":=by
 unfold cu at h;simp only[aG,Bool.not_eq_true']at h;exact⟨h.1.1,h.1.2,by simpa using h.2⟩
theorem au{α β:Type}{o:Option α}{f:α->β}{b:β}(h:o.map f=some b):∃a,o=some a/\f a=b:=by
 cases o with
 | none=>cases h
 | some a=>exact⟨a,rfl,bg h⟩
theorem qY{Γ:Gm}{X:Cx}{e:aj}{i:Nat}(G:GOk Γ X)(h:pC Γ e=some i):∃y yp,e=.Name y yp/\∀p,PE X (.Name y p) (iS i):=by
 cases e<;>first | cases h;done | skip
 rename_i y yp;obtain⟨hc,h1⟩:=ax (show(if(cu y&&rO Γ y&&Γ.dct.contains y)=true then slot Γ y else none)=some i from h)
 simp only[aG]at hc;exact⟨y,yp,rfl,λp=>pe_var (G.i9 h1) (G.Js hc.1.2) (ej hc.1.1).1 (ej hc.1.1).2.1⟩
structure XT (n:Nat):Prop where
 e:∀Γ X e f,GOk Γ X->cm n Γ e=some f->∀H₀ aa,PE X e (tE X.K H₀ aa f)
 q:∀Γ X e f,GOk Γ X->MX n Γ e=some f->∀H₀ aa,PE X e (tE X.K H₀ aa f)
 sp:∀Γ X x a es f p pos,GOk Γ X->Dz n Γ x a es=some f->∀H₀ aa,PE X (.Call (.Name x p) (a::es) [] pos) (tE X.K H₀ aa f)
 ob:∀Γ X e f,GOk Γ X->Jy n Γ e=some f->∀H₀ aa,PE X e (tO X.K H₀ aa f)
 t:∀Γ X e f,GOk Γ X->sv n Γ e=some f->∀H₀ aa,PT X e (tT X.K H₀ aa f)
 b:∀Γ X op vs f pos,GOk Γ X->Jv n Γ op vs=some f->∀H₀ aa,PE X (.BoolOp op vs pos) (tE X.K H₀ aa f)
 w:∀Γ X op vs f pos,GOk Γ X->Jz n Γ op vs=some f->∀H₀ aa,PW X (.BoolOp op vs pos) (tT X.K H₀ aa f)
 a:∀Γ X es f,GOk Γ X->kj n Γ es=some f->(∀H₀ aa,PA X es (tA X.K H₀ aa f))/\es.all bZ=true
 o:∀Γ X e f,GOk Γ X->Fi n Γ e=some f->∀H₀ aa,PO X e (yf X.K H₀ aa f)
 is:∀Γ X es f p pos,GOk Γ X->Jx n Γ es=some f->sj Γ "isinstance"=true->Γ.dg.contains "isinstance"=true->es.all bZ=true->∀H₀ aa,PE X (.Call (.Name "isinstance" p) es [] pos) (tE X.K H₀ aa f)
 i:∀Γ X tg e f,GOk Γ X->JA n Γ tg e=some f->(∀H₀ aa,PI X tg e (tI X.K H₀ aa f))/\∀x,foldedSetIterable e X.env x=pure x
 c:∀Γ X elt tg iter ifs scope f,GOk Γ X->Jw n Γ elt tg iter ifs scope=some f->(∀H₀ aa pos,PE X (.ListComp elt [⟨tg,iter,ifs,0⟩] scope pos) (tF X.K H₀ aa f)) /\
  ∀H₀ aa i x pos gp rZ,X.N[i]?=some x->X.env.scope.names.lookup x=some .local->swapsWith (.ListComp elt [⟨tg,iter,ifs,0⟩] scope pos) (some (.Name x gp)) rZ.line X.env=pure true ->
   ∃t:TE,(∀σ H Q,tF X.K H₀ aa f σ H Q->t σ H Q)/\PS X (.Assign [.Name x gp] (.ListComp elt [⟨tg,iter,ifs,0⟩] scope pos) rZ) (lF t (gName i))
set_option maxHeartbeats 4000000 in
theorem Sg{X:Cx}{x:Str}{g:av->bP}{a:aj}{es:List aj}{ts:bF}{p pos:Pos}{H₀ aa:Hp}(h:By x=some g)(hc:X.calm=true)(hh:X.A.handled=none)(hg:Gl X x)(hm:X.mg x=none)(ha:PA X (a::es) (tA X.K H₀ aa ts))
  (he:starEach (a::es) X.env=(false,eval a X.env)::starEach es X.env) (mf:(backTo pos (starEach es X.env)).any (·.1)=false):PE X (.Call (.Name x p) (a::es) [] pos) (tE X.K H₀ aa (dh g ts)):=by
 unfold By at h;split at h
 ·rename_i e;cases h;have e:=bq e;subst e;exact(iX EK hg hm uU ha (by decide) (by decide) he mf).imp λ_ _ _ h=>jt h
 ·split at h
  ·rename_i e;cases h;have e:=bq e;subst e;exact(iY (T:="tuple") EL hg hm (ju .tuple) ha (by decide) (by decide) he mf).imp λ_ _ _ h=>jt h
  ·split at h
   ·rename_i e;cases h;have e:=bq e;subst e;exact(iY (T:="list") EM hg hm (ju .list) ha (by decide) (by decide) he mf).imp λ_ _ _ h=>jt h
   ·split at h
    ·rename_i e;cases h;have e:=bq e;subst e;exact(iY (T:="int") EN hg hm (ju .int) ha (by decide) (by decide) he mf).imp λ_ _ _ h=>jt h
    ·split at h
     ·rename_i e;cases h;have e:=bq e;subst e;exact(iX (id:="sum") (EO hh) hg hm boot_sum ha (by decide) (by decide) he mf).imp λ_ _ _ h=>jt h
     ·split at h
      ·rename_i e;cases h;have e:=bq e;subst e;exact(iX (id:="sorted") A9 hg hm boot_sorted ha (by decide) (by decide) he mf).imp λ_ _ _ h=>jt h
      ·split at h
       ·rename_i e;cases h;have e:=bq e;subst e;exact(iY (T:="str") EV hg hm (ju .str) ha (by decide) (by decide) he mf).imp λ_ _ _ h=>jt h
       ·cases h
section
variable {Γ:Gm} {X:Cx} {scope:Scope} {L:List Nat}
theorem kl(h:ki Γ scope L=true):scope.kind=.function/\(∀y∈scope.names,(match y.2 with
  | .cell=>false
  | .local=>(match scope.names.lookup y.1 with | some .local=>true | _=>false)
  | .free=>(match Γ.sc.lookup y.1 with | some .cell=>true | some .free=>true | _=>false)
  | _=>true)=true)/\(kh scope).Nodup/\∀i∈L,(eQ Γ scope)[i]?=some none:=by
 unfold ki at h;simp only[aG,dt,jk]at h;obtain⟨⟨⟨h1,h2⟩,h3⟩,h4⟩:=h;refine⟨?_,h2,h3,λi hi=>?_⟩
 ·unfold vX at h1;split at h1
  ·assumption
  ·cases h1
 ·have:=h4 i hi;split at this
  ·assumption
  ·cases this
theorem qZ(G:GOk Γ X)(h:ki Γ scope L=true):gf X (kh scope) (eQ Γ scope) scope:=by
 obtain⟨h1,h2,h3,h4⟩:=kl h;refine⟨h1,λy hy z=>?_,λy hy z=>?_,λy hy z=>?_,by unfold eQ;rw[aB],λi j x hl hx=>?_⟩
 ·have:=h2 y hy;rw[z]at this;cases this
 ·have:=h2 y hy;rw[z]at this;simp only at this;split at this
  ·assumption
  ·cases this
 ·have:=h2 y hy;rw[z]at this;simp only at this;show X.env.scope.names.lookup y.1=_\/X.env.scope.names.lookup y.1=_;rw[G.names];split at this
  ·exact .inl (by assumption)
  ·exact .inr (by assumption)
  ·cases this
 ·unfold eQ at hl;rw[bU,hx]at hl;have hl:(match scope.names.lookup x with | some .free=>slot Γ x | _=>none)=some j:=bg hl
  split at hl
  ·exact⟨G.i9 hl,by assumption⟩
  ·cases hl
theorem yG(G:GOk Γ X)(h:ki Γ scope L=true)(C:ab)(s:aq)(H:Hp)(fp:List ab):GOk (oH Γ scope) (cG X (kh scope) scope C s H fp) where
 names:=by
  show(relabel scope X.env).names=Bz Γ scope;have e:∀n,X.env.kindOf n=Γ.sc.lookup n:=λn=>by show X.env.scope.names.lookup n=_;rw[G.names]
  unfold Bz relabel;simp only[G.kind,e]
  congr 1
  funext y
  obtain⟨n,k⟩:=y;simp
 N:=rfl
 nd:=(kl h).2.2.1
 kind:=by
  show(relabel scope X.env).kind=_;exact(kl h).1
 calm:=G.calm
 hd:=G.hd
 un:=G.un
 own:=λz=>by cases z
 fns:=G.fns
 cons:=G.cons
 dg:=G.dg
 excs:=G.excs
 subs:=G.subs
 tabs:=G.tabs
 su:=⟨G.su.yE,G.su.ns,G.su.cls,G.su.fy,λz=>by cases z⟩
end
theorem JB:XT 0 where
 e:=λ_ _ _ _ _ h=>by cases h
 q:=λ_ _ _ _ _ h=>by cases h
 sp:=λ_ _ _ _ _ _ _ _ _ h=>by cases h
 ob:=λ_ _ _ _ _ h=>by cases h
 t:=λ_ _ _ _ _ h=>by cases h
 b:=λ_ _ _ _ _ _ _ h=>by cases h
 w:=λ_ _ _ _ _ _ _ h=>by cases h
 a:=λ_ _ _ _ _ h=>by cases h
 o:=λ_ _ _ _ _ h=>by cases h
 is:=λ_ _ _ _ _ _ _ h=>by cases h
 i:=λ_ _ _ _ _ _ h=>by cases h
 c:=λ_ _ _ _ _ _ _ _ _ h=>by cases h
section
variable {n:Nat} (S:XT n)
include S
theorem V3(Γ:Gm)(X:Cx)(op:BoolOp)(vs:List aj)(f:FE)(pos:Pos)(G:GOk Γ X)(h:Jv (n+1) Γ op vs=some f)(H₀ aa:Hp):PE X (.BoolOp op vs pos) (tE X.K H₀ aa f):=by
 match op,vs,h with
 | op,[a],h=>exact PU (S.e Γ X a f G h H₀ aa)
 | .And,a::b::r,h =>
  obtain⟨fa,h1,h⟩:=ar h;obtain⟨fb,h2,rfl⟩:=au h;exact UW (S.e Γ X a fa G h1 H₀ aa) (S.b Γ X .And (b::r) fb pos G h2 H₀ aa)
 | .Or,a::b::r,h =>
  obtain⟨fa,h1,h⟩:=ar h;obtain⟨fb,h2,rfl⟩:=au h;exact Vl (S.e Γ X a fa G h1 H₀ aa) (S.b Γ X .Or (b::r) fb pos G h2 H₀ aa)
theorem V4(Γ:Gm)(X:Cx)(op:BoolOp)(vs:List aj)(f:fj)(pos:Pos)(G:GOk Γ X)(h:Jz (n+1) Γ op vs=some f)(H₀ aa:Hp):PW X (.BoolOp op vs pos) (tT X.K H₀ aa f):=by
 match op,vs,h with
 | .And,[a],h=>exact QF (S.t Γ X a f G h H₀ aa)
 | .Or,[a],h=>exact US (S.t Γ X a f G h H₀ aa)
 | .And,a::b::r,h =>
  obtain⟨fa,h1,h⟩:=ar h;obtain⟨fb,h2,rfl⟩:=au h;exact UT (S.t Γ X a fa G h1 H₀ aa) (S.w Γ X .And (b::r) fb pos G h2 H₀ aa)
 | .Or,a::b::r,h =>
  obtain⟨fa,h1,h⟩:=ar h;obtain⟨fb,h2,rfl⟩:=au h;exact ZU (S.t Γ X a fa G h1 H₀ aa) (S.w Γ X .Or (b::r) fb pos G h2 H₀ aa)
theorem V5(Γ:Gm)(X:Cx)(es:List aj)(f:bF)(G:GOk Γ X)(h:kj (n+1) Γ es=some f):(∀H₀ aa,PA X es (tA X.K H₀ aa f))/\es.all bZ=true:=by
 match es,h with
 | [],h =>
  cases h;exact⟨λ_ _=>tV,rfl⟩
 | e::es,h =>
  obtain⟨hp,h⟩:=ax h;obtain⟨fa,h1,h⟩:=ar h;obtain⟨fb,h2,rfl⟩:=au h;obtain⟨k1,k2⟩:=S.a Γ X es fb G h2;exact⟨λH₀ aa=>nN (S.e Γ X e fa G h1 H₀ aa) (k1 H₀ aa) (aO hp _ _),by rw[gB,hp,k2];rfl⟩
theorem V6(Γ:Gm)(X:Cx)(e:Option aj)(f:FO)(G:GOk Γ X)(h:Fi (n+1) Γ e=some f)(H₀ aa:Hp):PO X e (yf X.K H₀ aa f):=by
 match e,h with
 | none,h=>cases h;exact H9
 | some e,h =>
  obtain⟨fa,h1,rfl⟩:=au h;exact Ia (S.e Γ X e fa G h1 H₀ aa)
theorem Si(Γ:Gm)(X:Cx)(es:List aj)(f:FE)(p pos:Pos)(G:GOk Γ X)(h:Jx (n+1) Γ es=some f)(hg:sj Γ "isinstance"=true)(hb:Γ.dg.contains "isinstance"=true)(hp:es.all bZ=true)(H₀ aa:Hp):PE X (.Call (.Name "isinstance" p) es [] pos) (tE X.K H₀ aa f):=by
 rcases es with _ | ⟨a,_ | ⟨b,_ | ⟨c,r⟩⟩⟩
 ·cases h
 ·cases h
 ·cases b<;>first | (cases h;done) | skip
  rename_i t p2;obtain⟨hc,h⟩:=ax h;obtain⟨g,h1,h⟩:=ar h;obtain⟨fa,h2,rfl⟩:=au h;simp only[aG]at hc;rw[gB,aG]at hp;exact aad h1 (G.iM hg) (G.dg _ hb) (G.iM hc.1.2) (G.dg _ hc.2) (S.e Γ X a fa G h2 H₀ aa) λes=>aO hp.1 es _
 ·cases b<;>cases h
theorem V7(Γ:Gm)(X:Cx)(elt tg iter:aj)(ifs:List aj)(scope:Scope)(f:bF)(G:GOk Γ X)(h:Jw (n+1) Γ elt tg iter ifs scope=some f):(∀H₀ aa pos,PE X (.ListComp elt [⟨tg,iter,ifs,0⟩] scope pos) (tF X.K H₀ aa f)) /\
  ∀H₀ aa i x pos gp rZ,X.N[i]?=some x->X.env.scope.names.lookup x=some .local->swapsWith (.ListComp elt [⟨tg,iter,ifs,0⟩] scope pos) (some (.Name x gp)) rZ.line X.env=pure true ->
   ∃t:TE,(∀σ H Q,tF X.K H₀ aa f σ H Q->t σ H Q)/\PS X (.Assign [.Name x gp] (.ListComp elt [⟨tg,iter,ifs,0⟩] scope pos) rZ) (lF t (gName i)):=by
 obtain⟨hp,h⟩:=ax h;obtain⟨fi,h1,h⟩:=ar h;obtain⟨g,h2,h⟩:=ar h;obtain⟨hc,h⟩:=ax h;have SC:=qZ G hc;have hL:=(kl hc).2.2.2;have GK:=yG G hc;obtain⟨i1,i2⟩:=S.i Γ X tg iter fi G h1;have hg:∀(C:ab) (s:aq) (H:Hp) (fp:List ab) (H₀ aa:Hp),PG (cG X (kh scope) scope C s H fp) tg (tG X.K H₀ aa g.1):=λC s H fp H₀ aa=>(jw (GK C s H fp) n tg g h2).1 H₀ aa
 have kg:KG g.2 g.1:=(jw (GK 0 X.s₀ X.H₀ []) n tg g h2).2.1
 match ifs,h with
 | [],h =>
  obtain⟨fe,h3,rfl⟩:=au h;have he:∀(C:ab) (s:aq) (H:Hp) (fp:List ab) (H₀ aa:Hp),PE (cG X (kh scope) scope C s H fp) elt (tE X.K H₀ aa fe):=λC s H fp H₀ aa=>S.e _ _ elt fe (GK C s H fp) h3 H₀ aa
  refine⟨λH₀ aa pos=>QP G.calm SC (i1 H₀ aa) kg hL hg he i2,λH₀ aa i x pos gp rZ hx hl hw=>⟨_,λσ H Q h=>j5 kg hL h,vx G.calm G.nd hx hl SC (i1 H₀ aa) (λC s H fp=>qB λb:Hp×Hp=>qA (hg C s H fp b.1 b.2) (he C s H fp b.1 b.2)) hw i2⟩⟩
 | [c],h =>
  obtain⟨ft,h4,h⟩:=ar h;obtain⟨fe,h3,rfl⟩:=au h;have he:∀(C:ab) (s:aq) (H:Hp) (fp:List ab) (H₀ aa:Hp),PE (cG X (kh scope) scope C s H fp) elt (tE X.K H₀ aa fe):=λC s H fp H₀ aa=>S.e _ _ elt fe (GK C s H fp) h3 H₀ aa
  have ht:∀(C:ab) (s:aq) (H:Hp) (fp:List ab) (H₀ aa:Hp),PT (cG X (kh scope) scope C s H fp) c (tT X.K H₀ aa ft):=λC s H fp H₀ aa=>S.t _ _ c ft (GK C s H fp) h4 H₀ aa
  refine⟨λH₀ aa pos=>LX G.calm SC (i1 H₀ aa) kg hL hg ht he i2,λH₀ aa i x pos gp rZ hx hl hw=>⟨_,λσ H Q h=>lb kg hL h,vx G.calm G.nd hx hl SC (i1 H₀ aa) (λC s H fp=>qB λb:Hp×Hp=>CU (hg C s H fp b.1 b.2) (ht C s H fp b.1 b.2) (he C s H fp b.1 b.2)) hw i2⟩⟩
theorem V8(Γ:Gm)(X:Cx)(e:aj)(f:fj)(G:GOk Γ X)(h:sv (n+1) Γ e=some f)(H₀ aa:Hp):PT X e (tT X.K H₀ aa f):=by
 unfold sv at h;split at h
 ·obtain⟨fa,h1,rfl⟩:=au h;exact UU (S.t Γ X _ fa G h1 H₀ aa)
 ·exact(S.w Γ X _ _ f _ G h H₀ aa).pt
 ·split at h
  ·rename_i i hi;obtain⟨q,h1,h⟩:=ar h;obtain⟨fk,h2,rfl⟩:=au h;obtain⟨y,yp,rfl,hy⟩:=qY G hi;exact VU h1 (by have:=G.un;lia) (S.e Γ X _ fk G h2 H₀ aa) (hy yp)
  obtain⟨hp,h⟩:=ax h;obtain⟨g,h1,h⟩:=ar h;obtain⟨fa,h2,h⟩:=ar h;obtain⟨fb,h3,rfl⟩:=au h;exact UQ (kB G.un h1) mr (S.e Γ X _ fa G h2 H₀ aa) (S.e Γ X _ fb G h3 H₀ aa) (iw hp _)
 ·obtain⟨hp,h⟩:=ax h;obtain⟨g,h1,h⟩:=ar h;obtain⟨g',U5,h⟩:=ar h;obtain⟨fa,h2,h⟩:=ar h;obtain⟨fb,h3,h⟩:=ar h;obtain⟨fc,h4,rfl⟩:=au h;exact LK (kB G.un h1) mr (kB G.un U5) mr (S.e Γ X _ fa G h2 H₀ aa) (S.e Γ X _ fb G h3 H₀ aa) (S.e Γ X _ fc G h4 H₀ aa) (iw hp _)
 ·obtain⟨hp,h⟩:=ax h;obtain⟨fa,h1,rfl⟩:=au h;exact UR (S.e Γ X _ fa G h1 H₀ aa) λip=>Jq hp _ ip
end
theorem v9{args:Arguments}{xa:Str×Pos}(h:vY args=some xa):args=oneArg xa.1 xa.2:=by
 unfold vY at h;split at h
 ·cases h;rfl
 ·cases h
theorem JC{scope:Scope}{i:Nat}{y:Str}(h:(vZ scope)[i]?=some y):(y,NameKind.free)∈scope.names:=by
 have hm:=b9 h;unfold vZ at hm;obtain⟨z,hz,rfl⟩:=aY.mp hm;obtain⟨h1,h2⟩:=An.mp hz;obtain⟨n,k⟩:=z;cases k<;>first | exact h1 | cases h2
theorem Fj{k:Option NameKind}(h:isFree k=true):k=some .free:=by
 unfold isFree at h;split at h
 ·rfl
 ·cases h
theorem Fl{Γ:Gm}{X:Cx}{x:Str}{scope:Scope}(G:GOk Γ X)(h:Jt Γ x scope=true):qU X x (vZ scope) (pB Γ scope) scope/\(x::vZ scope).Nodup:=by
 unfold Jt at h;simp only[aG]at h;obtain⟨⟨⟨⟨⟨h1,h2⟩,h3⟩,h4⟩,h5⟩,h6⟩:=h;have hall:=dt.mp h5;refine⟨⟨?_,by simpa using h2,by simpa using h3,?_,λy hy z=>?_,λy hy z=>?_,?_,λi j y e1 e2=>?_⟩,pQ h6⟩
 ·unfold vX at h1;split at h1
  ·assumption
  ·cases h1
 ·split at h4
  ·assumption
  ·cases h4
 ·have:=hall y hy;rw[z]at this;cases this
 ·have:=hall y hy;rw[z]at this;simp only[aG]at this;have hk:X.env.kindOf y.1=Γ.sc.lookup y.1:=by show X.env.scope.names.lookup y.1=_;rw[G.names]
  rw[hk];have t:=this.1;split at t
  ·rename_i q;exact .inl q
  ·rename_i q;exact .inr q
  ·cases t
 ·unfold pB;rw[aB]
 ·have hm:=JC e2;have:=hall _ hm;simp only[aG]at this;refine⟨?_,Fj this.2⟩;unfold pB at e1;rw[bU,e2]at e1;exact G.i9 (bg e1)
theorem MY{Γ:Gm}{X:Cx}{x:Str}{scope:Scope}{k:Nat}(G:GOk Γ X)(hk:scope.kind=.function)(hn:(x::vZ scope).Nodup)
  (hf:∀y n,Γ.fns.lookup y=some n->∃j f fd ps,j<=k/\FnOk X.prog X.w X.K X.mg X.base (jK X.prog X.w) j f fd ps (xY X.K n (Γ.call y))/\X.mg y=some (.ref f)/\W.keepIn X.K (.ref f)=true/\eL X.K fd ps [])
  (ho:∀y n,Γ.yE.lookup y=some n->∃j f fd ps,j<=k/\FnOk X.prog X.w X.K X.mg X.base (jK X.prog X.w) j f fd ps (OS X.K n (Γ.mj y))/\X.mg y=some (.ref f)/\W.keepIn X.K (.ref f)=true/\eL X.K fd ps [])
  {qual:Str} {fa:ab} {df:ag} {cl:List (Str×ab)} {A:bD} {stack:List Env} {s:aq} {H:Hp} {E:XK} (hr:dR k (A.deeper (W.envX qual scope s.heap.objs.size fa df cl))) :
  GOk (V2 Γ x scope) (Tc (jK X.prog X.w) X.prog X.w X.K X.mg X.base (x::vZ scope) qual scope fa df cl A stack s H E) where
 names:=rfl
 N:=rfl
 nd:=hn
 kind:=hk
 calm:=rfl
 hd:=hr.hd
 un:=by
  have:=hr.un;show(A.deeper _).units+1150<cLine
  lia
 own:=λz=>by cases z
 fns:=λy n e=>let ⟨j,f,fd,ps,h1,h2,h3,h4,h5⟩:=hf y n e;⟨j,f,fd,ps,h2,hr.mono h1,h3,h4,h5⟩
 cons:=G.cons
 dg:=G.dg
 excs:=G.excs
 subs:=G.subs
 tabs:=G.tabs
 su:=⟨λy n e=>let ⟨j,f,fd,ps,h1,h2,h3,h4,h5⟩:=ho y n e;⟨j,f,fd,ps,h2,hr.mono h1,h3,h4,h5⟩,G.su.ns,(λC n e=>by cases e),G.su.fy,(λz=>by cases z)⟩
theorem dz{α:Type}{f:α}{C:Prop}(h:(none:Option α)=some f):C:=by cases h
theorem orQ{b:Bool}{q r:Option FE}{f:FE}(h:(match(match b with | true=>q | false=>none)with | some f=>some f | none=>r)=some f):q=some f\/r=some f:=by
 cases b
 ·exact .inr h
 ·cases q
  ·exact .inr h
  ·exact .inl h
section
variable {n:Nat} (S:XT n)
include S
set_option maxHeartbeats 4000000 in
theorem V9(Γ:Gm)(X:Cx)(e:aj)(f:FE)(G:GOk Γ X)(h:cm (n+1) Γ e=some f)(H₀ aa:Hp):PE X e (tE X.K H₀ aa f):=by
 replace h:=orQ h;rcases h with hq | h
 ·exact S.q Γ X _ f G hq H₀ aa
 cases e<;>try exact dz h
 case BoolOp op vs p =>
  dsimp only at h
  exact S.b Γ X _ _ f _ G h H₀ aa
 case BinOp a op b p =>
  dsimp only at h
  obtain⟨g,h1,h⟩:=ar h;obtain⟨fa,h2,h⟩:=ar h;obtain⟨fb,h3,rfl⟩:=au h;exact UO (L8 h1) mr (S.e Γ X _ fa G h2 H₀ aa) (S.e Γ X _ fb G h3 H₀ aa)
 case UnaryOp op a p =>
  cases op<;>first | exact dz h | dsimp only at h
  ·obtain⟨fa,h1,rfl⟩:=au h;exact UX (S.e Γ X _ fa G h1 H₀ aa)
  ·obtain⟨fa,h1,rfl⟩:=au h;exact Ox (S.e Γ X _ fa G h1 H₀ aa)
 case IfExp c a b p =>
  dsimp only at h
  obtain⟨gc,h1,h⟩:=ar h;obtain⟨fa,h2,h⟩:=ar h;obtain⟨fb,h3,rfl⟩:=au h;exact ZV (S.t Γ X _ gc G h1 H₀ aa) (S.e Γ X _ fa G h2 H₀ aa) (S.e Γ X _ fb G h3 H₀ aa)
 case Compare a ops bs p =>
  rcases ops with _ | ⟨op,_ | ⟨op2,_ | ⟨op3,r⟩⟩⟩<;>rcases bs with _ | ⟨b,_ | ⟨c,_ | ⟨d,r2⟩⟩⟩<;>first | exact dz h | dsimp only at h
  ·obtain⟨hp,h⟩:=ax h;obtain⟨g,h1,h⟩:=ar h;obtain⟨fa,h2,h⟩:=ar h;obtain⟨fb,h3,rfl⟩:=au h;exact UP (kB G.un h1) mr (S.e Γ X _ fa G h2 H₀ aa) (S.e Γ X _ fb G h3 H₀ aa) (iw hp _)
  ·obtain⟨hp,h⟩:=ax h;obtain⟨g,h1,h⟩:=ar h;obtain⟨g',U5,h⟩:=ar h;obtain⟨fa,h2,h⟩:=ar h;obtain⟨fb,h3,h⟩:=ar h;obtain⟨fc,h4,rfl⟩:=au h;exact LJ (kB G.un h1) mr (kB G.un U5) mr (S.e Γ X _ fa G h2 H₀ aa) (S.e Γ X _ fb G h3 H₀ aa) (S.e Γ X _ fc G h4 H₀ aa) (iw hp _)
 case Call fn args yH p =>
  cases fn<;>try exact dz h
  case Name x px =>
   rcases args with _ | ⟨a,es⟩<;>rcases yH with _ | ⟨kw,yH⟩<;>first | exact dz h | dsimp only at h
   obtain⟨hc,h⟩:=ax h;simp only[aG]at hc;obtain⟨⟨hn,hg⟩,hp⟩:=hc;obtain⟨n1,n2,n3⟩:=ej hn;have HJ:=hp;rw[gB,aG]at HJ;split at h
   ·rename_i m hm;obtain⟨ts,h1,rfl⟩:=au h;obtain⟨k,fa,fd,ps,F,hr,q1,q2,q3⟩:=G.fns _ m hm;exact QH F hr (G.iM hg) q1 q2 q3 ((S.a Γ X _ ts G h1).1 H₀ aa) n1 (aO HJ.1 _ _) (fB HJ.2 _ _)
   ·obtain⟨hb,h5⟩:=ax h;clear h;split at h5
    ·rename_i ex;have ex:=bq ex;subst ex;exact S.is Γ X _ f _ _ G h5 hg hb hp H₀ aa
    split at h5
    ·rename_i z l hz;obtain⟨hc,h6⟩:=ax h5;clear h5;rw[aG]at hc;obtain⟨rfl,rfl,p1,lp,aaV,he⟩:=vU hz;cases he;obtain⟨ts,h1,rfl⟩:=au h6;exact RA G.hd (G.iM hg) (G.dg _ hb) (G.iM hc.1) (G.dg _ hc.2) ((S.a Γ X _ ts G h1).1 H₀ aa)
    split at h5
    ·rename_i z b bs hz;obtain⟨hc,h6⟩:=ax h5;clear h5;simp only[aG]at hc;obtain⟨⟨z1,z2⟩,z3⟩:=hc;obtain⟨rfl,rfl,p1,aaV,he⟩:=vW hz;cases he;obtain⟨ts,h1,rfl⟩:=au h6;rw[gB,aG]at z3;exact CM (VB G.hd (G.iM hg) (G.dg _ hb) (G.iM z1) (G.dg _ z2) ((S.a Γ X _ ts G h1).1 H₀ aa) (aO z3.1 _ _) (fB z3.2 _ _))
    ·obtain⟨g,h1,h⟩:=ar h5;obtain⟨ts,h2,rfl⟩:=au h;refine MW ?_;exact Sg h1 G.calm G.hd (G.iM hg) (G.dg _ hb) ((S.a Γ X _ ts G h2).1 H₀ aa) (aO HJ.1 _ _) (fB HJ.2 _ _)
  case Subscript te ke px =>
   cases te<;>try exact dz h
   rename_i T pt;rcases args with _ | ⟨a,es⟩<;>rcases yH with _ | ⟨kw,yH⟩<;>first | exact dz h | dsimp only at h
   obtain⟨hc,h⟩:=ax h;simp only[aG]at hc;obtain⟨⟨⟨hn,hg⟩,hk⟩,hp⟩:=hc;obtain⟨n1,n2,n3⟩:=ej hn;have HJ:=hp;rw[gB,aG]at HJ;obtain⟨rows,h1,h⟩:=ar h;obtain⟨fk,h2,h⟩:=ar h;obtain⟨ts,h3,rfl⟩:=au h;exact Vf (G.tabs _ rows h1) G.fns (G.iM hg) (S.e Γ X _ fk G h2 H₀ aa) (kc hk) ((S.a Γ X _ ts G h3).1 H₀ aa) n1 (aO HJ.1 _ _) (fB HJ.2 _ _)
 case Constant c k p =>
  cases c<;>first | exact dz h | dsimp only at h
  ·cases h;exact UM
  ·cases h;exact ZT
  ·cases h;exact Oj
  ·cases h;exact UN
 case Subscript a b p =>
  dsimp only at h
  split at h
  ·rename_i lo hi hs;obtain⟨ps,rfl⟩:=v5 hs;obtain⟨fa,h1,h⟩:=ar h;obtain⟨fl,h2,h⟩:=ar h;obtain⟨fh,h3,rfl⟩:=au h;exact Ow (S.e Γ X _ fa G h1 H₀ aa) (S.o Γ X _ fl G h2 H₀ aa) (S.o Γ X _ fh G h3 H₀ aa)
  ·
   obtain⟨hp,h⟩:=ax h;obtain⟨fa,h2,h⟩:=ar h;obtain⟨fb,h3,rfl⟩:=au h;exact Vc (S.e Γ X _ fa G h2 H₀ aa) (S.e Γ X _ fb G h3 H₀ aa) (kc hp)
 case Name x p =>
  dsimp only at h
  obtain⟨hn,h⟩:=ax h;obtain⟨n1,n2,n3⟩:=ej hn;split at h
  ·rename_i hv;obtain⟨i,h1,rfl⟩:=au h;exact tQ i (pe_var (G.i9 h1) (G.Js hv) n1 n2)
  ·obtain⟨hg,h⟩:=ax h;obtain⟨p,h1,rfl⟩:=au h;obtain⟨u,v,g1,g2,g3⟩:=G.cons _ p h1;exact xW (Cw (G.iM hg) g1 g2 n1) g3
 case List es p =>
  dsimp only at h
  obtain⟨ts,h1,rfl⟩:=au h;exact CM (CN ((S.a Γ X _ ts G h1).1 H₀ aa))
 case Tuple es k p =>
  dsimp only at h
  obtain⟨ts,h1,rfl⟩:=au h;exact Ol ((S.a Γ X _ ts G h1).1 H₀ aa)
 case ListComp elt gens scope p =>
  rcases gens with _ | ⟨⟨tg,iter,ifs,(_ | k) | k⟩,_ | ⟨g2,r⟩⟩<;>first | exact dz h | change Option.map cq (Jw n Γ elt tg iter ifs scope)=some f at h
  obtain⟨fc,h1,rfl⟩:=au h;exact CM ((S.c Γ X _ _ _ _ _ fc G h1).1 H₀ aa _)
theorem Sj(Γ:Gm)(X:Cx)(e:aj)(f:VD)(G:GOk Γ X)(h:Jy (n+1) Γ e=some f)(H₀ aa:Hp):PE X e (tO X.K H₀ aa f):=by
 unfold Jy at h;cases h
theorem Sk(Γ:Gm)(X:Cx)(x:Str)(a:aj)(es:List aj)(f:FE)(p pos:Pos)(G:GOk Γ X)(h:Dz (n+1) Γ x a es=some f)(H₀ aa:Hp):PE X (.Call (.Name x p) (a::es) [] pos) (tE X.K H₀ aa f):=by
 unfold Dz at h;split at h
 ·rename_i args body scope lp;obtain⟨hc,g⟩:=ax h;clear h;simp only[aG]at hc;obtain⟨⟨⟨c1,c2⟩,c3⟩,c4⟩:=hc;obtain rfl:=bq c1;obtain⟨xa,h1,g⟩:=ar g;obtain⟨c5,g⟩:=ax g;obtain⟨fe,h2,g⟩:=ar g;obtain⟨fb,h3,rfl⟩:=au g;obtain rfl:=v9 h1;obtain⟨S1,Bn⟩:=Fl G c5;obtain⟨⟨p',q',fs,fT,IF,Dj,k,D,hr,hf,ho⟩,L⟩:=G.su.wU c3;exact CM (IG D L (G.iM c2) hr (S.e Γ X _ fe G h2 H₀ aa) (aO c4 _ _) S1 λqual fa df cl A stack s H MH eO XI=>S.e _ _ _ fb (MY G S1.kind Bn hf ho XI) h3 MH eO)
 ·obtain⟨hc,g⟩:=ax h;simp only[aG]at hc;obtain⟨⟨c1,c2⟩,c3⟩:=hc;obtain rfl:=bq c1;split at g
  ·rename_i i hi;cases g;obtain⟨y,yp,rfl,hy⟩:=qY G hi;exact RZ (G.iM c2) (G.dg _ c3) (hy yp)
  ·obtain⟨⟨z,e⟩,hz,g⟩:=ar g;obtain⟨hd,g⟩:=ax g;simp only[aG]at hd;obtain⟨⟨⟨d1,d2⟩,d3⟩,d4⟩:=hd;obtain rfl:=bq d1;obtain⟨fe,h1,rfl⟩:=au g;obtain⟨zp,qJ,rfl⟩:=yF hz;exact Sd G.hd (by have:=G.un;lia) (G.iM c2) (G.dg _ c3) (G.iM d2) (G.dg _ d3) (S.e Γ X _ fe G h1 H₀ aa) (aO d4 _ _)
 ·obtain⟨hc,g⟩:=ax h;simp only[aG]at hc;obtain⟨⟨⟨c1,c2⟩,c3⟩,c4⟩:=hc;obtain⟨m,hm,g⟩:=ar g;obtain⟨i,hi,g⟩:=ar g;obtain⟨f1,h1,g⟩:=ar g;obtain⟨f2,h2,rfl⟩:=au g;obtain⟨y,yp,rfl,hy⟩:=qY G hi;obtain⟨k,fa,fd,ps,F,hr,q1,q2,q3⟩:=G.su.yE _ m hm;exact Jc F hr (G.iM c2) q1 q2 q3 (S.e Γ X _ f1 G h1 H₀ aa) (S.e Γ X _ f2 G h2 H₀ aa) (hy yp) (ej c1).1 (λes=>aO c3 es _) (λes=>aO c4 es _)
 ·cases h
theorem Wa(Γ:Gm)(X:Cx)(e:aj)(f:FE)(G:GOk Γ X)(h:MX (n+1) Γ e=some f)(H₀ aa:Hp):PE X e (tE X.K H₀ aa f):=by
 unfold MX at h;split at h
 ·exact S.sp Γ X _ _ _ _ _ _ G h H₀ aa
 ·obtain⟨hc,h⟩:=ax h;rw[aG]at hc;obtain⟨hn,hk⟩:=hc;obtain⟨n1,n2,n3⟩:=ej hn;split at h
  ·rename_i hv;rw[aG]at hv;obtain⟨i,h1,h⟩:=ar h;obtain⟨fk,h2,rfl⟩:=au h;exact RO (pe_var (G.i9 h1) (G.Js hv.1) n1 n2) (S.e Γ X _ fk G h2 H₀ aa) (kc hk)
  ·obtain⟨hv,h⟩:=ax h;rw[aG]at hv;obtain⟨i,h1,h⟩:=ar h;obtain⟨fk,h2,rfl⟩:=au h;exact IA (pe_var (G.i9 h1) (G.Js hv.1) n1 n2) (S.e Γ X _ fk G h2 H₀ aa) (kc hk)
 ·cases h
theorem Wb(Γ:Gm)(X:Cx)(tg e:aj)(f:bF)(G:GOk Γ X)(h:JA (n+1) Γ tg e=some f):(∀H₀ aa,PI X tg e (tI X.K H₀ aa f))/\∀x,foldedSetIterable e X.env x=pure x:=by
 unfold JA at h;split at h
 ·split at h
  ·rename_i hc;obtain⟨ts,h1,rfl⟩:=au h;simp only[aG]at hc;obtain⟨⟨⟨hx,hg⟩,hb⟩,hp⟩:=hc;have hx:=bq hx;subst hx;exact⟨λH₀ aa=>LQ (G.iM hg) (G.dg _ hb) ((S.a Γ X _ ts G h1).1 H₀ aa) (aO hp _ _),λ_=>rfl⟩
  ·split at h
   ·rename_i hc;obtain⟨fa,h1,rfl⟩:=au h;simp only[aG]at hc;obtain⟨⟨⟨⟨hx,hg⟩,hb⟩,hp⟩,ht⟩:=hc;have hx:=bq hx;subst hx;exact⟨λH₀ aa=>aag ht (G.iM hg) (G.dg _ hb) (S.e Γ X _ fa G h1 H₀ aa) (aO hp _ _),λ_=>rfl⟩
   obtain⟨fe,h1,rfl⟩:=au h;exact⟨λH₀ aa=>CQ (S.e Γ X _ fe G h1 H₀ aa),λ_=>rfl⟩
 ·split at h
  ·rename_i hc;obtain⟨ts,h1,rfl⟩:=au h;simp only[aG]at hc;obtain⟨⟨⟨⟨hx,hg⟩,hb⟩,hp⟩,hp2⟩:=hc;have hx:=bq hx;subst hx;exact⟨λH₀ aa=>Jb (G.iM hg) (G.dg _ hb) ((S.a Γ X _ ts G h1).1 H₀ aa) (by rw[aO hp,aO hp2];rfl) (aO hp2 _ _),λ_=>rfl⟩
  obtain⟨fe,h1,rfl⟩:=au h;exact⟨λH₀ aa=>CQ (S.e Γ X _ fe G h1 H₀ aa),λ_=>rfl⟩
 ·obtain⟨hp,h⟩:=ax h;obtain⟨fe,h1,rfl⟩:=au h;exact⟨λH₀ aa=>CQ (S.e Γ X _ fe G h1 H₀ aa),λx=>Bx hp _ x⟩
end
theorem snd:∀n:Nat,XT n
 | 0=>JB
 | n+1 =>
  have S:=snd n
  ⟨V9 S,Wa S,Sk S,Sj S,V8 S,V3 S,V4 S,V5 S,V6 S,Si S,Wb S,V7 S⟩
def MZ:PV->PV->bP
 | .int i,.int j=>some (.int (i+j))
 | _,_=>none
def Wc:PV->PV->bP
 | .int i,.int j=>some (.int (i-j))
 | _,_=>none
def JD:Operator->Option (PV->PV->bP)
 | .Add=>some MZ
 | .Sub=>some Wc
 | _=>none
def el:Nat->List Str->aj->List Str
 | 0,_,_=>[]
 | n+1,M,e=>match e with
  | .Name x _=>if M.contains x then [x]else []
  | .BinOp a _ b _=>el n M a++el n M b
  | .UnaryOp _ a _=>el n M a
  | .BoolOp _ vs _=>vs.flatMap (el n M)
  | .Compare a _ bs _=>el n M a++bs.flatMap (el n M)
  | .IfExp c a b _=>el n M c++el n M a++el n M b
  | .Tuple es _ _=>es.flatMap (el n M)
  | .List es _=>es.flatMap (el n M)
  | .Subscript a b _=>el n M a++el n M b
  | .Slice lo hi _ _=>(lo.toList++hi.toList).flatMap (el n M)
  | .ListComp elt gens _ _=>el n M elt++gens.flatMap λg=>el n M g.iter++g.ifs.flatMap (el n M)
  | .Call (.Name l _) [.Name x _] [] _=>if l==("len":Str)then []else if M.contains x then [x]else []
  | .Call f args yH _=>el n M f++args.flatMap (el n M)++yH.flatMap λk=>el n M k.value
  | _=>[]
def fD:Nat->List Str->aj->List Str
 | 0,_,_=>[]
 | n+1,M,e=>match e with
  | .Name x _=>if M.contains x then [x]else []
  | .BinOp a _ b _=>fD n M a++fD n M b
  | .UnaryOp _ a _=>fD n M a
  | .BoolOp _ vs _=>vs.flatMap (fD n M)
  | .Compare a _ bs _=>fD n M a++bs.flatMap (fD n M)
  | .IfExp c a b _=>fD n M c++fD n M a++fD n M b
  | .Tuple es _ _=>es.flatMap (fD n M)
  | .List es _=>es.flatMap (fD n M)
  | .Subscript (.Name _ _) (.Slice lo hi st sp) _=>el n M e
  | .Subscript (.Name _ _) b _=>fD n M b
  | .Subscript a b _=>fD n M a++fD n M b
  | .Slice lo hi _ _=>(lo.toList++hi.toList).flatMap (fD n M)
  | .ListComp elt gens _ _=>el n M elt++gens.flatMap λg=>fD n M g.iter++g.ifs.flatMap (el n M)
  | .Call (.Name l _) [.Name x _] [] _=>if l==("len":Str)then []else if M.contains x then [x]else []
  | .Call f args yH _=>fD n M f++args.flatMap (fD n M)++yH.flatMap λk=>fD n M k.value
  | _=>[]
def cQ(n:Nat)(Γ:Gm)(e:aj):List Nat:=(fD n Γ.chg e).filterMap (slot Γ)
def ix(L:List Nat)(f:FS):FS:=match L with | []=>f | L=>AZ L f
theorem eA{X:Cx}{st:az}{H₀ aa:Hp}{f:FS}{L:List Nat}(h:PS X st (tS X H₀ aa f)):PS X st (tS X H₀ aa (ix L f)):=by
 cases L with
 | nil=>exact h
 | cons i L=>exact Va (i::L) h
def BB(Γ:Gm)(g:fj):fj:=match Γ.chg with | []=>g | _=>qD g
theorem JE{Γ:Gm}{X:Cx}{e:aj}{H₀ aa:Hp}{g:fj}(h:PT X e (tT X.K H₀ aa g)):PT X e (tT X.K H₀ aa (BB Γ g)):=by
 unfold BB;split
 ·exact h
 ·exact U9 h
def DA(Γ:Gm):aj->Option (Str×List aj×Nat)
 | .Call (.Name x _) (a::es) [] _=>if(cu x&&sj Γ x&&(a::es).all bZ)=true then(Γ.fns.lookup x).map λm=>(x,a::es,m)else none
 | _=>none
def O0:aj->Option (aj×aj)
 | .BinOp a .Add b _=>some (a,b)
 | _=>none
def O1:aj->Option (aj×Option aj×Option aj)
 | .Subscript a (.Slice lo hi none _) _=>some (a,lo,hi)
 | _=>none
def O2(Γ:Gm):aj->Option aj
 | .Call (.Name x _) [a] [] _=>if(x==("list":Str)&&sj Γ x&&Γ.dg.contains x&&bZ a)=true then some a else none
 | _=>none
noncomputable def Sl(n:Nat)(Γ:Gm)(e:aj):Option (aE->cz):=match DA Γ e with
 | some (x,es,m)=>(kj n Γ es).map λts=>qI (aW m (Γ.call x)) ts
 | none=>match O0 e with
  | some (a,b)=>(cm n Γ a).bind λfa=>(cm n Γ b).map λfb=>Mj fa fb
  | none=>match O1 e with
   | some (a,lo,hi)=>(cm n Γ a).bind λfa=>(Fi n Γ lo).bind λfl=>(Fi n Γ hi).map λfh=>Ms fa fl fh
   | none=>match O2 Γ e with
    | some a=>(cm n Γ a).map Rb
    | none=>(cm n Γ e).map A8
def Wd(Γ:Gm):aj->Bool
 | .Subscript (.Name y _) k _=>Γ.chg.contains y&&gK k&&Γ.chg.contains ("[thaw]":Str)
 | _=>false
noncomputable def We(n:Nat)(Γ:Gm):az->Option FS
 | .Assign [.Name x _] (.Dict [] [] _) _=>if(Γ.NY.contains x&&wV Γ x&&cu x)=true then(slot Γ x).map RN else none
 | .Expr (.Call (.Attribute (.Name x _) m ap) [a,b] [] cp) _=>if(cu x&&rO Γ x&&bZ a&&bZ b&&(ap.endLine==cp.line))=true then(slot Γ x).bind λi=>(cm n Γ a).bind λfa=>(cm n Γ b).bind λfb =>
   if(m==("setdefault":Str)&&Γ.NY.contains x)=true then some (ix (cQ n Γ a++cQ n Γ b) (RP i fa fb))else if m==("insert":Str)then some (ix (cQ n Γ a++cQ n Γ b) (iL i (ae fa (ae fb ao)) RM))else none else none
 | .Expr (.Call (.Attribute (.Name x _) m ap) [] [] cp) _=>if(cu x&&rO Γ x&&(ap.endLine==cp.line)&&m==("reverse":Str))=true then(slot Γ x).map λi=>HQ i VM else none
 | _=>none
noncomputable def Wf(n:Nat)(Γ:Gm)(x:Str):aj->Option FS
 | .ListComp (.List [] _) [⟨tg,.Name f _,[],0⟩] scope _=>if(Γ.K5.contains x&&wV Γ x&&cu f&&rO Γ f)=true then(slot Γ x).bind λi=>(slot Γ f).bind λj=>(oZ n (oH Γ scope) tg).bind λg=>if ki Γ scope g.2=true then some (IU (eQ Γ scope) g.1 i j)else none else none
 | .Dict [] [] _=>if(Γ.dct.contains x&&wV Γ x)=true then(slot Γ x).map E5 else none
 | .Call (.Name f _) (a::es) [] _=>if(Γ.dct.contains x&&wV Γ x&&cu f&&sj Γ f&&(a::es).all bZ)=true then(slot Γ x).bind λi=>(Γ.fns.lookup f).bind λm=>(kj n Γ (a::es)).map λts=>Fh i (aW m (Γ.call f)) ts else none
 | _=>none
noncomputable def Wg(n:Nat)(Γ:Gm):aj->Option FS
 | .Call (.Attribute (.Subscript (.Name x _) k _) m ap) [a] [] cp=>if(cu x&&rO Γ x&&gK k&&bZ a&&(ap.endLine==cp.line)&&m==("append":Str)&&Γ.K5.contains x)=true then(slot Γ x).bind λi=>(cm n Γ k).bind λfk=>(cm n Γ a).map λfa=>RW i fk fa else none
 | _=>none
noncomputable def DB(n:Nat)(Γ:Gm):az->Option FS
 | .Assign [.Name x _] e _=>Wf n Γ x e
 | .Assign [.Subscript (.Name x _) k _] e _=>if(cu x&&rO Γ x&&gK k&&n0 e&&Γ.dct.contains x)=true then(slot Γ x).bind λi=>(cm n Γ k).bind λfk=>(cm n Γ e).map λfv=>Bo i fk fv else none
 | .Expr e _=>Wg n Γ e
 | .Return (some (.Name x _)) _=>if(cu x&&rO Γ x&&Γ.dct.contains x)=true then(slot Γ x).map Fg else none
 | _=>none
def Wh:az->Bool
 | .For (.Name _ _) (.Call _ _ _ _) _ _ _=>true
 | .Return (some (.Name _ _)) _=>true
 | _=>false
def DC(L:List Nat)(f:FS):FS:=match L with
 | []=>f
 | i::r=>RX i (DC r f)
theorem DD{X:Cx}{st:az}{H₀ aa:Hp}{f:FS}(h:PS X st (tS X H₀ aa f)):∀L:List Nat,PS X st (tS X H₀ aa (DC L f))
 | []=>h
 | _::r=>VR (DD h r)
def O3(Γ:Gm)(st:az):List Nat:=match Wh st with | true=>Γ.K5.filterMap (slot Γ) | false=>[]
mutual
noncomputable def M0:Nat->Gm->az->Option FS
 | 0,_,_=>none
 | n+1,Γ,st=>some (DC (O3 Γ st) (((DB n Γ st).or (um n Γ st)).getD λ_=>none))
noncomputable def um:Nat->Gm->az->Option FS
 | 0,_,_=>none
 | n+1,Γ,st=>match We n Γ st with | some f=>some f | none=>match st with
  | .Return none _=>some λ_=>some (.rt (.val .cM))
  | .Return (some (.Name x _)) _=>if(cu x&&rO Γ x&&Γ.chg.contains x)=true then(slot Γ x).map oU else(cm n Γ (.Name x ⟨0,0,0,0⟩)).map cP
  | .Return (some e) _=>(cm n Γ e).map λf=>ix (cQ n Γ e) (cP f)
  | .If c a b _=>(sv n Γ c).bind λgc=>(gH n Γ a).bind λf=>(gH n Γ b).map λg=>ni (BB Γ gc) f g
  | .Expr (.Call (.Attribute (.Name x _) m ap) [a] [] cp) _=>if(cu x&&rO Γ x&&bZ a&&(ap.endLine==cp.line))=true then(slot Γ x).bind λi=>(kj n Γ [a]).bind λts =>
    (if m==("append":Str)then some (ix (cQ n Γ a) (iL i ts r9))else if m==("extend":Str)then some (ix (cQ n Γ a) (iL i ts nQ))else none)else none
  | .Expr e _=>if n0 e=true then(cm n Γ e).map λf=>ix (cQ n Γ e) (oB f)else none
  | .For tg iter body [] _=>(JA n Γ tg iter).bind λfi=>(oZ n Γ tg).bind λg=>(gH n Γ body).map λf=>ix (cQ n Γ iter) (gV fi g.1 f)
  | .Assign [.Name x p] (.ListComp elt [⟨tg,iter,ifs,0⟩] scope cp) sp=>if(wV Γ x&&cu x)=true then(slot Γ x).bind λi=>(Jw n Γ elt tg iter ifs scope).map λfc =>
    (if(Γ.chg.contains ("[thaw]":Str)&&!Γ.chg.contains x)=true then b7 (cq (OD fc)) (aD i)else ix (cQ n Γ (.ListComp elt [⟨tg,iter,ifs,0⟩] scope cp)) (if Γ.chg.contains x then mq i fc else b7 (cq fc) (aD i)))else none
  | .Assign [.Name x p] (.List es lp) sp=>if(wV Γ x&&cu x)=true then(slot Γ x).bind λi=>(kj n Γ es).map λts=>ix (cQ n Γ (.List es lp)) (if Γ.chg.contains x then mq i (dG ts)else b7 (cq (dG ts)) (aD i))else none
  | .Assign [.Name x p] e sp=>if(n0 e&&wV Γ x&&cu x)=true then(slot Γ x).bind λi=>(if Γ.chg.contains x then(Sl n Γ e).map λfo=>ix (cQ n Γ e) (Il i fo)else(cm n Γ e).map λf=>if Wd Γ e=true then b7 (lH f) (aD i)else ix (cQ n Γ e) (b7 f (aD i)))else none
  | .AugAssign (.Name x p) op e sp=>if(wV Γ x&&cu x)=true then(slot Γ x).bind λi=>(JD op).bind λg=>(cm n Γ e).map λf=>ix (cQ n Γ e) (b7 (ak (rd i) f g) (aD i))else none
  | .Assign [.Tuple ts k tp] e sp=>if Dx e=true then(oZ n Γ (.Tuple ts k tp)).bind λg=>(cm n Γ e).map λf=>ix (cQ n Γ e) (b7 f g.1)else none
  | _=>none
noncomputable def gH:Nat->Gm->List az->Option FS
 | 0,_,_=>none
 | n+1,Γ,[]=>some λρ=>some (.nx ρ)
 | n+1,Γ,[st]=>M0 n Γ st
 | n+1,Γ,st::UZ=>(M0 n Γ st).bind λf=>(gH n Γ UZ).map λg=>bx f g
end
structure JF (Γ:Gm) (X:Cx):Prop extends GOk Γ X where
 never:PassesOwn (model X.prog X.w) X.A X.env X.xe
 stk:X.stack=X.env::X.outer/\X.env.frame=some X.env.locals
theorem wa{X:Cx}{a:aj}{cp:Pos}(h:bZ a=true):((backTo cp (starEach [a] X.env)).all (λx=>!x.1)&&(backToKw cp (keywordEach [] X.env)).all (λx=>x.1.isSome)
   && decide ([a].length+([]:List Keyword).length+(if([]:List Keyword).isEmpty then 0 else 1)<30))=true:=by
 rw[aO h];rfl
theorem DE{X:Cx}{a b:aj}{cp:Pos}(h:bZ a=true)(h2:bZ b=true):((backTo cp (starEach [a,b] X.env)).all (λx=>!x.1)&&(backToKw cp (keywordEach [] X.env)).all (λx=>x.1.isSome)
   && decide ([a,b].length+([]:List Keyword).length+(if([]:List Keyword).isEmpty then 0 else 1)<30))=true:=by
 rw[aO h,aO h2];rfl
theorem yI{X:Cx}{b:aj}{cp:Pos}(h2:bZ b=true):(backTo cp (starEach [b] X.env)).any (·.1)=false:=by
 rw[aO h2];rfl
structure Wi (n:Nat):Prop where
 s:∀Γ X st f,JF Γ X->M0 n Γ st=some f->∀H₀ aa,PS X st (tS X H₀ aa f)
 s0:∀Γ X st f,JF Γ X->um n Γ st=some f->∀H₀ aa,PS X st (tS X H₀ aa f)
 ss:∀Γ X st f,JF Γ X->gH n Γ st=some f->∀H₀ aa,oQ X st (tS X H₀ aa f)
theorem fE{Γ:Gm}{X:Cx}{x:Str}{p:Pos}{i:Nat}(G:GOk Γ X)(hn:cu x=true)(hv:rO Γ x=true)(hs:slot Γ x=some i):PE X (.Name x p) (iS i) :=
 pe_var (G.i9 hs) (G.Js hv) (ej hn).1 (ej hn).2.1
theorem M1{X:Cx}{x:Str}{p sp:Pos}{e:aj}{op:Operator}{i:Nat}{H₀ aa:Hp}{fe:FE}{g:PV->PV->bP}{h:Int->Int->Int}(hg:∀a b c,g a b=some c->∃i j,a=.int i/\b=.int j/\c=.int (h i j))(ho:OpR X (inplaceOp op) (AF λi j=>.int (h i j)))
  (he:PE X e (tE X.K H₀ aa fe)) (hN:X.N.Nodup) (hi:X.N[i]?=some x) (hx:NZ X.env.scope x) (hf:X.fn x=true\/X.env.scope.names.lookup x=some .local):PS X (.AugAssign (.Name x p) op e sp) (tS X H₀ aa (b7 (ak (rd i) fe g) (aD i))):=by
 refine(Hb (ti:=AF λi j=>.int (h i j)) hN hi hx he (λaf s σ H x y v u Q I r1 r2 t=>ho af s σ H x y v u Q I r1 r2 t) hf).imp λD σ H hh=>?_
 obtain⟨F,ρ,o,R,hf,q⟩:=hh;obtain⟨c,h1,h2⟩:=ar hf;obtain⟨a,ha,h1⟩:=ar h1;obtain⟨b,hb,h1⟩:=ar h1;obtain⟨ia,jb,rfl,rfl,rfl⟩:=hg a b c h1;cases z:aD i (.int (h ia jb)) ρ with
 | none=>rw[z]at h2;cases h2
 | some gq =>
  rw[z]at h2;cases h2;obtain⟨hl,rfl⟩:=aA z;have hr:ρ[i]?=some (.val (.int ia)):=by
   unfold rd at ha;split at ha
   ·rename_i e;cases ha;exact e
   ·cases ha
  obtain⟨v,hv,bv⟩:=R.val i _ hr;rw[aF.mp bv]at hv;refine⟨.int ia,hv,F,ρ,.int jb,R,hb,λy H1 F1 R1 s1 b1=>⟨ia,jb,rfl,aF.mp b1,?_⟩⟩
  exact q F1 _ H1 (R1.set hl (aF.mpr rfl)) s1
theorem yJ{Γ:Gm}{X:Cx}{x:Str}{p sp:Pos}{e:aj}{op:Operator}{i:Nat}{H₀ aa:Hp}{fe:FE}{g:PV->PV->bP}{h:Int->Int->Int}(G:GOk Γ X)(hs:slot Γ x=some i)(hx:wV Γ x=true)(hg:∀a b c,g a b=some c->∃i j,a=.int i/\b=.int j/\c=.int (h i j))(ho:OpR X (inplaceOp op) (AF λi j=>.int (h i j)))
  (he:PE X e (tE X.K H₀ aa fe)):PS X (.AugAssign (.Name x p) op e sp) (tS X H₀ aa (b7 (ak (rd i) fe g) (aD i))):=by
 obtain⟨h1,h2⟩:=G.Sf hx;exact M1 hg ho he G.nd (G.i9 hs) h1 h2
theorem eR{Γ:Gm}{X:Cx}{x:Str}{p sp:Pos}{e:aj}{i:Nat}{te:TE}(G:GOk Γ X)(hs:slot Γ x=some i)(hx:wV Γ x=true)(he:PE X e te)(hsw:swapsWith e (some (.Name x p)) sp.line X.env=pure false):PS X (.Assign [.Name x p] e sp) (lF te (gName i)):=by
 obtain⟨h1,h2⟩:=G.Sf hx;exact vd G.nd (G.i9 hs) h1 he hsw h2
theorem lP{Γ:Gm}{X:Cx}{x:Str}{elt:aj}{gens:List Comprehension}{scope:Scope}{cp p sp:Pos}(G:GOk Γ X) :
  (swapsWith (.ListComp elt gens scope cp) (some (.Name x p)) sp.line X.env=pure true/\X.env.scope.names.lookup x=some .local)\/swapsWith (.ListComp elt gens scope cp) (some (.Name x p)) sp.line X.env=pure false:=by
 have e:swapsWith (.ListComp elt gens scope cp) (some (.Name x p)) sp.line X.env=pure (X.env.blockKind==.function&&X.env.kindOf x==some .local&&p.line==(Expr.ListComp elt gens scope cp).pos.line&&!(scope.names.any fun(n,k)=>n==x&&(k==.local || k==.cell))):=rfl
 rw[e];cases hb:(X.env.blockKind==.function&&X.env.kindOf x==some .local&&p.line==(Expr.ListComp elt gens scope cp).pos.line&&!(scope.names.any fun(n,k)=>n==x&&(k==.local || k==.cell)))with
 | true =>
  refine .inl ⟨rfl,?_⟩;simp only[aG]at hb;exact bq hb.1.1.2
 | false=>exact .inr rfl
theorem Sm{n:Nat}(Γ:Gm)(X:Cx)(e:aj)(f:aE->cz)(G:GOk Γ X)(h:Sl n Γ e=some f)(H₀ aa:Hp):PE X e (tR X.K H₀ aa f)/\∀ρ en,f ρ=some en->(∃p,en=.val p)\/∃ps,en=.own ps:=by
 unfold Sl at h;split at h
 ·rename_i x es m hd;obtain⟨ts,h1,rfl⟩:=au h;unfold DA at hd;split at hd
  ·obtain⟨hc,hd⟩:=ax hd;simp only[aG]at hc;obtain⟨⟨hn,hg⟩,hp⟩:=hc;obtain⟨n1,n2,n3⟩:=ej hn;rw[gB,aG]at hp;obtain⟨m',hm,he⟩:=au hd;cases he;obtain⟨k,fa,fd,ps,F,hr,q1,q2,q3⟩:=G.fns _ m hm;exact⟨Mp (Q9 F hr (G.iM hg) q1 q2 q3 (((snd n).a Γ X _ ts G h1).1 H₀ aa) n1 (aO hp.1 _ _) (fB hp.2 _ _)),Io _ _⟩
  ·cases hd
 ·split at h
  ·rename_i a b hs;obtain⟨fa,h1,h⟩:=ar h;obtain⟨fb,h2,rfl⟩:=au h;unfold O0 at hs;split at hs
   ·cases hs;exact⟨Vj ((snd n).e Γ X _ fa G h1 H₀ aa) ((snd n).e Γ X _ fb G h2 H₀ aa),Mn _ _⟩
   ·cases hs
  ·split at h
   ·rename_i a lo hi hs;obtain⟨fa,h1,h⟩:=ar h;obtain⟨fl,h2,h⟩:=ar h;obtain⟨fh,h3,rfl⟩:=au h;unfold O1 at hs;split at hs
    ·cases hs;exact⟨Vm ((snd n).e Γ X _ fa G h1 H₀ aa) ((snd n).o Γ X _ fl G h2 H₀ aa) ((snd n).o Γ X _ fh G h3 H₀ aa),Mt _ _ _⟩
    ·cases hs
   ·split at h
    ·rename_i a hs;obtain⟨fa,h1,rfl⟩:=au h;unfold O2 at hs;split at hs
     ·obtain⟨hc,N3⟩:=ax hs;clear hs;simp only[aG]at hc;obtain⟨⟨⟨c1,c2⟩,c3⟩,c4⟩:=hc;have c1:=bq c1;subst c1;cases N3;exact⟨Vp (G.iM c2) (G.dg _ c3) ((snd n).e Γ X _ fa G h1 H₀ aa) (aO c4 _ _),Mu _⟩
     ·cases hs
    ·obtain⟨fe,h1,rfl⟩:=au h;exact⟨Vh ((snd n).e Γ X _ fe G h1 H₀ aa),Mm _⟩
theorem Sn{n:Nat}{Γ:Gm}{X:Cx}{x fn:Str}{p sp fp lp cp:Pos}{tg:aj}{scope:Scope}{i j:Nat}{gg:eI×List Nat}{H₀ aa:Hp}(G:JF Γ X)(it:slot Γ x=some i)(st:wV Γ x=true)(hf:PE X (.Name fn fp) (iS j))(h2:oZ n (oH Γ scope) tg=some gg)(hk:ki Γ scope gg.2=true) :
  PS X (.Assign [.Name x p] (.ListComp (.List [] lp) [⟨tg,.Name fn fp,[],0⟩] scope cp) sp) (tS X H₀ aa (IU (eQ Γ scope) gg.1 i j)):=by
 have G':=G.toGOk;have SC:=qZ G' hk;have GK:=yG G' hk;have pi1:PI X tg (.Name fn fp) (MO X.K (dH (rd j))):=RQ λH₀ aa=>CQ (tQ j hf)
 have pb:∀(C:ab) (s:aq) (H:Hp) (fp:List ab),PB (cG X (kh scope) scope C s H fp) tg [] (.List [] lp) (RR X.K gg.1 (dG ao)):=λC s H fp=>qB λb:Hp×Hp=>qA ((jw (GK C s H fp) n tg gg h2).1 b.1 b.2) (CN tV)
 refine RV (jw (GK 0 X.s₀ X.H₀ []) n tg gg h2).2.1 (kl hk).2.2.2 (λρ=>(if_pos (dY fO):(if 0<=fO then some ([]:av)else none)=some [])) ?_
 rcases lP G' with⟨z,hz⟩ | z
 ·exact vx G'.calm G'.nd (G'.i9 it) hz SC pi1 pb z
 ·exact eR G' it st (vw G'.calm SC pi1 pb) z
theorem Wj{n:Nat}{Γ:Gm}{X:Cx}{st:az}{f:FS}(G:JF Γ X)(h:DB n Γ st=some f)(H₀ aa:Hp):PS X st (tS X H₀ aa f):=by
 have S:=snd n;cases st<;>try exact dz h
 case Return v rp =>
  rcases v with _ | v<;>try exact dz h
  cases v<;>try exact dz h
  rename_i x xp;obtain⟨hc,g⟩:=ax (show(if(cu x&&rO Γ x&&Γ.dct.contains x)=true then(slot Γ x).map Fg else none)=some f from h)
  simp only[aG]at hc;obtain⟨i,h1,rfl⟩:=au g;exact Se (fE G.toGOk hc.1.1 hc.1.2 h1)
 case Assign tgs v sp =>
  rcases tgs with _ | ⟨t,r⟩<;>try exact dz h
  ·cases t<;>try exact dz h
   case Name x p =>
    rcases r with _ | ⟨t2,r⟩<;>try exact dz h
    cases v<;>try exact dz h
    case Dict ks vs dp =>
     rcases ks with _ | ⟨k1,ks⟩<;>try exact dz h
     rcases vs with _ | ⟨v1,vs⟩<;>try exact dz h
     obtain⟨hc,g⟩:=ax (show(if(Γ.dct.contains x&&wV Γ x)=true then(slot Γ x).map E5 else none)=some f from h)
     rw[aG]at hc;obtain⟨i,h1,rfl⟩:=au g;exact(eR G.toGOk h1 hc.2 CK rfl).imp λD σ H h=>IY h
    case Call fn args yH cp =>
     cases fn<;>try exact dz h
     rename_i f fp;rcases args with _ | ⟨a,es⟩<;>rcases yH with _ | ⟨kw,yH⟩<;>try exact dz h
     obtain⟨hc,g⟩:=ax (show(if(Γ.dct.contains x&&wV Γ x&&cu f&&sj Γ f&&(a::es).all bZ)=true then(slot Γ x).bind λi=>(Γ.fns.lookup f).bind λm=>(kj n Γ (a::es)).map λts=>Fh i (aW m (Γ.call f)) ts else none)=some _ from h)
     simp only[aG]at hc;obtain⟨⟨⟨⟨c1,c2⟩,c3⟩,c4⟩,c5⟩:=hc;rw[gB,aG]at c5;obtain⟨i,h1,g⟩:=ar g;obtain⟨m,h2,g⟩:=ar g;obtain⟨ts,h3,rfl⟩:=au g;obtain⟨k,fa,fd,ps,F,hr,q1,q2,q3⟩:=G.fns _ m h2;exact(eR G.toGOk h1 c2 (kz F hr (G.iM c4) q1 q2 q3 .nil mi ((S.a Γ X _ ts G.toGOk h3).1 H₀ aa) (ej c3).1 (aO c5.1 _ _) (fB c5.2 _ _)) rfl).imp λD σ H h=>Jn h
    case ListComp elt gens scope cp =>
     cases elt<;>try exact dz h
     rename_i es lp;rcases es with _ | ⟨e1,es⟩<;>try exact dz h
     rcases gens with _ | ⟨⟨tg,iter,ifs,(_ | k) | k⟩,_ | ⟨g2,r⟩⟩<;>try exact dz h
     ·cases iter<;>(rcases ifs with _ | ⟨c1,cs⟩<;>try exact dz h)
      rename_i fn fp;obtain⟨hc,g⟩:=ax (show(if(Γ.K5.contains x&&wV Γ x&&cu fn&&rO Γ fn)=true then(slot Γ x).bind λi=>(slot Γ fn).bind λj=>(oZ n (oH Γ scope) tg).bind λg=>if ki Γ scope g.2=true then some (IU (eQ Γ scope) g.1 i j)else none else none)=some f from h)
      simp only[aG]at hc;obtain⟨⟨⟨c1,c2⟩,c3⟩,c4⟩:=hc;obtain⟨i,h1,g⟩:=ar g;obtain⟨j,h2,g⟩:=ar g;obtain⟨tgd,h3,g⟩:=ar g;obtain⟨hk,rfl⟩:=aA g;exact Sn G h1 c2 (fE G.toGOk c3 c4 h2) h3 hk
     all_goals cases iter<;>(rcases ifs with _ | ⟨c1,cs⟩<;>exact dz h)
   case Subscript o k tp =>
    cases o<;>try exact dz h
    rename_i x p;rcases r with _ | ⟨t2,r⟩<;>try exact dz h
    obtain⟨hc,g⟩:=ax (show(if(cu x&&rO Γ x&&gK k&&n0 v&&Γ.dct.contains x)=true then(slot Γ x).bind λi=>(cm n Γ k).bind λfk=>(cm n Γ v).map λfv=>Bo i fk fv else none)=some f from h)
    simp only[aG]at hc;obtain⟨⟨⟨⟨c1,c2⟩,c3⟩,c4⟩,c5⟩:=hc;obtain⟨i,h1,g⟩:=ar g;obtain⟨fk,h2,g⟩:=ar g;obtain⟨fv,h3,rfl⟩:=au g;exact(Di (by have:=G.un;lia) (fE G.toGOk c1 c2 h1) (S.e Γ X _ fk G.toGOk h2 H₀ aa) (S.e Γ X _ fv G.toGOk h3 H₀ aa) (fA c4 _ _ _)).imp λD σ H h=>IZ h
 ·rename_i e ep;cases e<;>try exact dz h
  rename_i fn args yH cp;cases fn<;>try exact dz h
  rename_i v m ap;cases v<;>try exact dz h
  rename_i o k sp;cases o<;>try exact dz h
  rename_i x xp;rcases args with _ | ⟨a,_ | ⟨b,r⟩⟩<;>rcases yH with _ | ⟨kw,yH⟩<;>try exact dz h
  obtain⟨hc,g⟩:=ax (show(if(cu x&&rO Γ x&&gK k&&bZ a&&(ap.endLine==cp.line)&&m==("append":Str)&&Γ.K5.contains x)=true then(slot Γ x).bind λi=>(cm n Γ k).bind λfk=>(cm n Γ a).map λfa=>RW i fk fa else none)=some f from h)
  simp only[aG]at hc;obtain⟨⟨⟨⟨⟨⟨c1,c2⟩,c3⟩,c4⟩,c5⟩,c6⟩,c7⟩:=hc;obtain rfl:=bq c6;obtain⟨i,h1,g⟩:=ar g;obtain⟨fk,h2,g⟩:=ar g;obtain⟨fa,h3,rfl⟩:=au g;exact(gk (IS (xM VO (fE G.toGOk c1 c2 h1) (S.e Γ X _ fk G.toGOk h2 H₀ aa) (kc c3)) (nN (S.e Γ X _ fa G.toGOk h3 H₀ aa) tV (aO c4 _ _)) rfl (wa c4) c5 (aO c4 _ _) rfl)).imp λD σ H h=>IX h
section
variable {n:Nat} (T:Wi n)
include T
theorem So(Γ:Gm)(X:Cx)(st:List az)(f:FS)(G:JF Γ X)(h:gH (n+1) Γ st=some f)(H₀ aa:Hp):oQ X st (tS X H₀ aa f):=by
 match st,h with
 | [],h=>cases h;exact QI
 | [st],h=>exact QJ (T.s Γ X st f G h H₀ aa)
 | st::Ta::UZ,h =>
  obtain⟨f1,h1,h⟩:=ar h;obtain⟨g,h2,rfl⟩:=au h;exact LN (T.s Γ X st f1 G h1 H₀ aa) (T.ss Γ X _ g G h2 H₀ aa)
set_option maxHeartbeats 4000000 in
theorem Sq(Γ:Gm)(X:Cx)(st:az)(f:FS)(G:JF Γ X)(h:um (n+1) Γ st=some f)(H₀ aa:Hp):PS X st (tS X H₀ aa f):=by
 have S:=snd n;unfold um at h;split at h
 ·rename_i f' hq;cases h;cases st<;>try exact dz hq
  case Assign tgs v sp =>
   rcases tgs with _ | ⟨t,r⟩<;>try exact dz hq
   cases t<;>try exact dz hq
   rcases r with _ | ⟨t2,r⟩<;>try exact dz hq
   cases v<;>try exact dz hq
   rename_i ks vs dp;rcases ks with _ | ⟨k1,ks⟩<;>try exact dz hq
   rcases vs with _ | ⟨v1,vs⟩<;>try exact dz hq
   obtain⟨hc,h⟩:=ax hq;simp only[aG]at hc;obtain⟨i,h1,rfl⟩:=au h;exact(eR G.toGOk h1 hc.1.2 IH rfl).imp λD σ H h=>IJ h
  ·rename_i e ep;cases e<;>try exact dz hq
   rename_i fn args yH cp;cases fn<;>try exact dz hq
   rename_i v m ap;cases v<;>try exact dz hq
   rename_i x xp;rcases args with _ | ⟨a,_ | ⟨b,_ | ⟨c,r⟩⟩⟩<;>rcases yH with _ | ⟨kw,yH⟩<;>try exact dz hq
   ·obtain⟨hc,h⟩:=ax hq;simp only[aG]at hc;obtain⟨⟨⟨c1,c2⟩,c3⟩,c4⟩:=hc;obtain⟨i,h1,rfl⟩:=au h;have hm:=bq c4;subst hm;exact(gk (Qu nr PySem.F.slot_list_reverse PySem.F.type_list_reverse AQ (fE G.toGOk c1 c2 h1) rfl c3)).imp λD σ H h=>HR MJ h
   ·obtain⟨hc,h⟩:=ax hq;simp only[aG]at hc;obtain⟨⟨⟨⟨c1,c2⟩,c3⟩,c4⟩,c5⟩:=hc;obtain⟨i,h1,h⟩:=ar h;obtain⟨fa,h2,h⟩:=ar h;obtain⟨fb,h3,h6⟩:=ar h;clear h hq;have hx:=λp=>fE (p:=p) G.toGOk c1 c2 h1
    have ha:=nN (S.e Γ X _ fa G.toGOk h2 H₀ aa) (nN (S.e Γ X _ fb G.toGOk h3 H₀ aa) tV (aO c4 _ _)) (aO c3 _ _);split at h6
    ·rename_i hm;rw[aG]at hm;have hm:=bq hm.1;subst hm;have h7:=bg h6;subst h7;exact eA ((gk (xP PySem.F.plainAttrs_dict Gw PySem.F.type_dict_setdefault RJ (hx _) ha rfl (DE c3 c4) c5 (aO c3 _ _) (yI c4))).imp λD σ H h=>MM h)
    ·split at h6
     ·rename_i hm;have hm:=bq hm;subst hm;have h7:=bg h6;subst h7;exact eA ((gk (xP nr PySem.F.slot_list_insert PySem.F.type_list_insert E4 (hx _) ha rfl (DE c3 c4) c5 (aO c3 _ _) (yI c4))).imp λD σ H h=>vy MK h)
     ·cases h6
 rename_i hq0;clear hq0;split at h
 ·cases h;exact QK
 ·split at h
  ·rename_i hc;obtain⟨i,h1,rfl⟩:=au h;simp only[aG]at hc;exact EG i (fE G.toGOk hc.1.1 hc.1.2 h1)
  ·obtain⟨fe,h1,rfl⟩:=au h;rename_i x p _ _;have:=S.e Γ X _ fe G.toGOk h1 H₀ aa;refine Oo ?_;cases n with
   | zero=>cases h1
   | succ n =>
    exact S.e Γ X (.Name x p) fe G.toGOk h1 H₀ aa
 ·obtain⟨fe,h1,rfl⟩:=au h;exact eA (Oo (S.e Γ X _ fe G.toGOk h1 H₀ aa))
 ·obtain⟨gc,h1,h⟩:=ar h;obtain⟨fa,h2,h⟩:=ar h;obtain⟨fb,h3,rfl⟩:=au h;exact ZX (JE (S.t Γ X _ gc G.toGOk h1 H₀ aa)) (T.ss Γ X _ fa G h2 H₀ aa) (T.ss Γ X _ fb G h3 H₀ aa)
 ·obtain⟨hc,h⟩:=ax h;simp only[aG]at hc;obtain⟨⟨⟨hn,hv⟩,hp⟩,hl⟩:=hc;obtain⟨i,h1,h⟩:=ar h;obtain⟨ts,h2,h6⟩:=ar h;clear h;have ha:=((S.a Γ X _ ts G.toGOk h2).1 H₀ aa);have V0:=λp=>fE (p:=p) G.toGOk hn hv h1
  split at h6
  ·rename_i hm;have hm:=bq hm;subst hm;have h7:=bg h6;subst h7;exact eA ((gk (xP nr zJ zL nM (V0 _) ha rfl (wa hp) hl (aO hp _ _) rfl)).imp λD σ H h=>vy L0 h)
  ·split at h6
   ·rename_i hm;have hm:=bq hm;subst hm;have h7:=bg h6;subst h7;exact eA ((gk (xP nr PySem.F.slot_list_extend PySem.F.type_list_extend QQ (V0 _) ha rfl (wa hp) hl (aO hp _ _) rfl)).imp λD σ H h=>vy L1 h)
   ·cases h6
 ·obtain⟨hc,h⟩:=ax h;obtain⟨fe,h1,rfl⟩:=au h;exact eA (QL (S.e Γ X _ fe G.toGOk h1 H₀ aa) (fA hc _ _ _))
 ·obtain⟨fi,h1,h⟩:=ar h;obtain⟨g,h2,h⟩:=ar h;obtain⟨fb,h3,rfl⟩:=au h;obtain⟨i1,i2⟩:=S.i Γ X _ _ fi G.toGOk h1;exact eA (U3 G.never G.calm (i1 H₀ aa) ((jw G.toGOk n _ g h2).1 H₀ aa) (T.ss Γ X _ fb G h3 H₀ aa) i2)
 ·-- x=[.. for ..]
  obtain⟨hc,h⟩:=ax h;simp only[aG]at hc;obtain⟨i,h1,h⟩:=ar h;obtain⟨fc,h2,rfl⟩:=au h;obtain⟨c1,c2⟩:=S.c Γ X _ _ _ _ _ fc G.toGOk h2;split
  ·rcases lP G.toGOk with⟨z,hl⟩ | z
   ·obtain⟨t,ht,k⟩:=c2 H₀ aa i _ _ _ _ (G.toGOk.i9 h1) hl z;exact qC (λσ H Q h=>ht σ H Q (yj h)) k
   ·exact qC (λσ H Q h=>yj h) (eR G.toGOk h1 hc.1 (c1 H₀ aa _) z)
  refine eA ?_;rcases lP G.toGOk with⟨z,hl⟩ | z
  ·obtain⟨t,ht,k⟩:=c2 H₀ aa i _ _ _ _ (G.toGOk.i9 h1) hl z;split
   ·exact k.imp λD σ H h=>qE ht h
   ·exact qC ht k
  ·have k:=eR G.toGOk h1 hc.1 (c1 H₀ aa _) z;split
   ·exact k.imp λD σ H h=>qE (λ_ _ _ h=>h) h
   ·exact qC (λ_ _ _ h=>h) k
 ·-- x=[..]
  obtain⟨hc,h⟩:=ax h;simp only[aG]at hc;obtain⟨i,h1,h⟩:=ar h;obtain⟨ts,h2,rfl⟩:=au h;have he:=λp=>CN (pos:=p) ((S.a Γ X _ ts G.toGOk h2).1 H₀ aa)
  refine eA ?_;rename_i x p1 es lp sp _ _;have k:=eR (p:=p1) (sp:=sp) G.toGOk h1 hc.1 (he lp) rfl;split
  ·exact k.imp λD σ H h=>qE (λ_ _ _ h=>h) h
  ·exact qC (λ_ _ _ h=>h) k
 ·obtain⟨hc,h⟩:=ax h;simp only[aG]at hc;obtain⟨i,h1,h⟩:=ar h;split at h
  ·obtain⟨fo,h2,rfl⟩:=au h;refine eA ?_;obtain⟨o1,o2⟩:=Sm Γ X _ fo G.toGOk h2 H₀ aa;exact(eR G.toGOk h1 hc.1.2 o1 (fA hc.1.1 _ _ _)).imp λD σ H h=>Im o2 (λ_ _ _ h=>h) h
  ·obtain⟨fe,h2,rfl⟩:=au h;split
   ·exact Oq i (eR G.toGOk h1 hc.1.2 (HP (S.e Γ X _ fe G.toGOk h2 H₀ aa)) (fA hc.1.1 _ _ _))
   refine eA ?_;exact Oq i (eR G.toGOk h1 hc.1.2 (S.e Γ X _ fe G.toGOk h2 H₀ aa) (fA hc.1.1 _ _ _))
 ·obtain⟨hc,h⟩:=ax h;simp only[aG]at hc;obtain⟨i,h1,h⟩:=ar h;obtain⟨g,h2,h⟩:=ar h;obtain⟨fe,h3,rfl⟩:=au h;refine eA ?_;unfold JD at h2;split at h2
  ·cases h2;exact yJ G.toGOk h1 hc.1 (λa b c e=>by
    unfold MZ at e;split at e
    ·cases e;exact⟨_,_,rfl,rfl,rfl⟩
    ·cases e) iop_add (S.e Γ X _ fe G.toGOk h3 H₀ aa)
  ·cases h2;exact yJ G.toGOk h1 hc.1 (λa b c e=>by
    unfold Wc at e;split at e
    ·cases e;exact⟨_,_,rfl,rfl,rfl⟩
    ·cases e) Ln (S.e Γ X _ fe G.toGOk h3 H₀ aa)
  ·cases h2
 ·obtain⟨hc,h⟩:=ax h;obtain⟨g,h1,h⟩:=ar h;obtain⟨fe,h2,rfl⟩:=au h;obtain⟨g1,g2,g3,g4⟩:=jw G.toGOk n _ g h1;refine eA (U2 (S.e Γ X _ fe G.toGOk h2 H₀ aa) (g1 H₀ aa) ?_ ?_ (g3 _))
  ·rename_i ts k tp e sp _ _;have z:=fA (vS hc) (some (Expr.Tuple ts k tp)) sp.line X.env;exact z
  ·rename_i ts k tp e sp _ _;cases e<;>first | rfl | cases hc
 ·cases h
theorem Wk(Γ:Gm)(X:Cx)(st:az)(f:FS)(G:JF Γ X)(h:M0 (n+1) Γ st=some f)(H₀ aa:Hp):PS X st (tS X H₀ aa f):=by
 have h:some (DC (O3 Γ st) (((DB n Γ st).or (um n Γ st)).getD λ_=>none))=some f:=h
 cases h;refine DD ?_ _;cases y:DB n Γ st with
 | some g=>exact Wj G y H₀ aa
 | none =>
  cases z:um n Γ st with
  | none=>exact G9.imp λD σ H ⟨F,ρ,o,R,hf,q⟩=>by cases hf
  | some g=>exact T.s0 Γ X st _ G z H₀ aa
end
theorem Wl:∀n:Nat,Wi n
 | 0=>⟨(λ_ _ _ _ _ h=>by cases h),(λ_ _ _ _ _ h=>by cases h),(λ_ _ _ _ _ h=>by cases h)⟩
 | n+1=>⟨Wk (Wl n),Sq (Wl n),So (Wl n)⟩
def JG:List Str:=["append","extend","clear","pop","insert","reverse","remove"]
mutual
def Wm:Nat->az->List Str
 | 0,_=>[]
 | n+1,st=>match st with
  | .Expr (.Call (.Attribute (.Name x _) m _) _ _ _) _=>if JG.contains m then [x]else []
  | .Assign [.Subscript (.Name x _) _ _] _ _=>[x]
  | .If _ a b _=>sx n a++sx n b
  | .For _ _ a b _=>sx n a++sx n b
  | .While _ a b _=>sx n a++sx n b
  | .Try a _ b _ _=>sx n a++sx n b
  | _=>[]
def sx:Nat->List az->List Str
 | 0,_=>[]
 | n+1,[]=>[]
 | n+1,s::r=>Wm n s++sx n r
end
def n5:Nat:=120
def defName(s:az):Str:=match s with
 | .FunctionDef x _ _ _ _ _ _ _ _ _=>x
 | _=>""
abbrev CT:=Str->Option Ob->av->cz
abbrev cN(c:CT)(x:Str)(ps:av):cz:=c x none ps
abbrev cO(c:CT)(x:Str)(o:Ob)(ps:av):cz:=c x (some o) ps
def XU(P:Pg)(st:az)(OZ:List Str)(cls:List (Str×Nat))(make:Str->av->Option (List (Str×Fd)))(wU:Bool)(c:CT):Gm where
 sc:=(aH st).names
 N:=cb st
 fns:=(P.defs.filter λd=>!P.bI.contains d.1).map λd=>(d.1,(params d.2).length)
 cons:=P.cons
 dg:=P.dg
 chg:=(sx n5 (cw st)).eraseDups++(P.own.lookup (defName st)).getD []++(P.NY.lookup (defName st)).getD []
 own:=true
 call:=cN c
 exc:=P.exc
 sub:=P.sub
 tabs:=P.tabs
 OZ:=OZ
 yE:=(P.defs.filter λd=>P.bI.contains d.1).map λd=>(d.1,(params d.2).length-1)
 mj:=cO c
 cls:=cls
 make:=make
 flds:=P.flds
 fy:=P.fy
 wU:=wU
 NY:=(P.NY.lookup (defName st)).getD []
 dct:=(P.dct.lookup (defName st)).getD []
 K5:=(P.K5.lookup (defName st)).getD []
def Sr(st:az):Str:=(params st).headD ""
def mO(P:Pg)(st:az)(c:CT):Gm:=XU P st ((if P.bI.contains (defName st)=true then [Sr st]else [])++(P.obs.lookup (defName st)).getD []) [] (λ_ _=>none) (P.lX.contains (defName st)) c
def q0(f:FS)(N:Nat)(ps:av):cz:=match f (ps.map .val++List.replicate (N-ps.length) .un)with
 | some (.rt (.val p))=>some (.val p)
 | some (.rt (.own ps))=>some (.own ps)
 | some (.rt (.cg m))=>some (.cg m)
 | some (.nx _)=>some (.val .cM)
 | _=>none
def Fm(f:FS)(N:Nat)(o:Ob)(ps:av):cz:=match f (ps.map .val++.ob o::List.replicate (N-(ps.length+1)) .un)with
 | some (.rt (.val p))=>some (.val p)
 | some (.rt (.own ps))=>some (.own ps)
 | some (.rt (.cg m))=>some (.cg m)
 | some (.nx _)=>some (.val .cM)
 | _=>none
def jJ(P:Pg):Nat->CT
 | 0,_,_,_=>none
 | k+1,x,o,ps=>(P.defs.lookup x).bind λst=>(gH n5 (mO P st (jJ P k)) (cw st)).bind λf=>match o with
  | none=>q0 f (cb st).length ps
  | some o=>if ps.length+1=(params st).length then Fm f (cb st).length o ps else none
def run(P:Pg)(k:Nat)(x:Str)(ps:av):cz:=jJ P k x none ps
def Wn(P:Pg)(k:Nat)(x:Str)(o:Ob)(ps:av):cz:=jJ P k x (some o) ps
theorem Ss{P:Pg}{k:Nat}{x:Str}{st:az}{f:FS}(h:P.defs.lookup x=some st)(hf:gH n5 (mO P st (jJ P k)) (cw st)=some f)(ps:av):run P (k+1) x ps=q0 f (cb st).length ps:=by
 show(P.defs.lookup x).bind _=_;rw[h];show(gH n5 (mO P st (jJ P k)) (cw st)).bind _=_;rw[hf];rfl
theorem oI{α:Type}(p:Str->Bool)(x:Str):∀l:List (Str×α),(l.filter λd=>p d.1).lookup x=if p x=true then l.lookup x else none
 | []=>by simp
 | (n,a)::r=>by
  have ih:=oI p x r;by_cases z:x=n
  ·subst z;cases hp:p x<;>simp[List.filter_cons,hp,iE,ih]
  ·have z':(x==n)=false:=by simpa using z
   cases hp:p n<;>simp[List.filter_cons,hp,iE,z',ih]
theorem gL{α:Type}(p:Str->Bool)(x:Str)(l:List (Str×α))(v:α)(h:(l.filter λd=>p d.1).lookup x=some v):l.lookup x=some v:=by
 rw[oI]at h;exact(ax h).2
theorem gw{α β:Type}(g:α->β)(x:Str):∀l:List (Str×α),(l.map λd=>(d.1,g d.2)).lookup x=(l.lookup x).map g
 | []=>rfl
 | (n,a)::r=>by
  rw[bJ,iE,iE];cases x==n with
  | true=>rfl
  | false=>exact gw g x r
section
variable {prog:bc} {w:aM} {K:ah} {mg:dy} {base:Heap}
def M3(K:ah)(mg:dy)(x:Str):Prop:=(∃p q fs fT IF Dj,IE K mg p q fs fT IF Dj)/\x∈dD/\∃c T,W.tabIn K x=some (c,T)/\W.codeHdIn K c T=true
theorem BC{K:ah}{x:Str}{c T:ab}(h:W.tabIn K x=some (c,T)):∃f oc od fd rP,W.nsIn K mainGlobals x=some (some (.ref f))/\K.lookup f=some ⟨oc,od,.func fd,rP⟩/\fd.code=.ref c:=by
 unfold W.tabIn at h;split at h
 ·rename_i f hf;split at h
  ·rename_i oc od fd rP hl;split at h
   ·rename_i c' hc;split at h
    ·split at h
     ·cases h;exact⟨f,oc,od,fd,rP,hf,hl,hc⟩
     ·cases h
    ·cases h
   ·cases h
  ·cases h
 ·cases h
def JH(K:ah)(f:ab)(df:ag):Prop:=∃oc od fd rP,K.lookup f=some ⟨oc,od,.func fd,rP⟩/\fd.code=df
theorem DF{P:bc}{w:aM}{K:ah}{mg:dy}{base:Heap}{x qual:Str}{st:az}{f:ab}{fd:dk}{N ps:List Str}{k:Nat}{sp:Sp}(F:Ap K x qual st f fd)(S:dA N ps (aH st))(len:∀vs H Q E,sp vs H Q E->vs.length=ps.length)
  (hbody:∀(df:ag) (A:bD) (outer:List Env) (s:aq) (H:Hp) (vs:List V) (Q:VK) (E:XK),JH K f df->dR k (A.deeper (envOfC qual (aH st) s.heap.objs.size f df))->sp vs H Q E ->
   ∃t,oQ (jH (jK P w) P w K mg base N qual (aH st) f df A outer s H E) (cw st) t/\t {nx:=λ_ H'=>Q .cM H',rt:=Q} (start N vs) H):FnOk P w K mg base (jK P w) (k+1) f fd ps sp:=by
 obtain⟨oc,od,kV,doc,pm,an,df,ct,rP,rfl,lk,sT⟩:=F.ex;exact N8 lk sT S len λA outer s H vs Q E hr nh=>hbody df A outer s H vs Q E ⟨oc,od,_,rP,lk,rfl⟩ hr nh
structure Su (P:Pg) (w:aM) (K:ah) (mg:dy):Prop where
 fns:∀x st,P.defs.lookup x=some st->∃f fd,Ap K x x st f fd/\eL K fd (params st) []/\mg x=some (.ref f)/\dA (cb st) (params st) (aH st)
 cons:∀x p,P.cons.lookup x=some p->∃u v,mg x=some u/\RelV v u/\∀F,cI K F p v
 dg:∀x,P.dg.contains x=true->mg x=none
 excs:∀C,P.exc.contains C=true->sM K C
 subs:∀C D b,P.sub.lookup (C,D)=some b->Ik K mg C D b
 tabs:∀T rows,P.tabs.lookup T=some rows->C9 K mg w.params T rows
 ns:∀x a,W.nsIn K mainGlobals x=some (some (.ref a))->mg x=some (.ref a)
 cls:∀C st,P.cls.lookup C=some st->∃Ca f fd,Mk K Ca f/\S5 K Ca/\(∀g,P.flds.contains g=true->nI K Ca g)/\mg C=some (.ref Ca)/\Ap K "__init__" (C++".__init__") st f fd/\eL K fd (params st) []/\dA (cb st) (params st) (aH st)
 fy:∀T rows,P.fy.lookup T=some rows->Bk K mg w.params T rows
 wU:∀x st,P.defs.lookup x=some st->P.lX.contains (defName st)=true->M3 K mg x
theorem kH{F H:Hp}{ps:av}{vs:List V}{N:List Str}(hs:Same F H)(hb:aP K F ps vs):cB K H F F (ps.map .val++List.replicate (N.length-ps.length) .un) (start N vs) H where
 sub:=hs
 keep:=Same.refl H
 base:=Same.refl F
 fresh:=λ_ _ e=>.inl e
 val:=λi p e=>by
  have hl:=hb.length;by_cases hi:i<ps.length
  ·rw[fX (by simpa using hi),bU]at e
   cases z:ps[i]? with
   | none=>rw[z]at e;cases e
   | some q =>
    rw[z]at e;cases e;obtain⟨v,h1,h2⟩:=hb.get z;refine⟨v,?_,h2⟩;unfold start;rw[fX (by rw[aB,<-hl];exact hi),bU,h1]
    rfl
  ·rw[gP (by simpa using hi),jO]at e
   split at e<;>cases e
 own:=λi qs e=>by
  by_cases hi:i<ps.length
  ·rw[fX (by simpa using hi),bU]at e
   cases z:ps[i]? with
   | none=>rw[z]at e;cases e
   | some q=>rw[z]at e;cases e
  ·rw[gP (by simpa using hi),jO]at e
   split at e<;>cases e
 apart:=λi j qs rs a e=>by
  by_cases hi:i<ps.length
  ·rw[fX (by simpa using hi),bU]at e
   cases z:ps[i]? with
   | none=>rw[z]at e;cases e
   | some q=>rw[z]at e;cases e
  ·rw[gP (by simpa using hi),jO]at e
   split at e<;>cases e
 obs:=λi qs e=>by
  by_cases hi:i<ps.length
  ·rw[fX (by simpa using hi),bU]at e
   cases z:ps[i]? with
   | none=>rw[z]at e;cases e
   | some q=>rw[z]at e;cases e
  ·rw[gP (by simpa using hi),jO]at e
   split at e<;>cases e
 cg:=λi qs e=>by
  by_cases hi:i<ps.length
  ·rw[fX (by simpa using hi),bU]at e
   cases z:ps[i]? with
   | none=>rw[z]at e;cases e
   | some q=>rw[z]at e;cases e
  ·rw[gP (by simpa using hi),jO]at e
   split at e<;>cases e
 len:=by
  unfold start;rw[bX,bX,aB,aB,jP,jP,hb.length]
def FR(P:Pg)(prog:bc)(w:aM)(K:ah)(mg:dy)(base:Heap)(k:Nat):Prop:=∀(x:Str) (st:az) (f:ab) (fd:dk),P.defs.lookup x=some st->mg x=some (.ref f)->Ap K x x st f fd->dA (cb st) (params st) (aH st) ->
 FnOk prog w K mg base (jK prog w) (3*k) f fd (params st) (xY K (params st).length (run P k x))/\FnOk prog w K mg base (jK prog w) (3*k) f fd (params st) (OS K ((params st).length-1) (Wn P k x))
section
variable {P:Pg} (O:Su P w K mg) {k:Nat} (ih:FR P prog w K mg base k)
include O ih
theorem O4{st:az}{x:Str}{f:ab}{df:ag}{A:bD}{outer:List Env}{s:aq}{H:Hp}{E:XK}{OZ:List Str}{cls:List (Str×Nat)}{make:Str->av->Option (List (Str×Fd))}{wU:Bool}{j:Nat}(S:dA (cb st) (params st) (aH st))
  (hr:dR j (A.deeper (envOfC x (aH st) s.heap.objs.size f df))) (hj:3*k<=j) (hcl:∀C n,cls.lookup C=some n->∃k' Ca f' fd ps,Mk K Ca f'/\S5 K Ca/\(∀f,P.flds.contains f=true->nI K Ca f)/\FnOk prog w K mg base (jK prog w) k' f' fd ps (spI K n (make C))/\dR (k'+1) (A.deeper (envOfC x (aH st) s.heap.objs.size f df))/\mg C=some (.ref Ca)/\eL K fd ps [])
  (aaX:wU=true->Jo (XU P st OZ cls make wU (jJ P k)) (jH (jK prog w) prog w K mg base (cb st) x (aH st) f df A outer s H E)) :
  JF (XU P st OZ cls make wU (jJ P k)) (jH (jK prog w) prog w K mg base (cb st) x (aH st) f df A outer s H E):=by
 refine⟨⟨rfl,rfl,S.nd,S.kind,rfl,hr.hd,?_,λ_ _=>rfl,λy n hy=>?_,O.cons,O.dg,O.excs,O.subs,O.tabs,⟨λy n hy=>?_,O.ns,hcl,O.fy,aaX⟩⟩,Ab,rfl,rfl⟩
 ·have:=hr.un;show(A.deeper _).units+1150<cLine
  lia
 ·have hy:((P.defs.filter λd=>!P.bI.contains d.1).map λd=>(d.1,(params d.2).length)).lookup y=some n:=hy
  rw[gw (λst=>(params st).length)]at hy
  obtain⟨ng,h1,h2⟩:=au hy;subst h2;have h1:=gL (λx=>!P.bI.contains x) y P.defs ng h1
  obtain⟨f',Gk,F1,B1,m1,S1⟩:=O.fns y ng h1;exact⟨3*k,f',Gk,params ng,(ih y ng f' Gk h1 m1 F1 S1).1,hr.mono hj,m1,F1.kp,B1⟩
 ·have hy:((P.defs.filter λd=>P.bI.contains d.1).map λd=>(d.1,(params d.2).length-1)).lookup y=some n:=hy
  rw[gw (λst=>(params st).length-1)]at hy
  obtain⟨ng,h1,h2⟩:=au hy;subst h2;have h1:=gL (λx=>P.bI.contains x) y P.defs ng h1
  obtain⟨f',Gk,F1,B1,m1,S1⟩:=O.fns y ng h1;exact⟨3*k,f',Gk,params ng,(ih y ng f' Gk h1 m1 F1 S1).2,hr.mono hj,m1,F1.kp,B1⟩
theorem JI{st:az}{x:Str}{f:ab}{df:ag}{A:bD}{outer:List Env}{s:aq}{H:Hp}{E:XK}{OZ:List Str}{cls:List (Str×Nat)}{make:Str->av->Option (List (Str×Fd))}{wU:Bool}(h:P.defs.lookup x=some st)(hm:mg x=some (.ref f))(hc:JH K f df)(hB:P.lX≠[]->xU mg base)
  (hr:dR (3*k+2) (A.deeper (envOfC x (aH st) s.heap.objs.size f df))) (hs:P.lX.contains (defName st)=true):Jo (XU P st OZ cls make wU (jJ P k)) (jH (jK prog w) prog w K mg base (cb st) x (aH st) f df A outer s H E):=by
 obtain⟨⟨p,q,fs,fT,IF,Dj,D⟩,hx,c,T,ht,hC⟩:=O.wU x st h hs;have sT:df=.ref c:=by
  obtain⟨f',oc,od,fd,rP,h1,h2,h3⟩:=BC ht;obtain⟨oc',od',Gk,aeB,g1,g2⟩:=hc;have:=O.ns x f' h1;rw[hm]at this;cases this;rw[h2]at g1;cases g1;exact g2.symm.trans h3
 refine⟨⟨p,q,fs,fT,IF,Dj,3*k,D,hr,λy n hy=>?_,λy n hy=>?_⟩,⟨⟨x,c,T,hx,ht,hC,sT,rfl⟩,hB (λz=>by rw[z]at hs;cases hs)⟩⟩
 ·have hy:((P.defs.filter λd=>!P.bI.contains d.1).map λd=>(d.1,(params d.2).length)).lookup y=some n:=hy
  rw[gw (λst=>(params st).length)]at hy
  obtain⟨ng,h1,h2⟩:=au hy;subst h2;have h1:=gL (λx=>!P.bI.contains x) y P.defs ng h1
  obtain⟨f',Gk,F1,B1,m1,S1⟩:=O.fns y ng h1;exact⟨3*k,f',Gk,params ng,aR _,(ih y ng f' Gk h1 m1 F1 S1).1,m1,F1.kp,B1⟩
 ·have hy:((P.defs.filter λd=>P.bI.contains d.1).map λd=>(d.1,(params d.2).length-1)).lookup y=some n:=hy
  rw[gw (λst=>(params st).length-1)]at hy
  obtain⟨ng,h1,h2⟩:=au hy;subst h2;have h1:=gL (λx=>P.bI.contains x) y P.defs ng h1
  obtain⟨f',Gk,F1,B1,m1,S1⟩:=O.fns y ng h1;exact⟨3*k,f',Gk,params ng,aR _,(ih y ng f' Gk h1 m1 F1 S1).2,m1,F1.kp,B1⟩
end
theorem JJ{P:Pg}(O:Su P w K mg)(hB:P.lX≠[]->xU mg base):∀(k:Nat),FR P prog w K mg base k
 | 0=>λx st f fd h Oc F S=>by
  have no:∀vs H Q E,¬xY K (params st).length (run P 0 x) vs H Q E:=λvs H Q E ⟨F,ps,e,_,_,_,z,_⟩=>by cases z
  have no2:∀vs H Q E,¬OS K ((params st).length-1) (Wn P 0 x) vs H Q E:=λvs H Q E ⟨F,o,ps,e,_,_,_,_,_,_,_,z,_⟩=>by cases z
  exact⟨⟨λvs H Q E h=>absurd h (no vs H Q E),λA outer s H args us vs Q E _ _ _ _ h=>absurd h (no vs H Q E)⟩,⟨λvs H Q E h=>absurd h (no2 vs H Q E),λA outer s H args us vs Q E _ _ _ _ h=>absurd h (no2 vs H Q E)⟩⟩
 | k+1=>λx st f fd h Oc F S=>by
  have ih:=JJ (P:=P) O hB k;refine⟨DF (k:=3*k+2) F S (λvs H Q E ⟨F',ps,e,_,hb,hl,_⟩=>by rw[<-hb.length];exact hl) (λdf A outer s H vs Q E Qz hr nh=>?_),DF (k:=3*k+2) F S (λvs H Q E ⟨F',o,ps,e,a,us,hv,_,_,hb,hl,eB,_⟩=>?_) (λdf A outer s H vs Q E Qz hr nh=>?_)⟩
  ·obtain⟨F',ps,e,hs,hb,hl,eB,hq⟩:=nh;have eB:(P.defs.lookup x).bind (λst=>(gH n5 (mO P st (jJ P k)) (cw st)).bind λf=>q0 f (cb st).length ps)=some e:=eB
   rw[h]at eB;obtain⟨g,hg,eB⟩:=ar (show(gH n5 (mO P st (jJ P k)) (cw st)).bind (λf=>q0 f (cb st).length ps)=some e from eB)
   have G:JF (mO P st (jJ P k)) (jH (jK prog w) prog w K mg base (cb st) x (aH st) f df A outer s H E):=O4 O ih S hr (by lia) (λ_ _ z=>by cases z) (JI O ih h Oc Qz hB hr)
   refine⟨tS (jH (jK prog w) prog w K mg base (cb st) x (aH st) f df A outer s H E) H F' g,(Wl n5).ss (mO P st (jJ P k)) _ (cw st) g G hg H F',?_⟩;unfold q0 at eB;split at eB
   ·rename_i p z;cases eB;exact⟨F',_,_,kH hs hb,z,hq⟩
   ·rename_i qs z;cases eB;exact⟨F',_,_,kH hs hb,z,hq⟩
   ·rename_i m z;cases eB;exact⟨F',_,_,kH hs hb,z,hq⟩
   ·rename_i gq z;cases eB;exact⟨F',_,_,kH hs hb,z,λF2 zB H2 R2 s2=>hq .cM F2 H2 R2.post s2 (c8.mpr rfl)⟩
   ·cases eB
  ·have eB:(P.defs.lookup x).bind (λst=>(gH n5 (mO P st (jJ P k)) (cw st)).bind λf=>if ps.length+1=(params st).length then Fm f (cb st).length o ps else none)=some e:=eB
   rw[h]at eB;obtain⟨g,hg,eB⟩:=ar (show(gH n5 (mO P st (jJ P k)) (cw st)).bind (λf=>if ps.length+1=(params st).length then Fm f (cb st).length o ps else none)=some e from eB)
   rw[hv,bX,List.length_singleton,<-hb.length];exact(ax eB).1
  ·obtain⟨F',o,ps,e,a,us,rfl,hs,ho,hb,hl,eB,hq⟩:=nh;have eB:(P.defs.lookup x).bind (λst=>(gH n5 (mO P st (jJ P k)) (cw st)).bind λf=>if ps.length+1=(params st).length then Fm f (cb st).length o ps else none)=some e:=eB
   rw[h]at eB;obtain⟨g,hg,eB⟩:=ar (show(gH n5 (mO P st (jJ P k)) (cw st)).bind (λf=>if ps.length+1=(params st).length then Fm f (cb st).length o ps else none)=some e from eB)
   have eB:=(ax eB).2;have G:JF (mO P st (jJ P k)) (jH (jK prog w) prog w K mg base (cb st) x (aH st) f df A outer s H E):=O4 O ih S hr (by lia) (λ_ _ z=>by cases z) (JI O ih h Oc Qz hB hr)
   refine⟨tS (jH (jK prog w) prog w K mg base (cb st) x (aH st) f df A outer s H E) H F' g,(Wl n5).ss (mO P st (jJ P k)) _ (cw st) g G hg H F',?_⟩;unfold Fm at eB;split at eB
   ·rename_i p z;cases eB;exact⟨F',_,_,pz hs ho hb,z,hq⟩
   ·rename_i qs z;cases eB;exact⟨F',_,_,pz hs ho hb,z,hq⟩
   ·rename_i m z;cases eB;exact⟨F',_,_,pz hs ho hb,z,hq⟩
   ·rename_i gq z;cases eB;exact⟨F',_,_,pz hs ho hb,z,λF2 zB H2 R2 s2=>hq .cM F2 H2 R2.post s2 (c8.mpr rfl)⟩
   ·cases eB
def Fo(ns:List Int):PV:=.ay (ns.map .int)
theorem yK{F:Hp}:∀ns:List Int,aP K F (ns.map .int) (ns.map V.int)
 | []=>.nil
 | n::r=>.cons (aF.mpr rfl) (yK r)
theorem Sv{P:Pg}{k:Nat}{H:Hp}{a:ab}{ns:List Int}(hr:run P k "law" [Fo ns]=some (.val (.bl true)))(hS:m8 K H a (ns.map V.int)):xY K 1 (run P k "law") [.ref a] H (λv _=>v=.bl true) λ_ _ _=>False :=
 ⟨H,[Fo ns],_,Same.refl H,.cons (aU.mpr ⟨a,_,rfl,hS,yK ns⟩) .nil,rfl,hr,λv F' H' _ _ b=>bN.mp b⟩
end
theorem fx{α β:Type} [BEq α] [LawfulBEq α] {k:α} {v:β}:∀{l:List (α×β)},l.lookup k=some v->(k,v)∈l
 | [],h=>by cases h
 | (a,b)::l,h=>by
  rw[iE]at h;cases z:k==a with
  | true =>
   rw[z]at h;cases h;rw[bq z];exact bz
  | false =>
   rw[z]at h;exact bE _ (fx h)
theorem Aq.at{K:ah}{h:Heap}{mg:dy}{C D:Str}{b:Bool}(x:Aq K C D b)(X:K.In h)(G:h.Ns mainGlobals mg):Ik K mg C D b:=by
 obtain⟨cls,dv,hc,hn,r⟩:=x;refine⟨cls,dv,hc,?_,r⟩;rcases hn with z | ⟨z,y⟩
 ·exact .inl (W.mg_of X G z)
 ·exact .inr ⟨W.mg_none_of X G z,y⟩
theorem Ec.at{K:ah}{h:Heap}{mg:dy}{P:Params}{T:Str}{rows:List (Str×Str)}(x:Ec K P T rows)(X:K.In h)(G:h.Ns mainGlobals mg):C9 K mg P T rows:=by
 obtain⟨a,es,n,h1,h2,h3,h4⟩:=x;refine⟨a,es,n,W.mg_of X G h1,h2,h3,λk fn e=>?_⟩
 obtain⟨f,h5,h6⟩:=h4 (k,fn) (fx e);exact⟨f,h5,W.mg_of X G h6,h6⟩
theorem wY.at{K:ah}{h:Heap}{mg:dy}{P:Params}{T:Str}{rows:List (Str×PV)}(x:wY K P T rows)(X:K.In h)(G:h.Ns mainGlobals mg):Bk K mg P T rows:=by
 obtain⟨a,es,n,h1,h2,h3,h4⟩:=x;exact⟨a,es,n,W.mg_of X G h1,h2,h3,λk p e=>h4 (k,p) (fx e)⟩
theorem GJ.at{K:ah}{h base:Heap}{mg:dy}(b:GJ K)(X:K.In h)(G:h.Ns mainGlobals mg)(Y:K.In base):xU mg base :=
 let ⟨bm,o,h1,h2,h3,h4,h5⟩:=b;⟨bm,o,W.mg_of X G h1,h2,h3,Y _ _ h4,h5⟩
def uo(K:ah):List (ab×Str):=dD.filterMap λx=>(W.tabIn K x).map λcT=>(cT.2,rV x)
theorem uq{α β:Type} [BEq α] [LawfulBEq α] {b:α} {q:β}:∀{l:List (α×β)},(l.map (·.1)).Nodup->(b,q)∈l->l.lookup b=some q
 | [],_,h=>nomatch h
 | (a,v)::l,hn,h=>by
  rw[bJ,cY]at hn;rw[iE];rcases aX.mp h with e | h'
  ·cases e;rw[pS]
  ·have:(b==a)=false:=by
    rw[lu];intro z;subst z;exact hn.1 (aY.mpr ⟨_,h',rfl⟩)
   rw[this];exact uq hn.2 h'
theorem Fp(K:ah):(uo K).map (·.1)=dD.filterMap λx=>(W.tabIn K x).map (·.2):=by
 unfold uo;rw[List.map_filterMap]
 congr 1
 funext x
 cases W.tabIn K x<;>rfl
theorem lZ.tabs{K:ah}{h:Heap}(t:lZ K h)(X:K.In h):(∀b q,(uo K).lookup b=some q->h.get? b=some {cls:=.none,data:=.fields #[]}/\isCodeTable h b/\K.lookup b=none)/\∀H:Hp,(∀b q,(uo K).lookup b=some q->H b=some (.wX q))->qd K H:=by
 refine⟨λb q e=>?_,λH hH x hx c T e=>?_⟩
 ·have hm:=fx e;unfold uo at hm;obtain⟨x,hx,e2⟩:=ly.mp hm;obtain⟨cT,e3,e4⟩:=je.mp e2;cases e4;obtain⟨h1,h2,h3⟩:=t.at_ x hx cT.1 cT.2 e3;obtain⟨o,vs,_,_,_,_,_,_,_,g1,g2,g3,g4,_⟩:=W.codeHd_of_K X h1;exact⟨h2,⟨_,o,vs,g1,g2,g3,g4⟩,h3⟩
 ·refine hH T (rV x) (uq (by rw[Fp];exact t.nd) ?_)
  unfold uo;exact ly.mpr ⟨x,hx,by rw[e];rfl⟩
structure JK (P:Pg):Prop where
 dn:P.defs.all (λd=>defName d.2==d.1)=true
 sp:P.lX=[]\/∃p q,P.defs.lookup ("spread":Str)=some (gY p)/\P.defs.lookup ("tell_new":Str)=some (qT q)/\((q 15).endLine==(q 20).line)=true/\P.dg.contains ("len":Str)=true
theorem aaY{P:Pg}{K:ah}{h:Heap}{mg:dy}(X:K.In h)(G:h.Ns mainGlobals mg)(hd:∀d∈P.defs,GG K d.1 d.2)
  (hc:∀d∈P.cons,∃u v,W.nsIn K mainGlobals d.1=some (some u)/\RelV v u/\∀F,cI K F d.2 v) (hb:∀x∈P.dg,W.nsIn K mainGlobals x=some none) (he:∀C∈P.exc,sM K C) (hs:∀d∈P.sub,Aq K d.1.1 d.1.2 d.2) {w:aM} (ht:∀d∈P.tabs,Ec K w.params d.1 d.2) (hcl:∀d∈P.cls,Pp K d.1 d.2 P.flds) (hct:∀d∈P.fy,wY K w.params d.1 d.2) (LS:JK P) (YX:∀x∈P.lX,Pq K x):Su P w K mg where
 fns:=λx st e=>by
  obtain⟨⟨f,fd,a,F,b⟩,s⟩:=hd (x,st) (dJ e);exact⟨f,fd,F,.all b,W.mg_of X G a,s⟩
 cons:=λx p e=>by
  obtain⟨u,v,a,r,b⟩:=hc (x,p) (dJ e);exact⟨u,v,W.mg_of X G a,r,b⟩
 dg:=λx e=>W.mg_none_of X G (hb x (by simpa using e))
 excs:=λC e=>he C (by simpa using e)
 subs:=λC D b e=>(hs ((C,D),b) (fx e)).at X G
 tabs:=λT rows e=>(ht (T,rows) (fx e)).at X G
 ns:=λx a e=>W.mg_of X G e
 cls:=λC st e=>by
  obtain⟨Ca,f,fd,a,M,c,na,F,b,s⟩:=hcl (C,st) (dJ e);exact⟨Ca,f,fd,M,c,λg hg=>na g (by simpa using hg),W.mg_of X G a,F,.all b,s⟩
 fy:=λT rows e=>(hct (T,rows) (fx e)).at X G
 wU:=λx st e hs=>by
  have hx:defName st=x:=bq (dt.mp LS.dn (x,st) (dJ e));rcases LS.sp with z | ⟨p,q,e1,e2,e3,e4⟩
  ·rw[z]at hs;cases hs
  ·obtain⟨⟨f1,fd1,a1,F1,b1⟩,s1⟩:=hd _ (dJ e1);obtain⟨⟨f2,fd2,a2,F2,b2⟩,s2⟩:=hd _ (dJ e2);rw[hx]at hs;exact⟨⟨p,q,f1,f2,fd1,fd2,F1,W.mg_of X G a1,.all b1,s1,F2,W.mg_of X G a2,.all b2,s2,e3,W.mg_none_of X G (hb "len" (by simpa using e4))⟩,YX x (by simpa using hs)⟩
theorem Fq{P:Pg}{N:Nat}{x:Str}{st:az}{l:W.OpenLaw}{q:bc}{loose:List Str}{XP:dy->Heap->Prop}{YP:aM->Heap->Prop}{d:DefRec}(vc:P.defs.lookup ("law":Str)=some st)(hx:params st=[x])
  (hn:l.most=some 63) (hdn:d.name="law") (ZN:d.params.defaults=[]) (hr:dR (3*N) callerA) (LS:JK P) (hY:∀(w:aM) (h:Heap),YP w h->∃K:ah,K.In h/\GL P w K/\lZ K h)
  (aaZ:∀ns:List Int,ns.length<=63->run P N "law" [Fo ns]=some (.val (.bl true))):W.WalkO q loose XP YP l.row.toRowW d [] (λf vs=>PySem.call f vs):=by
 refine Att.xR hn ZN λw s₀ s₁ mg mb fa o pm cd doc a vs ns G Y ho hd sT Oc Hv Hw cC hg=>?_
 obtain⟨K,KX,T,TH⟩:=hY w _ Y;obtain⟨t1,t2⟩:=TH.tabs KX;have O:=aaY KX G.T.g T.hd T.hc T.hb T.he T.hs (w:=w) T.ht T.hcl T.hct LS T.YX;obtain⟨⟨f,fd,e0,F,b⟩,s⟩:=T.hd ("law",st) (dJ vc);rw[hdn]at Oc;have e:=Oc.symm.trans (W.mg_of KX G.T.g e0);cases e;rw[hx]at b;refine Ey (CX:=jK l.prog w) (sp:=xY K 1 (run P N "law")) KX G.T.g G.T.b G.T.builtins G.T.nolimit hg t1 t2 Hv Hw (bY cC (by decide)) hr (λbase kb _=>?_) (λs u=>.of_eq (b [u] rfl)) (λH hS=>Sv (aaZ ns cC) hS) λ_ _ _ ⟨_,_,_,_,_,_,_,_,_,_,_,h,_⟩=>h
 have k:=(JJ (prog:=l.prog) (w:=w) (base:=base) O (λz=>(T.hbm z).at KX G.T.g kb) N "law" st _ fd vc (W.mg_of KX G.T.g e0) F s).1
 rw[hx]at k;exact k
end L2.PL
namespace L2.PL
open PySem
section
variable {fa fb fc:FE} {g g':PV->PV->bP} {ρ:aE} {gc gd:fj} {ts:bF} {f h:FS} {p q:PV} {i j:Int} {n m:Nat} {ps qs:av}
theorem q8:fO=100000:=rfl
@[simp] theorem XW:i0=1000:=rfl
@[simp] theorem aa0:HU=18446744073709551616:=rfl
def Tj:cz->bP
 | some (.val p)=>some p
 | _=>none
@[simp] theorem acu:rd n ρ=Tj ρ[n]?:=by unfold rd Tj;rfl
@[simp] theorem XX:Tj (some (.val p))=some p:=rfl
@[simp] theorem aa1:Tj (some .un)=none:=rfl
@[simp] theorem XY:Tj (some (.own ps))=none:=rfl
@[simp] theorem Wo:Tj none=none:=rfl
@[simp] theorem M4:ak fa fb g ρ=(fa ρ).bind λx=>(fb ρ).bind λy=>g x y:=rfl
@[simp] theorem XZ:AV gc gd ρ=(gc ρ).bind λx=>if x=true then gd ρ else some false:=rfl
@[simp] theorem JL:Gi gc gd ρ=(gc ρ).bind λx=>if x=true then some true else gd ρ:=rfl
@[simp] theorem M5:kW gc ρ=(gc ρ).map λx=>!x:=rfl
def toBE:PV->Option Bool
 | .bl b=>some b
 | _=>none
@[simp] theorem toB_ap:toB fa ρ=(fa ρ).bind toBE:=by unfold toB toBE;rfl
@[simp] theorem toBE_bl{b:Bool}:toBE (.bl b)=some b:=rfl
@[simp] theorem M6:qw fa fb ρ=((fa ρ).bind toBE).bind λx=>if x=true then fb ρ else some (.bl false):=by unfold qw;rw[toB_ap]
@[simp] theorem aa2:Vk fa fb ρ=(fa ρ).bind (EW (fb ρ)):=rfl
@[simp] theorem X0{b:Bool}{w:bP}:EW w (.bl b)=if b=true then some (.bl true)else w:=rfl
@[simp] theorem Wq{w:bP}:EW w (.ay [])=w:=rfl
@[simp] theorem Tn{w:bP}:EW w (.ay (p::ps))=some (.ay (p::ps)):=rfl
@[simp] theorem M7{fr:aE->cz}:Il n fr ρ=(fr ρ).bind λe=>if n<ρ.length then some (.nx (ρ.set n e))else none:=rfl
@[simp] theorem JM{c:av->cz}:qI (aW n c) ts ρ=(ts ρ).bind λas=>(if as.length=n then c as else none).bind lI:=rfl
@[simp] theorem Wr:lI (.val p)=some (.val p):=rfl
@[simp] theorem Ws:lI (.own ps)=some (.own ps):=rfl
@[simp] theorem X1:Mj fa fb ρ=(fa ρ).bind λx=>(fb ρ).bind λy=>EU x y:=rfl
@[simp] theorem Wt:EU (.ay ps) (.ay qs)=if ps.length+qs.length<=fO then some (.own (ps++qs))else none:=rfl
@[simp] theorem X2:A8 fa ρ=(fa ρ).map .val:=rfl
@[simp] theorem M8{rows:List (Str×Str)}{fns:List (Str×Nat)}{c:f9}:ES rows fns c fa ts ρ=(fa ρ).bind (Q8 rows fns c ts ρ):=rfl
@[simp] theorem JN{rows:List (Str×Str)}{fns:List (Str×Nat)}{c:f9}{x:Str}:Q8 rows fns c ts ρ (.str x)=(rows.lookup x).bind λfn=>(fns.lookup fn).bind λm=>aK (aW m (c fn)) ts ρ:=rfl
@[simp] theorem Wu:Mq [.int i]=if 0<=i/\i<1000 then some (.str (toString i))else none:=rfl
@[simp] theorem X3:AW fa ρ=((fa ρ).bind toBE).map λx=>.bl (!x):=by unfold AW;rw[toB_ap]
@[simp] theorem DG:xX gc fa fb ρ=(gc ρ).bind λx=>if x=true then fa ρ else fb ρ:=rfl
def wb(y:PV)(w:bP)(g':PV->PV->bP):PV->bP
 | .bl true=>w.bind λw=>g' y w
 | .bl false=>some (.bl false)
 | _=>none
@[simp] theorem JO:chain fa fb fc g g' ρ=(fa ρ).bind λx=>(fb ρ).bind λy=>(g x y).bind (wb y (fc ρ) g'):=by unfold chain wb;rfl
@[simp] theorem JP{y:PV}{w:bP}:wb y w g' (.bl true)=w.bind λw=>g' y w:=rfl
@[simp] theorem JQ{y:PV}{w:bP}:wb y w g' (.bl false)=some (.bl false):=rfl
@[simp] theorem X4:ao ρ=some []:=rfl
@[simp] theorem dr:ae fa ts ρ=(fa ρ).bind λx=>(ts ρ).map λxs=>x::xs:=rfl
@[simp] theorem mP:bM ts ρ=(ts ρ).bind λps=>if ps.length<=fO then some (.aJ ps)else none:=rfl
@[simp] theorem wc:dG ts ρ=(ts ρ).bind λps=>if ps.length<=fO then some ps else none:=rfl
@[simp] theorem M9:cq ts ρ=(ts ρ).map .ay:=rfl
@[simp] theorem JR{c:av->cz}:aK (aW n c) ts ρ=(ts ρ).bind λas=>(if as.length=n then c as else none).bind oS:=rfl
@[simp] theorem Wv{c:av->cz}:mj (aW n c) ts ρ=(ts ρ).bind λas=>(if as.length=n then c as else none).bind LL:=rfl
@[simp] theorem Ww:oS (.val p)=some p:=rfl
@[simp] theorem Wx:oS (.own ps)=some (.ay ps):=rfl
@[simp] theorem Wy:LL (.own ps)=some ps:=rfl
@[simp] theorem Na{c:av->bP}:dh c ts ρ=(ts ρ).bind c:=rfl
@[simp] theorem Sw{t:Ty}:C6 t fa ρ=(fa ρ).map λp=>.bl (fU t p):=rfl
@[simp] theorem aa3:C3 ρ=some none:=rfl
def JS:PV->Option (Option Int)
 | .int i=>some (some i)
 | _=>none
@[simp] theorem Wz:ee fa ρ=(fa ρ).bind JS:=by unfold ee JS;rfl
@[simp] theorem To:JS (.int i)=some (some i):=rfl
@[simp] theorem DH{fl fh:FO}:cutE fa fl fh ρ=(fa ρ).bind λp=>(fl ρ).bind λl=>(fh ρ).bind λh=>Ov l h p:=rfl
@[simp] theorem X5{l u:Option Int}:Ov l u (.ay ps)=some (.ay (ij ps l u)):=rfl
@[simp] theorem X6{l u:Option Int}:Ov l u (.aJ ps)=some (.aJ (ij ps l u)):=rfl
@[simp] theorem X7:lH fa ρ=(fa (fm none ρ)).bind λp=>if j6 p=true then some p else none:=rfl
@[simp] theorem X8:qD gc ρ=gc (fm none ρ):=rfl
@[simp] theorem X9{L:List Nat}:AZ L f ρ=f (fm (some L) ρ):=rfl
@[simp] theorem Yb{L:Option (List Nat)}:fm L ρ=eW L 0 ρ:=rfl
@[simp] theorem O5{L:Option (List Nat)}:eW L n []=[]:=rfl
@[simp] theorem Nb{L:Option (List Nat)}{e:Ent}{r:aE}:eW L n (e::r)=dF L n e::eW L (n+1) r:=rfl
@[simp] theorem Tp{L:Option (List Nat)}:dF L n .un=.un:=rfl
@[simp] theorem Sx{L:Option (List Nat)}:dF L n (.val p)=.val p:=rfl
@[simp] theorem Sy:dF none n (.own ps)=.val (.ay ps):=rfl
@[simp] theorem O6{l:List Nat}:dF (some l) n (.own ps)=if n∈l then .val (.ay ps)else .own ps:=rfl
@[simp] theorem Tq:j6 (.int i)=true:=rfl
@[simp] theorem WA{b:Bool}:j6 (.bl b)=true:=rfl
def BD(h:FS):oT->Option oT
 | .nx ρ=>h ρ
 | o=>some o
@[simp] theorem DI:bx f h ρ=(f ρ).bind (BD h):=by
 unfold bx BD
 congr 1
@[simp] theorem Yc:BD h (.nx ρ)=h ρ:=rfl
@[simp] theorem Yd{e:Ent}:BD h (.rt e)=some (.rt e):=rfl
@[simp] theorem Ye:BD h (.bk ρ)=some (.bk ρ):=rfl
@[simp] theorem Yg:BD h (.ct ρ)=some (.ct ρ):=rfl
@[simp] theorem Yh{m:Bool}{C:Str}:BD h (.ex m C ρ)=some (.ex m C ρ):=rfl
@[simp] theorem JT:ni gc f h ρ=(gc ρ).bind λx=>if x=true then f ρ else h ρ:=rfl
@[simp] theorem Nc:cP fa ρ=(fa ρ).map λp=>.rt (.val p):=rfl
@[simp] theorem WB:oB fa ρ=(fa ρ).map λ_=>.nx ρ:=rfl
@[simp] theorem Nd{t:eI}:b7 fa t ρ=(fa ρ).bind λp=>(t p ρ).map .nx:=rfl
@[simp] theorem Yi:aD n p ρ=if n<ρ.length then some (ρ.set n (.val p))else none:=rfl
@[simp] theorem Nf:mq n ts ρ=(ts ρ).bind λps=>if n<ρ.length then some (.nx (ρ.set n (.own ps)))else none:=rfl
@[simp] theorem Yj{t:av->aE->Option aE}:gE n t (.aJ ps) ρ=if ps.length=n then t ps ρ else none:=rfl
@[simp] theorem Yk:fP [] ρ=some ρ:=rfl
@[simp] theorem WC{t:eI}{r:av->aE->Option aE}:b0 t r (p::ps) ρ=(t p ρ).bind λgq=>r ps gq:=rfl
def Ng:cz->Option oT
 | some (.own ps)=>some (.rt (.own ps))
 | some (.val p)=>some (.rt (.val p))
 | _=>none
@[simp] theorem Nh:oU n ρ=Ng ρ[n]?:=by unfold oU Ng;rfl
@[simp] theorem WD:Ng (some (.own ps))=some (.rt (.own ps)):=rfl
@[simp] theorem WE:Ng (some (.val p))=some (.rt (.val p)):=rfl
def Sz(n:Nat)(ts:bF)(g:av->av->Option av)(ρ:aE):cz->Option oT
 | some (.own ps)=>(ts ρ).bind λas=>(g ps as).map λqs=>.nx (ρ.set n (.own qs))
 | _=>none
@[simp] theorem DJ{g:av->av->Option av}:iL n ts g ρ=Sz n ts g ρ ρ[n]?:=by unfold iL Sz;rfl
@[simp] theorem yL{g:av->av->Option av}:Sz n ts g ρ (some (.own ps))=(ts ρ).bind λas=>(g ps as).map λqs=>.nx (ρ.set n (.own qs)):=rfl
@[simp] theorem Ni:r9 ps [p]=if ps.length<fO then some (ps++[p])else none:=rfl
@[simp] theorem JU:nQ ps [.ay qs]=if ps.length+qs.length<=fO then some (ps++qs)else none:=rfl
@[simp] theorem WG:nQ ps [.aJ qs]=if ps.length+qs.length<=fO then some (ps++qs)else none:=rfl
def yM:PV->Option av
 | .aJ ps=>some ps
 | .ay ps=>some ps
 | _=>none
@[simp] theorem Nj:dH fa ρ=(fa ρ).bind yM:=by unfold dH yM;rfl
@[simp] theorem Tr:yM (.aJ ps)=some ps:=rfl
@[simp] theorem Ts:yM (.ay ps)=some ps:=rfl
@[simp] theorem WH:Ie (.aJ ps)=some ps:=rfl
@[simp] theorem WI:Ie (.ay ps)=some ps:=rfl
@[simp] theorem Nk{fi:bF}{t:eI}:gV fi t f ρ=(fi ρ).bind λps=>fG t f ps ρ:=rfl
@[simp] theorem WJ{t:eI}:fG t f [] ρ=some (.nx ρ):=rfl
def Fs(k:aE->Option oT):oT->Option oT
 | .nx ρ=>k ρ
 | .ct ρ=>k ρ
 | .bk ρ=>some (.nx ρ)
 | .rt e=>some (.rt e)
 | .ex m C ρ=>some (.ex m C ρ)
theorem kJ{t:eI}:fG t f (p::ps) ρ=(t p ρ).bind λeM=>(f eM).bind (Fs (fG t f ps)):=by
 rw[fG]
 congr 1
@[simp] theorem pE{k:aE->Option oT}:Fs k (.nx ρ)=k ρ:=rfl
@[simp] theorem Yl{k:aE->Option oT}:Fs k (.ct ρ)=k ρ:=rfl
@[simp] theorem Ym{k:aE->Option oT}:Fs k (.bk ρ)=some (.nx ρ):=rfl
@[simp] theorem Yn{k:aE->Option oT}{e:Ent}:Fs k (.rt e)=some (.rt e):=rfl
@[simp] theorem Yo{k:aE->Option oT}{m:Bool}{C:Str}:Fs k (.ex m C ρ)=some (.ex m C ρ):=rfl
@[simp] theorem yN{L:List (Option Nat)}{fi:bF}{t:eI}:cW L fi t fa ρ=(fi ρ).bind λps=>if ps.length<=fO then j4 (λp=>(t p (bB L ρ)).bind fa) ps else none:=rfl
@[simp] theorem WK{L:List (Option Nat)}{fi:bF}{t:eI}:CV L fi t gc fa ρ=(fi ρ).bind λps=>if ps.length<=fO then mm (λp=>(t p (bB L ρ)).bind λeM=>(gc eM).bind λb=>if b=true then(fa eM).map some else some none) ps else none:=rfl
def DK:cz->Ent
 | some (.val p)=>.val p
 | some (.ob o)=>.ob o
 | _=>.un
def JV(ρ:aE):Option Nat->Ent
 | none=>.un
 | some j=>DK ρ[j]?
@[simp] theorem Tt{L:List (Option Nat)}:bB L ρ=L.map (JV ρ):=by
 unfold bB
 congr 1
@[simp] theorem SA:JV ρ none=.un:=rfl
@[simp] theorem SD:JV ρ (some n)=DK ρ[n]?:=rfl
@[simp] theorem Tu:DK (some (.val p))=.val p:=rfl
@[simp] theorem WL{o:Ob}:DK (some (.ob o))=.ob o:=rfl
def Nl:av->Option av
 | [.int j]=>if -(2^62)<=j/\j<2^62 then some ((List.range j.toNat).map fun(i:Nat)=>.int (0+i))else none
 | _=>none
@[simp] theorem Nm:fQ ts ρ=(ts ρ).bind Nl:=by unfold fQ Nl;rfl
theorem JW:Nl [.int j]=if -(2^62)<=j/\j<2^62 then some ((List.range j.toNat).map fun(i:Nat)=>.int (0+i))else none:=rfl
theorem n6:∀ns:List Int,gF (ns.map .int)=some ns
 | []=>rfl
 | n::r=>by simp[gF,n6 r]
@[simp] theorem Yp{fl fh:FO}:Ms fa fl fh ρ=(fa ρ).bind λp=>(fl ρ).bind λl=>(fh ρ).bind λh=>(Ra p).map λxs=>.own (ij xs l h):=rfl
@[simp] theorem WM:Ra (.ay ps)=some ps:=rfl
@[simp] theorem ja:ck (.int i) (.int j)=some (.int (i+j)):=rfl
@[simp] theorem WN:ck (.ay ps) (.ay qs)=sizeOk (ps.length+qs.length) (.ay (ps++qs)):=rfl
@[simp] theorem WO:ck (.aJ ps) (.aJ qs)=sizeOk (ps.length+qs.length) (.aJ (ps++qs)):=rfl
theorem oe(h:n<=fO):sizeOk n p=some p:=if_pos h
@[simp] theorem JX:HS (.int i) (.int j)=some (.int (i-j)):=rfl
theorem yO:gJ (.int i) (.int j)=if(-HU<i/\i<HU)\/(-HU<j/\j<HU)then some (.int (i*j))else none:=rfl
@[simp] theorem Ft:iq (.int i) (.int j)=if 0<j/\j<1073741824 then some (.int (i/j))else none:=rfl
@[simp] theorem JY:fq (.int i) (.int j)=if 0<j then some (.int (i%j))else none:=rfl
@[simp] theorem q9:oV (.int i) (.int j)=if 0<=j/\j<=1000/\i.natAbs<1000 then some (.int (i^j.toNat))else none:=rfl
@[simp] theorem Nn:C0 (.int i) (.int j)=some (.bl (decide (i<j))):=rfl
@[simp] theorem Yq:HX (.int i) (.int j)=some (.bl (decide (i<=j))):=rfl
@[simp] theorem Yr:XD (.int i) (.int j)=some (.bl (decide (j<i))):=rfl
@[simp] theorem Ys:XE (.int i) (.int j)=some (.bl (decide (j<=i))):=rfl
@[simp] theorem kK:nk (.int i) (.int j)=some (.bl (decide (i=j))):=by
 show(if nj (.int i)<=i0 then some (PV.bl (eqT (.int i) (.int j)))else none)=_
 rw[if_pos (by simp[nj,i0])]
 simp only[eqT,Bool.beq_eq_decide_eq]
@[simp] theorem Np:CZ (.int i) (.int j)=some (.bl (!decide (i=j))):=by
 show(if nj (.int i)<=i0 then some (PV.bl (!eqT (.int i) (.int j)))else none)=_
 rw[if_pos (by simp[nj,i0])]
 simp only[eqT,Bool.beq_eq_decide_eq]
@[simp] theorem kL{x y:Str}:nk (.str x) (.str y)=some (.bl (x==y)):=by
 show(if nj (.str x)<=i0 then some (PV.bl (eqT (.str x) (.str y)))else none)=_
 rw[if_pos (by simp[nj,i0])]
 simp only[eqT]
@[simp] theorem DL{x y:Str}:CZ (.str x) (.str y)=some (.bl (!(x==y))):=by
 show(if nj (.str x)<=i0 then some (PV.bl (!eqT (.str x) (.str y)))else none)=_
 rw[if_pos (by simp[nj,i0])]
 simp only[eqT]
@[simp] theorem aa4{x y:Bool}:nk (.bl x) (.bl y)=some (.bl (x==y)):=by
 show(if nj (.bl x)<=i0 then some (PV.bl (eqT (.bl x) (.bl y)))else none)=_
 rw[if_pos (by simp[nj,i0])]
 simp only[eqT]
@[simp] theorem aa5{x y:Bool}:CZ (.bl x) (.bl y)=some (.bl (!(x==y))):=by
 show(if nj (.bl x)<=i0 then some (PV.bl (!eqT (.bl x) (.bl y)))else none)=_
 rw[if_pos (by simp[nj,i0])]
 simp only[eqT]
theorem SE(h:nj p<=i0):nk p q=some (.bl (eqT p q)):=if_pos h
@[simp] theorem Yt:bC (.aJ ps) (.int i)=atI ps i:=rfl
@[simp] theorem Yu:bC (.ay ps) (.int i)=atI ps i:=rfl
@[simp] theorem JZ:dZ [.aJ ps]=some (.int ps.length):=rfl
@[simp] theorem rb:dZ [.ay ps]=some (.int ps.length):=rfl
@[simp] theorem WQ:qG [.ay ps]=some (.aJ ps):=rfl
@[simp] theorem WR:qG [.aJ ps]=some (.aJ ps):=rfl
@[simp] theorem WS:Ib [.ay ps]=some (.ay ps):=rfl
@[simp] theorem WT:Ib [.aJ ps]=some (.ay ps):=rfl
@[simp] theorem WU:A4 [.int i]=some (.int i):=rfl
@[simp] theorem Yv{b:Bool}:A4 [.bl b]=some (.int (if b then 1 else 0)):=rfl
@[simp] theorem O7{α:Type}{x:α}{r:List α}:atI (x::r) 0=some x:=by
 unfold atI Ht;rw[if_pos (by decide),if_pos (by simp <;> lia)]
 rfl
@[simp] theorem acv{α:Type}{x y:α}{r:List α}:atI (x::y::r) 1=some y:=by
 unfold atI Ht;rw[if_pos (by decide),if_pos (by simp <;> lia)]
 rfl
@[simp] theorem acw{α:Type}{x y z:α}{r:List α}:atI (x::y::z::r) 2=some z:=by
 unfold atI Ht;rw[if_pos (by decide),if_pos (by simp <;> lia)]
 rfl
@[simp] theorem acx{α:Type}{x y z w:α}{r:List α}:atI (x::y::z::w::r) 3=some w:=by
 unfold atI Ht;rw[if_pos (by decide),if_pos (by simp <;> lia)]
 rfl
def gx:Option oT->cz
 | some (.rt (.val p))=>some (.val p)
 | some (.rt (.own ps))=>some (.own ps)
 | some (.rt (.cg m))=>some (.cg m)
 | some (.nx _)=>some (.val .cM)
 | _=>none
@[simp] theorem bH:q0 f n ps=gx (f (ps.map .val++List.replicate (n-ps.length) .un)):=by unfold q0 gx;rfl
@[simp] theorem Yw:gx (some (.rt (.val p)))=some (.val p):=rfl
@[simp] theorem Yx:gx (some (.rt (.own ps)))=some (.own ps):=rfl
@[simp] theorem Yy:gx (some (.nx ρ))=some (.val .cM):=rfl
@[simp] theorem aa6:fU .tuple (.aJ ps)=true:=rfl
@[simp] theorem aa7:fU .tuple (.ay ps)=false:=rfl
@[simp] theorem aa8:fU .tuple (.int i)=false:=rfl
@[simp] theorem aa9{x:Str}:fU .tuple (.str x)=false:=rfl
@[simp] theorem aba{b:Bool}:fU .tuple (.bl b)=false:=rfl
@[simp] theorem abb:fU .tuple .cM=false:=rfl
@[simp] theorem abd:fU .int (.int i)=true:=rfl
@[simp] theorem abe:fU .bool (.int i)=false:=rfl
@[simp] theorem abf{b:Bool}:fU .bool (.bl b)=true:=rfl
@[simp] theorem Yz:fU .list (.ay ps)=true:=rfl
@[simp] theorem YA{x:Str}:fU .str (.str x)=true:=rfl
@[simp] theorem YB:fU .str (.aJ ps)=false:=rfl
@[simp] theorem YC:fU .str (.int i)=false:=rfl
@[simp] theorem YD{b:Bool}:fU .int (.bl b)=true:=rfl
@[simp] theorem YE{x:Str}:fU .int (.str x)=false:=rfl
@[simp] theorem YF:fU .int (.aJ ps)=false:=rfl
@[simp] theorem YG:fU .int (.ay ps)=false:=rfl
@[simp] theorem YH:fU .int .cM=false:=rfl
@[simp] theorem YI:fU .str (.ay ps)=false:=rfl
@[simp] theorem YJ:fU .str .cM=false:=rfl
@[simp] theorem YK{b:Bool}:fU .str (.bl b)=false:=rfl
@[simp] theorem YL{x:Str}:fU .bool (.str x)=false:=rfl
@[simp] theorem YM:fU .bool (.aJ ps)=false:=rfl
end
theorem Fu{j:Int}(h:-1000<=j/\j<=100000):Nl [.int j]=some ((List.range j.toNat).map fun(i:Nat)=>.int (0+i)):=by
 rw[JW];have h1:(-(2^62):Int) <= -1000:=by decide
 have h2:(100000:Int)<2^62:=by decide
 exact if_pos ⟨Int.le_trans h1 h.1,Int.lt_of_le_of_lt h.2 h2⟩
@[simp] theorem acy:0<=fO:=by decide
@[simp] theorem O8:1<=fO:=by decide
@[simp] theorem O9:2<=fO:=by decide
@[simp] theorem WV:3<=fO:=by decide
@[simp high] theorem acz {ρ:aE}:bM ao ρ=some (.aJ []):=rfl
@[simp high] theorem acA {fa:FE} {ρ:aE}:bM (ae fa ao) ρ=(fa ρ).map λa=>.aJ [a]:=by
 rw[mP,dr];cases fa ρ with
 | none=>rfl
 | some a=>exact if_pos (e:=none) O8
@[simp high] theorem WW {fa fb:FE} {ρ:aE}:bM (ae fa (ae fb ao)) ρ=(fa ρ).bind λa=>(fb ρ).map λb=>.aJ [a,b]:=by
 rw[mP,dr,dr];cases fa ρ with
 | none=>rfl
 | some a=>cases fb ρ with
  | none=>rfl
  | some b=>exact if_pos (e:=none) O9
@[simp high] theorem WX {fa fb fc:FE} {ρ:aE}:bM (ae fa (ae fb (ae fc ao))) ρ=(fa ρ).bind λa=>(fb ρ).bind λb=>(fc ρ).map λc=>.aJ [a,b,c]:=by
 rw[mP,dr,dr,dr];cases fa ρ with
 | none=>rfl
 | some a=>cases fb ρ with
  | none=>rfl
  | some b=>cases fc ρ with
   | none=>rfl
   | some c=>exact if_pos (e:=none) WV
@[simp high] theorem acB {ρ:aE}:dG ao ρ=some []:=rfl
@[simp high] theorem acC {fa:FE} {ρ:aE}:dG (ae fa ao) ρ=(fa ρ).map λa=>[a]:=by
 rw[wc,dr];cases fa ρ with
 | none=>rfl
 | some a=>exact if_pos (e:=none) O8
@[simp high] theorem acD {fa fb:FE} {ρ:aE}:dG (ae fa (ae fb ao)) ρ=(fa ρ).bind λa=>(fb ρ).map λb=>[a,b]:=by
 rw[wc,dr,dr];cases fa ρ with
 | none=>rfl
 | some a=>cases fb ρ with
  | none=>rfl
  | some b=>exact if_pos (e:=none) O9
theorem mQ{n:Nat}(h:n<=100000):n<=fO:=h
theorem Pb{n:Nat}(h:n<100000):n<fO:=h
theorem jx{i j:Int}(h:-18446744073709551616<j/\j<18446744073709551616):gJ (.int i) (.int j)=some (.int (i*j)):=by
 rw[yO];exact if_pos (.inr h)
theorem gm{ts:bF}{ρ:aE}{j:Int}(h:ts ρ=some [.int j])(hb:-1000<=j/\j<=100000):fQ ts ρ=some ((List.range j.toNat).map fun(i:Nat)=>.int (0+i)):=by
 rw[Nm,h,bo,Fu hb]
theorem fJ{f g:FS}{ρ gq:aE}(h:f ρ=some (.nx gq)):bx f g ρ=g gq:=by
 rw[DI,h];rfl
@[simp] theorem WY:4<=fO:=by decide
@[simp high] theorem acE {fa fb fc fd:FE} {ρ:aE}:bM (ae fa (ae fb (ae fc (ae fd ao)))) ρ=(fa ρ).bind λa=>(fb ρ).bind λb=>(fc ρ).bind λc=>(fd ρ).map λd=>.aJ [a,b,c,d]:=by
 rw[mP,dr,dr,dr,dr];cases fa ρ with
 | none=>rfl
 | some a=>cases fb ρ with
  | none=>rfl
  | some b=>cases fc ρ with
   | none=>rfl
   | some c=>cases fd ρ with
    | none=>rfl
    | some d=>exact if_pos (e:=none) WY
theorem b2{fa fb:FE}{g:PV->PV->bP}{ρ:aE}{x y:PV}{z:bP}(ha:fa ρ=some x)(hb:fb ρ=some y)(h:g x y=z):ak fa fb g ρ=z:=by
 rw[M4,ha,hb];exact h
theorem cA{fa:FE}{ts:bF}{ρ:aE}{x:PV}{xs:av}(ha:fa ρ=some x)(hb:ts ρ=some xs):ae fa ts ρ=some (x::xs):=by
 rw[dr,ha,hb];rfl
theorem g9{c:av->cz}{ts:bF}{ρ:aE}{as:av}{n:Nat}{e:Ent}{p:PV}(ha:ts ρ=some as)(hn:as.length=n)(hc:c as=some e)(he:oS e=some p):aK (aW n c) ts ρ=some p:=by
 rw[JR,ha];show(if as.length=n then c as else none).bind oS=_
 rw[if_pos hn,hc];exact he
theorem clQ{c:av->cz}{ts:bF}{ρ:aE}{as:av}{n:Nat}{e e':Ent}(ha:ts ρ=some as)(hn:as.length=n)(hc:c as=some e)(he:lI e=some e'):qI (aW n c) ts ρ=some e':=by
 rw[JM,ha];show(if as.length=n then c as else none).bind lI=_
 rw[if_pos hn,hc];exact he
theorem bV{g:av->bP}{ts:bF}{ρ:aE}{as:av}{z:bP}(ha:ts ρ=some as)(h:g as=z):dh g ts ρ=z:=by
 rw[Na,ha];exact h
theorem fS{fi:bF}{set:eI}{f:FS}{ρ:aE}{ps:av}{z:Option oT}(h:fi ρ=some ps)(hf:fG set f ps ρ=z):gV fi set f ρ=z:=by
 rw[Nk,h];exact hf
theorem tU{ts:bF}{ρ:aE}{ps:av}(h:ts ρ=some ps)(hl:ps.length<=100000):bM ts ρ=some (.aJ ps):=by
 rw[mP,h];exact if_pos (mQ hl)
theorem lS{ts:bF}{ρ:aE}{ps:av}(h:ts ρ=some ps)(hl:ps.length<=100000):dG ts ρ=some ps:=by
 rw[wc,h];exact if_pos (mQ hl)
theorem fF{ts:bF}{ρ:aE}{ps:av}(h:ts ρ=some ps):cq ts ρ=some (.ay ps):=by
 rw[M9,h];rfl
theorem aS{fa:FE}{g:eI}{ρ gq:aE}{p:PV}(ha:fa ρ=some p)(h:g p ρ=some gq):b7 fa g ρ=some (.nx gq):=by
 rw[Nd,ha];show(g p ρ).map oT.nx=_;rw[h];rfl
theorem sR{fr:aE->cz}{n:Nat}{ρ:aE}{e:Ent}(ha:fr ρ=some e)(h:n<ρ.length):Il n fr ρ=some (.nx (ρ.set n e)):=by
 rw[M7,ha];exact if_pos h
theorem sO{ts:bF}{n:Nat}{ρ:aE}{ps:av}(ha:ts ρ=some ps)(h:n<ρ.length):mq n ts ρ=some (.nx (ρ.set n (.own ps))):=by
 rw[Nf,ha];exact if_pos h
theorem iT{gc:fj}{f h:FS}{ρ:aE}{z:Option oT}(hc:gc ρ=some true)(hf:f ρ=z):ni gc f h ρ=z:=by
 rw[JT,hc];exact hf
theorem iF{gc:fj}{f h:FS}{ρ:aE}{z:Option oT}(hc:gc ρ=some false)(hf:h ρ=z):ni gc f h ρ=z:=by
 rw[JT,hc];exact hf
theorem rS{fa:FE}{ρ:aE}{p:PV}(h:fa ρ=some p):cP fa ρ=some (.rt (.val p)):=by
 rw[Nc,h];rfl
theorem wd{f g:FS}{ρ:aE}{e:Ent}(h:f ρ=some (.rt e)):bx f g ρ=some (.rt e):=by
 rw[DI,h];rfl
theorem aL{ps qs:av}(h:ps.length+qs.length<=100000):ck (.ay ps) (.ay qs)=some (.ay (ps++qs)):=oe (mQ h)
theorem aT{ps qs:av}(h:ps.length+qs.length<=100000):ck (.aJ ps) (.aJ qs)=some (.aJ (ps++qs)):=oe (mQ h)
theorem bT{fa:FE}{ρ:aE}{b:Bool}(h:fa ρ=some (.bl b)):toB fa ρ=some b:=by
 rw[toB_ap,h];rfl
theorem eS{x:Option oT}{p:PV}(h:x=some (.rt (.val p))):gx x=some (.val p):=by rw[h];rfl
theorem Fv{x:Option oT}{ps:av}(h:x=some (.rt (.own ps))):gx x=some (.own ps):=by rw[h];rfl
theorem Fw{n:Nat}{ρ:aE}{ps:av}(h:ρ[n]?=some (.own ps)):oU n ρ=some (.rt (.own ps)):=by rw[Nh,h];rfl
theorem sq{f g:FS}{ρ gq:aE}{z:Option oT}(h:f ρ=some (.nx gq))(hg:g gq=z):bx f g ρ=z:=(fJ h).trans hg
theorem iV{gc:fj}{fa fb:FE}{ρ:aE}{b:Bool}{z:bP}(hc:gc ρ=some b)(h:(if b=true then fa ρ else fb ρ)=z):xX gc fa fb ρ=z:=by
 rw[DG,hc];exact h
theorem nB{gc:fj}{ρ:aE}{b:Bool}(h:gc ρ=some b):kW gc ρ=some (!b):=by
 rw[M5,h];rfl
theorem mA{n:Nat}{fa:FE}{ρ:aE}{ps:av}{p:PV}(h0:ρ[n]?=some (.own ps))(h:fa ρ=some p)(hl:ps.length<100000):iL n (ae fa ao) r9 ρ=some (.nx (ρ.set n (.own (ps++[p])))):=by
 rw[DJ,h0,yL,cA h rfl,bo,Ni,if_pos (Pb hl)];rfl
theorem mX{n:Nat}{fa:FE}{ρ:aE}{ps qs:av}(h0:ρ[n]?=some (.own ps))(h:fa ρ=some (.ay qs))(hl:ps.length+qs.length<=100000):iL n (ae fa ao) nQ ρ=some (.nx (ρ.set n (.own (ps++qs)))):=by
 rw[DJ,h0,yL,cA h rfl,bo,JU,if_pos (mQ hl)];rfl
theorem cV{L:List (Option Nat)}{fi:bF}{t:eI}{fa:FE}{ρ:aE}{ps qs:av}(h:fi ρ=some ps)(hl:ps.length<=100000) (hm:j4 (λp=>(t p (bB L ρ)).bind fa) ps=some qs):cW L fi t fa ρ=some qs:=by
 rw[yN,h,bo,if_pos (mQ hl)];exact hm
theorem sV{fa:FE}{ρ:aE}{p:PV}{ps:av}(h:fa ρ=some p)(hp:yM p=some ps):dH fa ρ=some ps:=by
 rw[Nj,h];exact hp
theorem fC{t:eI}{f:FS}{ρ eM pe:aE}{p:PV}{ps:av}{z:Option oT}(h:t p ρ=some eM)(h2:f eM=some (.nx pe))(h3:fG t f ps pe=z):fG t f (p::ps) ρ=z:=by
 rw[kJ,h,bo,h2,bo,pE];exact h3
end L2.PL
namespace ou
open PySem L2 L2.PL
abbrev cK(p:PV):FE:=λ_=>some p
inductive Sh where
 | num | own | dI (n:Int) | bI (ps:List Sh)
mutual
def enc:Sh->PV
 | .num=>.aJ [.str "num"]
 | .own=>.aJ [.str "own"]
 | .dI n=>.aJ [.str "strip",.int n]
 | .bI ps=>.aJ [.str "rec",.aJ (da ps)]
def da:List Sh->av
 | []=>[]
 | s::r=>enc s::da r
end
mutual
def lv:Sh->List Sh
 | .num=>[.num]
 | .own=>[.own]
 | .dI n=>[.dI n]
 | .bI ps=>iO ps
def iO:List Sh->List Sh
 | []=>[]
 | s::r=>lv s++iO r
end
mutual
def dp:Sh->Nat
 | .bI ps=>sy ps+1
 | _=>0
def sy:List Sh->Nat
 | []=>0
 | s::r=>max (dp s) (sy r)
end
def lQ:Sh->Bool
 | .bI _=>false
 | _=>true
theorem hG:∀l:List Sh,da l=l.map enc
 | []=>rfl
 | s::r=>by simp[da,hG r]
theorem yP(a b:List Sh):da (a++b)=da a++da b:=by simp[hG]
theorem gy(a:List Sh):(da a).length=a.length:=by simp[hG]
theorem rf:∀a b:List Sh,iO (a++b)=iO a++iO b
 | [],b=>by simp[iO]
 | s::r,b=>by simp[iO,rf r b]
@[simp] theorem s_1:((Str.ofString "num")==(Str.ofString "rec"))=false:=by decide +kernel
@[simp] theorem s_2:((Str.ofString "own")==(Str.ofString "rec"))=false:=by decide +kernel
@[simp] theorem s_3:((Str.ofString "strip")==(Str.ofString "rec"))=false:=by decide +kernel
@[simp] theorem s_4:((Str.ofString "num")==(Str.ofString "strip"))=false:=by decide +kernel
@[simp] theorem s_5:((Str.ofString "own")==(Str.ofString "strip"))=false:=by decide +kernel
@[simp] theorem s_6:((Str.ofString "rec")==(Str.ofString "strip"))=false:=by decide +kernel
def we(c:f9):FS:=iL 1 (ae (aK (aW 1 (c "leaves")) (ae (rd 2) ao)) ao) nQ
theorem BE(c:f9)(ρ:aE):we c ρ=iL 1 (ae (aK (aW 1 (c "leaves")) (ae (rd 2) ao)) ao) nQ ρ:=rfl
def mR(c:f9):FS :=
 (bx (ni (qD (toB (ak (ak (rd 0) (cK (.int 0)) bC) (cK (.str "rec")) CZ)))
  (cP (bM (ae (rd 0) ao)))
  (λρ=>some (.nx ρ)))
  (bx (mq 1 (dG ao))
  (bx (gV (dH (ak (rd 0) (cK (.int 1)) bC)) (aD 2) (we c))
  (AZ [1] (cP (dh qG (ae (rd 1) ao)))))))
theorem oJ{c:f9}(X:PV):∀(ps:List Sh) (acc:List Sh) (o:Ent),(∀s∈ps,c "leaves" [enc s]=some (.val (.aJ (da (lv s)))))->acc.length+(iO ps).length<=100000 ->
  ∃o',fG (aD 2) (we c) (da ps) [.val X,.own (da acc),o]=some (.nx [.val X,.own (da (acc++iO ps)),o'])
 | [],acc,o,_,_=>⟨o,by simp[da,iO]⟩
 | s::r,acc,o,h,hz=>by
  have h1:=h s bz;simp only[iO,bX]at hz;obtain⟨o',ih⟩:=oJ X r (acc++lv s) (.val (enc s)) (λs hs=>h s (bE _ hs)) (by rw[bX];lia)
  refine⟨o',?_⟩;simp only[da,kJ];simp[BE,h1,gy];rw[if_pos (mQ (by lia))]
  rw[<-yP];simp only[nA,bo,pE];rw[ih];simp[iO]
theorem km{c:f9}{s:Sh}(h:lQ s=true):q0 (mR c) 3 [enc s]=some (.val (.aJ [enc s])):=by
 cases s with
 | bI _=>cases h
 | _=>simp[mR,enc]
theorem BF{c:f9}{ps:List Sh} (h:∀s∈ps,c "leaves" [enc s]=some (.val (.aJ (da (lv s))))) (hz:(iO ps).length<=100000):q0 (mR c) 3 [enc (.bI ps)]=some (.val (.aJ (da (iO ps)))):=by
 obtain⟨o',q⟩:=oJ (enc (.bI ps)) ps [] .un h (by simpa using hz)
 simp[mR];simp only[enc]at q ⊢;simp at q ⊢;simp[da]at q;rw[q];simp
structure eU (R:Nat->f9):Prop where
 run:∀k ps,R (k+1) "leaves" ps=q0 (mR (R k)) 3 ps
mutual
theorem eU.all{R:Nat->f9}(A:eU R):∀(s:Sh) (k:Nat),dp s<=k->(lv s).length<=100000->R (k+1) "leaves" [enc s]=some (.val (.aJ (da (lv s))))
 | .num,k,_,_=>by rw[A.run,km rfl];simp[lv,da]
 | .own,k,_,_=>by rw[A.run,km rfl];simp[lv,da]
 | .dI n,k,_,_=>by rw[A.run,km rfl];simp[lv,da]
 | .bI ps,0,hd,_=>by simp[dp]at hd
 | .bI ps,k+1,hd,hz=>by
  simp only[dp]at hd;simp only[lv]at hz;rw[A.run,BF (A.each ps k (by lia) hz) hz]
  simp[lv]
theorem eU.each{R:Nat->f9}(A:eU R):∀(ps:List Sh) (k:Nat),sy ps<=k->(iO ps).length<=100000->∀s∈ps,R (k+1) "leaves" [enc s]=some (.val (.aJ (da (lv s))))
 | [],_,_,_,s,hs=>by cases hs
 | p::r,k,hd,hz,s,hs=>by
  simp only[sy]at hd;simp only[iO,bX]at hz;rcases aX.mp hs with e | e
  ·rw[e];exact eU.all A p k (by lia) (by lia)
  ·exact eU.each A r k (by lia) (by lia) s e
end
theorem J0(ps:av)(q:Nat):ij ps (some (q:Int)) none=ps.drop q:=by
 unfold ij;rw[HT.o9,HT.xJ];by_cases h:q<=ps.length
 ·rw[Al h,nu (by rw[lA];lia)]
 ·rw[Aj (by lia),Ah,List.take_nil,List.drop_eq_nil_of_le (by lia)]
theorem J1(ps:av)(q:Nat):ij ps none (some (q:Int))=ps.take q:=by
 unfold ij;rw[HT.o9,HT.xJ,List.drop_zero,Nat.sub_zero];by_cases h:q<=ps.length
 ·rw[Al h]
 ·rw[Aj (by lia),nu (by lia),nu (by lia)]
abbrev Rw:=List Int×Int×Int×Sh
def mU(k a:Int)(r:Rw):Rw:=(k::r.1,a+r.2.1,r.2.2)
mutual
def tab:Sh->List Rw
 | .num=>[([],0,1,.num)]
 | .own=>[([],0,1,.own)]
 | .dI n=>[([],0,1,.dI n)]
 | .bI ps=>([],0,((iO ps).length:Int),.bI ps)::tabs 0 0 ps
def tabs:Nat->Int->List Sh->List Rw
 | _,_,[]=>[]
 | k,a,s::r=>(tab s).map (mU k a)++tabs (k+1) (a+((lv s).length:Int)) r
end
def sz(s:Sh):Int:=((lv s).length:Int)
def iP:List Sh->Nat
 | []=>0
 | s::l=>(tab s).length+iP l
theorem J2{s:Sh}(h:lQ s=true):tab s=[([],0,1,s)]:=by
 cases s with
 | bI _=>cases h
 | _=>rfl
theorem yQ(s:Sh):∃R,tab s=(([],0,sz s,s):Rw)::R:=by
 cases s with
 | bI ps=>exact⟨tabs 0 0 ps,by simp only[tab,sz,lv]⟩
 | num=>exact⟨[],by simp[tab,sz,lv]⟩
 | own=>exact⟨[],by simp[tab,sz,lv]⟩
 | dI n=>exact⟨[],by simp[tab,sz,lv]⟩
theorem hJ:∀(l:List Sh) (k:Nat) (a:Int),(tabs k a l).length=iP l
 | [],_,_=>rfl
 | s::l,k,a=>by simp[tabs,iP,hJ l]
theorem wj(s:Sh):1<=(tab s).length:=by
 obtain⟨R,e⟩:=yQ s;rw[e];simp
theorem yR:∀l:List Sh,l.length<=iP l
 | []=>aR _
 | s::l=>by
  have:=wj s;have:=yR l;simp only[iP,aZ]
  lia
mutual
theorem DM:∀s:Sh,(lv s).length<=(tab s).length
 | .num=>by simp[lv,tab]
 | .own=>by simp[lv,tab]
 | .dI n=>by simp[lv,tab]
 | .bI ps=>by
  have:=BG ps;simp only[lv,tab,aZ,hJ]
  lia
theorem BG:∀l:List Sh,(iO l).length<=iP l
 | []=>by simp[iO]
 | s::l=>by
  have:=DM s;have:=BG l;simp only[iO,iP,bX]
  lia
end
mutual
theorem Pc:∀s:Sh,dp s<=(tab s).length
 | .num=>by simp[dp]
 | .own=>by simp[dp]
 | .dI n=>by simp[dp]
 | .bI ps=>by
  have:=J3 ps;simp only[dp,tab,aZ,hJ]
  lia
theorem J3:∀l:List Sh,sy l<=iP l
 | []=>by simp[sy]
 | s::l=>by
  have:=Pc s;have:=J3 l;simp only[sy,iP]
  lia
end
mutual
theorem DN:∀(s:Sh),∀r∈tab s,r.1.length<=dp s
 | .num,r,h=>by simp[tab]at h;subst h;simp
 | .own,r,h=>by simp[tab]at h;subst h;simp
 | .dI n,r,h=>by simp[tab]at h;subst h;simp
 | .bI ps,r,h=>by
  simp only[tab,aX]at h;rcases h with rfl | h
  ·simp
  ·simp only[dp];exact yS ps 0 0 r h
theorem yS:∀(l:List Sh) (k:Nat) (a:Int),∀r∈tabs k a l,r.1.length<=sy l+1
 | [],_,_,r,h=>by simp[tabs]at h
 | s::l,k,a,r,h=>by
  simp only[tabs,dM,aY]at h;simp only[sy];rcases h with⟨r0,h0,rfl⟩ | h
  ·have:=DN s r0 h0;simp only[mU,aZ]
   lia
  ·have:=yS l _ _ r h
   lia
end
theorem yT:∀(l:List Sh) (s:Sh),s∈l->(tab s).length<=iP l
 | s::l,t,h=>by
  simp only[iP];rcases aX.mp h with rfl | h
  ·lia
  ·have:=yT l t h
   lia
theorem Fx{ps:List Sh}{s:Sh}(h:s∈ps):(tab s).length<=(tab (.bI ps)).length:=by
 have:=yT ps s h;simp only[tab,aZ,hJ]
 lia
def zE:Sh->Int->Option (Sh×Int)
 | .bI ps,k=>if 0<=k then(ps[k.toNat]?).map λs=>(s,((iO (ps.take k.toNat)).length:Int))else none
 | _,_=>none
def walk:Sh->Int->List Int->Option (Sh×Int)
 | s,a,[]=>some (s,a)
 | s,a,k::p=>(zE s k).bind λx=>walk x.1 (a+x.2) p
mutual
theorem yU:∀(s:Sh),∀r∈tab s,∀b,walk s b r.1=some (r.2.2.2,b+r.2.1)
 | .num,r,h,b=>by simp[tab]at h;subst h;simp[walk]
 | .own,r,h,b=>by simp[tab]at h;subst h;simp[walk]
 | .dI n,r,h,b=>by simp[tab]at h;subst h;simp[walk]
 | .bI ps,r,h,b=>by
  simp only[tab,aX]at h;rcases h with rfl | h
  ·simp[walk]
  ·exact ur ps [] r (by simpa[iO]using h) b
theorem ur:∀(zF pre:List Sh),∀r∈tabs pre.length ((iO pre).length:Int) zF,∀b,walk (.bI (pre++zF)) b r.1=some (r.2.2.2,b+r.2.1)
 | [],pre,r,h,b=>by simp[tabs]at h
 | s::zF,pre,r,h,b=>by
  simp only[tabs,dM,aY]at h;rcases h with⟨r0,h0,rfl⟩ | h
  ·have:=yU s r0 h0 (b+((iO pre).length:Int));simp only[mU,walk,zE];simp[this]
   lia
  ·have:=ur zF (pre++[s]) r (by simpa[rf,iO]using h) b
   simpa using this
end
def cp(n:Int):Nat:=97+(n%26).toNat
def lt(n:Int):Str:=⟨#[cp n]⟩
def fK(l:List Nat):Str:=⟨l.toArray⟩
theorem uu{a b:List Nat}(h:fK a=fK b):a=b:=by
 have:a.toArray=b.toArray:=dw Str.cps h;simpa using this
theorem BH(a b:List Nat):fK a++fK b=fK (a++b):=by
 show Str.append _ _=_;unfold Str.append fK;simp
theorem WZ(n:Int):lt n=fK [cp n]:=rfl
theorem DO:(Str.ofString "")=fK []:=by decide +kernel
theorem DP(l:List Nat):(fK l).length=l.length:=by
 unfold fK Str.length;simp
theorem BI:∀m:Fin 26,atI (Str.ofString "abcdefghijklmnopqrstuvwxyz").cps.toList ((m:Nat):Int)=some (97+(m:Nat)):=by decide +kernel
theorem Fy(n:Int):bC (.str "abcdefghijklmnopqrstuvwxyz") (.int (n%26))=some (.str (lt n)):=by
 have h0:=jT n (show(26:Int)≠0 by decide)
 have h1:=nv n (show(0:Int)<26 by decide)
 obtain⟨m,hm⟩:=Int.eq_ofNat_of_zero_le h0;have:=BI ⟨m,by lia⟩
 show(if(Str.ofString "abcdefghijklmnopqrstuvwxyz").length<=fO then(atI (Str.ofString "abcdefghijklmnopqrstuvwxyz").cps.toList (n%26)).map λc=>PV.str ⟨#[c]⟩else none)=_
 rw[if_pos (by decide +kernel),hm,this]
 show some (PV.str ⟨#[97+m]⟩)=some (PV.str ⟨#[cp n]⟩);unfold cp;rw[hm,eZ]
theorem SF{a b:Int}(h:cp a=cp b):a%26=b%26:=by
 unfold cp at h;have h0:=jT a (show(26:Int)≠0 by decide)
 have h1:=jT b (show(26:Int)≠0 by decide)
 lia
end ou
namespace DQ
open PySem L2 L2.PL
theorem gO{α:Type} [DecidableEq α]:∀(l U:List α),l.Nodup->(∀x∈l,x∈U)->l.length<=U.length
 | [],_,_,_=>dY _
 | x::l,U,hn,hs=>by
  rw[cY]at hn;have hx:x∈U:=hs x bz;have h1:=gO l (U.erase x) hn.2 λy hy=>(List.mem_erase_of_ne (λz=>hn.1 (by rw[<-z];exact hy))).mpr (hs y (bE _ hy))
  have h2:=List.length_erase_of_mem hx;have h3:0<U.length:=List.length_pos_of_mem hx;rw[aZ]
  lia
theorem yV{ks:List (List bQ)}{k:List bQ}:IB ks k=true↔k∈ks:=by
 unfold IB;simp only[List.any_eq_true,jk];exact⟨λ⟨x,h,e⟩=>e▸h,λh=>⟨k,h,rfl⟩⟩
theorem gj(c:Int):∀(fs:List (List bQ)) (told:eJ),∃more:eJ,cS told c fs=told++more/\(∀t∈more,t.2=c/\t.1∈fs)
 | [],told=>⟨[],by rw[fH];rfl,λ_ z=>nomatch z⟩
 | f::fs,told=>by
  obtain⟨more,h1,h2⟩:=gj c fs (eE told c f);show ∃m,cS (eE told c f) c fs=told++m/\_
  by_cases h:IB (told.map (·.1)) f=true
  ·have e:eE told c f=told:=by unfold eE;rw[if_pos h]
   rw[e]at h1 ⊢;exact⟨more,h1,λt ht=>⟨(h2 t ht).1,bE _ (h2 t ht).2⟩⟩
  ·have e:eE told c f=told++[(f,c)]:=by unfold eE;rw[if_neg h]
   rw[e]at h1 ⊢;refine⟨(f,c)::more,by rw[h1];simp,λt ht=>?_⟩
   rcases aX.mp ht with rfl | ht
   ·exact⟨rfl,bz⟩
   ·exact⟨(h2 t ht).1,bE _ (h2 t ht).2⟩
theorem rg(c:Int):∀(fs:List (List bQ)) (told:eJ),(told.map (·.1)).Nodup->((cS told c fs).map (·.1)).Nodup
 | [],_,h=>h
 | f::fs,told,h=>by
  refine rg c fs (eE told c f) ?_;unfold eE;split
  ·exact h
  ·rename_i hm;rw[c9];refine uL.mpr ⟨h,by simp,λa ha b hb z=>?_⟩
   simp at hb;subst z;rw[hb]at ha;exact hm (yV.mpr ha)
theorem og(c:Int):∀(fs:List (List bQ)) (told:eJ),∀f∈fs,f∈(cS told c fs).map (·.1)
 | [],_,_,h=>nomatch h
 | g::fs,told,f,h=>by
  rcases aX.mp h with rfl | h
  ·obtain⟨more,h1,_⟩:=gj c fs (eE told c f);show f∈(cS (eE told c f) c fs).map (·.1);rw[h1,c9];refine iB _ ?_;unfold eE;split
   ·rename_i hm;exact yV.mp hm
   ·rw[c9];exact eG _ (by simp)
  ·exact og c fs (eE told c g) f h
section
variable (out:List bQ->Option (List (List bQ))) (er:List (List bQ))
def Nq(told:eJ):Prop:=∀(i:Nat) (f:List bQ) (c:Int),told[i]?=some (f,c)->(c = -1/\f∈er)\/∃(j:Nat) (g:List bQ) (d:Int) (fs:List (List bQ)),j<i/\c=(j:Int)/\told[j]?=some (g,d)/\out g=some fs/\f∈fs
def yW(told:eJ)(k:Nat):Prop:=∀(j:Nat) (g:List bQ) (d:Int),j<k->told[j]?=some (g,d)->∃fs,out g=some fs/\∀f∈fs,f∈told.map (·.1)
theorem Fz:Nq out er (cS [] (-1) er):=by
 obtain⟨more,h1,h2⟩:=gj (-1) er [];rw[gS]at h1;intro i f c e;rw[h1]at e;obtain⟨h3,h4⟩:=h2 _ (b9 e);exact .inl ⟨h3,h4⟩
theorem J4{told:eJ}{k:Nat}{g:List bQ}{d:Int}{fs:List (List bQ)}(h:Nq out er told)(hk:told[k]?=some (g,d))(ho:out g=some fs):Nq out er (cS told (k:Int) fs):=by
 obtain⟨more,h1,h2⟩:=gj (k:Int) fs told;have dU:k<told.length:=(cL.mp hk).1;have old:∀{j:Nat} {x:List bQ×Int},told[j]?=some x->(told++more)[j]?=some x:=λ{j x} e=>by
  rw[fX (cL.mp e).1];exact e
 intro i f c e;rw[h1]at e ⊢;by_cases hi:i<told.length
 ·rw[fX hi]at e;rcases h i f c e with z | ⟨j,g',d',S7,z1,z2,z3,z4,z5⟩
  ·exact .inl z
  ·exact .inr ⟨j,g',d',S7,z1,z2,old z3,z4,z5⟩
 ·rw[gP (by lia)]at e
  obtain⟨h3,h4⟩:=h2 _ (b9 e);exact .inr ⟨k,g,d,fs,by lia,h3,old hk,ho,h4⟩
theorem FA{told:eJ}{k:Nat}{g:List bQ}{d:Int}{fs:List (List bQ)}(h:yW out told k)(hk:told[k]?=some (g,d))(ho:out g=some fs):yW out (cS told (k:Int) fs) (k+1):=by
 obtain⟨more,h1,h2⟩:=gj (k:Int) fs told;have dU:k<told.length:=(cL.mp hk).1;intro j g' d' hj e;rw[h1]at e;rw[fX (by lia)]at e
 by_cases hjk:j=k
 ·subst hjk;rw[hk]at e;cases e;exact⟨fs,ho,og (j:Int) fs told⟩
 ·obtain⟨S7,z1,z2⟩:=h j g' d' (by lia) e
  refine⟨S7,z1,λf hf=>?_⟩
  rw[h1,c9];exact iB _ (z2 f hf)
theorem oK(U:List (List bQ))(B:Nat)(hB:U.length+B<fO)(hU:∀g∈U,∃fs,out g=some fs/\(∀f∈fs,f∈U)/\fs.length<=B):∀(n k:Nat) (told:eJ),U.length<n+k->k<=told.length->(told.map (·.1)).Nodup->(∀t∈told,t.1∈U)->Nq out er told->yW out told k ->
  ∃res,eX out n k told=some res/\(res.map (·.1)).Nodup/\(∀t∈res,t.1∈U)/\Nq out er res/\yW out res res.length/\∃more,res=told++more
 | n,k,told,hn,hk,nd,sub,why,done=>by
  have cC:told.length<=U.length:=by
   have:=gO (told.map (·.1)) U nd λx hx=>by
    obtain⟨t,ht,rfl⟩:=aY.mp hx;exact sub t ht
   rwa [aB]at this
  cases n with
  | zero=>lia
  | succ n =>
   cases ht:told[k]? with
   | none =>
    have hkl:told.length<=k:=pK.mp ht;refine⟨told,?_,nd,sub,why,?_,[],by simp⟩
    ·show(match told[k]? with | none=>some told | some t=>_)=_
     rw[ht]
    ·have:k=told.length:=by lia
     rw[<-this];exact done
   | some t =>
    obtain⟨g,d⟩:=t;have hg:g∈U:=sub (g,d) (b9 ht);obtain⟨fs,h1,h2,h3⟩:=hU g hg;obtain⟨more,m1,m2⟩:=gj (k:Int) fs told;have dU:k<told.length:=(cL.mp ht).1;obtain⟨res,r1,r2,r3,r4,r5,Pd,r6⟩:=oK U B hB hU n (k+1) (cS told (k:Int) fs) (by lia) (by rw[m1,bX];lia) (rg _ _ _ nd) (λt ht'=>by
     rw[m1]at ht';rcases dM.mp ht' with z | z
     ·exact sub t z
     ·exact h2 _ (m2 t z).2) (J4 out er why ht h1) (FA out done ht h1)
    refine⟨res,?_,r2,r3,r4,r5,more++Pd,by rw[r6,m1,fZ]⟩
    show(match told[k]? with | none=>some told | some t=>(out t.1).bind λfs=>if told.length+fs.length<fO then eX out n (k+1) (cS told k fs)else none)=_
    rw[ht];show((out g).bind λfs=>if told.length+fs.length<fO then eX out n (k+1) (cS told k fs)else none)=_
    rw[h1,bo,if_pos (by lia)]
    exact r1
theorem rh(U:List (List bQ))(B:Nat)(hB:U.length+B<fO)(hn:U.length<uf)(hU:∀g∈U,∃fs,out g=some fs/\(∀f∈fs,f∈U)/\fs.length<=B)(hf:∀f∈er,f∈U) :
  ∃res,eX out uf 0 (cS [] (-1) er)=some res/\(res.map (·.1)).Nodup/\(∀t∈res,t.1∈U)/\Nq out er res/\yW out res res.length/\∀f∈er,f∈res.map (·.1):=by
 obtain⟨more,h1,h2⟩:=gj (-1) er [];obtain⟨res,r1,r2,r3,r4,r5,Pd,r6⟩:=oK out er U B hB hU uf 0 (cS [] (-1) er) (by lia) (dY _) (rg _ _ _ nE) (λt ht=>by
  rw[h1,gS]at ht;exact hf _ (h2 t ht).2) (Fz out er) (λj g d hj=>absurd hj (nC _))
 exact⟨res,r1,r2,r3,r4,r5,λf hff=>by rw[r6,c9];exact iB _ (og _ _ _ f hff)⟩
end
theorem DR:∀ks:List bQ,EZ (ks.map lK)=some ks
 | []=>rfl
 | k::ks=>by
  rw[bJ];show(EY (lK k)).bind _=_;have:EY (lK k)=some k:=by cases k<;>rfl
  rw[this,bo,DR ks];rfl
theorem Nr{ks:List bQ}(h:ks.length<1000):jF (dq ks)=some ks:=by
 show(if(ks.map lK).length<1000 then EZ (ks.map lK)else none)=_
 rw[aB,if_pos h,DR]
theorem oh:∀{fs:List (List bQ)},(∀f∈fs,f.length<1000)->factsOf (fs.map dq)=some fs
 | [],_=>rfl
 | f::fs,h=>by
  rw[bJ];show(jF (dq f)).bind _=_;rw[Nr (h f bz),bo,oh λg hg=>h g (bE _ hg)]
  rfl
theorem DS{fb:FE}{vK:aE}{f:List bQ}{fs:List (List bQ)}(h:fb (.val (dq f)::vK)=some (.ay (fs.map dq)))(hl:∀x∈fs,x.length<1000):vJ fb vK f=some fs:=by
 unfold vJ;rw[h,bo];exact oh hl
theorem ri{fe fb:FE}{link:List (Option Nat)}{ρ:aE}{fk:List (List bQ)}{told:eJ}(h:fe ρ=some (.ay (fk.map dq)))(hl:∀x∈fk,x.length<1000)(hn:fk.length<fO)(hs:eX (vJ fb (bB link ρ)) uf 0 (cS [] (-1) fk)=some told):jv fe fb link ρ=some (told.map toldP):=by
 unfold jv;rw[h,bo];show(factsOf (fk.map dq)).bind _=_;rw[oh hl,bo,if_pos hn,hs];rfl
end DQ
namespace cn
open PySem L2 L2.PL ou
def jy:List (Str×Str):=[("put","put_acts"),("set","set_acts"),("fill","put_acts"),("copy","copy_acts"),("move","move_acts"),("drop","drop_acts"),("lend","lend_acts"),("sole","lend_acts"),("call","call_acts"),("if","if_acts"),("go","go_acts"),("say","say_acts"),("give","give_acts")]
abbrev kI(n:Int):FE:=cK (.int n)
abbrev kS(s:Str):FE:=cK (.str s)
abbrev CF:=Str->av->cz
theorem rq{x:Str}{st:az}{f:CF->FS}{n:Nat}(h:bK.defs.lookup x=some st)(hf:∀c:CT,gH n5 (mO bK st c) (cw st)=some (f (cN c)))(hn:(cb st).length=n)(k:Nat)(ps:av):run bK (k+1) x ps=q0 (f (run bK k)) n ps:=by
 rw[<-hn];exact Ss h (hf _) ps
def Nt:List (Str×Nat):=("leaves",1)::("check_part",2)::("part",2)::("first",2)::("is_copied",1)::("kind_of",2)::("is_holder",1)::("shape_of",1)::("spread",2)::("tell_new",4)::("row_nexts",2)::("acts",2)::("nexts",2)::("come_to",2)::("arrivals",1)::("touched",1)::("touches",3)::("touch",4)::("touch_whole",4)::("at_acts",2)::("operand_acts",2)::("target_acts",2)::("put_acts",2)::("set_acts",2)::("copy_acts",2)::("move_acts",2)::("drop_acts",2)::("lend_acts",2)::("call_acts",2)::("arg_act",3)::("owner_act",2)::("if_acts",2)::("go_acts",2)::("say_acts",2)::("give_acts",2)::("empties",2)::("empty_at_first",1)::("emptied",2)::("stays_empty",3)::("fills",3)::("_law_cell_at",2)::("_law_mixed",2)::("_law_names",2)::("_law_shape",1)::("_law_leaves",1)::("_law_parts",1)::("_law_lets",2)::("_law_whole",1)::("_law_rows",1)::("_law_due",1)::("_law_came",2)::("law",1)::[]
noncomputable def BJ(c:CF):FS :=
 (iL 1 (ae (aK (aW 1 (c "leaves")) (ae (rd 2) ao)) ao) nQ)
noncomputable def J5(c:CF):FS :=
 (bx (ni (qD (toB (ak (ak (rd 0) (kI 0) bC) (kS "rec") CZ)))
  (cP (bM (ae (rd 0) ao)))
  (λρ=>some (.nx ρ)))
  (bx (mq 1 (dG ao))
  (bx (gV (dH (ak (rd 0) (kI 1) bC)) (aD 2) (BJ c))
  (AZ [1] (cP (dh qG (ae (rd 1) ao)))))))
def BK:=rq (x:="leaves") (st:=xi) (f:=J5) (n:=3) (by kernel_rfl) (λc=>by kernel_rfl) (by kernel_rfl)
noncomputable def fL(c:CF):FS :=
 (bx (ni (toB (ak (ak (rd 0) (kI 0) bC) (kS "rec") CZ))
  (λ_=>none)
  (λρ=>some (.nx ρ)))
  (ni (kW (toB (chain (kI 0) (rd 1) (dh dZ (ae (ak (rd 0) (kI 1) bC) ao)) HX C0)))
  (λ_=>none)
  (λρ=>some (.nx ρ))))
def rj:=rq (x:="check_part") (st:=ma) (f:=fL) (n:=2) (by kernel_rfl) (λc=>by kernel_rfl) (by kernel_rfl)
noncomputable def mV(c:CF):FS :=
 (bx (oB (aK (aW 2 (c "check_part")) (ae (rd 2) (ae (rd 3) ao))))
  (b7 (ak (ak (rd 2) (kI 1) bC) (rd 3) bC) (aD 2)))
noncomputable def BL(c:CF):FS :=
 (bx (b7 (rd 0) (aD 2))
  (bx (gV (dH (rd 1)) (aD 3) (mV c))
  (cP (rd 2))))
def J6:=rq (x:="part") (st:=G1) (f:=BL) (n:=4) (by kernel_rfl) (λc=>by kernel_rfl) (by kernel_rfl)
noncomputable def kM(c:CF):FS :=
 (bx (oB (aK (aW 2 (c "check_part")) (ae (rd 2) (ae (rd 4) ao))))
  (bx (b7 (ak (rd 3) (dh A5 (ae (cq (cW [none,none] (dH (cutE (ak (rd 2) (kI 1) bC) C3 (ee (rd 4)))) (aD 1) (dh dZ (ae (aK (aW 1 (c "leaves")) (ae (rd 1) ao)) ao)))) ao)) MZ) (aD 3))
  (b7 (ak (ak (rd 2) (kI 1) bC) (rd 4) bC) (aD 2))))
noncomputable def wm(c:CF):FS :=
 (bx (b7 (rd 0) (aD 2))
  (bx (b7 (kI 0) (aD 3))
  (bx (gV (dH (rd 1)) (aD 4) (kM c))
  (cP (rd 3)))))
def FC:=rq (x:="first") (st:=Cm) (f:=wm) (n:=5) (by kernel_rfl) (λc=>by kernel_rfl) (by kernel_rfl)
noncomputable def yX(c:CF):FS :=
 (cP (ak (ak (rd 0) (kI 0) bC) (cK (.aJ [(.str "lent"),(.str "sole")])) (HZ false)))
def sE:=rq (x:="is_holder") (st:=ov) (f:=yX) (n:=1) (by kernel_rfl) (λc=>by kernel_rfl) (by kernel_rfl)
noncomputable def BM(c:CF):FS :=
 (cP (xX (toB (aK (aW 1 (c "is_holder")) (ae (rd 0) ao))) (ak (rd 0) (kI 1) bC) (rd 0)))
def wo:=rq (x:="shape_of") (st:=p9) (f:=BM) (n:=1) (by kernel_rfl) (λc=>by kernel_rfl) (by kernel_rfl)
noncomputable def yY(c:CF):FS :=
 (bx (b7 (ak (rd 0) (rd 1) bC) (aD 2))
  (bx (ni (toB (ak (ak (rd 2) (kI 0) bC) (kS "give") nk))
  (cP (bM ao))
  (λρ=>some (.nx ρ)))
  (bx (ni (toB (ak (ak (rd 2) (kI 0) bC) (kS "go") nk))
  (cP (bM (ae (ak (rd 2) (kI 1) bC) ao)))
  (λρ=>some (.nx ρ)))
  (bx (ni (toB (ak (ak (rd 2) (kI 0) bC) (kS "if") nk))
  (cP (dh qG (ae (Rz (ae (ak (rd 1) (kI 1) ck) (ae (ak (rd 2) (kI 3) bC) ao))) ao)))
  (λρ=>some (.nx ρ)))
  (cP (bM (ae (ak (rd 1) (kI 1) ck) ao)))))))
def sG:=rq (x:="row_nexts") (st:=ox) (f:=yY) (n:=3) (by kernel_rfl) (λc=>by kernel_rfl) (by kernel_rfl)
noncomputable def mW(c:CF):FS :=
 (bx (b7 (ES jy Nt c (ak (rd 5) (kI 0) bC) (ae (rd 2) (ae (rd 5) ao))) (aD 6))
  (iL 3 (ae (cq (cW [none,none,some 4] (dH (Vk (rd 6) (cq (dG (ae (cK (.aJ [(.str "rest"),(.str ""),(.bl false),(.int 0),(.int 0),(.str "")])) ao))))) (aD 1) (ak (bM (ae (rd 2) ao)) (rd 1) ck))) ao) nQ))
noncomputable def SG(c:CF):FS :=
 (bx (b7 (ak (rd 0) (rd 1) bC) (aD 2))
  (bx (mq 3 (dG ao))
  (bx (gV (qH (ak (rd 2) (kI 4) bC)) (gE 2 (b0 (aD 4) (b0 (aD 5) fP))) (mW c))
  (oU 3))))
def J7:=rq (x:="acts") (st:=G3) (f:=SG) (n:=7) (by kernel_rfl) (λc=>by kernel_rfl) (by kernel_rfl)
noncomputable def jc(c:CF):FS :=
 (ni (qD (AV (toB (ak (ak (rd 4) (kI 1) ck) (lH (dh dZ (ae (rd 2) ao))) C0)) (toB (ak (ak (ak (rd 2) (ak (rd 4) (kI 1) ck) bC) (kI 0) bC) (ak (rd 5) (kI 0) bC) nk))))
  (iL 6 (ae (bM (ae (ak (rd 4) (kI 1) ck) ao)) ao) r9)
  (AZ [3] (iL 6 (ae (dh qG (ae (cq (cW [none,none,some 3] (dH (aK (aW 2 (c "row_nexts")) (ae (ak (ak (rd 0) (rd 1) bC) (kI 4) bC) (ae (ak (rd 5) (kI 0) bC) ao)))) (aD 1) (getD 2 (rd 1)))) ao)) ao) r9)))
noncomputable def kO(c:CF):FS :=
 (RP 3 (ak (rd 5) (kI 0) bC) (rd 4))
noncomputable def Nu(c:CF):FS :=
 (bx (b7 (aK (aW 2 (c "acts")) (ae (rd 0) (ae (rd 1) ao))) (aD 2))
  (bx (RN 3)
  (bx (gV (qH (rd 2)) (gE 2 (b0 (aD 4) (b0 (aD 5) fP))) (kO c))
  (bx (mq 6 (dG ao))
  (bx (gV (qH (rd 2)) (gE 2 (b0 (aD 4) (b0 (aD 5) fP))) (jc c))
  (oU 6))))))
def FD:=rq (x:="nexts") (st:=Cn) (f:=Nu) (n:=7) (by kernel_rfl) (λc=>by kernel_rfl) (by kernel_rfl)
noncomputable def FF(c:CF):FS :=
 (cP (dh Dd (ae (cq (cW [none,none] (dH (aK (aW 1 (c "arrivals")) (ae (aK (aW 2 (c "nexts")) (ae (rd 0) (ae (rd 1) ao))) ao))) (aD 1) (ak (rd 1) (kI 0) bC))) ao)))
def yZ:=rq (x:="come_to") (st:=sW) (f:=FF) (n:=2) (by kernel_rfl) (λc=>by kernel_rfl) (by kernel_rfl)
noncomputable def BN(c:CF):FS :=
 (cP (cq (jv (cq (dG (ae (bM (ae (kI 0) ao)) ao))) (cq (cW [none,none] (dH (ak (rd 1) (ak (rd 0) (kI 0) bC) bC)) (aD 1) (bM (ae (rd 1) ao)))) [some 0])))
def jz:=rq (x:="arrivals") (st:=qa) (f:=BN) (n:=1) (by kernel_rfl) (λc=>by kernel_rfl) (by kernel_rfl)
noncomputable def FG(c:CF):FS :=
 (cP (cq (lrg (ae (ak (rd 0) (kI 4) bC) (ae (ak (ak (rd 0) (kI 4) bC) (ak (rd 0) (kI 5) bC) ck) ao)))))
def y0:=rq (x:="touched") (st:=sX) (f:=FG) (n:=1) (by kernel_rfl) (λc=>by kernel_rfl) (by kernel_rfl)
noncomputable def FH(c:CF):FS :=
 (cP (qw (ak (ak (rd 0) (kI 2) bC) (rd 1) nk) (chain (ak (rd 0) (kI 4) bC) (rd 2) (ak (ak (rd 0) (kI 4) bC) (ak (rd 0) (kI 5) bC) ck) HX C0)))
def y8:=rq (x:="touches") (st:=sY) (f:=FH) (n:=3) (by kernel_rfl) (λc=>by kernel_rfl) (by kernel_rfl)
noncomputable def wq(c:CF):FS :=
 (bx (b7 (aK (aW 1 (c "shape_of")) (ae (aK (aW 2 (c "kind_of")) (ae (rd 0) (ae (ak (rd 2) (kI 0) bC) ao))) ao)) (aD 4))
  (bx (b7 (dh dZ (ae (aK (aW 1 (c "leaves")) (ae (aK (aW 2 (c "part")) (ae (rd 4) (ae (ak (rd 2) (kI 2) bC) ao))) ao)) ao)) (aD 5))
  (cP (bM (ae (rd 1) (ae (ak (rd 2) (kI 0) bC) (ae (ak (rd 2) (kI 1) bC) (ae (aK (aW 2 (c "first")) (ae (rd 4) (ae (ak (rd 2) (kI 2) bC) ao))) (ae (rd 5) (ae (rd 3) ao))))))))))
def FI:=rq (x:="touch") (st:=Co) (f:=wq) (n:=6) (by kernel_rfl) (λc=>by kernel_rfl) (by kernel_rfl)
noncomputable def iQ(c:CF):FS :=
 (cP (aK (aW 4 (c "touch")) (ae (rd 0) (ae (rd 1) (ae (bM (ae (rd 2) (ae (aK (aW 1 (c "is_holder")) (ae (aK (aW 2 (c "kind_of")) (ae (rd 0) (ae (rd 2) ao))) ao)) (ae (bM ao) (ae (cK .cM) ao))))) (ae (rd 3) ao))))))
def o4:=rq (x:="touch_whole") (st:=k8) (f:=iQ) (n:=4) (by kernel_rfl) (λc=>by kernel_rfl) (by kernel_rfl)
noncomputable def oi(c:CF):FS :=
 (bx (ni (kW (toB (C6 .str (ak (rd 1) (kI 3) bC))))
  (cP (cq (dG ao)))
  (λρ=>some (.nx ρ)))
  (cP (cq (dG (ae (aK (aW 4 (c "touch_whole")) (ae (rd 0) (ae (kS "read") (ae (ak (rd 1) (kI 3) bC) (ae (kS "") ao))))) ao)))))
def y9:=rq (x:="at_acts") (st:=sZ) (f:=oi) (n:=2) (by kernel_rfl) (λc=>by kernel_rfl) (by kernel_rfl)
noncomputable def hV(c:CF):FS :=
 (bx (ni (kW (toB (C6 .tuple (rd 1))))
  (cP (cq (dG ao)))
  (λρ=>some (.nx ρ)))
  (cP (ak (aK (aW 2 (c "at_acts")) (ae (rd 0) (ae (rd 1) ao))) (cq (dG (ae (aK (aW 4 (c "touch")) (ae (rd 0) (ae (kS "read") (ae (rd 1) (ae (kS "") ao))))) ao))) ck)))
def oj:=rq (x:="operand_acts") (st:=jX) (f:=hV) (n:=2) (by kernel_rfl) (λc=>by kernel_rfl) (by kernel_rfl)
noncomputable def BO(c:CF):FS :=
 (cP (aK (aW 2 (c "operand_acts")) (ae (rd 0) (ae (ak (rd 1) (kI 1) bC) ao))))
def wt:=rq (x:="say_acts") (st:=qb) (f:=BO) (n:=2) (by kernel_rfl) (λc=>by kernel_rfl) (by kernel_rfl)
noncomputable def za(c:CF):FS :=
 (bx (ni (toB (ak (ak (rd 1) (kI 1) bC) (kS "") nk))
  (cP (cq (dG ao)))
  (λρ=>some (.nx ρ)))
  (bx (ni (toB (aK (aW 1 (c "is_holder")) (ae (aK (aW 2 (c "kind_of")) (ae (rd 0) (ae (ak (rd 1) (kI 1) bC) ao))) ao)))
  (cP (cq (dG (ae (aK (aW 4 (c "touch_whole")) (ae (rd 0) (ae (kS "give") (ae (ak (rd 1) (kI 1) bC) (ae (kS "") ao))))) ao))))
  (λρ=>some (.nx ρ)))
  (cP (cq (dG (ae (aK (aW 2 (c "owner_act")) (ae (rd 0) (ae (ak (rd 1) (kI 1) bC) ao))) ao))))))
def sI:=rq (x:="give_acts") (st:=oy) (f:=za) (n:=2) (by kernel_rfl) (λc=>by kernel_rfl) (by kernel_rfl)
noncomputable def iy(c:CF):FS :=
 (iL 2 (ae (aK (aW 2 (c "emptied")) (ae (ak (rd 5) (rd 3) bC) (ae (ak (rd 4) (rd 3) bC) ao))) ao) nQ)
noncomputable def FJ(c:CF):FS :=
 (bx (b7 (aK (aW 2 (c "acts")) (ae (rd 0) (ae (rd 1) ao))) (aD 5))
  (bx (b7 (aK (aW 2 (c "nexts")) (ae (rd 0) (ae (rd 1) ao))) (aD 4))
  (bx (Il 2 (qI (aW 1 (c "empty_at_first")) (ae (ak (rd 0) (rd 1) bC) ao)))
  (bx (gV (dH (aK (aW 2 (c "come_to")) (ae (rd 0) (ae (rd 1) ao)))) (aD 3) (iy c))
  (AZ [2] (cP (cq (jv (rd 2) (aK (aW 3 (c "stays_empty")) (ae (ak (rd 2) (ak (rd 0) (kI 0) bC) bC) (ae (ak (rd 1) (ak (rd 0) (kI 0) bC) bC) (ae (rd 0) ao)))) [some 4,some 5]))))))))
def zb:=rq (x:="empties") (st:=s9) (f:=FJ) (n:=6) (by kernel_rfl) (λc=>by kernel_rfl) (by kernel_rfl)
noncomputable def dP(c:CF):FS :=
 (bx (b7 (xX (toB (aK (aW 1 (c "is_holder")) (ae (rd 3) ao))) (kI 1) (lH (dh dZ (ae (aK (aW 1 (c "leaves")) (ae (rd 3) ao)) ao)))) (aD 4))
  (iL 1 (ae (cq (cW [none,none,some 2] (fQ (ae (rd 4) ao)) (aD 1) (bM (ae (kI 0) (ae (rd 2) (ae (rd 1) ao)))))) ao) nQ))
noncomputable def om(c:CF):FS :=
 (bx (mq 1 (dG ao))
  (bx (gV (dH (ak (rd 0) (kI 3) bC)) (gE 2 (b0 (aD 2) (b0 (aD 3) fP))) (dP c))
  (oU 1)))
def lT:=rq (x:="empty_at_first") (st:=iR) (f:=om) (n:=5) (by kernel_rfl) (λc=>by kernel_rfl) (by kernel_rfl)
noncomputable def iz(c:CF):FS :=
 (iL 2 (ae (cq (cW [none,none,some 0,some 3] (dH (aK (aW 1 (c "touched")) (ae (rd 0) ao))) (aD 1) (bM (ae (rd 3) (ae (ak (rd 2) (kI 2) bC) (ae (rd 1) ao)))))) ao) nQ)
noncomputable def FK(c:CF):FS :=
 (bx (ni (qD (toB (ak (ak (rd 0) (kI 1) bC) (kS "empty") CZ)))
  (cP (cq (dG ao)))
  (λρ=>some (.nx ρ)))
  (bx (mq 2 (dG ao))
  (bx (gV (dH (rd 1)) (aD 3) (iz c))
  (oU 2))))
def zc:=rq (x:="emptied") (st:=tf) (f:=FK) (n:=4) (by kernel_rfl) (λc=>by kernel_rfl) (by kernel_rfl)
noncomputable def sJ(c:CF):FS :=
 (bx (ni (Gi (toB (ak (ak (rd 0) (kI 6) bC) (ak (rd 2) (kI 1) bC) nk)) (toB (aK (aW 3 (c "fills")) (ae (rd 0) (ae (ak (rd 2) (kI 1) bC) (ae (ak (rd 2) (kI 2) bC) ao))))))
  (cP (cq (dG ao)))
  (λρ=>some (.nx ρ)))
  (cP (cq (cW [none,none,some 2] (dH (rd 1)) (aD 1) (bM (ae (rd 1) (ae (ak (rd 2) (kI 1) bC) (ae (ak (rd 2) (kI 2) bC) ao))))))))
def o5:=rq (x:="stays_empty") (st:=k9) (f:=sJ) (n:=3) (by kernel_rfl) (λc=>by kernel_rfl) (by kernel_rfl)
noncomputable def Nv(c:CF):FS :=
 (cP (qw (ak (ak (rd 0) (kI 1) bC) (kS "fill") nk) (qw (AW (ak (rd 0) (kI 3) bC)) (aK (aW 3 (c "touches")) (ae (rd 0) (ae (rd 1) (ae (rd 2) ao)))))))
def FL:=rq (x:="fills") (st:=Cp) (f:=Nv) (n:=3) (by kernel_rfl) (λc=>by kernel_rfl) (by kernel_rfl)
noncomputable def lU(c:CF):FS :=
 (bx (ni (toB (ak (rd 1) (dh dZ (ae (rd 0) ao)) C0))
  (cP (ak (rd 0) (rd 1) bC))
  (λρ=>some (.nx ρ)))
  (cP (kI 0)))
def wu:=rq (x:="_law_cell_at") (st:=qc) (f:=lU) (n:=2) (by kernel_rfl) (λc=>by kernel_rfl) (by kernel_rfl)
noncomputable def J8(c:CF):FS :=
 (bx (b7 (ak (cq (dG (ae (bM (ae (kI 48271) (ae (kI 2147483647) ao))) (ae (bM (ae (kI 69621) (ae (kI 998244353) ao))) (ae (bM (ae (kI 40692) (ae (kI 1000000007) ao))) (ae (bM (ae (kI 16807) (ae (kI 2147483629) ao))) ao)))))) (rd 1) bC) (gE 2 (b0 (aD 2) (b0 (aD 3) fP))))
  (cP (ak (ak (ak (ak (rd 0) (kI 1000000000039) fq) (rd 1) ck) (rd 2) gJ) (rd 3) fq)))
def BP:=rq (x:="_law_mixed") (st:=xu) (f:=J8) (n:=4) (by kernel_rfl) (λc=>by kernel_rfl) (by kernel_rfl)
noncomputable def jA(c:CF):FS :=
 (b7 (ak (rd 9) (ak (rd 2) (ak (ak (ak (rd 6) (rd 5) bC) (ak (rd 8) (dh A4 (ae (ak (rd 5) (rd 4) nk) ao)) gJ) ck) (kI 26) fq) bC) ck) (aD 9))
noncomputable def jB(c:CF):FS :=
 (bx (b7 (kS "") (aD 9))
  (bx (gV (fQ (ae (rd 3) ao)) (aD 5) (jA c))
  (iL 7 (ae (rd 9) ao) r9)))
noncomputable def J9(c:CF):FS :=
 (bx (b7 (kS "abcdefghijklmnopqrstuvwxyz") (aD 2))
  (bx (b7 (ak (kI 1) (ak (rd 0) (kI 8) fq) ck) (aD 3))
  (bx (b7 (ak (ak (rd 0) (kI 8) iq) (rd 3) fq) (aD 4))
  (bx (b7 (cq (cW [none,none,some 0] (fQ (ae (rd 3) ao)) (aD 1) (ak (ak (ak (rd 2) (ak (kI 64) (ak (ak (kI 9) (rd 1) gJ) (rd 1) gJ) ck) iq) (ak (kI 5) (rd 1) gJ) ck) (kI 26) fq))) (aD 6))
  (bx (mq 7 (dG ao))
  (bx (gV (fQ (ae (rd 1) ao)) (aD 8) (jB c))
  (oU 7)))))))
def BQ:=rq (x:="_law_names") (st:=xw) (f:=J9) (n:=10) (by kernel_rfl) (λc=>by kernel_rfl) (by kernel_rfl)
noncomputable def Ka(c:CF):FS :=
 (bx (b7 (bM (ae (kS "strip") (ae (ak (kI 1) (ak (ak (rd 0) (kI 7) iq) (kI 8) fq) ck) ao))) (aD 1))
  (bx (b7 (bM (ae (kS "rec") (ae (bM (ae (bM (ae (kS "num") ao)) (ae (bM (ae (kS "num") ao)) ao))) ao))) (aD 2))
  (bx (b7 (cq (dG (ae (rd 2) (ae (bM (ae (kS "own") ao)) (ae (rd 1) (ae (bM (ae (kS "num") ao)) (ae (bM (ae (kS "rec") (ae (bM (ae (bM (ae (kS "num") ao)) (ae (bM (ae (kS "own") ao)) ao))) ao))) (ae (bM (ae (kS "rec") (ae (bM (ae (rd 1) (ae (bM (ae (kS "own") ao)) ao))) ao))) ao)))))))) (aD 3))
  (cP (ak (ak (rd 3) (cq (dG (ae (bM (ae (kS "rec") (ae (bM (ae (rd 2) (ae (rd 1) ao))) ao))) ao))) ck) (ak (rd 0) (kI 7) fq) bC)))))
def BR:=rq (x:="_law_shape") (st:=xx) (f:=Ka) (n:=4) (by kernel_rfl) (λc=>by kernel_rfl) (by kernel_rfl)
noncomputable def iA(c:CF):FS :=
 (b7 (ak (rd 1) (aK (aW 1 (c "_law_leaves")) (ae (rd 2) ao)) ck) (aD 1))
noncomputable def FN(c:CF):FS :=
 (bx (ni (toB (ak (ak (rd 0) (kI 0) bC) (kS "rec") CZ))
  (cP (cq (dG (ae (rd 0) ao))))
  (λρ=>some (.nx ρ)))
  (bx (b7 (cq (dG ao)) (aD 1))
  (bx (gV (dH (ak (rd 0) (kI 1) bC)) (aD 2) (iA c))
  (cP (rd 1)))))
def oM:=rq (x:="_law_leaves") (st:=tj) (f:=FN) (n:=3) (by kernel_rfl) (λc=>by kernel_rfl) (by kernel_rfl)
noncomputable def jC(c:CF):FS :=
 (b7 (ak (rd 1) (cq (cW [none,none,none,some 2] (dH (aK (aW 1 (c "_law_parts")) (ae (rd 3) ao))) (gE 2 (b0 (aD 1) (b0 (aD 2) fP))) (bM (ae (ak (bM (ae (rd 3) ao)) (rd 1) ck) (ae (rd 2) ao))))) ck) (aD 1))
noncomputable def Kb(c:CF):FS :=
 (bx (b7 (cq (dG (ae (bM (ae (bM ao) (ae (rd 0) ao))) ao))) (aD 1))
  (bx (ni (toB (ak (ak (rd 0) (kI 0) bC) (kS "rec") nk))
  (gV (qH (ak (rd 0) (kI 1) bC)) (gE 2 (b0 (aD 2) (b0 (aD 3) fP))) (jC c))
  (λρ=>some (.nx ρ)))
  (cP (rd 1))))
def rl:=rq (x:="_law_parts") (st:=xy) (f:=Kb) (n:=4) (by kernel_rfl) (λc=>by kernel_rfl) (by kernel_rfl)
noncomputable def oo(c:CF):FS :=
 (bx (b7 (aK (aW 1 (c "_law_parts")) (ae (ak (rd 4) (ak (kI 1) (ak (ak (rd 3) (ak (kI 3) (rd 2) ck) bC) (kI 3) fq) ck) bC) ao)) (aD 6))
  (bx (b7 (ak (cq (dG (ae (kS "lent") (ae (kS "sole") (ae (kS "sole") ao))))) (ak (ak (ak (rd 3) (ak (kI 3) (rd 2) ck) bC) (kI 3) iq) (kI 3) fq) bC) (aD 7))
  (iL 5 (ae (bM (ae (ak (rd 1) (ak (kI 4) (rd 2) ck) bC) (ae (bM (ae (rd 7) (ae (ak (ak (rd 6) (ak (ak (ak (rd 3) (ak (kI 3) (rd 2) ck) bC) (kI 9) iq) (lH (dh dZ (ae (rd 6) ao))) fq) bC) (kI 1) bC) ao))) ao))) ao) r9)))
noncomputable def Nx(c:CF):FS :=
 (bx (b7 (cq (cW [none,none,some 0] (fQ (ae (kI 7) ao)) (aD 1) (aK (aW 2 (c "_law_mixed")) (ae (aK (aW 2 (c "_law_cell_at")) (ae (rd 2) (ae (ak (kI 1) (rd 1) ck) ao))) (ae (ak (rd 1) (kI 4) fq) ao))))) (aD 3))
  (bx (b7 (ak (cq (dG (ae (bM (ae (kS "num") ao)) ao))) (cq (cW [none,none,some 3] (fQ (ae (kI 3) ao)) (aD 1) (aK (aW 1 (c "_law_shape")) (ae (ak (rd 2) (rd 1) bC) ao)))) ck) (aD 4))
  (bx (mq 5 (cW [none,none,some 1,some 4] (fQ (ae (kI 4) ao)) (aD 1) (bM (ae (ak (rd 2) (rd 1) bC) (ae (ak (rd 3) (rd 1) bC) ao)))))
  (bx (gV (fQ (ae (kI 4) ao)) (aD 2) (oo c))
  (oU 5)))))
def FP:=rq (x:="_law_lets") (st:=Cq) (f:=Nx) (n:=8) (by kernel_rfl) (λc=>by kernel_rfl) (by kernel_rfl)
noncomputable def Kc(c:CF):FS :=
 (cP (qw (C6 .int (rd 0)) (AW (C6 .bool (rd 0)))))
def BS:=rq (x:="_law_whole") (st:=xA) (f:=Kc) (n:=1) (by kernel_rfl) (λc=>by kernel_rfl) (by kernel_rfl)
noncomputable def Ny(c:CF):FS :=
 (bx (b7 (cq (cW [none,none] (dH (cutE (rd 0) (ee (kI 8)) (ee (kI 39)))) (aD 1) (bM (ae (kS "say") (ae (ak (ak (aK (aW 2 (c "_law_mixed")) (ae (rd 1) (ae (kI 0) ao))) (ak (rd 1) (ak (kI 10) (kI 22) oV) fq) gJ) (ak (kI 10) (kI 30) oV) fq) ao))))) (aD 1))
  (cP (dh qG (ae (ak (rd 1) (cq (dG (ae (bM (ae (kS "give") (ae (kS "") ao))) ao))) ck) ao))))
def FQ:=rq (x:="_law_rows") (st:=Cr) (f:=Ny) (n:=2) (by kernel_rfl) (λc=>by kernel_rfl) (by kernel_rfl)
noncomputable def zd(c:CF):FS :=
 (Bo 1 (bM (ae (rd 2) (ae (rd 4) ao))) (cK (.bl true)))
noncomputable def kn(c:CF):FS :=
 (ni (qD (toB (ak (ak (rd 3) (kI 0) bC) (bM (ae (kS "lent") (ae (kS "sole") ao))) (HZ false))))
  (Bo 1 (bM (ae (rd 2) (ae (kI 0) ao))) (cK (.bl true)))
  (gV (fQ (ae (lH (dh dZ (ae (aK (aW 1 (c "_law_leaves")) (ae (rd 3) ao)) ao))) ao)) (aD 4) (zd c)))
noncomputable def SH(c:CF):FS :=
 (bx (E5 1)
  (bx (gV (dH (rd 0)) (gE 2 (b0 (aD 2) (b0 (aD 3) fP))) (kn c))
  (Fg 1)))
def Ke:=rq (x:="_law_due") (st:=G4) (f:=SH) (n:=5) (by kernel_rfl) (λc=>by kernel_rfl) (by kernel_rfl)
noncomputable def Nz(c:CF):FS :=
 (bx (b7 (ak (rd 0) (rd 1) bC) (gE 4 (b0 (aD 2) (b0 (aD 3) (b0 (aD 4) (b0 (aD 5) fP))))))
  (bx (ni (Gi (kW (toB (aK (aW 1 (c "_law_whole")) (ae (rd 2) ao)))) (Gi (kW (toB (aK (aW 1 (c "_law_whole")) (ae (rd 4) ao)))) (Gi (kW (toB (aK (aW 1 (c "_law_whole")) (ae (rd 5) ao)))) (kW (toB (C6 .str (rd 3)))))))
  (cP (cK (.bl false)))
  (λρ=>some (.nx ρ)))
  (bx (ni (toB (ak (rd 2) (kI 0) nk))
  (cP (ak (rd 5) (Q6 (kI 1)) nk))
  (λρ=>some (.nx ρ)))
  (cP (qw (chain (kI 0) (rd 5) (rd 1) HX C0) (ak (cutE (ak (rd 0) (rd 5) bC) C3 (ee (kI 3))) (bM (ae (ak (rd 2) (kI 1) HS) (ae (rd 3) (ae (rd 4) ao)))) nk))))))
def FU:=rq (x:="_law_came") (st:=Cs) (f:=Nz) (n:=6) (by kernel_rfl) (λc=>by kernel_rfl) (by kernel_rfl)
noncomputable def pG(c:CF):FS :=
 (bx (ni (Gi (kW (toB (C6 .tuple (ak (rd 7) (rd 9) bC)))) (Gi (toB (ak (dh dZ (ae (ak (rd 7) (rd 9) bC) ao)) (kI 4) CZ)) (kW (toB (aK (aW 2 (c "_law_came")) (ae (rd 7) (ae (rd 9) ao)))))))
  (cP (cK (.bl false)))
  (λρ=>some (.nx ρ)))
  (ni (Gi (inB true 8 (cutE (ak (rd 7) (rd 9) bC) (ee (kI 1)) (ee (kI 3)))) (kW (toB (chain (kI 0) (ak (ak (rd 7) (rd 9) bC) (kI 0) bC) (dh dZ (ae (rd 5) ao)) HX C0))))
  (cP (cK (.bl false)))
  (λρ=>some (.nx ρ))))
noncomputable def Kf(c:CF):FS :=
 (bx (b7 (aK (aW 2 (c "_law_names")) (ae (ak (aK (aW 2 (c "_law_cell_at")) (ae (rd 0) (ae (kI 0) ao))) (ak (kI 10) (kI 12) oV) fq) (ae (kI 12) ao))) (aD 1))
  (bx (b7 (aK (aW 2 (c "_law_lets")) (ae (rd 0) (ae (rd 1) ao))) (aD 2))
  (bx (b7 (ak (aK (aW 2 (c "_law_mixed")) (ae (aK (aW 2 (c "_law_cell_at")) (ae (rd 0) (ae (kI 7) ao))) (ae (kI 3) ao))) (kI 8) fq) (aD 3))
  (bx (b7 (ak (cutE (rd 2) (ee (rd 3)) C3) (cutE (rd 2) C3 (ee (rd 3))) ck) (aD 2))
  (bx (b7 (bM (ae (bM (ae (ak (rd 1) (kI 8) bC) (ae (ak (ak (rd 2) (kI 0) bC) (kI 1) bC) ao))) (ae (bM (ae (ak (rd 1) (kI 9) bC) (ae (ak (ak (rd 2) (kI 1) bC) (kI 1) bC) ao))) (ae (bM (ae (ak (rd 1) (kI 10) bC) (ae (bM (ae (kS "sole") (ae (bM (ae (kS "own") ao)) ao))) ao))) ao)))) (aD 4))
  (bx (b7 (aK (aW 1 (c "_law_rows")) (ae (rd 0) ao)) (aD 5))
  (bx (b7 (bM (ae (ak (rd 1) (kI 11) bC) (ae (bM ao) (ae (cK .cM) (ae (bM ao) (ae (bM (ae (bM (ae (kS "give") (ae (kS "") ao))) ao)) ao)))))) (aD 6))
  (bx (b7 (aK (aW 2 (c "empties")) (ae (bM (ae (rd 6) (ae (bM (ae (ak (rd 1) (kI 10) bC) (ae (rd 4) (ae (cK .cM) (ae (dh qG (ae (rd 2) ao)) (ae (rd 5) ao)))))) ao))) (ae (kI 1) ao))) (aD 7))
  (bx (ni (kW (toB (C6 .list (rd 7))))
  (cP (cK (.bl false)))
  (λρ=>some (.nx ρ)))
  (bx (Fh 8 (aW 1 (c "_law_due")) (ae (rd 2) ao))
  (bx (gV (fQ (ae (dh dZ (ae (rd 7) ao)) ao)) (aD 9) (pG c))
  (cP (qw (ak (MV (cq (cW [none,none] (dH (rd 7)) (aD 1) (cutE (rd 1) C3 (ee (kI 3)))))) (dh dZ (ae (rd 7) ao)) nk) (ak (dh dZ (ae (rd 7) ao)) (ak (MR 8) (dh dZ (ae (rd 5) ao)) gJ) nk))))))))))))))
def NA:=rq (x:="law") (st:=G5) (f:=Kf) (n:=10) (by kernel_rfl) (λc=>by kernel_rfl) (by kernel_rfl)
theorem de{α:Type}{F:PV->bP}{e:α->PV}{G:α->PV}:∀{l:List α},(∀x∈l,F (e x)=some (G x))->j4 F (l.map e)=some (l.map G)
 | [],_=>rfl
 | x::r,h=>by
  rw[bJ,j4,h x bz,de λy hy=>h y (bE _ hy)]
  rfl
theorem FV(ns:List Int):A5 [.ay (ns.map .int)]=some (.int ns.sum):=by
 show(gF _).map _=_;rw[n6];rfl
@[simp] theorem Kg{x y:Str}:ck (.str x) (.str y)=sizeOk (x.length+y.length) (.str (x++y)):=rfl
def Pe:Sh->Str
 | .num=>"num"
 | .own=>"own"
 | .dI _=>"strip"
 | .bI _=>"rec"
@[simp] theorem Pf(s:Sh):bC (enc s) (.int 0)=some (.str (Pe s)):=by cases s<;>simp[enc,Pe]
inductive Kd where
 | ow (s:Sh) | ho (aeL:Bool) (s:Sh)
def hw(b:Bool):Str:=if b then "sole" else "lent"
def gM:Kd->PV
 | .ow s=>enc s
 | .ho b s=>.aJ [.str (hw b),enc s]
def cX:Kd->Sh
 | .ow s=>s
 | .ho _ s=>s
def pH:Kd->Bool
 | .ow _=>false
 | .ho _ _=>true
def kw:Kd->Str
 | .ow s=>Pe s
 | .ho b _=>hw b
@[simp] theorem wx(k:Kd):bC (gM k) (.int 0)=some (.str (kw k)):=by cases k<;>simp[gM,kw]
theorem in2(x a b:Str):HZ false (.str x) (.aJ [.str a,.str b])=some (.bl (a==x || b==x)):=by
 show(if kX [PV.str a,.str b]<=i0 then some (PV.bl (Q4 (.str x) [.str a,.str b]))else none)=_
 rw[if_pos (by simp[kX,nj])]
 simp[Q4,eqT]
theorem abg:((Str.ofString "lent")==(Str.ofString "num") || (Str.ofString "sole")==(Str.ofString "num"))=false:=by decide +kernel
theorem abh:((Str.ofString "lent")==(Str.ofString "own") || (Str.ofString "sole")==(Str.ofString "own"))=false:=by decide +kernel
theorem abi:((Str.ofString "lent")==(Str.ofString "strip") || (Str.ofString "sole")==(Str.ofString "strip"))=false:=by decide +kernel
theorem abj:((Str.ofString "lent")==(Str.ofString "rec") || (Str.ofString "sole")==(Str.ofString "rec"))=false:=by decide +kernel
theorem abk:((Str.ofString "lent")==(Str.ofString "lent") || (Str.ofString "sole")==(Str.ofString "lent"))=true:=by decide +kernel
theorem abl:((Str.ofString "lent")==(Str.ofString "sole") || (Str.ofString "sole")==(Str.ofString "sole"))=true:=by decide +kernel
theorem Kh(k:Kd):((Str.ofString "lent")==kw k || (Str.ofString "sole")==kw k)=pH k:=by
 cases k with
 | ow s =>
  cases s with
  | num=>exact abg
  | own=>exact abh
  | dI n=>exact abi
  | bI ps=>exact abj
 | ho b s =>
  cases b with
  | false=>exact abk
  | true=>exact abl
theorem DT(k:Kd):HZ false (.str (kw k)) (.aJ [.str "lent",.str "sole"])=some (.bl (pH k)):=by rw[in2,Kh]
abbrev Rk:=Str×Kd
def d0(r:Rk):PV:=.aJ [.str r.1,gM r.2]
def Ki(nm res body:PV)(R1 R2:List Rk):PV:=.aJ [nm,.aJ (R1.map d0),res,.aJ (R2.map d0),body]
theorem ko(k:Nat)(d:Kd):run bK (k+1) "is_holder" [gM d]=some (.val (.bl (pH d))):=by
 rw[sE];have h:=DT d;rw[bH];show gx (cP _ [.val (gM d)])=_;rw[rS (b2 (b2 rfl rfl (wx d)) rfl h)];rfl
theorem BU(k:Nat)(d:Kd):run bK (k+2) "shape_of" [gM d]=some (.val (enc (cX d))):=by
 rw[wo];have h:=ko k d;have t:xX (toB (aK (aW 1 (run bK (k+1) "is_holder")) (ae (rd 0) ao))) (ak (rd 0) (kI 1) bC) (rd 0) [.val (gM d)]=some (enc (cX d)):=by
  have q:toB (aK (aW 1 (run bK (k+1) "is_holder")) (ae (rd 0) ao)) [.val (gM d)]=some (pH d):=bT (g9 (cA rfl rfl) rfl h rfl);rw[DG,q];cases d with
  | ow s=>rfl
  | ho b s=>rfl
 rw[bH];show gx (cP _ [.val (gM d)])=_;rw[rS t];rfl
theorem LA:eU (run bK):=⟨λk ps=>BK k ps⟩
theorem DU{ps:List Sh}{i:Int}{y:Sh}(h0:0<=i)(hg:ps[i.toNat]?=some y):atI (da ps) i=some (enc y):=by
 have:=cJ (xs:=da ps) (j:=i.toNat) (v:=enc y) (by rw[hG,bU,hg];rfl)
 rw[uJ h0]at this;exact this
def wz{α:Type}:Option α->cz
 | some _=>some (.val .cM)
 | none=>none
theorem DV(k:Nat)(s:Sh)(i:Int):run bK (k+1) "check_part" [enc s,.int i]=wz (zE s i):=by
 rw[rj];cases s with
 | num=>simp[fL,enc,zE,wz,gx]
 | own=>simp[fL,enc,zE,wz,gx]
 | dI n=>simp[fL,enc,zE,wz,gx]
 | bI ps =>
  simp[fL,enc,gy];by_cases h0:0<=i
  ·by_cases h1:i<(ps.length:Int)
   ·have:i.toNat<ps.length:=by lia
    simp[h0,h1,zE,cx this,wz,gx]
   ·have:ps.length<=i.toNat:=by lia
    simp[h0,h1,zE,jf this,wz,gx]
  ·simp[h0,zE,wz,gx]
theorem zf{s:Sh}{i:Int}{x:Sh×Int}(h:zE s i=some x):∃ps,s=.bI ps/\0<=i/\ps[i.toNat]?=some x.1/\x.2=((iO (ps.take i.toNat)).length:Int):=by
 cases s with
 | bI ps =>
  simp only[zE]at h;by_cases h0:0<=i
  ·rw[if_pos h0]at h;cases hg:ps[i.toNat]? with
   | none=>rw[hg]at h;simp at h
   | some y=>rw[hg]at h;simp at h;subst h;exact⟨ps,rfl,h0,hg,rfl⟩
  ·rw[if_neg h0]at h;cases h
 | num=>simp[zE]at h
 | own=>simp[zE]at h
 | dI n=>simp[zE]at h
theorem uv(k:Nat)(S P:Ent):∀(p:List Int) (s:Sh) (a:Int) (o:Ent) (s':Sh) (a':Int),walk s a p=some (s',a')->∃o',fG (aD 3) (mV (run bK (k+1))) (p.map .int) [S,P,.val (enc s),o]=some (.nx [S,P,.val (enc s'),o'])
 | [],s,a,o,s',a',h=>by
  simp[walk]at h;obtain⟨rfl,rfl⟩:=h;exact⟨o,by simp⟩
 | i::p,s,a,o,s',a',h=>by
  obtain⟨x,hx,hw⟩:=uH.mp (show(zE s i).bind (λx=>walk x.1 (a+x.2) p)=some (s',a')from h)
  have hc:=DV k s i;rw[hx]at hc;obtain⟨ps,rfl,h0,hg,_⟩:=zf hx;obtain⟨o',q⟩:=uv k S P p x.1 (a+x.2) (.val (.int i)) s' a' hw;refine⟨o',?_⟩;have qM:=DU h0 hg;have body:mV (run bK (k+1)) [S,P,.val (enc (.bI ps)),.val (.int i)]=some (.nx [S,P,.val (enc x.1),.val (.int i)]):=by
   unfold mV;have a0:oB (aK (aW 2 (run bK (k+1) "check_part")) (ae (rd 2) (ae (rd 3) ao))) [S,P,.val (enc (.bI ps)),.val (.int i)]=some (.nx [S,P,.val (enc (.bI ps)),.val (.int i)]):=by
    simp[hc,wz,gx]
   rw[fJ a0];simp[enc,qM]
  simp only[bJ,kJ];have:aD 3 (.int i) [S,P,.val (enc (.bI ps)),o]=some [S,P,.val (enc (.bI ps)),.val (.int i)]:=by simp
  rw[this,bo,body,bo,pE];exact q
theorem SJ(k:Nat)(s:Sh)(p:List Int)(x:Sh×Int)(h:walk s 0 p=some x):run bK (k+2) "part" [enc s,.aJ (p.map .int)]=some (.val (enc x.1)):=by
 rw[J6];obtain⟨o',q⟩:=uv k (.val (enc s)) (.val (.aJ (p.map .int))) p s 0 .un x.1 x.2 h;rw[bH];show gx (BL (run bK (k+1)) [.val (enc s),.val (.aJ (p.map .int)),.un,.un])=_;unfold BL;have a0:b7 (rd 0) (aD 2) [.val (enc s),.val (.aJ (p.map .int)),.un,.un]=some (.nx [.val (enc s),.val (.aJ (p.map .int)),.val (enc s),.un]):=aS rfl rfl;rw[fJ a0,fJ (fS rfl q),rS (p:=enc x.1) rfl];rfl
theorem NB(k:Nat)(ps:List Sh)(q:Nat)(hd:sy ps<=k)(hl:(iO ps).length<=1000)(hn:ps.length<=1000)(a b d:Ent) :
  dh A5 (ae (cq (cW [none,none] (dH (cutE (ak (rd 2) (kI 1) bC) C3 (ee (rd 4)))) (aD 1) (dh dZ (ae (aK (aW 1 (run bK (k+1) "leaves")) (ae (rd 1) ao)) ao)))) ao) [a,b,.val (enc (.bI ps)),d,.val (.int (q:Int))]=some (.int ((iO (ps.take q)).length:Int)):=by
 have hm:∀s∈ps.take q,run bK (k+1) "leaves" [enc s]=some (.val (.aJ (da (lv s)))):=λs hs=>eU.each (LA) ps k hd (by lia) s (zU hs)
 have abm:∀l:List Sh,(l.map λs=>((lv s).length:Int)).sum=((iO l).length:Int):=by
  intro l;induction l with
  | nil=>simp[iO]
  | cons s l ih=>simp[iO,ih]
 have sd:dH (cutE (ak (rd 2) (kI 1) bC) C3 (ee (rd 4))) [a,b,.val (enc (.bI ps)),d,.val (.int (q:Int))]=some ((ps.take q).map enc):=by
  have NC:=J1 (da ps) q;rw[hG,<-List.map_take]at NC;simp[enc,hG,NC]
 have e1:j4 (λp=>(aD 1 p (bB [none,none] [a,b,.val (enc (.bI ps)),d,.val (.int (q:Int))])).bind (dh dZ (ae (aK (aW 1 (run bK (k+1) "leaves")) (ae (rd 1) ao)) ao))) ((ps.take q).map enc)=some (((ps.take q).map λs=>((lv s).length:Int)).map .int):=by
  rw[dX];refine de λs hs=>?_
  simp[hm s hs,gy]
 have e2:=FV ((ps.take q).map λs=>((lv s).length:Int))
 rw[abm]at e2;refine bV (cA (fF ?_) rfl) e2;rw[yN,sd,bo,if_pos (mQ (by simp;lia))]
 exact e1
theorem SK{ps:List Sh}{y:Sh}(h:y∈ps):dp y<=sy ps:=by
 induction ps with
 | nil=>cases h
 | cons z zs ih =>
  simp only[sy];rcases aX.mp h with rfl | hm
  ·lia
  ·have:=ih hm
   lia
theorem rm(k:Nat)(S P:Ent):∀(p:List Int) (s:Sh) (a:Int) (o:Ent) (s':Sh) (a':Int),(tab s).length<=500->dp s<=k->walk s a p=some (s',a')->∃o',fG (aD 4) (kM (run bK (k+1))) (p.map .int) [S,P,.val (enc s),.val (.int a),o]=some (.nx [S,P,.val (enc s'),.val (.int a'),o'])
 | [],s,a,o,s',a',_,_,h=>by
  simp[walk]at h;obtain⟨rfl,rfl⟩:=h;exact⟨o,by simp⟩
 | i::p,s,a,o,s',a',ht,hd,h=>by
  obtain⟨x,hx,hw⟩:=uH.mp (show(zE s i).bind (λx=>walk x.1 (a+x.2) p)=some (s',a')from h)
  have hc:=DV k s i;rw[hx]at hc;obtain⟨ps,rfl,h0,hg,hx2⟩:=zf hx;have oY:x.1∈ps:=b9 hg;have Iz:=Fx oY;have htl:(tab (.bI ps)).length=iP ps+1:=by simp only[tab,aZ,hJ]
  have hll:=BG ps;have hnl:=yR ps;have hdm:=SK oY;have hdd:sy ps+1<=k:=by simpa only[dp]using hd
  obtain⟨o',q⟩:=rm k S P p x.1 (a+x.2) (.val (.int i)) s' a' (by lia) (by lia) hw
  refine⟨o',?_⟩;have Kj:=NB k ps i.toNat (by lia) (by lia) (by lia) S P (.val (.int a))
  rw[uJ h0,<-hx2]at Kj;have qM:=DU h0 hg;have body:kM (run bK (k+1)) [S,P,.val (enc (.bI ps)),.val (.int a),.val (.int i)]=some (.nx [S,P,.val (enc x.1),.val (.int (a+x.2)),.val (.int i)]):=by
   unfold kM;have a0:oB (aK (aW 2 (run bK (k+1) "check_part")) (ae (rd 2) (ae (rd 4) ao))) [S,P,.val (enc (.bI ps)),.val (.int a),.val (.int i)]=some (.nx [S,P,.val (enc (.bI ps)),.val (.int a),.val (.int i)]):=by
    simp[hc,wz,gx]
   rw[fJ a0];have a1:b7 (ak (rd 3) (dh A5 (ae (cq (cW [none,none] (dH (cutE (ak (rd 2) (kI 1) bC) C3 (ee (rd 4)))) (aD 1) (dh dZ (ae (aK (aW 1 (run bK (k+1) "leaves")) (ae (rd 1) ao)) ao)))) ao)) MZ) (aD 3) [S,P,.val (enc (.bI ps)),.val (.int a),.val (.int i)]=some (.nx [S,P,.val (enc (.bI ps)),.val (.int (a+x.2)),.val (.int i)]):=aS (b2 rfl Kj rfl) rfl;rw[fJ a1];exact aS (b2 (y:=.int i) (b2 (z:=some (.aJ (da ps))) rfl rfl (by simp[enc])) rfl qM) rfl
  simp only[bJ,kJ];have:aD 4 (.int i) [S,P,.val (enc (.bI ps)),.val (.int a),o]=some [S,P,.val (enc (.bI ps)),.val (.int a),.val (.int i)]:=by simp
  rw[this,bo,body,bo,pE];exact q
theorem ND(k:Nat)(s:Sh)(p:List Int)(x:Sh×Int)(ht:(tab s).length<=500)(hd:dp s<=k)(h:walk s 0 p=some x):run bK (k+2) "first" [enc s,.aJ (p.map .int)]=some (.val (.int x.2)):=by
 rw[FC];obtain⟨o',q⟩:=rm k (.val (enc s)) (.val (.aJ (p.map .int))) p s 0 .un x.1 x.2 ht hd h;rw[bH];show gx (wm (run bK (k+1)) [.val (enc s),.val (.aJ (p.map .int)),.un,.un,.un])=_;unfold wm;have a0:b7 (rd 0) (aD 2) [.val (enc s),.val (.aJ (p.map .int)),.un,.un,.un]=some (.nx [.val (enc s),.val (.aJ (p.map .int)),.val (enc s),.un,.un]):=aS rfl rfl;have a1:b7 (kI 0) (aD 3) [.val (enc s),.val (.aJ (p.map .int)),.val (enc s),.un,.un]=some (.nx [.val (enc s),.val (.aJ (p.map .int)),.val (enc s),.val (.int 0),.un]):=aS rfl rfl;rw[fJ a0,fJ a1,fJ (fS rfl q),rS (p:=.int x.2) rfl];rfl
mutual
theorem Kk:∀(s:Sh),∀r∈tab s,r.2.2.1=sz r.2.2.2
 | .num,r,h=>by simp[tab]at h;subst h;simp[sz,lv]
 | .own,r,h=>by simp[tab]at h;subst h;simp[sz,lv]
 | .dI n,r,h=>by simp[tab]at h;subst h;simp[sz,lv]
 | .bI ps,r,h=>by
  simp only[tab,aX]at h;rcases h with rfl | h
  ·simp[sz,lv]
  ·exact DW ps 0 0 r h
theorem DW:∀(l:List Sh) (k:Nat) (a:Int),∀r∈tabs k a l,r.2.2.1=sz r.2.2.2
 | [],_,_,r,h=>by simp[tabs]at h
 | s::l,k,a,r,h=>by
  simp only[tabs,dM,aY]at h;rcases h with⟨r0,h0,rfl⟩ | h
  ·exact Kk s r0 h0
  ·exact DW l _ _ r h
end
mutual
theorem wA:∀(s:Sh),∀r∈tab s,dp r.2.2.2<=dp s/\(lv r.2.2.2).length<=(lv s).length
 | .num,r,h=>by simp[tab]at h;subst h;simp
 | .own,r,h=>by simp[tab]at h;subst h;simp
 | .dI n,r,h=>by simp[tab]at h;subst h;simp
 | .bI ps,r,h=>by
  simp only[tab,aX]at h;rcases h with rfl | h
  ·simp
  ·have:=DX ps 0 0 r h;simp only[dp,lv]
   lia
theorem DX:∀(l:List Sh) (k:Nat) (a:Int),∀r∈tabs k a l,dp r.2.2.2<=sy l/\(lv r.2.2.2).length<=(iO l).length
 | [],_,_,r,h=>by simp[tabs]at h
 | s::l,k,a,r,h=>by
  simp only[tabs,dM,aY]at h;simp only[sy,iO,bX];rcases h with⟨r0,h0,rfl⟩ | h
  ·have:=wA s r0 h0;simp only[mU]
   lia
  ·have:=DX l _ _ r h
   lia
end
structure fW where
 w:Str
 n:Str
 t:Bool
 f:Int
 m:Int
 k:Str
def wB(a:fW):PV:=.aJ [.str a.w,.str a.n,.bl a.t,.int a.f,.int a.m,.str a.k]
def rn:fW:=⟨"rest","",false,0,0,""⟩
def E2(x:Str)(th:Bool)(p:List Int)(at_:PV):PV:=.aJ [.str x,.bl th,.aJ (p.map .int),at_]
def wC(s:Sh):Prop:=(tab s).length<=100/\dp s<=3
def Kl(R:Nat->f9)(F:PV)(ks:List Rk):Prop:=∀k,∀r∈ks,run bK (k+1) "kind_of" [F,.str r.1]=some (.val (gM r.2))
def tA(w x:Str)(d:Kd)(r:Rw)(t:Str):fW:=⟨w,x,pH d,r.2.1,r.2.2.1,t⟩
theorem DY{F:PV}{ks:List Rk}(hF:Kl (run bK) F ks)(k:Nat)(hk:3<=k)(w t:Str){x:Str}{d:Kd}(hx:(x,d)∈ks)(hs:wC (cX d)){r:Rw}(hr:r∈tab (cX d))(a:PV):run bK (k+3) "touch" [F,.str w,E2 x (pH d) r.1 a,.str t]=some (.val (wB (tA w x d r t))):=by
 rw[FI];have hw:=yU (cX d) r hr 0;have hd:=wA (cX d) r hr;have hl:=DM (cX d);have h1:=hF (k+1) (x,d) hx;have h2:=BU k d;have h3:=SJ k (cX d) r.1 _ hw;have h4:=eU.all (LA) r.2.2.2 (k+1) (by have:=hs.2;lia) (by have:=hs.1;lia)
 have h5:=ND k (cX d) r.1 _ (by have:=hs.1;lia) (by have:=hs.2;lia) hw
 have h6:=Kk (cX d) r hr;have e4:r.2.1=0+r.2.1:=by lia
 rw[bH];show gx (wq (run bK (k+2)) [.val F,.val (.str w),.val (E2 x (pH d) r.1 a),.val (.str t),.un,.un])=_;unfold wq;have a0:b7 (aK (aW 1 (run bK (k+2) "shape_of")) (ae (aK (aW 2 (run bK (k+2) "kind_of")) (ae (rd 0) (ae (ak (rd 2) (kI 0) bC) ao))) ao)) (aD 4) [.val F,.val (.str w),.val (E2 x (pH d) r.1 a),.val (.str t),.un,.un]=some (.nx [.val F,.val (.str w),.val (E2 x (pH d) r.1 a),.val (.str t),.val (enc (cX d)),.un]) :=
  aS (g9 (cA (g9 (cA rfl (cA (b2 rfl rfl rfl) rfl)) rfl h1 rfl) rfl) rfl h2 rfl) rfl
 have a1:b7 (dh dZ (ae (aK (aW 1 (run bK (k+2) "leaves")) (ae (aK (aW 2 (run bK (k+2) "part")) (ae (rd 4) (ae (ak (rd 2) (kI 2) bC) ao))) ao)) ao)) (aD 5) [.val F,.val (.str w),.val (E2 x (pH d) r.1 a),.val (.str t),.val (enc (cX d)),.un]=some (.nx [.val F,.val (.str w),.val (E2 x (pH d) r.1 a),.val (.str t),.val (enc (cX d)),.val (.int r.2.2.1)]):=by
  refine aS (bV (cA (g9 (cA (g9 (cA rfl (cA (b2 rfl rfl rfl) rfl)) rfl h3 rfl) rfl) rfl h4 rfl) rfl) ?_) rfl;rw[h6];simp[sz,gy]
 rw[fJ a0,fJ a1];have a2:bM (ae (rd 1) (ae (ak (rd 2) (kI 0) bC) (ae (ak (rd 2) (kI 1) bC) (ae (aK (aW 2 (run bK (k+2) "first")) (ae (rd 4) (ae (ak (rd 2) (kI 2) bC) ao))) (ae (rd 5) (ae (rd 3) ao)))))) [.val F,.val (.str w),.val (E2 x (pH d) r.1 a),.val (.str t),.val (enc (cX d)),.val (.int r.2.2.1)]=some (wB (tA w x d r t)):=by
  refine tU (cA rfl (cA (b2 rfl rfl rfl) (cA (b2 rfl rfl rfl) (cA (g9 (cA rfl (cA (b2 rfl rfl rfl) rfl)) rfl h5 rfl) (cA rfl (cA rfl rfl)))))) ?_ |>.trans ?_
  ·simp
  ·show some (PV.aJ [.str w,.str x,.bl (pH d),.int (0+r.2.1),.int r.2.2.1,.str t])=_;rw[<-e4];rfl
 rw[rS a2];rfl
theorem Km(s:Sh):(([],0,sz s,s):Rw)∈tab s:=by
 obtain⟨L,e⟩:=yQ s;rw[e];exact bz
theorem sL{F:PV}{ks:List Rk}(hF:Kl (run bK) F ks)(k:Nat)(hk:3<=k)(w t:Str){x:Str}{d:Kd}(hx:(x,d)∈ks)(hs:wC (cX d)):run bK (k+4) "touch_whole" [F,.str w,.str x,.str t]=some (.val (wB (tA w x d ([],0,sz (cX d),cX d) t))):=by
 rw[o4];have h1:=hF (k+2) (x,d) hx;have h2:=ko (k+2) d;have h3:=DY hF k hk w t hx hs (Km (cX d)) .cM;rw[bH];show gx (iQ (run bK (k+3)) [.val F,.val (.str w),.val (.str x),.val (.str t)])=_;unfold iQ;exact eS (rS (g9 (cA rfl (cA rfl (cA (tU (cA rfl (cA (g9 (cA (g9 (cA rfl (cA rfl rfl)) rfl h1 rfl) rfl) rfl h2 rfl) (cA rfl (cA rfl rfl)))) (by simp)) (cA rfl rfl)))) rfl h3 rfl))
inductive Kn (ks:List Rk):PV->Prop
 | cM:Kn ks .cM
 | int (i:Int):Kn ks (.int i)
 | str (y:Str) (h:(y,Kd.ow .num)∈ks):Kn ks (.str y)
def YN:PV->List fW
 | .str y=>[⟨"read",y,false,0,1,""⟩]
 | _=>[]
theorem FW{F:PV}{ks:List Rk}(hF:Kl (run bK) F ks)(k:Nat)(hk:3<=k)(x:Str)(th:Bool)(p:List Int){a:PV}(ha:Kn ks a):run bK (k+5) "at_acts" [F,E2 x th p a]=some (.val (.ay ((YN a).map wB))):=by
 rw[y9,bH];show gx (oi (run bK (k+4)) [.val F,.val (E2 x th p a)])=_;unfold oi;cases ha with
 | cM=>exact eS (wd (iT rfl (rS rfl)))
 | int i=>exact eS (wd (iT rfl (rS rfl)))
 | str y h =>
  have h1:=sL hF k hk "read" "" h ⟨by simp[cX,tab],by simp[cX,dp]⟩
  have e:tA "read" y (.ow .num) ([],0,sz (cX (.ow .num)),cX (.ow .num)) ""=⟨"read",y,false,0,1,""⟩:=by
   simp[tA,pH,cX,sz,lv]
  rw[e]at h1;exact eS (sq (iF rfl rfl) (rS (fF (lS (cA (g9 (cA rfl (cA rfl (cA (b2 rfl rfl rfl) (cA rfl rfl)))) rfl h1 rfl) rfl) (by show 1<=100000;decide)))))
structure Sp where
 x:Str
 d:Kd
 r:Rw
 a:PV
def abo(s:Sp):PV:=E2 s.x (pH s.d) s.r.1 s.a
structure abp (ks:List Rk) (s:Sp):Prop where
 mem:(s.x,s.d)∈ks
 ok:wC (cX s.d)
 row:s.r∈tab (cX s.d)
 at_:Kn ks s.a
def spA(w:Str)(s:Sp)(t:Str):fW:=tA w s.x s.d s.r t
inductive Op where
 | n (i:Int) | s (s:Sp)
def SM:Op->PV
 | .n i=>.int i
 | .s s=>abo s
def W0(ks:List Rk):Op->Prop
 | .n _=>True
 | .s s=>abp ks s
def opA:Op->List fW
 | .n _=>[]
 | .s s=>YN s.a++[spA "read" s ""]
theorem SN(a:PV):(YN a).length<=1:=by
 unfold YN;split<;>simp
theorem ro{F:PV}{ks:List Rk}(hF:Kl (run bK) F ks)(k:Nat)(hk:3<=k){o:Op}(ho:W0 ks o):run bK (k+6) "operand_acts" [F,SM o]=some (.val (.ay ((opA o).map wB))):=by
 rw[oj,bH];show gx (hV (run bK (k+5)) [.val F,.val (SM o)])=_;unfold hV;cases o with
 | n i=>exact eS (wd (iT rfl (rS rfl)))
 | s s =>
  obtain⟨h1,h2,h3,h4⟩:=ho;have e1:=FW hF k hk s.x (pH s.d) s.r.1 h4;have e2:=DY hF (k+2) (by lia) "read" "" h1 h2 h3 s.a
  have hl:=SN s.a;refine eS (sq (iF rfl rfl) (rS ?_));refine(b2 (g9 (cA rfl (cA rfl rfl)) rfl e1 rfl) (fF (lS (cA (g9 (cA rfl (cA rfl (cA rfl (cA rfl rfl)))) rfl e2 rfl) rfl) (by simp))) (aL (by simp;lia))).trans ?_
  rw[opA,c9];rfl
section
def wD(as:List fW):PV:=.ay (as.map wB)
section
variable {F:PV} {ks:List Rk} (hF:Kl (run bK) F ks) (k:Nat) (hk:3<=k)
include hF hk
theorem BV(w:Str){a:Op}(ha:W0 ks a):run bK (k+7) "say_acts" [F,.aJ [.str w,SM a]]=some (.val (wD (opA a))):=by
 rw[wt,bH];have h1:=ro hF k hk ha;exact eS (rS (g9 (cA rfl (cA (b2 rfl rfl rfl) rfl)) rfl h1 rfl))
omit hF hk in
theorem wF(w:Str):run bK (k+7) "give_acts" [F,.aJ [.str w,.str ""]]=some (.val (wD [])):=by
 rw[sI,bH];have q:nk (.str "") (.str "")=some (.bl true):=by rw[kL];rfl
 exact eS (wd (iT (bT (b2 (b2 rfl rfl rfl) rfl q)) (rS rfl)))
end
def eV(i:Nat)(a:fW):PV:=.aJ [.int i,.str a.w,.str a.n,.bl a.t,.int a.f,.int a.m,.str a.k]
def hW:List fW->List fW
 | []=>[rn]
 | a::r=>a::r
structure Ko (c:f9) (F p:PV) (as:List fW):Prop where
 ex:∃w fn rest,p=.aJ (.str w::rest)/\jy.lookup w=some fn/\Nt.lookup fn=some 2/\∃e,c fn [F,p]=some e/\oS e=some (wD as)
 few:as.length<=20
theorem FX{c:f9}{F p:PV}{as:List fW}(M:Ko c F p as)(i:Nat)(told:av)(hl:told.length<=90000)(x0 x1 x6:Ent):mW c [x0,x1,.val F,.own told,.val (.int (i:Int)),.val p,x6]=some (.nx [x0,x1,.val F,.own (told++(hW as).map (eV i)),.val (.int (i:Int)),.val p,.val (wD as)]):=by
 obtain⟨w,fn,rest,rfl,h1,h2,e,h3,h4⟩:=M.ex;have hf:=M.few;unfold mW;have ht:ES jy Nt c (ak (rd 5) (kI 0) bC) (ae (rd 2) (ae (rd 5) ao)) [x0,x1,.val F,.own told,.val (.int (i:Int)),.val (.aJ (.str w::rest)),x6]=some (wD as):=by
  have hk:ak (rd 5) (kI 0) bC [x0,x1,.val F,.own told,.val (.int (i:Int)),.val (.aJ (.str w::rest)),x6]=some (.str w):=b2 rfl rfl O7;rw[M8,hk,bo,JN,h1,bo,h2,bo];exact g9 (cA rfl (cA rfl rfl)) rfl h3 h4
 have a0:b7 (ES jy Nt c (ak (rd 5) (kI 0) bC) (ae (rd 2) (ae (rd 5) ao))) (aD 6) [x0,x1,.val F,.own told,.val (.int (i:Int)),.val (.aJ (.str w::rest)),x6]=some (.nx [x0,x1,.val F,.own told,.val (.int (i:Int)),.val (.aJ (.str w::rest)),.val (wD as)]):=aS ht rfl;refine sq a0 ?_;have ho:Vk (rd 6) (cq (dG (ae (cK (.aJ [(.str "rest"),(.str ""),(.bl false),(.int 0),(.int 0),(.str "")])) ao))) [x0,x1,.val F,.own told,.val (.int (i:Int)),.val (.aJ (.str w::rest)),.val (wD as)]=some (wD (hW as)):=by
  cases as with
  | nil=>rfl
  | cons a r=>rfl
 have Z6:(hW as).length<=20:=by
  cases as with
  | nil=>simp[hW]
  | cons a r=>exact hf
 refine mX rfl (fF (cV (sV ho rfl) (by simp only[aB];lia) (?_:_=some ((hW as).map (eV i))))) (by simp only[aB];lia)
 refine de λa _=>?_
 show(aD 1 (wB a) [Ent.un,.un,.val (.int (i:Int))]).bind _=_;have t:aD 1 (wB a) [Ent.un,.un,.val (.int (i:Int))]=some [.un,.val (wB a),.val (.int (i:Int))]:=rfl;rw[t,bo];exact b2 (tU (cA rfl rfl) (by simp)) rfl (aT (by simp))
def wG:Nat->List (List fW)->av
 | _,[]=>[]
 | i,as::r=>(hW as).map (eV i)++wG (i+1) r
theorem uw{c:f9}{F:PV}(x0 x1:Ent):∀(L:List (PV×List fW)) (i:Nat) (told:av) (x4 x5 x6:Ent),(∀q∈L,Ko c F q.1 q.2)->told.length+20*L.length<=90000 ->
  ∃wW zg x6',fG (gE 2 (b0 (aD 4) (b0 (aD 5) fP))) (mW c) (gu i (L.map (·.1))) [x0,x1,.val F,.own told,x4,x5,x6]=some (.nx [x0,x1,.val F,.own (told++wG i (L.map (·.2))),wW,zg,x6'])
 | [],i,told,x4,x5,x6,_,_=>⟨x4,x5,x6,by simp[gu,wG]⟩
 | (p,as)::L,i,told,x4,x5,x6,h,hz=>by
  have M:=h (p,as) bz;have hf:=M.few;simp only[aZ]at hz;have Z6:((hW as).map (eV i)).length<=20:=by
   rw[aB];cases as with
   | nil=>simp[hW]
   | cons a r=>exact hf
  obtain⟨wW,zg,x6',e⟩:=uw x0 x1 L (i+1) (told++(hW as).map (eV i)) (.val (.int (i:Int))) (.val p) (.val (wD as)) (λq hq=>h q (bE _ hq)) (by rw[bX];lia)
  refine⟨wW,zg,x6',?_⟩;have:=FX M i told (by lia) x0 x1 x6
  rw[bJ,bJ,gu,wG,<-fZ];exact fC (eM:=[x0,x1,.val F,.own told,.val (.int (i:Int)),.val p,x6]) rfl this e
theorem SO(k:Nat){F:PV}{fs:av}{i:Int}(hi:atI fs i=some F){n res:PV}{R1 R2:List Rk}{L:List (PV×List fW)} (hF:F=Ki n res (.aJ (L.map (·.1))) R1 R2) (hL:∀q∈L,Ko (run bK k) F q.1 q.2) (hz:L.length<=4000):run bK (k+1) "acts" [.aJ fs,.int i]=some (.own (wG 0 (L.map (·.2)))):=by
 rw[J7,bH];obtain⟨x4,x5,x6,e⟩:=uw (.val (.aJ fs)) (.val (.int i)) L 0 [] .un .un .un hL (by simp;lia)
 rw[gS]at e;have hr:ak (rd 2) (kI 4) bC [.val (.aJ fs),.val (.int i),.val F,.own [],.un,.un,.un]=some (.aJ (L.map (·.1))):=by rw[hF];exact b2 rfl rfl rfl
 have he:qH (ak (rd 2) (kI 4) bC) [.val (.aJ fs),.val (.int i),.val F,.own [],.un,.un,.un]=some (gu 0 (L.map (·.1))):=by
  show((ak (rd 2) (kI 4) bC) _).bind _=_;rw[hr];rfl
 exact Fv (sq (aS (b2 rfl rfl hi) rfl) (sq (sO rfl (by simp)) (sq (fS he e) (Fw rfl))))
theorem wH(k:Nat)(n:Int):run bK (k+1) "_law_whole" [.int n]=some (.val (.bl true)):=by
 rw[BS,bH];rfl
def cell(ns:List Int)(i:Nat):Int:=ns.getD i 0
theorem Kp(k:Nat)(ns:List Int)(i:Nat):run bK (k+1) "_law_cell_at" [Fo ns,.int (i:Int)]=some (.val (.int (cell ns i))):=by
 rw[wu];by_cases h:i<ns.length
 ·have:atI (ns.map PV.int) (i:Int)=some (.int (cell ns i)):=cJ (by rw[bU,cx h];simp[cell,h])
  simp[lU,Fo,h,this]
 ·have:cell ns i=0:=by simp[cell,List.getD,jf (Ak h)]
  simp[lU,Fo,h,this]
theorem jD{i j:Int}(h:0<j):fq (.int i) (.int j)=some (.int (i%j)):=by rw[JY,if_pos h]
theorem W2{i j:Int}(h:0<j/\j<1073741824):iq (.int i) (.int j)=some (.int (i/j)):=by rw[Ft,if_pos h]
theorem Ph(s:Sh):(Pe s==(Str.ofString "rec")) = !lQ s:=by
 cases s with
 | num=>exact s_1
 | own=>exact s_2
 | dI n=>exact s_3
 | bI ps=>exact pS _
theorem Kq(s:Sh):CZ (.str (Pe s)) (.str "rec")=some (.bl (lQ s)):=by rw[DL,Ph];simp
theorem Kr(s:Sh):nk (.str (Pe s)) (.str "rec")=some (.bl (!lQ s)):=by rw[kL,Ph]
mutual
theorem DZ:∀(s:Sh),∀r∈tab s,(tab r.2.2.2).length<=(tab s).length
 | .num,r,h=>by simp[tab]at h;subst h;simp[tab]
 | .own,r,h=>by simp[tab]at h;subst h;simp[tab]
 | .dI n,r,h=>by simp[tab]at h;subst h;simp[tab]
 | .bI ps,r,h=>by
  have hl:(tab (.bI ps)).length=iP ps+1:=by simp only[tab,aZ,hJ]
  simp only[tab,aX]at h;rcases h with rfl | h
  ·exact aR _
  ·have:=ux ps 0 0 r h
   lia
theorem ux:∀(l:List Sh) (k:Nat) (a:Int),∀r∈tabs k a l,(tab r.2.2.2).length<=iP l
 | [],_,_,r,h=>by simp[tabs]at h
 | s::l,k,a,r,h=>by
  simp only[tabs,dM,aY]at h;simp only[iP];rcases h with⟨r0,h0,rfl⟩ | h
  ·have:=DZ s r0 h0;simp only[mU]
   lia
  ·have:=ux l _ _ r h
   lia
end
theorem Ks(k:Nat)(a:Int)(s:Sh)(l:List Sh):tabs k a (s::l)=(tab s).map (mU k a)++tabs (k+1) (a+sz s) l:=rfl
mutual
def pos:Sh->Bool
 | .dI n=>decide (0<n)
 | .bI ps=>Kt ps
 | _=>true
def Kt:List Sh->Bool
 | []=>true
 | s::r=>pos s&&Kt r
end
mutual
theorem zh:∀(s:Sh),pos s=true->∀r∈tab s,pos r.2.2.2=true
 | .num,h,r,hr=>by simp[tab]at hr;subst hr;exact h
 | .own,h,r,hr=>by simp[tab]at hr;subst hr;exact h
 | .dI n,h,r,hr=>by simp[tab]at hr;subst hr;exact h
 | .bI ps,h,r,hr=>by
  simp only[tab,aX]at hr;rcases hr with rfl | hr
  ·exact h
  ·exact uy ps (by simpa only[pos]using h) 0 0 r hr
theorem uy:∀(l:List Sh),Kt l=true->∀(k:Nat) (a:Int),∀r∈tabs k a l,pos r.2.2.2=true
 | [],_,_,_,r,hr=>by simp[tabs]at hr
 | s::l,h,k,a,r,hr=>by
  simp only[Kt,aG]at h;simp only[tabs,dM,aY]at hr;rcases hr with⟨r0,h0,rfl⟩ | hr
  ·exact zh s h.1 r0 h0
  ·exact uy l h.2 _ _ r hr
end
def Ku(s:Sh):Prop:=wC s/\pos s=true
abbrev nP:PV:=.aJ [.str "num"]
abbrev oP:PV:=.aJ [.str "own"]
abbrev sP(n:Int):PV:=.aJ [.str "strip",.int n]
abbrev tP:PV:=.aJ [.str "rec",.aJ [nP,nP]]
variable {ks:List Rk}
theorem NF{α:Type}(N:List α)(e:α->PV)(m:Int)(h:0<N.length):∃s∈N,atI (N.map e) (m%((N.map e).length:Int))=some (e s):=by
 rw[aB];have XR:=jT m (show(N.length:Int)≠0 by lia)
 have hj1:=nv m (show(0:Int)<(N.length:Int) by lia)
 obtain⟨j,hj⟩:=Int.eq_ofNat_of_zero_le XR;have Tg:j<N.length:=by lia
 refine⟨N[j],uO Tg,?_⟩;rw[hj];exact cJ (by rw[bU,cx Tg];rfl)
end
theorem SQ{s:Sh}(h:wC s){r:Rw}(hr:r∈tab s):wC r.2.2.2:=by
 have h1:=DZ s r hr;have h2:=(wA s r hr).1;have h3:=h.1;have h4:=h.2;exact⟨by lia,by lia⟩
def eN(q:Nat×fW):PV:=eV q.1 q.2
def ik:Nat->List (List fW)->List (Nat×fW)
 | _,[]=>[]
 | i,as::r=>(hW as).map (λa=>(i,a))++ik (i+1) r
theorem rz:∀(L:List (List fW)) (i:Nat),wG i L=(ik i L).map eN
 | [],_=>rfl
 | as::L,i=>by
  rw[wG,ik,c9,dX,rz L (i+1)];rfl
theorem zi:∀(L:List (List fW)) (i:Nat),∀q∈ik i L,i<=q.1/\q.1<i+L.length
 | [],_,_,h=>nomatch h
 | as::L,i,q,h=>by
  rw[ik,dM]at h;rw[aZ];rcases h with h | h
  ·obtain⟨a,_,rfl⟩:=aY.mp h;show i<=i/\i<i+(L.length+1)
   lia
  ·have:=zi L (i+1) q h
   lia
theorem zj:∀(L:List (List fW)) (i j:Nat),i<=j->j<i+L.length->∃a,(j,a)∈ik i L
 | [],_,_,h1,h2=>by simp at h2;lia
 | as::L,i,j,h1,h2=>by
  rw[aZ]at h2;by_cases e:j=i
  ·subst e;obtain⟨a,ha⟩:∃a,a∈hW as:=by
    cases as with
    | nil=>exact⟨rn,bz⟩
    | cons a r=>exact⟨a,bz⟩
   exact⟨a,by rw[ik];exact iB _ (aY.mpr ⟨a,ha,rfl⟩)⟩
  ·obtain⟨a,ha⟩:=zj L (i+1) j (by lia) (by lia)
   exact⟨a,by rw[ik];exact eG _ ha⟩
def Tv(N:Nat)(kvs:List (bQ×PV)):Prop:=∀q∈kvs,∃m:Nat,q.2=.int (m:Int)/\m<N
theorem BW(kvs:List (bQ×PV))(k:bQ)(p:PV):(di (kvs++[(k,p)]) k).isSome=true:=by
 unfold di;rw[Aa,List.find?_isSome];exact⟨(k,p),by simp,by simp⟩
theorem rA(kvs ms:List (bQ×PV))(k:bQ)(h:(di kvs k).isSome=true):(di (kvs++ms) k).isSome=true:=by
 unfold di at h ⊢;rw[Aa,List.find?_isSome]at h ⊢;obtain⟨x,h1,h2⟩:=h;exact⟨x,iB _ h1,h2⟩
theorem Kv{N:Nat}{kvs:List (bQ×PV)}(h:Tv N kvs){k:bQ}(hk:(di kvs k).isSome=true):∃m:Nat,di kvs k=some (.int (m:Int))/\m<N:=by
 unfold di at hk ⊢;cases e:kvs.find? λkv=>decide (kv.1=k)with
 | none=>rw[e]at hk;cases hk
 | some q =>
  obtain⟨m,h1,h2⟩:=h q (List.mem_of_find?_eq_some e);exact⟨m,by rw[nA,h1],h2⟩
def wI:List (Nat×fW)->Nat->List (bQ×PV)->List (bQ×PV)
 | [],_,kvs=>kvs
 | (j,_)::as,i,kvs=>match di kvs (.inl (j:Int))with
  | some _=>wI as (i+1) kvs
  | none=>wI as (i+1) (kvs++[(.inl (j:Int),.int (i:Int))])
theorem kq(c:f9)(P I A:PV):∀(as:List (Nat×fW)) (i:Nat) (kvs:List (bQ×PV)) (x4 x5:Ent),Tv i kvs->kvs.length<=i->i+as.length<=90000 ->
  (∃wW zg,fG (gE 2 (b0 (aD 4) (b0 (aD 5) fP))) (kO c) (gu i (as.map eN)) [.val P,.val I,.val A,.cg (.k kvs),x4,x5,.un]=some (.nx [.val P,.val I,.val A,.cg (.k (wI as i kvs)),wW,zg,.un]))/\Tv (i+as.length) (wI as i kvs)/\(∃ms,wI as i kvs=kvs++ms)/\∀q∈as,(di (wI as i kvs) (.inl (q.1:Int))).isSome=true
 | [],i,kvs,x4,x5,h,_,_=>⟨⟨x4,x5,rfl⟩,h,⟨[],by simp[wI]⟩,λ_ z=>nomatch z⟩
 | (j,a)::as,i,kvs,x4,x5,h,hl,hz=>by
  rw[aZ]at hz;have vc:gE 2 (b0 (aD 4) (b0 (aD 5) fP)) (Ig (.int (i:Int)) (eV j a)) [.val P,.val I,.val A,.cg (.k kvs),x4,x5,.un]=some [.val P,.val I,.val A,.cg (.k kvs),.val (.int (i:Int)),.val (eV j a),.un]:=rfl;have hb:kO c [.val P,.val I,.val A,.cg (.k kvs),.val (.int (i:Int)),.val (eV j a),.un]=(match di kvs (.inl (j:Int))with
    | some _=>some (.nx [.val P,.val I,.val A,.cg (.k kvs),.val (.int (i:Int)),.val (eV j a),.un])
    | none=>some (.nx [.val P,.val I,.val A,.cg (.k (kvs++[(.inl (j:Int),.int (i:Int))])),.val (.int (i:Int)),.val (eV j a),.un])):=by
   unfold kO;have hc:kvs.length<fO/\(([.val P,.val I,.val A,.cg (.k kvs),.val (.int (i:Int)),.val (eV j a),.un]:aE).set 3 .un).all Dm=true:=⟨by have:=q8;lia,rfl⟩
   show(if(kvs.length<fO/\(([.val P,.val I,.val A,.cg (.k kvs),.val (.int (i:Int)),.val (eV j a),.un]:aE).set 3 .un).all Dm=true)then _ else _)=_
   rw[if_pos hc];rfl
  cases e:di kvs (.inl (j:Int))with
  | some v =>
   have ek:wI ((j,a)::as) i kvs=wI as (i+1) kvs:=by rw[wI,e]
   rw[e]at hb;obtain⟨⟨y4,y5,h1⟩,h2,⟨ms,h3⟩,h4⟩:=kq c P I A as (i+1) kvs (.val (.int (i:Int))) (.val (eV j a)) (λq hq=>by obtain⟨m,z1,z2⟩:=h q hq;exact⟨m,z1,by lia⟩) (by lia) (by lia)
   rw[ek];refine⟨⟨y4,y5,fC vc hb h1⟩,?_,⟨ms,h3⟩,λq hq=>?_⟩
   ·rw[aZ,show i+(as.length+1)=i+1+as.length by lia];exact h2
   ·rcases aX.mp hq with rfl | hq
    ·rw[h3];exact rA _ _ _ (by rw[e];rfl)
    ·exact h4 q hq
  | none =>
   have ek:wI ((j,a)::as) i kvs=wI as (i+1) (kvs++[(.inl (j:Int),.int (i:Int))]):=by rw[wI,e]
   rw[e]at hb;obtain⟨⟨y4,y5,h1⟩,h2,⟨ms,h3⟩,h4⟩:=kq c P I A as (i+1) (kvs++[(.inl (j:Int),.int (i:Int))]) (.val (.int (i:Int))) (.val (eV j a)) (λq hq=>by
    rcases dM.mp hq with hq | hq
    ·obtain⟨m,z1,z2⟩:=h q hq;exact⟨m,z1,by lia⟩
    ·rw[dW]at hq;subst hq;exact⟨i,rfl,by lia⟩) (by rw[bX];simp;lia) (by lia)
   rw[ek];refine⟨⟨y4,y5,fC vc hb h1⟩,?_,⟨(.inl (j:Int),.int (i:Int))::ms,by rw[h3];simp⟩,λq hq=>?_⟩
   ·rw[aZ,show i+(as.length+1)=i+1+as.length by lia];exact h2
   ·rcases aX.mp hq with rfl | hq
    ·rw[h3];exact rA _ _ _ (BW _ _ _)
    ·exact h4 q hq
def nT(l:List Nat):PV:=.aJ (l.map λm:Nat=>PV.int (m:Int))
def rB(c:f9)(rows:PV)(n:Nat)(nx:Nat->List Nat):Prop:=∀j:Nat,j<n->c "row_nexts" [rows,.int (j:Int)]=some (.val (nT (nx j)))/\(nx j).length<=2/\∀m∈nx j,m<n
def lr(kvs:List (bQ×PV))(m:Nat):Nat:=match di kvs (.inl (m:Int))with
 | some (.int v)=>v.toNat
 | _=>0
theorem zk{N:Nat}{kvs:List (bQ×PV)}(h:Tv N kvs){m:Nat} (hk:(di kvs (.inl (m:Int))).isSome=true):di kvs (.inl (m:Int))=some (.int (lr kvs m:Int))/\lr kvs m<N:=by
 obtain⟨v,h1,h2⟩:=Kv h hk;have e:lr kvs m=v:=by unfold lr;rw[h1];rfl
 rw[e];exact⟨h1,h2⟩
def oq(as:List (Nat×fW))(kvs:List (bQ×PV))(nx:Nat->List Nat)(i:Nat)(q:Nat×fW):List Nat:=if as[i+1]?.map (·.1)=some q.1 then [i+1]else(nx q.1).map (lr kvs)
def Gn(as:List (Nat×fW))(kvs:List (bQ×PV))(nx:Nat->List Nat):Nat->List (Nat×fW)->List (List Nat)
 | _,[]=>[]
 | i,q::bs=>oq as kvs nx i q::Gn as kvs nx (i+1) bs
inductive FY (kvs:List (bQ×PV)):Ent->Prop
 | d:FY kvs (.cg (.k kvs))
 | o:FY kvs (.ob (.dct (.k kvs)))
section
variable {c:f9} {fs:av} {I:Int} {nm res rows:PV} {R1 R2:List Rk} {n:Nat} {as:List (Nat×fW)} {kvs:List (bQ×PV)} {nx:Nat->List Nat}
theorem BX(hP:atI fs I=some (Ki nm res rows R1 R2))(hR:rB c rows n nx)(hk:Tv as.length kvs) (hf:∀j:Nat,j<n->(di kvs (.inl (j:Int))).isSome=true) (hl:as.length<=90000)
  (i:Nat) (q:Nat×fW) (hq:as[i]?=some q) (hr:∀q∈as,q.1<n) {D:Ent} (hD:FY kvs D) (told:av) (ht:told.length<=90000) :
  ∃(D':Ent),jc c [.val (.aJ fs),.val (.int I),.val (.ay (as.map eN)),D,.val (.int (i:Int)),.val (eN q),.own told]=some (.nx [.val (.aJ fs),.val (.int I),.val (.ay (as.map eN)),D',.val (.int (i:Int)),.val (eN q),.own (told++[nT (oq as kvs nx i q)])])/\FY kvs D'/\(oq as kvs nx i q).length<=2/\∀m∈oq as kvs nx i q,m<as.length:=by
 have hi:i<as.length:=(cL.mp hq).1;have Tf:fm none [.val (.aJ fs),.val (.int I),.val (.ay (as.map eN)),D,.val (.int (i:Int)),.val (eN q),.own told]=[.val (.aJ fs),.val (.int I),.val (.ay (as.map eN)),.ob (.dct (.k kvs)),.val (.int (i:Int)),.val (eN q),.val (.ay told)]:=by
  cases hD<;>rfl
 have YO:fm (some [3]) [.val (.aJ fs),.val (.int I),.val (.ay (as.map eN)),D,.val (.int (i:Int)),.val (eN q),.own told]=[.val (.aJ fs),.val (.int I),.val (.ay (as.map eN)),.ob (.dct (.k kvs)),.val (.int (i:Int)),.val (eN q),.own told]:=by
  cases hD<;>rfl
 have dU:∀x6:Ent,toB (ak (ak (rd 4) (kI 1) ck) (lH (dh dZ (ae (rd 2) ao))) C0) [.val (.aJ fs),.val (.int I),.val (.ay (as.map eN)),.ob (.dct (.k kvs)),.val (.int (i:Int)),.val (eN q),x6]=some (decide (((i:Int)+1)<(as.length:Int))):=λx6=>by
  refine bT (b2 (x:=.int ((i:Int)+1)) (y:=.int (as.length:Int)) rfl ?_ rfl);show some (PV.int (((as.map eN).length:Nat):Int))=_;rw[aB]
 have go:∀b:Bool,qD (AV (toB (ak (ak (rd 4) (kI 1) ck) (lH (dh dZ (ae (rd 2) ao))) C0)) (toB (ak (ak (ak (rd 2) (ak (rd 4) (kI 1) ck) bC) (kI 0) bC) (ak (rd 5) (kI 0) bC) nk))) [.val (.aJ fs),.val (.int I),.val (.ay (as.map eN)),D,.val (.int (i:Int)),.val (eN q),.own told]=some b->(b=true↔as[i+1]?.map (·.1)=some q.1) ->
  ∃(D':Ent),jc c [.val (.aJ fs),.val (.int I),.val (.ay (as.map eN)),D,.val (.int (i:Int)),.val (eN q),.own told]=some (.nx [.val (.aJ fs),.val (.int I),.val (.ay (as.map eN)),D',.val (.int (i:Int)),.val (eN q),.own (told++[nT (oq as kvs nx i q)])])/\FY kvs D'/\(oq as kvs nx i q).length<=2/\∀m∈oq as kvs nx i q,m<as.length:=λb hb h1=>by
  unfold jc;cases b with
  | true =>
   have h2:=h1.mp rfl;have h3:i+1<as.length:=by
    cases z:as[i+1]? with
    | none=>rw[z]at h2;cases h2
    | some _=>exact(cL.mp z).1
   have en:oq as kvs nx i q=[i+1]:=if_pos h2;rw[en];refine⟨D,iT hb (mA rfl (tU (cA rfl rfl) (by simp)) (by lia)),hD,by simp,λm hm=>?_⟩
   simp at hm;lia
  | false =>
   obtain⟨r1,r2,r3⟩:=hR q.1 (hr q (b9 hq));have en:oq as kvs nx i q=(nx q.1).map (lr kvs):=if_neg λz=>nomatch h1.mpr z
   have m1:j4 (λp=>(aD 1 p (bB [none,none,some 3] [.val (.aJ fs),.val (.int I),.val (.ay (as.map eN)),.ob (.dct (.k kvs)),.val (.int (i:Int)),.val (eN q),.own told])).bind (getD 2 (rd 1))) ((nx q.1).map λm:Nat=>PV.int (m:Int))=some ((nx q.1).map λm=>PV.int (lr kvs m:Int)):=de λm hm=>(zk hk (hf m (r3 m hm))).1
   rw[en];refine⟨.ob (.dct (.k kvs)),iF hb ?_,.o,by rw[aB];exact r2,λm hm=>?_⟩
   ·show iL 6 _ r9 (fm (some [3]) _)=_;rw[YO];refine mA rfl (bV (cA (fF (cV (sV (g9 (cA (b2 (b2 rfl rfl hP) rfl rfl) (cA (b2 rfl rfl O7) rfl)) rfl r1 rfl) rfl) ?_ m1)) rfl) ?_) (by lia)
    ·rw[aB];lia
    ·unfold nT;rw[dX];rfl
   ·obtain⟨x,hx,rfl⟩:=aY.mp hm;exact(zk hk (hf x (r3 x hx))).2
 by_cases h:i+1<as.length
 ·obtain⟨q',OM⟩:∃q',as[i+1]?=some q':=⟨_,cx h⟩
  refine go (decide ((q'.1:Int)=(q.1:Int))) ?_ (by rw[OM];simp only[jk,nA,Option.some.injEq];lia)
  show AV _ _ (fm none _)=_;rw[Tf];show(toB _ _).bind _=_;rw[dU,bo,if_pos (by rw[jk];lia)]
  have e0:ak (rd 2) (ak (rd 4) (kI 1) ck) bC [.val (.aJ fs),.val (.int I),.val (.ay (as.map eN)),.ob (.dct (.k kvs)),.val (.int (i:Int)),.val (eN q),.val (.ay told)]=some (eN q'):=b2 (y:=.int (((i+1:Nat):Nat):Int)) rfl (by rfl) (cJ (by rw[bU,OM];rfl))
  exact bT (b2 (x:=.int (q'.1:Int)) (y:=.int (q.1:Int)) (b2 e0 rfl rfl) (b2 rfl rfl rfl) kK)
 ·refine go false ?_ ⟨(λz=>nomatch z),λz=>by rw[jf (by lia)]at z;cases z⟩
  show AV _ _ (fm none _)=_;rw[Tf];show(toB _ _).bind _=_;rw[dU,bo,if_neg (by rw[jk];lia)]
theorem rD(hP:atI fs I=some (Ki nm res rows R1 R2))(hR:rB c rows n nx)(hk:Tv as.length kvs) (hf:∀j:Nat,j<n->(di kvs (.inl (j:Int))).isSome=true) (hl:as.length<=40000) (hr:∀q∈as,q.1<n):∀(bs pre:List (Nat×fW)) (told:av) (D x4 x5:Ent),as=pre++bs->FY kvs D->told.length=pre.length ->
  ∃(D' wW zg:Ent),fG (gE 2 (b0 (aD 4) (b0 (aD 5) fP))) (jc c) (gu pre.length (bs.map eN)) [.val (.aJ fs),.val (.int I),.val (.ay (as.map eN)),D,x4,x5,.own told]=some (.nx [.val (.aJ fs),.val (.int I),.val (.ay (as.map eN)),D',wW,zg,.own (told++(Gn as kvs nx pre.length bs).map nT)])/\(Gn as kvs nx pre.length bs).length=bs.length/\∀l∈Gn as kvs nx pre.length bs,l.length<=2/\∀m∈l,m<as.length
 | [],pre,told,D,x4,x5,_,hD,_=>⟨D,x4,x5,by simp[gu,Gn],rfl,λ_ z=>nomatch z⟩
 | q::bs,pre,told,D,x4,x5,e,hD,ht=>by
  have Iz:pre.length<=as.length:=by rw[e,bX];lia
  have hq:as[pre.length]?=some q:=by rw[e];simp
  obtain⟨D1,h1,h2,h3,h4⟩:=BX hP hR hk hf (by lia) pre.length q hq hr hD told (by lia)
  obtain⟨D2,y4,y5,h5,h6,h7⟩:=rD hP hR hk hf hl hr bs (pre++[q]) (told++[nT (oq as kvs nx pre.length q)]) D1 (.val (.int (pre.length:Int))) (.val (eN q)) (by rw[e];simp) h2 (by simp[ht])
  rw[show(pre++[q]).length=pre.length+1 by simp]at h5 h6 h7
  refine⟨D2,y4,y5,?_,by simp[Gn,h6],λx hx=>?_⟩
  ·rw[bJ,gu,Gn,bJ,show told++nT (oq as kvs nx pre.length q)::(Gn as kvs nx (pre.length+1) bs).map nT=told++[nT (oq as kvs nx pre.length q)]++(Gn as kvs nx (pre.length+1) bs).map nT by simp]
   exact fC rfl h1 h5
  ·rcases aX.mp hx with rfl | hx
   ·exact⟨h3,h4⟩
   ·exact h7 x hx
end
def mY(L:List (List fW))(nx:Nat->List Nat):List (List Nat):=Gn (ik 0 L) (wI (ik 0 L) 0 []) nx 0 (ik 0 L)
theorem NG(k:Nat){fs:av}{I:Int}{nm res rows:PV}{R1 R2:List Rk}{L:List (List fW)}{nx:Nat->List Nat}(hP:atI fs I=some (Ki nm res rows R1 R2))(hA:run bK k "acts" [.aJ fs,.int I]=some (.own (wG 0 L)))(hR:rB (run bK k) rows L.length nx)(hz:(ik 0 L).length<=40000) :
  run bK (k+1) "nexts" [.aJ fs,.int I]=some (.own ((mY L nx).map nT))/\(mY L nx).length=(ik 0 L).length/\∀l∈mY L nx,l.length<=2/\∀m∈l,m<(ik 0 L).length:=by
 rw[rz]at hA;obtain⟨⟨x4,x5,h1⟩,h2,-,h4⟩:=kq (run bK k) (.aJ fs) (.int I) (.ay ((ik 0 L).map eN)) (ik 0 L) 0 [] .un .un (λ_ z=>nomatch z) (by simp) (by lia)
 rw[gC]at h2;obtain⟨D',y4,y5,g1,g2,g3⟩:=rD (as:=ik 0 L) hP hR h2 (λj hj=>by
  obtain⟨a,ha⟩:=zj L 0 j (dY _) (by lia)
  exact h4 _ ha) hz (λq hq=>by have:=zi L 0 q hq;lia) (ik 0 L) [] [] (.cg (.k (wI (ik 0 L) 0 []))) x4 x5 rfl .d rfl
 refine⟨?_,g2,g3⟩;rw[FD,bH];rw[gS]at g1;exact Fv (sq (aS (g9 (cA rfl (cA rfl rfl)) rfl hA rfl) rfl) (sq (gq:=[.val (.aJ fs),.val (.int I),.val (.ay ((ik 0 L).map eN)),.cg (.k []),.un,.un,.un]) rfl (sq (fS rfl h1) (sq (sO rfl (by simp)) (sq (fS rfl g1) (Fw rfl))))))
end cn
namespace cn
open PySem L2 L2.PL ou DQ
def kN(n:Nat):List bQ:=[.inl (n:Int)]
def iN(n:Nat):PV:=.int (n:Int)
structure Kw (ls:List (List Nat)) (N:Nat):Prop where
 len:ls.length=N
 ok:∀l∈ls,l.length<=2/\∀m∈l,m<N
 pos:0<N
 few:N<64
abbrev BY(ls:List (List Nat)):List bQ->Option (List (List bQ)):=vJ (cq (cW [none,none] (dH (ak (rd 1) (ak (rd 0) (kI 0) bC) bC)) (aD 1) (bM (ae (rd 1) ao)))) [.val (.ay (ls.map nT))]
theorem NH{ls:List (List Nat)}{n:Nat}{l:List Nat}(hl:ls[n]?=some l)(h2:l.length<=2):BY ls (kN n)=some (l.map kN):=by
 refine DS ?_ λx hx=>?_
 ·rw[dX];refine fF (cV (sV (b2 (x:=.ay (ls.map nT)) (y:=.int (n:Int)) rfl rfl (cJ (v:=nT l) (by rw[bU,hl];rfl))) rfl) ?_ ?_)
  ·rw[aB];lia
  ·exact de λm _=>rfl
 ·obtain⟨m,_,rfl⟩:=aY.mp hx;show 1<1000
  lia
theorem SR{a b:Nat}(h:kN a=kN b):a=b:=by
 unfold kN at h;injection h with h _
 injection h with h
 exact Int.ofNat.inj h
theorem BZ(k:Nat){ls:List (List Nat)}{N:Nat}(H:Kw ls N):∃(told:eJ) (ns:List Nat),run bK (k+1) "arrivals" [.ay (ls.map nT)]=some (.val (.ay (told.map toldP)))/\told.map (·.1)=ns.map kN/\ns.Nodup/\(∀n∈ns,n<N)/\Nq (BY ls) [kN 0] told/\yW (BY ls) told told.length/\0∈ns:=by
 have hU:∀g∈(List.range N).map kN,∃fs,BY ls g=some fs/\(∀f∈fs,f∈(List.range N).map kN)/\fs.length<=2:=λg hg=>by
  obtain⟨n,hn,rfl⟩:=aY.mp hg;rw[cZ]at hn;obtain⟨l,hl⟩:∃l,ls[n]?=some l:=⟨_,cx (by rw[H.len];exact hn)⟩
  obtain⟨h1,h2⟩:=H.ok l (b9 hl);refine⟨_,NH hl h1,λf hf=>?_,by rw[aB];exact h1⟩
  obtain⟨m,hm,rfl⟩:=aY.mp hf;exact aY.mpr ⟨m,cZ.mpr (h2 m hm),rfl⟩
 have cC:((List.range N).map kN).length=N:=by simp
 have hf:=H.few;obtain⟨told,t1,t2,t3,t4,t5,t6⟩:=rh (BY ls) [kN 0] ((List.range N).map kN) 2 (by rw[cC,q8];lia) (by rw[cC];show N<5000;lia) hU (λf hf=>by
  rw[dW]at hf;subst hf;exact aY.mpr ⟨0,cZ.mpr H.pos,rfl⟩)
 have Pj:∀f∈told.map (·.1),∃n,n<N/\f=kN n:=λf hf=>by
  obtain⟨t,ht,rfl⟩:=aY.mp hf;obtain⟨n,hn,e⟩:=aY.mp (t3 t ht);exact⟨n,cZ.mp hn,e.symm⟩
 obtain⟨ns,e1,e2⟩:∃ns:List Nat,told.map (·.1)=ns.map kN/\∀n∈ns,n<N:=by
  revert Pj
  generalize told.map (·.1)=fs
  intro Pj;induction fs with
  | nil=>exact⟨[],rfl,λ_ z=>nomatch z⟩
  | cons f fs ih =>
   obtain⟨n,hn,rfl⟩:=Pj f bz;obtain⟨ns,q1,q2⟩:=ih λg hg=>Pj g (bE _ hg)
   exact⟨n::ns,by rw[bJ,q1],λm hm=>(aX.mp hm).elim (λz=>by rw[z];exact hn) (q2 m)⟩
 refine⟨told,ns,?_,e1,?_,e2,t4,t5,?_⟩
 ·rw[jz,bH];refine eS (rS (fF (ri (fk:=[kN 0]) (ρ:=[.val (.ay (ls.map nT))]) rfl (λx hx=>?_) (by rw[q8];simp) t1)))
  rw[dW]at hx;subst hx;show 1<1000
  lia
 ·rw[e1]at t2;unfold List.Nodup at t2 ⊢;rw[uN]at t2;exact t2.imp λh z=>h (by rw[z])
 ·have:=t6 (kN 0) (by simp)
  rw[e1]at this;obtain⟨n,hn,e⟩:=aY.mp this;rw[<-SR e];exact hn
theorem FZ{ls:List (List Nat)}{N:Nat}(H:Kw ls N):∃(told:eJ) (ns cs:List Nat),(∀(k:Nat) (p q:PV) (e:Ent),run bK (k+1) "nexts" [p,q]=some e->oS e=some (.ay (ls.map nT))->run bK (k+2) "come_to" [p,q]=some (.val (.ay (cs.map iN))))/\cs.map (λn:Nat=>(n:Int))=fV (ns.map λn:Nat=>(n:Int))/\(∀n,n∈cs↔n∈ns)/\ns.Nodup/\(∀n∈ns,n<N)/\told.map (·.1)=ns.map kN/\Nq (BY ls) [kN 0] told/\yW (BY ls) told told.length/\0∈ns:=by
 obtain⟨told,ns,a1,a2,a3,a4,a5,a6,a7⟩:=BZ 0 H;have Bn:(ns.map λn:Nat=>(n:Int)).Nodup:=by
  unfold List.Nodup at a3 ⊢;rw[uN];exact a3.imp λh z=>h (Int.ofNat.inj z)
 have hl:ns.length<=N:=by
  have:=gO ns (List.range N) a3 λn hn=>cZ.mpr (a4 n hn)
  rwa [fY]at this
 have hf:=H.few;have oY:∀i,i∈fV (ns.map λn:Nat=>(n:Int))↔∃n∈ns,(n:Int)=i:=λi=>by
  rw[(fu _).mem_iff,aY]
 have hcs:((fV (ns.map λn:Nat=>(n:Int))).map Int.toNat).map (λn:Nat=>(n:Int))=fV (ns.map λn:Nat=>(n:Int)):=by
  rw[dX]
  conv=>rhs;rw[<-List.map_id (fV (ns.map λn:Nat=>(n:Int)))]
  refine pN λi hi=>?_
  obtain⟨n,_,rfl⟩:=(oY i).mp hi;rfl
 refine⟨told,ns,(fV (ns.map λn:Nat=>(n:Int))).map Int.toNat,?_,hcs,λn=>?_,a3,a4,a2,a5,a6,a7⟩
 ·intro k p q e hx he;have b1:run bK (k+1) "arrivals" [.ay (ls.map nT)]=some (.val (.ay (told.map toldP))):=by
   rw[<-a1,jz,jz];rfl
  rw[yZ,bH];have hv:aK (aW 1 (run bK (k+1) "arrivals")) (ae (aK (aW 2 (run bK (k+1) "nexts")) (ae (rd 0) (ae (rd 1) ao))) ao) [.val p,.val q]=some (.ay (told.map toldP)):=g9 (cA (g9 (cA rfl (cA rfl rfl)) rfl hx he) rfl) rfl b1 rfl;have hm:j4 (λp'=>(aD 1 p' (bB [none,none] [.val p,.val q])).bind (ak (rd 1) (kI 0) bC)) (told.map toldP)=some (ns.map iN):=by
   have e:told.map toldP=(told.map λt=>(t.1,t.2)).map toldP:=by rw[dX];rfl
   clear hv b1 a1 a5 a6 hx he
   revert a2
   clear a3 a4 a7 Bn hl oY hcs e;induction told generalizing ns with
   | nil =>
    intro a2;cases ns with
    | nil=>rfl
    | cons _ _=>cases a2
   | cons t r ih =>
    intro a2;cases ns with
    | nil=>cases a2
    | cons n ns =>
     rw[bJ,bJ]at a2;injection a2 with a2 a3
     rw[bJ,j4,ih _ a3];obtain⟨f,c⟩:=t;subst a2;rfl
  refine eS (rS (bV (cA (fF (cV (sV hv rfl) ?_ hm)) rfl) ?_))
  ·have:=dw List.length a2;rw[aB,aB]at this;rw[aB,this];lia
  ·have hn:gF (ns.map iN)=some (ns.map λn:Nat=>(n:Int)):=by
    have:=n6 (ns.map λn:Nat=>(n:Int))
    rwa [dX]at this
   show(gF (ns.map iN)).bind _=_;rw[hn,bo,if_pos (by rw[aB];lia)]
   conv=>lhs;rw[<-hcs,dX]
   rfl
 ·constructor
  ·intro hn;obtain⟨i,hi,rfl⟩:=aY.mp hn;obtain⟨m,hm,rfl⟩:=(oY i).mp hi;exact hm
  ·intro hn;exact aY.mpr ⟨(n:Int),(oY _).mpr ⟨n,hn,rfl⟩,rfl⟩
def kF(n:Nat)(x:Str)(j:Nat):List bQ:=[.inl (n:Int),.inr x,.inl (j:Int)]
def pF(n:Nat)(x:Str)(j:Nat):PV:=.aJ [.int (n:Int),.str x,.int (j:Int)]
structure rE (a:fW) (f m:Nat):Prop where
 ef:a.f=(f:Int)
 em:a.m=(m:Int)
 few:f+m<=1000
theorem F6(k i:Nat){a:fW}{f m:Nat}(h:rE a f m):run bK (k+1) "touched" [eV i a]=some (.val (.ay ((List.range m).map λj=>iN (f+j)))):=by
 rw[y0,bH];refine eS (rS (fF ?_));have e4:ak (rd 0) (kI 4) bC [.val (eV i a)]=some (.int (f:Int)):=by rw[<-h.ef];rfl
 have e5:ak (rd 0) (kI 5) bC [.val (eV i a)]=some (.int (m:Int)):=by rw[<-h.em];rfl
 have ha:(ae (ak (rd 0) (kI 4) bC) (ae (ak (ak (rd 0) (kI 4) bC) (ak (rd 0) (kI 5) bC) ck) ao)) [.val (eV i a)]=some [.int (f:Int),.int ((f:Int)+(m:Int))]:=cA e4 (cA (b2 e4 e5 rfl) rfl);show((ae _ _) [.val (eV i a)]).bind _=_;rw[ha,bo];have hl:RB [.int (f:Int),.int ((f:Int)+(m:Int))]=some (PyProof.Rows.rangeInts (f:Int) 1 ((f:Int)+(m:Int)-(f:Int)).toNat):=if_pos ⟨by lia,by lia,by have:=h.few;lia⟩
 rw[hl,show((f:Int)+(m:Int)-(f:Int)).toNat=m by lia]
 show some (((List.range m).map fun(i:Nat)=>(f:Int)+(i:Int)*1).map PV.int)=_
 rw[dX]
 congr 1
 refine pN λj _=>?_
 show PV.int ((f:Int)+(j:Int)*1)=PV.int ((f+j:Nat):Int)
 congr 1
 lia
def rF(x:Str)(f m:Nat)(l:List Nat):List (List bQ):=l.flatMap λn=>(List.range m).map λj=>kF n x (f+j)
theorem mZ(k i:Nat){a:fW}{f m:Nat}(h:rE a f m)(q:PV):∀(l:List Nat) (told:av) (x3:Ent),told.length+1000*l.length<=90000->∃B6,fG (aD 3) (iz (run bK (k+1))) (l.map iN) [.val (eV i a),.val q,.own told,x3]=some (.nx [.val (eV i a),.val q,.own (told++(rF a.n f m l).map dq),B6])
 | [],told,x3,_=>⟨x3,by simp[rF]⟩
 | n::l,told,x3,hz=>by
  rw[aZ]at hz;have hf:=h.few;have hb:iz (run bK (k+1)) [.val (eV i a),.val q,.own told,.val (iN n)]=some (.nx [.val (eV i a),.val q,.own (told++(List.range m).map λj=>pF n a.n (f+j)),.val (iN n)]):=by
   unfold iz;refine mX rfl (fF (cV (sV (g9 (cA rfl rfl) rfl (F6 k i h) rfl) rfl) (by simp;lia) ?_)) (by simp;lia)
   exact de (e:=λj=>iN (f+j)) (G:=λj=>pF n a.n (f+j)) λj _=>rfl
  obtain⟨B6,e⟩:=mZ k i h q l (told++(List.range m).map λj=>pF n a.n (f+j)) (.val (iN n)) (by simp;lia)
  refine⟨B6,?_⟩;have ex:told++(rF a.n f m (n::l)).map dq=(told++(List.range m).map λj=>pF n a.n (f+j))++(rF a.n f m l).map dq:=by
   unfold rF;rw[lz,c9,dX,fZ];rfl
  rw[bJ,ex];exact fC rfl hb e
def SS(a:fW)(f m:Nat)(l:List Nat):List (List bQ):=if(a.w==(Str.ofString "empty"))=true then rF a.n f m l else []
theorem F7(k i:Nat){a:fW}{f m:Nat}(h:rE a f m){l:List Nat}(hl:l.length<=2):∃e,run bK (k+2) "emptied" [eV i a,nT l]=some e/\oS e=some (.ay ((SS a f m l).map dq)):=by
 rw[zc,bH];have hc:qD (toB (ak (ak (rd 0) (kI 1) bC) (kS "empty") CZ)) [.val (eV i a),.val (nT l),.un,.un]=some (!(a.w==(Str.ofString "empty"))):=bT (b2 (x:=.str a.w) (y:=.str "empty") rfl rfl DL);by_cases hw:(a.w==(Str.ofString "empty"))=true
 ·obtain⟨B6,e⟩:=mZ k i h (nT l) l [] .un (by simp;lia)
  rw[gS]at e;refine⟨_,Fv (sq (iF (hc.trans (by rw[hw];rfl)) rfl) (sq (sO rfl (by simp)) (sq (fS (sV rfl rfl) e) (Fw rfl)))),?_⟩
  unfold SS;rw[if_pos hw];rfl
 ·refine⟨_,eS (wd (iT (hc.trans (by simp only[Ac]at hw;rw[hw];rfl)) (rS rfl))),?_⟩
  unfold SS;rw[if_neg hw];rfl
def flB(a:fW)(f m:Nat)(x:Str)(j:Nat):Bool:=a.w==(Str.ofString "fill")&&(!a.t&&(a.n==x&&(decide (f<=j)&&decide (j<f+m))))
theorem B7{fa fb fc:FE}{ρ:aE}{f j g:Nat}(h1:fa ρ=some (.int (f:Int)))(h2:fb ρ=some (.int (j:Int)))(h3:fc ρ=some (.int (g:Int))):chain fa fb fc HX C0 ρ=some (.bl (decide (f<=j)&&decide (j<g))):=by
 rw[JO,h1,h2];simp only[bo];have e:HX (.int (f:Int)) (.int (j:Int))=some (.bl (decide (f<=j))):=by
  show some (PV.bl (decide ((f:Int)<=(j:Int))))=_;simp
 rw[e,bo];by_cases hfj:f<=j
 ·rw[fg hfj,JP,h3,bo,Nn];simp
 ·rw[e9 hfj,JQ];simp
theorem zl{fa fb:FE}{ρ:aE}{b:Bool}{c:Bool}(h1:fa ρ=some (.bl b))(h2:b=true->fb ρ=some (.bl c)):qw fa fb ρ=some (.bl (b&&c)):=by
 rw[M6,h1];cases b with
 | true=>simp[h2 rfl,toBE_bl]
 | false=>simp[toBE_bl]
theorem F8(k i:Nat){a:fW}{f m:Nat}(h:rE a f m)(x:Str)(j:Nat):run bK (k+1) "touches" [eV i a,.str x,iN j]=some (.val (.bl (a.n==x&&(decide (f<=j)&&decide (j<f+m))))):=by
 rw[y8,bH];refine eS (rS (zl (b2 (x:=.str a.n) (y:=.str x) rfl rfl kL) λ_=>?_))
 have e4:ak (rd 0) (kI 4) bC [.val (eV i a),.val (.str x),.val (iN j)]=some (.int (f:Int)):=by rw[<-h.ef];rfl
 have e5:ak (rd 0) (kI 5) bC [.val (eV i a),.val (.str x),.val (iN j)]=some (.int (m:Int)):=by rw[<-h.em];rfl
 exact B7 e4 rfl (b2 e4 e5 rfl)
theorem NI(k i:Nat){a:fW}{f m:Nat}(h:rE a f m)(x:Str)(j:Nat):run bK (k+2) "fills" [eV i a,.str x,iN j]=some (.val (.bl (flB a f m x j))):=by
 rw[FL,bH];refine eS (rS (zl (b2 (x:=.str a.w) (y:=.str "fill") rfl rfl kL) λ_=>zl (b:=!a.t) ?_ λ_=>g9 (cA rfl (cA rfl (cA rfl rfl))) rfl (F8 k i h x j) rfl))
 rfl
def Kx(a:fW)(f m:Nat)(x:Str)(j:Nat):Bool:=a.k==x || flB a f m x j
def SU(a:fW)(f m:Nat)(l:List Nat)(x:Str)(j:Nat):List (List bQ):=if Kx a f m x j=true then []else l.map λn=>kF n x j
theorem NJ(k i:Nat){a:fW}{f m:Nat}(h:rE a f m){l:List Nat}(hl:l.length<=2)(n:Nat)(x:Str)(j:Nat):run bK (k+3) "stays_empty" [eV i a,nT l,pF n x j]=some (.val (.ay ((SU a f m l x j).map dq))):=by
 rw[o5,bH];have hc:Gi (toB (ak (ak (rd 0) (kI 6) bC) (ak (rd 2) (kI 1) bC) nk)) (toB (aK (aW 3 (run bK (k+2) "fills")) (ae (rd 0) (ae (ak (rd 2) (kI 1) bC) (ae (ak (rd 2) (kI 2) bC) ao))))) [.val (eV i a),.val (nT l),.val (pF n x j)]=some (Kx a f m x j):=by
  rw[JL,bT (b2 (x:=.str a.k) (y:=.str x) rfl rfl kL),bo];unfold Kx;by_cases e:(a.k==x)=true
  ·rw[if_pos e,e];rfl
  ·rw[if_neg e];simp only[Ac]at e;rw[e,Bool.false_or];exact bT (g9 (cA rfl (cA rfl (cA rfl rfl))) rfl (NI k i h x j) rfl)
 unfold SU;by_cases hb:Kx a f m x j=true
 ·rw[if_pos hb];exact eS (wd (iT (hc.trans (by rw[hb])) (rS rfl)))
 ·rw[if_neg hb];refine eS (sq (iF (hc.trans (by simp only[Ac]at hb;rw[hb])) rfl) (rS (fF (cV (sV rfl rfl) (by rw[aB];lia) ?_))))
  rw[dX];exact de (e:=λn:Nat=>PV.int (n:Int)) λn _=>rfl
def lW(d:Kd):Nat:=if pH d=true then 1 else(lv (cX d)).length
theorem B8{d:Kd}(h:wC (cX d)):lW d<=100:=by
 unfold lW;have:=DM (cX d);have:=h.1;split<;>lia
def kr(R:List Rk):List (List bQ):=R.flatMap λr=>(List.range (lW r.2)).map λj=>kF 0 r.1 j
theorem B9(k:Nat)(F:PV)(told:av)(x:Str)(d:Kd)(x4:Ent)(hd:wC (cX d))(hk:3<=k)(ht:told.length<=90000):dP (run bK (k+1)) [.val F,.own told,.val (.str x),.val (gM d),x4]=some (.nx [.val F,.own (told++(List.range (lW d)).map λj=>pF 0 x j),.val (.str x),.val (gM d),.val (.int (lW d:Int))]):=by
 have hn:=B8 hd;unfold dP;have a0:xX (toB (aK (aW 1 (run bK (k+1) "is_holder")) (ae (rd 3) ao))) (kI 1) (lH (dh dZ (ae (aK (aW 1 (run bK (k+1) "leaves")) (ae (rd 3) ao)) ao))) [.val F,.own told,.val (.str x),.val (gM d),x4]=some (.int (lW d:Int)):=by
  refine iV (bT (g9 (cA rfl rfl) rfl (ko k d) rfl)) ?_;cases d with
  | ho b s=>rfl
  | ow s =>
   have h4:=eU.all (LA) s k (by have:=hd.2;exact bY this hk) (by have:=DM s;have:=hd.1;show(lv s).length<=_;have e:cX (.ow s)=s:=rfl;rw[e]at this;lia)
   have hv:dh dZ (ae (aK (aW 1 (run bK (k+1) "leaves")) (ae (rd 3) ao)) ao) (fm none [.val F,.own told,.val (.str x),.val (gM (.ow s)),x4])=some (.int ((lv s).length:Int)):=by
    refine bV (cA (g9 (cA rfl rfl) rfl h4 rfl) rfl) ?_;rw[JZ,gy]
   show(dh dZ _ (fm none _)).bind _=_;rw[hv];rfl
 refine sq (aS a0 rfl) ?_;refine mX rfl (fF (cV (gm (j:=(lW d:Int)) rfl (by lia)) (by simp;lia) ?_)) (by simp;lia)
 rw[eZ];refine de (e:=λi:Nat=>PV.int (0+(i:Int))) λj _=>?_
 show some (PV.aJ [.int 0,.str x,.int (0+(j:Int))])=_;rw[jm];rfl
theorem rG(k:Nat)(hk:3<=k)(F:PV):∀(R:List Rk) (told:av) (x2 x3 x4:Ent),(∀r∈R,wC (cX r.2))->told.length+100*R.length<=90000->∃K3 B6 wW,fG (gE 2 (b0 (aD 2) (b0 (aD 3) fP))) (dP (run bK (k+1))) (R.map d0) [.val F,.own told,x2,x3,x4]=some (.nx [.val F,.own (told++(kr R).map dq),K3,B6,wW])
 | [],told,x2,x3,x4,_,_=>⟨x2,x3,x4,by simp[kr]⟩
 | (x,d)::R,told,x2,x3,x4,h,hz=>by
  rw[aZ]at hz;have hd:wC (cX d):=h (x,d) bz;have hn:lW d<=100:=B8 hd;have hb:=B9 k F told x d x4 hd hk (by lia)
  obtain⟨y2,y3,y4,e⟩:=rG k hk F R (told++(List.range (lW d)).map λj=>pF 0 x j) (.val (.str x)) (.val (gM d)) (.val (.int (lW d:Int))) (λr hr=>h r (bE _ hr)) (by simp;lia)
  refine⟨y2,y3,y4,?_⟩;have ex:told++(kr ((x,d)::R)).map dq=(told++(List.range (lW d)).map λj=>pF 0 x j)++(kr R).map dq:=by
   unfold kr;rw[lz,c9,dX,fZ];rfl
  rw[bJ,ex];exact fC rfl hb e
theorem Cb(k:Nat)(hk:3<=k){nm res body:PV}{R1 R2:List Rk}(h:∀r∈R2,wC (cX r.2))(hz:R2.length<=100):run bK (k+2) "empty_at_first" [Ki nm res body R1 R2]=some (.own ((kr R2).map dq)):=by
 rw[lT,bH];obtain⟨x2,x3,x4,e⟩:=rG k hk (Ki nm res body R1 R2) R2 [] .un .un .un h (by simp;lia)
 rw[gS]at e;exact Fv (sq (sO rfl (by simp)) (sq (fS (sV rfl rfl) e) (Fw rfl)))
structure Tw (X:List Str) (Bd:Nat) (a:fW):Prop where
 at_:rE a a.f.toNat a.m.toNat
 emp:(a.w==(Str.ofString "empty"))=true->a.n∈X/\a.f.toNat+a.m.toNat<=Bd
abbrev NK(a:fW)(l:List Nat):List (List bQ):=SS a a.f.toNat a.m.toNat l
abbrev Tx(a:fW)(l:List Nat)(x:Str)(j:Nat):List (List bQ):=SU a a.f.toNat a.m.toNat l x j
section
variable {X:List Str} {Bd N:Nat} {as:List (Nat×fW)} {ls:List (List Nat)}
def cF(as:List (Nat×fW))(ls:List (List Nat))(n:Nat):List (List bQ):=match as[n]?,ls[n]? with
 | some q,some l=>NK q.2 l
 | _,_=>[]
theorem D0{a:fW}(h:Tw X Bd a){l:List Nat}(hl:l.length<=2):(NK a l).length<=2*Bd:=by
 unfold NK SS;split
 ·rename_i hw;have:=(h.emp hw).2;unfold rF;rw[zW];have e:(l.map λn=>((List.range a.m.toNat).map λj=>kF n a.n (a.f.toNat+j)).length)=l.map λ_=>a.m.toNat:=pN λn _=>by simp
  rw[e];have s:(l.map λ_=>a.m.toNat).sum=l.length*a.m.toNat:=by
   clear e hl;induction l with
   | nil=>simp
   | cons x l ih=>rw[bJ,List.sum_cons,ih,aZ,uY];lia
  rw[s];exact bY (Nat.mul_le_mul_right _ hl) (Nat.mul_le_mul_left _ (by lia))
 ·simp
def kU(N:Nat)(X:List Str)(Bd:Nat):List (List bQ):=(List.range N).flatMap λn=>X.flatMap λx=>(List.range Bd).map λj=>kF n x j
theorem rH{f:List bQ}:f∈kU N X Bd↔∃n x j,n<N/\x∈X/\j<Bd/\f=kF n x j:=by
 unfold kU;constructor
 ·intro h;obtain⟨n,hn,h⟩:=gA.mp h;obtain⟨x,hx,h⟩:=gA.mp h;obtain⟨j,hj,rfl⟩:=aY.mp h;exact⟨n,x,j,cZ.mp hn,hx,cZ.mp hj,rfl⟩
 ·rintro⟨n,x,j,hn,hx,hj,rfl⟩
  exact gA.mpr ⟨n,cZ.mpr hn,gA.mpr ⟨x,hx,aY.mpr ⟨j,cZ.mpr hj,rfl⟩⟩⟩
theorem uz{α:Type}(l:List α)(c:Nat):(l.map λ_=>c).sum=l.length*c:=by
 induction l with
 | nil=>simp
 | cons x l ih=>rw[bJ,List.sum_cons,ih,aZ,uY];lia
theorem Ky:(kU N X Bd).length=N*(X.length*Bd):=by
 unfold kU;rw[zW];have e:((List.range N).map λn=>(X.flatMap λx=>(List.range Bd).map λj=>kF n x j).length)=(List.range N).map λ_=>X.length*Bd:=pN λn _=>by
  rw[zW];have e:(X.map λx=>((List.range Bd).map λj=>kF n x j).length)=X.map λ_=>Bd:=pN λx _=>by simp
  rw[e,uz]
 rw[e,uz,fY]
theorem uA(k:Nat)(P I:PV)(hA:∀q∈as,Tw X Bd q.2)(H:Kw ls N)(hN:as.length=N)(hB:Bd<=10):∀(cs:List Nat) (told:av) (x3:Ent),(∀c∈cs,c<N)->told.length+20*cs.length<=90000 ->
  ∃B6,fG (aD 3) (iy (run bK (k+2))) (cs.map iN) [.val P,.val I,.own told,x3,.val (.ay (ls.map nT)),.val (.ay (as.map eN))]=some (.nx [.val P,.val I,.own (told++(cs.flatMap (cF as ls)).map dq),B6,.val (.ay (ls.map nT)),.val (.ay (as.map eN))])
 | [],told,x3,_,_=>⟨x3,by simp⟩
 | c::cs,told,x3,hc,hz=>by
  rw[aZ]at hz;have W3:=hc c bz;obtain⟨q,hq⟩:∃q,as[c]?=some q:=⟨_,cx (by lia)⟩
  obtain⟨l,hl⟩:∃l,ls[c]?=some l:=⟨_,cx (by rw[H.len];exact W3)⟩
  have ok:=hA q (b9 hq);have l2:=(H.ok l (b9 hl)).1;obtain⟨en,r1,r2⟩:=F7 k q.1 ok.at_ l2;have Iz:=D0 ok l2;have ec:cF as ls c=NK q.2 l:=by unfold cF;rw[hq,hl]
  have hb:iy (run bK (k+2)) [.val P,.val I,.own told,.val (iN c),.val (.ay (ls.map nT)),.val (.ay (as.map eN))]=some (.nx [.val P,.val I,.own (told++(cF as ls c).map dq),.val (iN c),.val (.ay (ls.map nT)),.val (.ay (as.map eN))]):=by
   unfold iy;rw[ec];refine mX rfl (g9 (cA (b2 (x:=.ay (as.map eN)) (y:=.int (c:Int)) rfl rfl (cJ (v:=eN q) (by rw[bU,hq];rfl))) (cA (b2 (x:=.ay (ls.map nT)) (y:=.int (c:Int)) rfl rfl (cJ (v:=nT l) (by rw[bU,hl];rfl))) rfl)) rfl r1 r2) ?_
   rw[aB]
   lia
  obtain⟨B6,e⟩:=uA k P I hA H hN hB cs (told++(cF as ls c).map dq) (.val (iN c)) (λd hd=>hc d (bE _ hd)) (by rw[bX,aB,ec];lia)
  refine⟨B6,?_⟩;rw[bJ,lz,c9,<-fZ];exact fC rfl hb e
abbrev lI(k:Nat)(as:List (Nat×fW))(ls:List (List Nat)):List bQ->Option (List (List bQ)):=vJ (aK (aW 3 (run bK (k+3) "stays_empty")) (ae (ak (rd 2) (ak (rd 0) (kI 0) bC) bC) (ae (ak (rd 1) (ak (rd 0) (kI 0) bC) bC) (ae (rd 0) ao)))) [.val (.ay (ls.map nT)),.val (.ay (as.map eN))]
theorem D3(k:Nat){n:Nat}{q:Nat×fW}{l:List Nat}(hq:as[n]?=some q)(hl:ls[n]?=some l)(ok:Tw X Bd q.2)(l2:l.length<=2)(x:Str)(j:Nat):lI k as ls (kF n x j)=some (Tx q.2 l x j):=by
 refine DS ?_ λf hf=>?_
 ·exact g9 (cA (b2 (x:=.ay (as.map eN)) (y:=.int (n:Int)) rfl rfl (cJ (v:=eN q) (by rw[bU,hq];rfl))) (cA (b2 (x:=.ay (ls.map nT)) (y:=.int (n:Int)) rfl rfl (cJ (v:=nT l) (by rw[bU,hl];rfl))) (cA rfl rfl))) rfl (NJ k q.1 ok.at_ l2 n x j) rfl
 ·unfold Tx SU at hf;split at hf
  ·cases hf
  ·obtain⟨m,_,rfl⟩:=aY.mp hf;show 3<1000
   lia
theorem m4{α β:Type}(f:α->List β)(c:Nat):∀l:List α,(∀x∈l,(f x).length<=c)->(l.flatMap f).length<=l.length*c
 | [],_=>by simp
 | x::l,h=>by
  have:=h x bz;have:=m4 f c l λy hy=>h y (bE _ hy)
  rw[lz,bX,aZ,uY]
  lia
theorem F9(k:Nat){fs:av}{I:Int}{nm res body:PV}{R1 R2:List Rk}{cs:List Nat}(hk:3<=k)(hP:atI fs I=some (Ki nm res body R1 R2))(hR:∀r∈R2,wC (cX r.2))(hz:R2.length<=100)
  (hX:∀r∈R2,r.1∈X/\lW r.2<=Bd) (hAc:run bK (k+3) "acts" [.aJ fs,.int I]=some (.own (as.map eN))) (hNx:run bK (k+3) "nexts" [.aJ fs,.int I]=some (.own (ls.map nT))) (hC:run bK (k+3) "come_to" [.aJ fs,.int I]=some (.val (.ay (cs.map iN))))
  (hA:∀q∈as,Tw X Bd q.2) (H:Kw ls N) (hN:as.length=N) (hB:Bd<=10) (hU:N*(X.length*Bd)<5000) (hcs:∀c∈cs,c<N) (hcl:cs.length<128) :
  ∃told:eJ,run bK (k+4) "empties" [.aJ fs,.int I]=some (.val (.ay (told.map toldP)))/\(∀t∈told,t.1∈kU N X Bd)/\Nq (lI k as ls) (kr R2++cs.flatMap (cF as ls)) told/\yW (lI k as ls) told told.length/\(told.map (·.1)).Nodup/\∀f∈kr R2++cs.flatMap (cF as ls),f∈told.map (·.1):=by
 have l1:(kr R2).length<=10000:=by
  have:=m4 (λr:Rk=>(List.range (lW r.2)).map λj=>kF 0 r.1 j) 10 R2 λr hr=>by
   rw[aB,fY];exact bY (hX r hr).2 hB
  unfold kr
  lia
 have lc:∀c∈cs,(cF as ls c).length<=20:=λc hc=>by
  have W3:=hcs c hc;obtain⟨q,hq⟩:∃q,as[c]?=some q:=⟨_,cx (by lia)⟩
  obtain⟨l,hl⟩:∃l,ls[c]?=some l:=⟨_,cx (by rw[H.len];exact W3)⟩
  have:=D0 (hA q (b9 hq)) (H.ok l (b9 hl)).1;unfold cF;rw[hq,hl];show(NK q.2 l).length<=20
  lia
 have l3:=m4 (cF as ls) 20 cs lc;have Bm:∀g∈kU N X Bd,∃fs,lI k as ls g=some fs/\(∀f∈fs,f∈kU N X Bd)/\fs.length<=2:=λg hg=>by
  obtain⟨n,x,j,hn,hx,hj,rfl⟩:=rH.mp hg;obtain⟨q,hq⟩:∃q,as[n]?=some q:=⟨_,cx (by lia)⟩
  obtain⟨l,hl⟩:∃l,ls[n]?=some l:=⟨_,cx (by rw[H.len];exact hn)⟩
  obtain⟨o1,o2⟩:=H.ok l (b9 hl);refine⟨_,D3 k hq hl (hA q (b9 hq)) o1 x j,λf hf=>?_,?_⟩
  ·unfold Tx SU at hf;split at hf
   ·cases hf
   ·obtain⟨m,hm,rfl⟩:=aY.mp hf;exact rH.mpr ⟨m,x,j,o2 m hm,hx,hj,rfl⟩
  ·unfold Tx SU;split
   ·simp
   ·rw[aB];exact o1
 have wJ:∀f∈kr R2++cs.flatMap (cF as ls),f∈kU N X Bd:=λf hf=>by
  rcases dM.mp hf with hf | hf
  ·obtain⟨r,hr,hf⟩:=gA.mp hf;obtain⟨j,hj,rfl⟩:=aY.mp hf;have:=(hX r hr).2;exact rH.mpr ⟨0,r.1,j,H.pos,(hX r hr).1,by have:=cZ.mp hj;lia,rfl⟩
  ·obtain⟨c,hc,hf⟩:=gA.mp hf;have W3:=hcs c hc;obtain⟨q,hq⟩:∃q,as[c]?=some q:=⟨_,cx (by lia)⟩
   obtain⟨l,hl⟩:∃l,ls[c]?=some l:=⟨_,cx (by rw[H.len];exact W3)⟩
   have ec:cF as ls c=NK q.2 l:=by unfold cF;rw[hq,hl]
   rw[ec]at hf;unfold NK SS at hf;split at hf
   ·rename_i hw;obtain⟨e1,e2⟩:=(hA q (b9 hq)).emp hw;obtain⟨n,hn,hf⟩:=gA.mp hf;obtain⟨j,hj,rfl⟩:=aY.mp hf;exact rH.mpr ⟨n,q.2.n,_,(H.ok l (b9 hl)).2 n hn,e1,by have:=cZ.mp hj;lia,rfl⟩
   ·cases hf
 obtain⟨told,t1,t2,t3,t4,t5,t6⟩:=rh (lI k as ls) (kr R2++cs.flatMap (cF as ls)) (kU N X Bd) 2 (by rw[Ky,q8];lia) (by rw[Ky];exact hU) Bm wJ
 refine⟨told,?_,t3,t4,t5,t2,t6⟩;have abu:=Cb (k+1) (by lia) (nm:=nm) (res:=res) (body:=body) (R1:=R1) hR hz
 obtain⟨B6,e⟩:=uA (k+1) (.aJ fs) (.int I) hA H hN hB cs ((kr R2).map dq) .un hcs (by rw[aB];lia)
 rw[<-c9]at e;rw[zb,bH];refine eS (sq (aS (g9 (cA rfl (cA rfl rfl)) rfl hAc rfl) rfl) (sq (aS (g9 (cA rfl (cA rfl rfl)) rfl hNx rfl) rfl) (sq (sR (clQ (cA (b2 rfl rfl hP) rfl) rfl abu rfl) (by simp)) (sq (fS (sV (g9 (cA rfl (cA rfl rfl)) rfl hC rfl) rfl) e) ?_))))
 refine rS (fF (ri (fk:=kr R2++cs.flatMap (cF as ls)) rfl (λf hf=>?_) (by rw[bX,q8];lia) t1))
 obtain⟨n,x,j,_,_,_,rfl⟩:=rH.mp (wJ f hf);show 3<1000
 lia
end
theorem m5{c:f9}(S:Ent):∀(ps:List Sh) (told:av) (x2:Ent),(∀s∈ps,c "_law_leaves" [enc s]=some (.val (.ay (da (lv s)))))->told.length+(iO ps).length<=90000->∃K3,fG (aD 2) (iA c) (da ps) [S,.val (.ay told),x2]=some (.nx [S,.val (.ay (told++da (iO ps))),K3])
 | [],told,x2,_,_=>⟨x2,by simp[da,iO]⟩
 | s::ps,told,x2,h,hz=>by
  simp only[iO,bX]at hz;have hb:iA c [S,.val (.ay told),.val (enc s)]=some (.nx [S,.val (.ay (told++da (lv s))),.val (enc s)]):=by
   unfold iA;exact aS (b2 rfl (g9 (cA rfl rfl) rfl (h s bz) rfl) (aL (by rw[gy];lia))) rfl
  obtain⟨K3,e⟩:=m5 S ps (told++da (lv s)) (.val (enc s)) (λt ht=>h t (bE _ ht)) (by rw[bX,gy];lia)
  refine⟨K3,?_⟩;have ex:told++da (iO (s::ps))=told++da (lv s)++da (iO ps):=by
   simp only[iO,hG,c9,fZ]
  rw[ex];show fG _ _ (enc s::da ps) _=_;exact fC rfl hb e
theorem jE(k:Nat){s:Sh}(h:lQ s=true):run bK (k+1) "_law_leaves" [enc s]=some (.val (.ay [enc s])):=by
 rw[oM,bH];have h0:ak (rd 0) (kI 0) bC [.val (enc s),.un,.un]=some (.str (Pe s)):=b2 rfl rfl (wx (.ow s));exact eS (wd (iT (bT (b2 h0 rfl ((Kq s).trans (by rw[h])))) (rS rfl)))
mutual
theorem uB:∀(s:Sh) (k:Nat),dp s<=k->(lv s).length<=90000->run bK (k+1) "_law_leaves" [enc s]=some (.val (.ay (da (lv s))))
 | .num,k,_,_=>by rw[jE k rfl];simp[lv,da]
 | .own,k,_,_=>by rw[jE k rfl];simp[lv,da]
 | .dI n,k,_,_=>by rw[jE k rfl];simp[lv,da]
 | .bI ps,0,hd,_=>by simp[dp]at hd
 | .bI ps,k+1,hd,hz=>by
  simp only[dp]at hd;simp only[lv]at hz;rw[oM,bH];have h0:ak (rd 0) (kI 0) bC [.val (enc (.bI ps)),.un,.un]=some (.str (Pe (.bI ps))):=b2 rfl rfl (wx (.ow (.bI ps)));obtain⟨K3,e⟩:=m5 (c:=run bK (k+1)) (.val (enc (.bI ps))) ps [] .un (ku ps k (by lia) hz) (by simp;lia)
  rw[gS]at e;refine eS (sq (iF (bT (b2 h0 rfl (Kq (.bI ps)))) rfl) (sq (aS (fF rfl) rfl) (sq (fS (sV (b2 rfl rfl rfl) rfl) e) (rS ?_))));simp only[lv];rfl
theorem ku:∀(ps:List Sh) (k:Nat),sy ps<=k->(iO ps).length<=90000->∀s∈ps,run bK (k+1) "_law_leaves" [enc s]=some (.val (.ay (da (lv s))))
 | [],_,_,_,s,hs=>by cases hs
 | p::r,k,hd,hz,s,hs=>by
  simp only[sy]at hd;simp only[iO,bX]at hz;rcases aX.mp hs with e | e
  ·rw[e];exact uB p k (by lia) (by lia)
  ·exact ku r k (by lia) (by lia) s e
end
def mxA:Nat->Int×Int
 | 0=>(48271,2147483647)
 | 1=>(69621,998244353)
 | 2=>(40692,1000000007)
 | _=>(16807,2147483629)
def wK(c:Int)(i:Nat):Int:=(c%1000000000039+(i:Int))*(mxA i).1%(mxA i).2
theorem Kz(c:Int)(i:Nat):0<=wK c i:=jT _ (by
 unfold mxA;split<;>decide)
theorem wL(k:Nat)(c:Int){i:Nat}(hi:i<4):run bK (k+1) "_law_mixed" [.int c,.int (i:Int)]=some (.val (.int (wK c i))):=by
 rw[BP,bH];have h0:=jT c (show(1000000000039:Int)≠0 by decide)
 have h1:=nv c (show(0:Int)<1000000000039 by decide)
 have hm:fq (.int c) (.int 1000000000039)=some (.int (c%1000000000039)):=jD (by decide)
 match i,hi with
 | 0,_=>exact eS (sq (aS (p:=.aJ [.int 48271,.int 2147483647]) rfl rfl) (rS (b2 (b2 (b2 (b2 rfl rfl hm) rfl rfl) rfl (jx (by decide))) rfl (jD (by decide)))))
 | 1,_=>exact eS (sq (aS (p:=.aJ [.int 69621,.int 998244353]) rfl rfl) (rS (b2 (b2 (b2 (b2 rfl rfl hm) rfl rfl) rfl (jx (by decide))) rfl (jD (by decide)))))
 | 2,_=>exact eS (sq (aS (p:=.aJ [.int 40692,.int 1000000007]) rfl rfl) (rS (b2 (b2 (b2 (b2 rfl rfl hm) rfl rfl) rfl (jx (by decide))) rfl (jD (by decide)))))
 | 3,_=>exact eS (sq (aS (p:=.aJ [.int 16807,.int 2147483629]) rfl rfl) (rS (b2 (b2 (b2 (b2 rfl rfl hm) rfl rfl) rfl (jx (by decide))) rfl (jD (by decide)))))
 | n+4,h=>lia
abbrev zm:PV:=.str "abcdefghijklmnopqrstuvwxyz"
def SV(B:List Int)(pl q i:Nat):Nat:=cp (B.getD i 0+(q:Int)*(if i=pl then 1 else 0))
def D4(B:List Int)(pl q:Nat):Str:=fK ((List.range B.length).map (SV B pl q))
section
variable (c:f9) (x0 x1:Ent) (B:List Int) (pl q:Nat)
theorem zo(F:av)(i:Nat)(hi:i<B.length)(N:List Nat)(hN:N.length<=100)(hq:q<=100):jA c [x0,x1,.val zm,.val (iN B.length),.val (iN pl),.val (iN i),.val (.ay (B.map .int)),.own F,.val (iN q),.val (.str (fK N))]=some (.nx [x0,x1,.val zm,.val (iN B.length),.val (iN pl),.val (iN i),.val (.ay (B.map .int)),.own F,.val (iN q),.val (.str (fK (N++[SV B pl q i])))]):=by
 unfold jA;have hb:atI (B.map PV.int) (i:Int)=some (.int (B.getD i 0)):=cJ (by rw[bU,zH,cx hi];rfl)
 have he:A4 [.bl (decide ((i:Int)=(pl:Int)))]=some (.int (if i=pl then 1 else 0)):=by
  by_cases h:i=pl
  ·rw[fg (by lia),if_pos h];rfl
  ·rw[e9 (by lia),if_neg h];rfl
 have hm:gJ (.int (q:Int)) (.int (if i=pl then 1 else 0))=some (.int ((q:Int)*(if i=pl then 1 else 0))):=jx (by split<;>decide)
 have hs:ck (.str (fK N)) (.str (lt (B.getD i 0+(q:Int)*(if i=pl then 1 else 0))))=some (.str (fK (N++[SV B pl q i]))):=by
  rw[Kg,WZ,BH,DP,DP,oe (mQ (by simp;lia))]
  rfl
 refine aS (b2 (x:=.str (fK N)) rfl (b2 (x:=zm) rfl (b2 (b2 (b2 (x:=.ay (B.map .int)) (y:=.int (i:Int)) rfl rfl hb) (b2 (x:=.int (q:Int)) rfl (bV (cA (b2 (x:=.int (i:Int)) (y:=.int (pl:Int)) rfl rfl kK) rfl) he) hm) ja) rfl (jD (by decide))) (Fy _)) hs) rfl
theorem oN(F:av)(hq:q<=100):∀(zF pre:List Nat) (x5:Ent),List.range B.length=pre++zF->B.length<=50->∃zg,fG (aD 5) (jA c) (zF.map fun(i:Nat)=>PV.int (0+(i:Int))) [x0,x1,.val zm,.val (iN B.length),.val (iN pl),x5,.val (.ay (B.map .int)),.own F,.val (iN q),.val (.str (fK (pre.map (SV B pl q))))]=some (.nx [x0,x1,.val zm,.val (iN B.length),.val (iN pl),zg,.val (.ay (B.map .int)),.own F,.val (iN q),.val (.str (D4 B pl q))])
 | [],pre,x5,e,_=>⟨x5,by unfold D4;rw[e,fH];rfl⟩
 | i::zF,pre,x5,e,hl=>by
  have hi:i<B.length:=cZ.mp (by rw[e];simp)
  have hp:pre.length<=B.length:=by
   have:=dw List.length e;rw[fY,bX]at this
   lia
  have hb:=zo c x0 x1 B pl q F i hi (pre.map (SV B pl q)) (by rw[aB];lia) hq
  obtain⟨zg,h⟩:=oN F hq zF (pre++[i]) (.val (iN i)) (by rw[e];simp) hl
  rw[c9]at h;refine⟨zg,?_⟩;rw[bJ,jm];exact fC rfl hb h
theorem Ga(F:av)(hF:F.length<=100)(hq:q<=100)(hl:B.length<=50)(x5 x9:Ent):∃zg,jB c [x0,x1,.val zm,.val (iN B.length),.val (iN pl),x5,.val (.ay (B.map .int)),.own F,.val (iN q),x9]=some (.nx [x0,x1,.val zm,.val (iN B.length),.val (iN pl),zg,.val (.ay (B.map .int)),.own (F++[.str (D4 B pl q)]),.val (iN q),.val (.str (D4 B pl q))]):=by
 obtain⟨zg,h⟩:=oN c x0 x1 B pl q F hq (List.range B.length) [] x5 rfl hl;refine⟨zg,?_⟩;unfold jB;have e0:b7 (kS "") (aD 9) [x0,x1,.val zm,.val (iN B.length),.val (iN pl),x5,.val (.ay (B.map .int)),.own F,.val (iN q),x9]=some (.nx [x0,x1,.val zm,.val (iN B.length),.val (iN pl),x5,.val (.ay (B.map .int)),.own F,.val (iN q),.val (.str (fK []))]):=by
  rw[<-DO];rfl
 have hr:fQ (ae (rd 3) ao) [x0,x1,.val zm,.val (iN B.length),.val (iN pl),x5,.val (.ay (B.map .int)),.own F,.val (iN q),.val (.str (fK []))]=some ((List.range B.length).map fun(i:Nat)=>PV.int (0+(i:Int))):=by
  rw[gm (j:=(B.length:Int)) rfl (by lia),eZ]
 exact sq e0 (sq (fS hr h) (mA (ps:=F) rfl rfl (by lia)))
end
theorem rJ(c:f9)(x0 x1:Ent)(B:List Int)(pl:Nat)(hl:B.length<=50):∀(qs:List Nat) (F:av) (x5 x8 x9:Ent),(∀q∈qs,q<=100)->F.length+qs.length<=100->∃zg x8' W4,fG (aD 8) (jB c) (qs.map fun(i:Nat)=>PV.int (0+(i:Int))) [x0,x1,.val zm,.val (iN B.length),.val (iN pl),x5,.val (.ay (B.map .int)),.own F,x8,x9]=some (.nx [x0,x1,.val zm,.val (iN B.length),.val (iN pl),zg,.val (.ay (B.map .int)),.own (F++qs.map λq=>PV.str (D4 B pl q)),x8',W4])
 | [],F,x5,x8,x9,_,_=>⟨x5,x8,x9,by simp⟩
 | q::qs,F,x5,x8,x9,hq,hz=>by
  rw[aZ]at hz;obtain⟨y5,h⟩:=Ga c x0 x1 B pl q F (by lia) (hq q bz) hl x5 x9
  obtain⟨z5,z8,z9,h2⟩:=rJ c x0 x1 B pl hl qs (F++[.str (D4 B pl q)]) y5 (.val (iN q)) (.val (.str (D4 B pl q))) (λr hr=>hq r (bE _ hr)) (by simp;lia)
  refine⟨z5,z8,z9,?_⟩;rw[bJ,jm,bJ,show F++PV.str (D4 B pl q)::qs.map (λq=>PV.str (D4 B pl q))=F++[PV.str (D4 B pl q)]++qs.map (λq=>PV.str (D4 B pl q)) by simp]
  exact fC rfl h h2
theorem NL{B:List Int}{pl q q':Nat}(hp:pl<B.length)(h1:q<26)(h2:q'<26)(h:D4 B pl q=D4 B pl q'):q=q':=by
 have h:=uu h;have at_:∀q:Nat,((List.range B.length).map (SV B pl q))[pl]?=some (cp (B.getD pl 0+(q:Int))):=λq=>by
  rw[bU,jQ hp];simp[SV]
 have e:=dw (λl=>l[pl]?) h
 simp only[at_]at e;have:=SF (bg e)
 lia
def wM(C:Int):Nat:=(1+C%8).toNat
def NO(C:Int):List Int:=(List.range (wM C)).map fun(i:Nat)=>(C/(64+9*(i:Int)*i)+5*(i:Int))%26
def SW(C:Int):Nat:=(C/8%(wM C:Int)).toNat
theorem pI(C:Int):(NO C).length=wM C:=by simp[NO]
theorem wN(C:Int):1<=wM C/\wM C<=8/\(wM C:Int)=1+C%8:=by unfold wM;lia
theorem KA(C:Int):SW C<(NO C).length/\(SW C:Int)=C/8%(wM C:Int):=by
 have h:=wN C;have h0:=jT (C/8) (show(wM C:Int)≠0 by lia)
 have h1:=nv (C/8) (show(0:Int)<(wM C:Int) by lia)
 rw[pI];unfold SW
 lia
def fM(C:Int)(q:Nat):Str:=D4 (NO C) (SW C) q
theorem NP{C:Int}{q q':Nat}(h1:q<26)(h2:q'<26)(h:fM C q=fM C q'):q=q':=NL (KA C).1 h1 h2 h
theorem kx(C:Int)(q:Nat):(fM C q==(Str.ofString ""))=false:=by
 rw[DO,lu];intro h;have:=dw List.length (uu h);rw[aB,fY,pI]at this;have:=wN C;simp at *
 lia
theorem Gb(C:Int)(x1 x2 x4 x5 x6 x7 x8 x9:Ent):cq (cW [none,none,some 0] (fQ (ae (rd 3) ao)) (aD 1) (ak (ak (ak (rd 2) (ak (kI 64) (ak (ak (kI 9) (rd 1) gJ) (rd 1) gJ) ck) iq) (ak (kI 5) (rd 1) gJ) ck) (kI 26) fq)) [.val (.int C),x1,x2,.val (iN (wM C)),x4,x5,x6,x7,x8,x9]=some (.ay ((NO C).map .int)):=by
 have hl:=wN C;have hr:fQ (ae (rd 3) ao) [.val (.int C),x1,x2,.val (iN (wM C)),x4,x5,x6,x7,x8,x9]=some ((List.range (wM C)).map fun(i:Nat)=>PV.int (0+(i:Int))):=by
  rw[gm (j:=(wM C:Int)) rfl (by lia),eZ]
 have hm:j4 (λp=>(aD 1 p [Ent.un,.un,.val (.int C)]).bind (ak (ak (ak (rd 2) (ak (kI 64) (ak (ak (kI 9) (rd 1) gJ) (rd 1) gJ) ck) iq) (ak (kI 5) (rd 1) gJ) ck) (kI 26) fq)) ((List.range (wM C)).map fun(i:Nat)=>PV.int (0+(i:Int)))=some ((NO C).map .int):=by
  unfold NO;rw[dX];refine de λi hi=>?_
  have hi:=cZ.mp hi;have hi7:i<=7:=by lia
  rw[jm];have h9:gJ (.int 9) (.int (i:Int))=some (.int (9*(i:Int))):=jx (by lia)
  have hmm:gJ (.int (9*(i:Int))) (.int (i:Int))=some (.int (9*(i:Int)*i)):=jx (by lia)
  have h5:gJ (.int 5) (.int (i:Int))=some (.int (5*(i:Int))):=jx (by lia)
  have XO:0<=9*(i:Int)*i/\9*(i:Int)*i<=441:=by
   have:i=0\/i=1\/i=2\/i=3\/i=4\/i=5\/i=6\/i=7:=by lia
   rcases this with rfl | rfl | rfl | rfl | rfl | rfl | rfl | rfl<;>simp
  show(aD 1 (.int (i:Int)) [Ent.un,.un,.val (.int C)]).bind _=_;have t:aD 1 (.int (i:Int)) [Ent.un,.un,.val (.int C)]=some [.un,.val (.int (i:Int)),.val (.int C)]:=rfl;rw[t,bo];exact b2 (b2 (b2 rfl (b2 rfl (b2 (b2 rfl rfl h9) rfl hmm) rfl) (W2 (by lia))) (b2 rfl rfl h5) rfl) rfl (jD (by lia))
 exact fF (cV hr (by simp;lia) hm)
theorem NQ(k:Nat)(C:Int):run bK (k+1) "_law_names" [.int C,.int 12]=some (.own ((List.range 12).map λq=>.str (fM C q))):=by
 have hl:=wN C;have hp:=KA C;rw[BQ,bH];obtain⟨x5,x8,x9,h⟩:=rJ (run bK k) (.val (.int C)) (.val (.int 12)) (NO C) (SW C) (by rw[pI];lia) (List.range 12) [] .un .un .un (λq hq=>by have:=cZ.mp hq;lia) (by simp)
 rw[pI,gS]at h;have a1:b7 (ak (kI 1) (ak (rd 0) (kI 8) fq) ck) (aD 3) [.val (.int C),.val (.int 12),.val zm,.un,.un,.un,.un,.un,.un,.un]=some (.nx [.val (.int C),.val (.int 12),.val zm,.val (iN (wM C)),.un,.un,.un,.un,.un,.un]):=by
  unfold iN;rw[hl.2.2];exact aS (b2 rfl (b2 rfl rfl (jD (by decide))) rfl) rfl
 have a2:b7 (ak (ak (rd 0) (kI 8) iq) (rd 3) fq) (aD 4) [.val (.int C),.val (.int 12),.val zm,.val (iN (wM C)),.un,.un,.un,.un,.un,.un]=some (.nx [.val (.int C),.val (.int 12),.val zm,.val (iN (wM C)),.val (iN (SW C)),.un,.un,.un,.un,.un]):=by
  unfold iN;rw[hp.2];exact aS (b2 (b2 rfl rfl (W2 (by decide))) rfl (jD (by lia))) rfl
 have hr:fQ (ae (rd 1) ao) [.val (.int C),.val (.int 12),.val zm,.val (iN (wM C)),.val (iN (SW C)),.un,.val (.ay ((NO C).map .int)),.own [],.un,.un]=some ((List.range 12).map fun(i:Nat)=>PV.int (0+(i:Int))):=gm (j:=12) rfl (by decide)
 exact Fv (sq (aS rfl rfl) (sq a1 (sq a2 (sq (aS (Gb C _ _ _ _ _ _ _ _) rfl) (sq (sO rfl (by simp)) (sq (fS hr h) (Fw rfl)))))))
def gN(c:Int):Sh:=match(c%7).toNat with
 | 0=>.bI [.num,.num]
 | 1=>.own
 | 2=>.dI (1+c/7%8)
 | 3=>.num
 | 4=>.bI [.num,.own]
 | 5=>.bI [.dI (1+c/7%8),.own]
 | _=>.bI [.bI [.num,.num],.dI (1+c/7%8)]
def hZ(s:Sh):Prop:=Ku s/\(lv s).length<=3
theorem kP(c:Int):hZ (gN c):=by
 have h8:0<1+c/7%8/\1+c/7%8<=8:=by lia
 have:c%7=0\/c%7=1\/c%7=2\/c%7=3\/c%7=4\/c%7=5\/c%7=6:=by lia
 unfold gN;rcases this with h | h | h | h | h | h | h<;>rw[h]<;>simp[hZ,Ku,wC,tab,tabs,dp,sy,pos,Kt,lv,iO,h8]
theorem KC:hZ .num:=by simp[hZ,Ku,wC,tab,dp,pos,lv]
theorem KD{s:Sh}(h:hZ s){r:Rw}(hr:r∈tab s):hZ r.2.2.2:=by
 obtain⟨⟨h1,h2⟩,h3⟩:=h;exact⟨⟨SQ h1 hr,zh s h2 r hr⟩,bY (wA s r hr).2 h3⟩
theorem NR(k:Nat)(c:Int):run bK (k+1) "_law_shape" [.int c]=some (.val (enc (gN c))):=by
 rw[BR,bH];obtain⟨n,hn⟩:∃n,n=1+c/7%8:=⟨_,rfl⟩
 have a1:b7 (bM (ae (kS "strip") (ae (ak (kI 1) (ak (ak (rd 0) (kI 7) iq) (kI 8) fq) ck) ao))) (aD 1) [.val (.int c),.un,.un,.un]=some (.nx [.val (.int c),.val (sP n),.un,.un]):=by
  rw[hn];exact aS (tU (cA rfl (cA (b2 rfl (b2 (b2 rfl rfl (W2 (by decide))) rfl (jD (by decide))) rfl) rfl)) (by simp)) rfl
 have hi:bC (.ay ([tP,oP,sP n,nP,.aJ [.str "rec",.aJ [nP,oP]],.aJ [.str "rec",.aJ [sP n,oP]]]++[.aJ [.str "rec",.aJ [tP,sP n]]])) (.int (c%7))=some (enc (gN c)):=by
  have:c%7=0\/c%7=1\/c%7=2\/c%7=3\/c%7=4\/c%7=5\/c%7=6:=by lia
  unfold gN;rcases this with h | h | h | h | h | h | h<;>rw[h,hn]<;>rfl
 exact eS (sq a1 (sq (aS (p:=tP) rfl rfl) (sq (aS (p:=.ay [tP,oP,sP n,nP,.aJ [.str "rec",.aJ [nP,oP]],.aJ [.str "rec",.aJ [sP n,oP]]]) rfl rfl) (rS (b2 (b2 (x:=.ay [tP,oP,sP n,nP,.aJ [.str "rec",.aJ [nP,oP]],.aJ [.str "rec",.aJ [sP n,oP]]]) (y:=.ay [.aJ [.str "rec",.aJ [tP,sP n]]]) rfl rfl (aL (by simp))) (b2 rfl rfl (jD (by decide))) hi)))))
def jd(r:Rw):PV:=.aJ [.aJ (r.1.map .int),enc r.2.2.2]
theorem rK(c:f9)(S:Ent):∀(zF:List Sh) (i:Nat) (acc:List Rw) (a:Int) (o2 o3:Ent),(∀s∈zF,c "_law_parts" [enc s]=some (.val (.ay ((tab s).map jd))))->acc.length+iP zF<=1000 ->
  ∃o2' o3',fG (gE 2 (b0 (aD 2) (b0 (aD 3) fP))) (jC c) (gu i (da zF)) [S,.val (.ay (acc.map jd)),o2,o3]=some (.nx [S,.val (.ay ((acc++tabs i a zF).map jd)),o2',o3'])
 | [],i,acc,a,o2,o3,_,_=>⟨o2,o3,by simp[da,gu,tabs]⟩
 | s::zF,i,acc,a,o2,o3,h,hz=>by
  have h1:=h s bz;simp only[iP]at hz;obtain⟨o2',o3',e⟩:=rK c S zF (i+1) (acc++(tab s).map (mU i a)) (a+sz s) (.val (.int (i:Int))) (.val (enc s)) (λs hs=>h s (bE _ hs)) (by rw[bX,aB];lia)
  refine⟨o2',o3',?_⟩;rw[Ks,<-fZ];have hp:∀r∈tab s,r.1.length<=1000:=λr hr=>by have:=DN s r hr;have:=Pc s;lia
  have hm:j4 (λp=>(gE 2 (b0 (aD 1) (b0 (aD 2) fP)) p (bB [none,none,none,some 2] [S,.val (.ay (acc.map jd)),.val (.int (i:Int)),.val (enc s)])).bind (bM (ae (ak (bM (ae (rd 3) ao)) (rd 1) ck) (ae (rd 2) ao)))) ((tab s).map jd)=some (((tab s).map (mU i a)).map jd):=by
   rw[dX];refine de λr hr=>?_
   have hl:=hp r hr;have t:gE 2 (b0 (aD 1) (b0 (aD 2) fP)) (jd r) (bB [none,none,none,some 2] [S,.val (.ay (acc.map jd)),.val (.int (i:Int)),.val (enc s)])=some [.un,.val (.aJ (r.1.map .int)),.val (enc r.2.2.2),.val (.int (i:Int))]:=rfl;rw[t,bo];exact tU (cA (b2 (tU (cA rfl rfl) (by simp)) rfl (aT (by simp only[aZ,pT,aB];lia))) (cA rfl rfl)) (by simp)
  have body:jC c [S,.val (.ay (acc.map jd)),.val (.int (i:Int)),.val (enc s)]=some (.nx [S,.val (.ay ((acc++(tab s).map (mU i a)).map jd)),.val (.int (i:Int)),.val (enc s)]):=by
   unfold jC;rw[c9];exact aS (b2 rfl (fF (cV (sV (g9 (cA rfl rfl) rfl h1 rfl) rfl) (by simp only[aB];lia) hm)) (aL (by simp only[aB];lia))) rfl
  exact fC (eM:=[S,.val (.ay (acc.map jd)),.val (.int (i:Int)),.val (enc s)]) rfl body e
theorem oO(s:Sh)(x1 x2 x3:Ent):b7 (cq (dG (ae (bM (ae (bM ao) (ae (rd 0) ao))) ao))) (aD 1) [.val (enc s),x1,x2,x3]=some (.nx [.val (enc s),.val (.ay [jd ([],0,sz s,s)]),x2,x3]):=aS (fF (lS (cA (tU (cA rfl (cA rfl rfl)) (by simp)) rfl) (by simp))) rfl
theorem lV(k:Nat){s:Sh}(h:lQ s=true):run bK (k+1) "_law_parts" [enc s]=some (.val (.ay ((tab s).map jd))):=by
 rw[rl,bH];have he:=Kr s;rw[h]at he;rw[J2 h];exact eS (sq (oO s .un .un .un) (sq (iF (bT (b2 (b2 rfl rfl (Pf s)) rfl he)) rfl) (rS rfl)))
theorem Gd(k:Nat){ps:List Sh} (h:∀s∈ps,run bK k "_law_parts" [enc s]=some (.val (.ay ((tab s).map jd)))) (hl:iP ps<=900):run bK (k+1) "_law_parts" [enc (.bI ps)]=some (.val (.ay ((tab (.bI ps)).map jd))):=by
 rw[rl,bH];have he:=Kr (.bI ps);obtain⟨o2,o3,e⟩:=rK (run bK k) (.val (enc (.bI ps))) ps 0 [([],0,sz (.bI ps),.bI ps)] 0 .un .un h (by simp;lia)
 have ht:tab (.bI ps)=[([],0,sz (.bI ps),.bI ps)]++tabs 0 0 ps:=by simp[tab,sz,lv]
 rw[ht];refine eS (sq (oO (.bI ps) .un .un .un) (sq (iT (bT (b2 (b2 rfl rfl (Pf (.bI ps))) rfl he)) (fS ?_ e)) (rS rfl)));show((ak (rd 0) (kI 1) bC) _).bind _=_;rw[b2 rfl rfl (show bC (enc (.bI ps)) (.int 1)=some (.aJ (da ps)) by simp[enc])]
 rfl
mutual
theorem D5:∀(s:Sh) (k:Nat),dp s<=k->(tab s).length<=900->run bK (k+1) "_law_parts" [enc s]=some (.val (.ay ((tab s).map jd)))
 | .num,k,_,_=>lV k rfl
 | .own,k,_,_=>lV k rfl
 | .dI n,k,_,_=>lV k rfl
 | .bI ps,0,hd,_=>by simp[dp]at hd
 | .bI ps,k+1,hd,hz=>by
  have hl:(tab (.bI ps)).length=iP ps+1:=by simp only[tab,aZ,hJ]
  have u6:sy ps<=k:=by simp only[dp]at hd;lia
  exact Gd (k+1) (λs hs=>zq ps k u6 (by lia) s hs) (by lia)
theorem zq:∀(ps:List Sh) (k:Nat),sy ps<=k->iP ps<=900->∀s∈ps,run bK (k+1) "_law_parts" [enc s]=some (.val (.ay ((tab s).map jd)))
 | [],_,_,_,s,hs=>by cases hs
 | p::r,k,hd,hz,s,hs=>by
  simp only[sy]at hd;simp only[iP]at hz;rcases aX.mp hs with e | e
  ·rw[e];exact D5 p k (by lia) (by lia)
  ·exact zq r k (by lia) (by lia) s e
end
def mC(ns:List Int)(i:Nat):Int:=wK (cell ns (1+i)) (i%4)
abbrev NM(C:Int):PV:=.ay ((List.range 12).map λq=>.str (fM C q))
abbrev CE(ns:List Int):PV:=.ay ((List.range 7).map λi=>.int (mC ns i))
def Gp(ns:List Int):List Sh:=[.num,gN (mC ns 0),gN (mC ns 1),gN (mC ns 2)]
abbrev OE(ns:List Int):PV:=.ay ((Gp ns).map enc)
theorem uC(C:Int){q:Nat}(h:q<12):bC (NM C) (.int (q:Int))=some (.str (fM C q)):=cJ (by rw[bU,jQ h];rfl)
theorem Pk(ns:List Int){q:Nat}(h:q<7):bC (CE ns) (.int (q:Int))=some (.int (mC ns q)):=cJ (by rw[bU,jQ h];rfl)
theorem SX(ns:List Int):∀s∈Gp ns,hZ s:=λs hs=>by
 simp only[Gp,aX,dB,dC]at hs;rcases hs with rfl | rfl | rfl | rfl
 ·exact KC
 ·exact kP _
 ·exact kP _
 ·exact kP _
theorem m6(k:Nat)(hk:3<=k)(C:Int)(ns:List Int)(S:Ent){i:Nat}(hi:i<4)(acc:av)(ha:acc.length<=100)(o6 o7:Ent):∃(d:Kd) (o6' o7':Ent),oo (run bK (k+1)) [S,.val (NM C),.val (.int (i:Int)),.val (CE ns),.val (OE ns),.own acc,o6,o7]=some (.nx [S,.val (NM C),.val (.int (i:Int)),.val (CE ns),.val (OE ns),.own (acc++[d0 (fM C (4+i),d)]),o6',o7'])/\pH d=true/\hZ (cX d):=by
 obtain⟨m,hm⟩:∃m,m=mC ns (3+i):=⟨_,rfl⟩
 have hc:=Pk ns (q:=3+i) (by lia)
 rw[<-hm]at hc;obtain⟨CC,W5⟩:∃CC,CC=CE ns:=⟨_,rfl⟩
 rw[<-W5]at hc;rw[<-W5];have hn:=uC C (q:=4+i) (by lia)
 obtain⟨NN,Gq⟩:∃NN,NN=NM C:=⟨_,rfl⟩
 rw[<-Gq]at hn;rw[<-Gq];have h3:ck (.int 3) (.int (i:Int))=some (.int ((3+i:Nat):Int)):=by
  rw[ja];exact dw (λz=>some (PV.int z)) (by lia)
 have h4:ck (.int 4) (.int (i:Int))=some (.int ((4+i:Nat):Int)):=by
  rw[ja];exact dw (λz=>some (PV.int z)) (by lia)
 obtain⟨s,hs,qM⟩:∃s∈Gp ns,bC (OE ns) (.int (1+m%3))=some (enc s):=by
  have:m%3=0\/m%3=1\/m%3=2:=by lia
  rcases this with h | h | h
  ·rw[h];exact⟨gN (mC ns 0),by simp[Gp],(cJ (j:=1) rfl:atI ((Gp ns).map enc) ((1:Nat):Int)=_)⟩
  ·rw[h];exact⟨gN (mC ns 1),by simp[Gp],(cJ (j:=2) rfl:atI ((Gp ns).map enc) ((2:Nat):Int)=_)⟩
  ·rw[h];exact⟨gN (mC ns 2),by simp[Gp],(cJ (j:=3) rfl:atI ((Gp ns).map enc) ((3:Nat):Int)=_)⟩
 have fs:=SX ns s hs;obtain⟨OO,W6⟩:∃OO,OO=OE ns:=⟨_,rfl⟩
 rw[<-W6]at qM;rw[<-W6];have hp:=D5 s k (by have:=fs.1.1.2;lia) (by have:=fs.1.1.1;lia)
 obtain⟨r,hr,hra⟩:=NF (tab s) jd (m/9) (wj s);have hz:0<(((tab s).map jd).length:Int):=by have:=wj s;rw[aB];lia
 obtain⟨T,hT⟩:∃T,T=(tab s).map jd:=⟨_,rfl⟩
 rw[<-hT]at hp hra hz;obtain⟨b,hb⟩:∃b:Bool,bC (.ay [.str "lent",.str "sole",.str "sole"]) (.int (m/3%3))=some (.str (hw b)):=by
  have:m/3%3=0\/m/3%3=1\/m/3%3=2:=by lia
  rcases this with h | h | h
  ·rw[h];exact⟨false,rfl⟩
  ·rw[h];exact⟨true,rfl⟩
  ·rw[h];exact⟨true,rfl⟩
 refine⟨.ho b r.2.2.2,.val (.ay T),.val (.str (hw b)),?_,rfl,KD fs hr⟩;unfold oo;have c0:∀(x6 x7:Ent),ak (rd 3) (ak (kI 3) (rd 2) ck) bC [S,.val NN,.val (.int (i:Int)),.val CC,.val OO,.own acc,x6,x7]=some (.int m):=λx6 x7=>b2 (x:=CC) rfl (b2 (x:=.int 3) (y:=.int (i:Int)) rfl rfl h3) hc
 refine sq (aS (g9 (as:=[enc s]) (cA (b2 (x:=OO) rfl (b2 (x:=.int 1) rfl (b2 (c0 _ _) rfl (jD (by decide))) ja) qM) rfl) rfl hp rfl) rfl) (sq (aS (b2 (x:=.ay [.str "lent",.str "sole",.str "sole"]) rfl (b2 (b2 (c0 _ _) rfl (W2 (by decide))) rfl (jD (by decide))) hb) rfl) ?_)
 exact mA rfl (tU (cA (b2 (x:=NN) rfl (b2 (x:=.int 4) (y:=.int (i:Int)) rfl rfl h4) hn) (cA (tU (cA rfl (cA (b2 (b2 (x:=.ay T) rfl (b2 (b2 (c0 _ _) rfl (W2 (by decide))) (show lH (dh dZ (ae (rd 6) ao)) _=some (.int (T.length:Int))from rfl) (jD hz)) hra) rfl rfl) rfl)) (by simp)) rfl)) (by simp)) (by lia)
theorem SY(k:Nat)(hk:3<=k)(C:Int)(ns:List Int):∃d4 d5 d6 d7:Kd,run bK (k+2) "_law_lets" [Fo ns,NM C]=some (.own (([(fM C 0,.ow .num),(fM C 1,.ow (gN (mC ns 0))),(fM C 2,.ow (gN (mC ns 1))),(fM C 3,.ow (gN (mC ns 2))),(fM C 4,d4),(fM C 5,d5),(fM C 6,d6),(fM C 7,d7)]:List Rk).map d0))/\(pH d4=true/\hZ (cX d4))/\(pH d5=true/\hZ (cX d5))/\(pH d6=true/\hZ (cX d6))/\(pH d7=true/\hZ (cX d7)):=by
 obtain⟨S,hS⟩:∃S,S=Fo ns:=⟨_,rfl⟩
 have jY:∀i:Nat,run bK (k+1) "_law_cell_at" [S,.int (i:Int)]=some (.val (.int (cell ns i))):=λi=>by rw[hS];exact Kp k ns i
 obtain⟨acc,si⟩:∃acc,acc=(([(fM C 0,.ow .num),(fM C 1,.ow (gN (mC ns 0))),(fM C 2,.ow (gN (mC ns 1))),(fM C 3,.ow (gN (mC ns 2)))]:List Rk).map d0):=⟨_,rfl⟩
 have hal:acc.length=4:=by rw[si];rfl
 obtain⟨d4,x6,x7,h4,i4⟩:=m6 k hk C ns (.val S) (i:=0) (by decide) acc (by lia) .un .un
 obtain⟨d5,y6,y7,h5,i5⟩:=m6 k hk C ns (.val S) (i:=1) (by decide) (acc++[d0 (fM C 4,d4)]) (by simp;lia) x6 x7
 obtain⟨d6,z6,z7,h6,i6⟩:=m6 k hk C ns (.val S) (i:=2) (by decide) (acc++[d0 (fM C 4,d4)]++[d0 (fM C 5,d5)]) (by simp;lia) y6 y7
 obtain⟨d7,v6,v7,h7,i7⟩:=m6 k hk C ns (.val S) (i:=3) (by decide) (acc++[d0 (fM C 4,d4)]++[d0 (fM C 5,d5)]++[d0 (fM C 6,d6)]) (by simp;lia) z6 z7
 refine⟨d4,d5,d6,d7,?_,i4,i5,i6,i7⟩;rw[FP,bH,<-hS];have c1:cq (cW [none,none,some 0] (fQ (ae (kI 7) ao)) (aD 1) (aK (aW 2 (run bK (k+1) "_law_mixed")) (ae (aK (aW 2 (run bK (k+1) "_law_cell_at")) (ae (rd 2) (ae (ak (kI 1) (rd 1) ck) ao))) (ae (ak (rd 1) (kI 4) fq) ao)))) [.val S,.val (NM C),.un,.un,.un,.un,.un,.un]=some (CE ns):=by
  have hr:fQ (ae (kI 7) ao) [.val S,.val (NM C),.un,.un,.un,.un,.un,.un]=some ((List.range 7).map fun(i:Nat)=>PV.int (0+(i:Int))):=gm (j:=7) rfl (by decide)
  refine fF (cV hr (by simp) (de λi hi=>?_))
  rw[jm];have t:aD 1 (.int (i:Int)) (bB [none,none,some 0] [.val S,.val (NM C),.un,.un,.un,.un,.un,.un])=some [.un,.val (.int (i:Int)),.val S]:=rfl;rw[t,bo];have h1:ck (.int 1) (.int (i:Int))=some (.int ((1+i:Nat):Int)):=by
   rw[ja];exact dw (λz=>some (PV.int z)) (by lia)
  have h2:fq (.int (i:Int)) (.int 4)=some (.int ((i%4:Nat):Int)):=by
   rw[jD (by decide)]
   exact dw (λz=>some (PV.int z)) (by lia)
  exact g9 (cA (g9 (cA rfl (cA (b2 rfl rfl h1) rfl)) rfl (jY (1+i)) rfl) (cA (b2 rfl rfl h2) rfl)) rfl (wL k (cell ns (1+i)) (i:=i%4) (by lia)) rfl
 have c2:ak (cq (dG (ae (bM (ae (kS "num") ao)) ao))) (cq (cW [none,none,some 3] (fQ (ae (kI 3) ao)) (aD 1) (aK (aW 1 (run bK (k+1) "_law_shape")) (ae (ak (rd 2) (rd 1) bC) ao)))) ck [.val S,.val (NM C),.un,.val (CE ns),.un,.un,.un,.un]=some (OE ns):=by
  have hr:fQ (ae (kI 3) ao) [.val S,.val (NM C),.un,.val (CE ns),.un,.un,.un,.un]=some ((List.range 3).map fun(i:Nat)=>PV.int (0+(i:Int))):=gm (j:=3) rfl (by decide)
  have hm:cq (cW [none,none,some 3] (fQ (ae (kI 3) ao)) (aD 1) (aK (aW 1 (run bK (k+1) "_law_shape")) (ae (ak (rd 2) (rd 1) bC) ao))) [.val S,.val (NM C),.un,.val (CE ns),.un,.un,.un,.un]=some (.ay ((List.range 3).map λi=>enc (gN (mC ns i)))):=by
   refine fF (cV hr (by simp) (de λi hi=>?_))
   have hi:=cZ.mp hi;rw[jm];have hc:=Pk ns (q:=i) (by lia)
   obtain⟨CC,W5⟩:∃CC,CC=CE ns:=⟨_,rfl⟩
   rw[<-W5]at hc;rw[<-W5];have t:aD 1 (.int (i:Int)) (bB [none,none,some 3] [.val S,.val (NM C),.un,.val CC,.un,.un,.un,.un])=some [.un,.val (.int (i:Int)),.val CC]:=rfl;rw[t,bo];exact g9 (cA (b2 (x:=CC) rfl rfl hc) rfl) rfl (NR k (mC ns i)) rfl
  exact b2 (x:=.ay [nP]) rfl hm (aL (by simp))
 have c3:mq 5 (cW [none,none,some 1,some 4] (fQ (ae (kI 4) ao)) (aD 1) (bM (ae (ak (rd 2) (rd 1) bC) (ae (ak (rd 3) (rd 1) bC) ao)))) [.val S,.val (NM C),.un,.val (CE ns),.val (OE ns),.un,.un,.un]=some (.nx [.val S,.val (NM C),.un,.val (CE ns),.val (OE ns),.own acc,.un,.un]):=by
  have hr:fQ (ae (kI 4) ao) [.val S,.val (NM C),.un,.val (CE ns),.val (OE ns),.un,.un,.un]=some ((List.range 4).map fun(i:Nat)=>PV.int (0+(i:Int))):=gm (j:=4) rfl (by decide)
  refine sO (cV hr (by simp) ?_) (by simp)
  have:acc=(List.range 4).map λi=>PV.aJ [.str (fM C i),enc ((Gp ns).getD i .num)]:=by rw[si];rfl
  rw[this];refine de λi hi=>?_
  have hi:=cZ.mp hi;rw[jm];have hn:=uC C (q:=i) (by lia)
  have ho:bC (OE ns) (.int (i:Int))=some (enc ((Gp ns).getD i .num)):=cJ (by
   have:i=0\/i=1\/i=2\/i=3:=by lia
   rcases this with rfl | rfl | rfl | rfl<;>rfl)
  obtain⟨NN,Gq⟩:∃NN,NN=NM C:=⟨_,rfl⟩
  rw[<-Gq]at hn;rw[<-Gq];obtain⟨OO,W6⟩:∃OO,OO=OE ns:=⟨_,rfl⟩
  rw[<-W6]at ho;rw[<-W6];have t:aD 1 (.int (i:Int)) (bB [none,none,some 1,some 4] [.val S,.val NN,.un,.val (CE ns),.val OO,.un,.un,.un])=some [.un,.val (.int (i:Int)),.val NN,.val OO]:=rfl;rw[t,bo];exact tU (cA (b2 (x:=NN) rfl rfl hn) (cA (b2 (x:=OO) rfl rfl ho) rfl)) (by simp)
 have hr:fQ (ae (kI 4) ao) [.val S,.val (NM C),.un,.val (CE ns),.val (OE ns),.own acc,.un,.un]=some [.int ((0:Nat):Int),.int ((1:Nat):Int),.int ((2:Nat):Int),.int ((3:Nat):Int)]:=gm (j:=4) rfl (by decide)
 have hl:acc++[d0 (fM C 4,d4)]++[d0 (fM C 5,d5)]++[d0 (fM C 6,d6)]++[d0 (fM C 7,d7)]=([(fM C 0,.ow .num),(fM C 1,.ow (gN (mC ns 0))),(fM C 2,.ow (gN (mC ns 1))),(fM C 3,.ow (gN (mC ns 2))),(fM C 4,d4),(fM C 5,d5),(fM C 6,d6),(fM C 7,d7)]:List Rk).map d0:=by rw[si];rfl
 rw[<-hl];exact Fv (sq (aS c1 rfl) (sq (aS c2 rfl) (sq c3 (sq (fS hr (fC rfl h4 (fC rfl h5 (fC rfl h6 (fC rfl h7 rfl))))) (Fw rfl)))))
def sg:Nat->Nat->List (Nat×fW)
 | _,0=>[]
 | i,n+1=>(i,rn)::sg (i+1) n
theorem m7:∀(n i:Nat),ik i (List.replicate n [])=sg i n
 | 0,_=>rfl
 | n+1,i=>by
  rw[List.replicate_succ,ik,m7 n];rfl
theorem ot:∀(n i:Nat),(sg i n).length=n
 | 0,_=>rfl
 | n+1,i=>by rw[sg,aZ,ot n]
theorem zr:∀(n i j:Nat),j<n->(sg i n)[j]?=some (i+j,rn)
 | 0,_,_,h=>absurd h (nC _)
 | n+1,i,0,_=>rfl
 | n+1,i,j+1,h=>by
  show(sg (i+1) n)[j]?=_;rw[zr n (i+1) j (by lia),show i+1+j=i+(j+1) by lia]
def sk(n:Nat):List (bQ×PV):=(List.range n).map λj:Nat=>(Sum.inl (j:Int),.int (j:Int))
theorem D6(n:Nat):sk (n+1)=sk n++[(Sum.inl (n:Int),.int (n:Int))]:=by
 unfold sk;rw[List.range_succ,c9];rfl
theorem wO(m:Nat):∀n:Nat,di (sk n) (.inl (m:Int))=if m<n then some (.int (m:Int))else none
 | 0=>rfl
 | n+1=>by
  have ih:=wO m n;unfold di at ih ⊢;rw[D6,List.find?_append,List.find?_singleton];by_cases h:m<n
  ·rw[if_pos h]at ih;rw[show(if m<n+1 then some (PV.int (m:Int))else none)=some (PV.int (m:Int))from if_pos (by lia)]
   cases z:(sk n).find? (λkv=>decide (kv.1=Sum.inl (m:Int)))with
   | none=>rw[z]at ih;cases ih
   | some q=>rw[z]at ih;exact ih
  ·rw[if_neg h]at ih;cases z:(sk n).find? (λkv=>decide (kv.1=Sum.inl (m:Int)))with
   | some q=>rw[z]at ih;cases ih
   | none =>
    by_cases e:n=m
    ·subst e;rw[show(if n<n+1 then some (PV.int (n:Int))else none)=some (PV.int (n:Int))from if_pos (by lia)]
     simp
    ·have hne:¬(Sum.inl (n:Int):bQ)=Sum.inl (m:Int):=λw=>by
      injection w with w
      lia
     rw[show(if m<n+1 then some (PV.int (m:Int))else none)=none from if_neg (by lia)]
     simp[hne]
theorem KH:∀(n i:Nat),wI (sg i n) i (sk i)=sk (i+n)
 | 0,i=>rfl
 | n+1,i=>by
  rw[sg,wI,wO i i,if_neg (gU _)];show wI (sg (i+1) n) (i+1) (sk i++[(.inl (i:Int),.int (i:Int))])=_;rw[<-D6,KH n (i+1),show i+1+n=i+(n+1) by lia]
def rM(N i:Nat):List Nat:=if i+1<N then [i+1]else []
theorem KI{N i:Nat}:(rM N i).length<=2/\∀m∈rM N i,m<N:=by
 unfold rM;split
 ·exact⟨by simp,λm hm=>by rw[dW]at hm;lia⟩
 ·exact⟨by simp,λ_ z=>nomatch z⟩
theorem KJ(N:Nat):∀(n i:Nat),i+n=N->Gn (sg 0 N) (sk N) (rM N) i (sg i n)=(List.range' i n).map (rM N)
 | 0,i,_=>rfl
 | n+1,i,h=>by
  rw[sg,Gn,KJ N n (i+1) (by lia),List.range'_succ,bJ]
  congr 1
  unfold oq;rw[if_neg (λz=>by
   by_cases w:i+1<N
   ·rw[zr N 0 (i+1) w]at z;have z:=bg z;simp only at z
    lia
   ·rw[jf (by rw[ot];lia)]at z
    cases z)]
  show(rM N i).map (lr (sk N))=rM N i;unfold rM;split
  ·rename_i w;show [lr (sk N) (i+1)]=[i+1];unfold lr;rw[wO,if_pos w];rfl
  ·rfl
theorem KL(N:Nat):mY (List.replicate N []) (rM N)=(List.range N).map (rM N):=by
 unfold mY;rw[m7,show wI (sg 0 N) 0 []=sk N from(KH N 0).trans (by rw[gC]),KJ N N 0 (gC _),List.range_eq_range']
abbrev Cc(i:Int):PV:=.aJ [.str "say",.int i]
abbrev W7:PV:=.aJ [.str "give",.str ""]
abbrev eF(is:List Int):av:=is.map Cc++[W7]
theorem NS(k:Nat)(is:List Int):rB (run bK (k+1)) (.aJ (eF is)) (is.length+1) (rM (is.length+1)):=λi hi=>by
 refine⟨?_,KI⟩;have len:(eF is).length=is.length+1:=by simp
 obtain⟨p,hp⟩:∃p,(eF is)[i]?=some p:=⟨_,cx (by lia)⟩
 have ha:atI (eF is) (i:Int)=some p:=cJ hp;rw[sG,bH];have a1:b7 (ak (rd 0) (rd 1) bC) (aD 2) [.val (.aJ (eF is)),.val (.int (i:Int)),.un]=some (.nx [.val (.aJ (eF is)),.val (.int (i:Int)),.val p]):=aS (b2 (x:=.aJ (eF is)) (y:=.int (i:Int)) rfl rfl ha) rfl;have k1:ak (rd 1) (kI 1) ck [.val (.aJ (eF is)),.val (.int (i:Int)),.val p]=some (iN (i+1)):=b2 rfl rfl ja;have w:∀s v:Str,bC p (.int 0)=some (.str s)->toB (ak (ak (rd 2) (kI 0) bC) (kS v) nk) [.val (.aJ (eF is)),.val (.int (i:Int)),.val p]=some (s==v):=λs v h0=>bT (b2 (b2 (x:=p) (y:=.int 0) rfl rfl h0) rfl kL)
 unfold rM;by_cases h:i<is.length
 ·rw[fX (by rw[aB];exact h),bU,cx h]at hp
  cases hp;have ww:=λv=>w "say" v rfl
  rw[if_pos (by lia)]
  exact eS (sq a1 (sq (iF ((ww "give").trans (by kernel_rfl)) rfl) (sq (iF ((ww "go").trans (by kernel_rfl)) rfl) (sq (iF ((ww "if").trans (by kernel_rfl)) rfl) (rS (tU (ps:=[iN (i+1)]) (cA k1 rfl) (by simp)))))))
 ·have e:i=is.length:=by lia
  rw[gP (by rw[aB];lia),aB,e,Nat.sub_self]at hp
  cases hp;rw[if_neg (by lia)]
  exact eS (sq a1 (wd (iT ((w "give" "give" rfl).trans (by kernel_rfl)) (rS rfl))))
theorem KN(K:Nat)(h:12<=K)(F:PV)(i:Int):Ko (run bK K) F (Cc i) []:=by
 obtain⟨k,rfl,h3⟩:∃k,K=k+7/\3<=k:=⟨K-7,by lia,by lia⟩
 exact⟨⟨"say","say_acts",[.int i],rfl,by kernel_rfl,by kernel_rfl,_,BV (ks:=[]) (F:=F) (λ_ _ z=>nomatch z) k h3 "say" (a:=.n i) trivial,rfl⟩,by simp⟩
theorem Ge(K:Nat)(h:12<=K)(F:PV):Ko (run bK K) F W7 []:=by
 obtain⟨k,rfl⟩:∃k,K=k+7:=⟨K-7,by lia⟩
 exact⟨⟨"give","give_acts",[.str ""],rfl,by kernel_rfl,by kernel_rfl,_,wF k "give",rfl⟩,by simp⟩
def kD(p:Str×Nat):List bQ:=[.inr p.1,.inl (p.2:Int)]
def pP(p:Str×Nat):PV:=.aJ [.str p.1,iN p.2]
theorem S0{p q:Str×Nat}(h:kD p=kD q):p=q:=by
 unfold kD at h;injection h with e1 e2
 injection e2 with e2 _
 injection e1 with e1
 injection e2 with e2
 exact Prod.ext e1 (by lia)
def kd(P:List (Str×Nat)):List (List bQ×PV):=P.map λp=>(kD p,.bl true)
theorem KO(P:List (Str×Nat))(p:Str×Nat):qV (kd P) (kD p)=decide (p∈P):=by
 unfold qV kd;rw[List.any_map,Bool.eq_iff_iff,List.any_eq_true,jk];constructor
 ·rintro⟨q,hq,z⟩
  rw[<-S0 (pQ z)];exact hq
 ·exact λh=>⟨p,h,fg rfl⟩
theorem W8(p:Str×Nat):jF (pP p)=some (kD p):=rfl
theorem tV2{fa fb:FE}{ρ:aE}{a b:PV}(h1:fa ρ=some a)(h2:fb ρ=some b):bM (ae fa (ae fb ao)) ρ=some (.aJ [a,b]):=by
 rw[WW,h1,h2];rfl
theorem D7{fk fv:FE}{ρ:aE}{i:Nat}{P:List (Str×Nat)}{p:Str×Nat} (h0:ρ[i]?=some (.cg (.t (kd P)))) (h1:fk ρ=some (pP p)) (h2:fv ρ=some (.bl true)) (h3:p∉P) (hl:P.length<=90000) (ho:(ρ.set i .un).all (gZ false)=true):Bo i fk fv ρ=some (.nx (ρ.set i (.cg (.t (kd (P++[p])))))):=by
 unfold Bo;rw[h2,bo,h1,bo,h0];show(jF (pP p)).bind _=_;rw[W8,bo,if_pos ⟨Pb (by unfold kd;rw[aB];lia),ho⟩]
 unfold MQ;rw[KO,e9 h3,if_neg (by simp)]
 unfold kd;rw[c9];rfl
theorem NT{fe:FE}{ρ:aE}{p:PV}(h:fe (fm none ρ)=some p)(hp:j6 p=true):lH fe ρ=some p:=by
 unfold lH;rw[h,bo,if_pos hp]
theorem KP(c:f9)(S d:PV)(x:Str):∀(L:List Nat) (P:List (Str×Nat)) (x4:Ent),(∀j∈L,(x,j)∉P)->L.Nodup->P.length+L.length<=90000->(gZ false x4=true) ->
  ∃wW,fG (aD 4) (zd c) (L.map fun(i:Nat)=>.int (0+(i:Int))) [.val S,.cg (.t (kd P)),.val (.str x),.val d,x4]=some (.nx [.val S,.cg (.t (kd (P++L.map λj=>(x,j)))),.val (.str x),.val d,wW])/\gZ false wW=true
 | [],P,x4,_,_,_,h4=>⟨x4,by simp only[pX,fH];rfl,h4⟩
 | j::L,P,x4,hn,hd,hz,h4=>by
  rw[cY]at hd;rw[aZ]at hz;obtain⟨wW,e,h5⟩:=KP c S d x L (P++[(x,j)]) (.val (iN j)) (λi hi z=>by
   rcases dM.mp z with z | z
   ·exact hn i (bE _ hi) z
   ·have z:=dW.mp z;have:i=j:=dw Prod.snd z;subst this;exact hd.1 hi) hd.2 (by rw[bX];show P.length+1+L.length<=90000;lia) rfl
  refine⟨wW,?_,h5⟩;rw[fZ]at e;rw[bJ,show(PV.int (0+(j:Int)))=iN j by rw[jm];rfl]
  exact fC (eM:=[.val S,.cg (.t (kd P)),.val (.str x),.val d,.val (iN j)]) rfl (D7 (p:=(x,j)) rfl (tV2 rfl rfl) rfl (hn j bz) (by lia) rfl) e
def ib(R:List Rk):List (Str×Nat):=R.flatMap λr=>(List.range (lW r.2)).map λj=>(r.1,j)
theorem zt(k:Nat)(hk:3<=k)(S:PV):∀(R:List Rk) (P:List (Str×Nat)) (x2 x3 x4:Ent),(∀r∈R,wC (cX r.2))->(R.map (·.1)).Nodup->(∀r∈R,∀j,(r.1,j)∉P)->P.length+100*R.length<=90000->gZ false x4=true ->
  ∃K3 B6 wW,fG (gE 2 (b0 (aD 2) (b0 (aD 3) fP))) (kn (run bK (k+1))) (R.map d0) [.val S,.cg (.t (kd P)),x2,x3,x4]=some (.nx [.val S,.cg (.t (kd (P++ib R))),K3,B6,wW])
 | [],P,x2,x3,x4,_,_,_,_,_=>⟨x2,x3,x4,by rw[show ib []=[]from rfl,fH];rfl⟩
 | (x,d)::R,P,x2,x3,x4,ho,hn,hP,hz,h4=>by
  rw[bJ,cY]at hn;rw[aZ]at hz;have od:wC (cX d):=ho (x,d) bz;have Iz:lW d<=100:=B8 od;have hb:∃y4,kn (run bK (k+1)) [.val S,.cg (.t (kd P)),.val (.str x),.val (gM d),x4]=some (.nx [.val S,.cg (.t (kd (P++(List.range (lW d)).map λj=>(x,j)))),.val (.str x),.val (gM d),y4])/\gZ false y4=true:=by
   unfold kn;have hc:qD (toB (ak (ak (rd 3) (kI 0) bC) (bM (ae (kS "lent") (ae (kS "sole") ao))) (HZ false))) [.val S,.cg (.t (kd P)),.val (.str x),.val (gM d),x4]=some (pH d):=bT (b2 (x:=.str (kw d)) (y:=.aJ [.str "lent",.str "sole"]) (b2 (x:=gM d) rfl rfl (wx d)) rfl (DT d));cases hh:pH d with
   | true =>
    have e1:lW d=1:=by unfold lW;rw[if_pos hh]
    rw[e1];refine⟨x4,iT (hc.trans (by rw[hh])) ?_,h4⟩
    exact D7 (p:=(x,0)) rfl (tV2 rfl rfl) rfl (hP (x,d) bz 0) (by lia) (by simp only[List.set,gB,List.all_nil,Bool.and_true,h4];rfl)
   | false =>
    have e1:lW d=(lv (cX d)).length:=by unfold lW;rw[if_neg (by rw[hh];simp)]
    obtain⟨y4,e,h5⟩:=KP (run bK (k+1)) S (gM d) x (List.range (lW d)) P x4 (λj _=>hP (x,d) bz j) uP (by rw[fY];lia) h4
    refine⟨y4,iF (hc.trans (by rw[hh])) (fS ?_ e),h5⟩
    have hlv:aK (aW 1 (run bK (k+1) "_law_leaves")) (ae (rd 3) ao) (fm none [.val S,.cg (.t (kd P)),.val (.str x),.val (gM d),x4])=some (.ay (da (lv (cX d)))):=by
     obtain⟨s,rfl⟩:∃s,d=.ow s:=by cases d with | ow s=>exact⟨s,rfl⟩ | ho b s=>cases hh
     exact g9 (cA rfl rfl) rfl (uB s k (bY (show dp s<=3 from od.2) hk) (by have:(lv s).length=lW (.ow s):=e1.symm;lia)) rfl
    have:=gm (ts:=ae (lH (dh dZ (ae (aK (aW 1 (run bK (k+1) "_law_leaves")) (ae (rd 3) ao)) ao))) ao) (ρ:=[.val S,.cg (.t (kd P)),.val (.str x),.val (gM d),x4]) (j:=((lW d:Nat):Int)) (cA (NT (bV (as:=[.ay (da (lv (cX d)))]) (cA hlv rfl) (by rw[rb,gy,e1])) rfl) rfl) (by lia)
    rw[eZ]at this;exact this
  obtain⟨y4,e1,h5⟩:=hb;obtain⟨K3,B6,wW,e2⟩:=zt k hk S R (P++(List.range (lW d)).map λj=>(x,j)) (.val (.str x)) (.val (gM d)) y4 (λr hr=>ho r (bE _ hr)) hn.2 (λr hr j z=>by
   rcases dM.mp z with z | z
   ·exact hP r (bE _ hr) j z
   ·obtain⟨i,_,e⟩:=aY.mp z;have:x=r.1:=dw Prod.fst e;exact hn.1 (aY.mpr ⟨r,hr,this.symm⟩)) (by rw[bX,aB,fY];lia) h5
  refine⟨K3,B6,wW,?_⟩;rw[fZ]at e2;exact fC (eM:=[.val S,.cg (.t (kd P)),.val (.str x),.val (gM d),x4]) rfl e1 e2
theorem W9(k:Nat)(hk:3<=k){R:List Rk}(ho:∀r∈R,wC (cX r.2))(hn:(R.map (·.1)).Nodup)(hz:R.length<=100):run bK (k+2) "_law_due" [.ay (R.map d0)]=some (.cg (.t (kd (ib R)))):=by
 rw[Ke,bH];obtain⟨x2,x3,x4,e⟩:=zt k hk (.ay (R.map d0)) R [] .un .un .un ho hn (λ_ _ _ z=>nomatch z) (by simp;lia) rfl
 rw[gS]at e;show gx (bx (E5 1) _ _)=_;have:bx (E5 1) (bx (gV (dH (rd 0)) (gE 2 (b0 (aD 2) (b0 (aD 3) fP))) (kn (run bK (k+1)))) (Fg 1)) [.val (.ay (R.map d0)),.un,.un,.un,.un]=some (.rt (.cg (.t (kd (ib R))))):=sq (gq:=[.val (.ay (R.map d0)),.cg (.t (kd [])),.un,.un,.un]) rfl (sq (fS (sV rfl rfl) e) rfl);exact dw gx this
def YQ(n:Nat)(x:Str)(j:Nat)(c:Int):PV:=.aJ [.int (n:Int),.str x,.int (j:Int),.int c]
theorem told_at{told:eJ}{i n j:Nat}{x:Str}{c:Int}(h:told[i]?=some (kF n x j,c)):atI (told.map toldP) (i:Int)=some (YQ n x j c):=cJ (by rw[bU,h];rfl)
theorem Gf{ga gb:fj}{ρ:aE}{b:Bool}(h1:ga ρ=some false)(h2:gb ρ=some b):Gi ga gb ρ=some b:=by
 rw[JL,h1,bo,if_neg (by simp),h2]
theorem tV3{fa fb fc:FE}{ρ:aE}{a b c:PV}(h1:fa ρ=some a)(h2:fb ρ=some b)(h3:fc ρ=some c):bM (ae fa (ae fb (ae fc ao))) ρ=some (.aJ [a,b,c]):=by
 rw[WX,h1,h2,h3];rfl
theorem KQ{p:PV}(h:nj p<=i0):nk p p=some (.bl true):=by rw[SE h,mw]
def D8(told:eJ)(i n:Nat)(x:Str)(j:Nat)(c:Int):Prop:=(n=0/\c = -1)\/∃m jj d,n=m+1/\c=((jj:Nat):Int)/\jj<i/\told[jj]?=some (kF m x j,d)
theorem S2(k:Nat){told:eJ}{i n j:Nat}{x:Str}{c:Int}(ht:told[i]?=some (kF n x j,c))(h:D8 told i n x j c):run bK (k+2) "_law_came" [.ay (told.map toldP),iN i]=some (.val (.bl true)):=by
 rw[FU,bH];obtain⟨ρ,Pl⟩:∃ρ,ρ=[Ent.val (.ay (told.map toldP)),.val (iN i),.val (iN n),.val (.str x),.val (iN j),.val (.int c)]:=⟨_,rfl⟩
 have a0:b7 (ak (rd 0) (rd 1) bC) (gE 4 (b0 (aD 2) (b0 (aD 3) (b0 (aD 4) (b0 (aD 5) fP))))) [.val (.ay (told.map toldP)),.val (iN i),.un,.un,.un,.un]=some (.nx ρ):=by
  rw[Pl];exact aS (b2 (x:=.ay (told.map toldP)) (y:=.int (i:Int)) rfl rfl (told_at ht)) rfl
 have w2:aK (aW 1 (run bK (k+1) "_law_whole")) (ae (rd 2) ao) ρ=some (.bl true):=by rw[Pl];exact g9 (cA rfl rfl) rfl (wH k _) rfl
 have w4:aK (aW 1 (run bK (k+1) "_law_whole")) (ae (rd 4) ao) ρ=some (.bl true):=by rw[Pl];exact g9 (cA rfl rfl) rfl (wH k _) rfl
 have w5:aK (aW 1 (run bK (k+1) "_law_whole")) (ae (rd 5) ao) ρ=some (.bl true):=by rw[Pl];exact g9 (cA rfl rfl) rfl (wH k _) rfl
 have w3:C6 .str (rd 3) ρ=some (.bl true):=by rw[Pl];rfl
 have hc:toB (ak (rd 2) (kI 0) nk) ρ=some (decide ((n:Int)=0)):=by rw[Pl];exact bT (b2 (x:=.int (n:Int)) rfl rfl kK)
 have a1:=(Gf (nB (bT w2)) (Gf (nB (bT w4)) (Gf (nB (bT w5)) (nB (bT w3)))));rcases h with⟨h0,h1⟩ | ⟨m,jj,d,h0,h1,h2,h3⟩
 ·refine eS (sq a0 (sq (iF a1 rfl) (wd (iT (hc.trans (by rw[h0];rfl)) (rS ?_)))))
  rw[Pl,h1];exact b2 (x:=.int (-1)) (y:=.int (-1)) rfl rfl (by rw[kK];rfl)
 ·refine eS (sq a0 (sq (iF a1 rfl) (sq (iF (hc.trans (by rw[e9 (by lia)])) rfl) (rS ?_))))
  rw[Pl,h1,h0];refine(zl (b:=true) ((B7 (f:=0) (j:=jj) (g:=i) rfl rfl rfl).trans (by rw[fg (dY _),fg h2];rfl)) λ_=>?_)
  refine b2 (x:=pF m x j) (y:=pF m x j) ?_ (tV3 (b2 (x:=.int ((m+1:Nat):Int)) (y:=.int 1) rfl rfl ?_) rfl rfl) (KQ (Nat.le_of_ble_eq_true rfl))
  ·rw[DH,b2 (x:=.ay (told.map toldP)) (y:=.int (jj:Int)) rfl rfl (told_at h3)];rfl
  ·rw[JX]
   congr 2
   lia
section
variable {D:List (Str×Nat)} {told:eJ} {N:Nat}
abbrev LW(v0 v1 v2 v3 v4 v6:PV)(rows:av)(told:eJ)(D:List (Str×Nat))(x9:Ent):aE:=[.val v0,.val v1,.val v2,.val v3,.val v4,.val (.aJ rows),.val v6,.val (.ay (told.map toldP)),.cg (.t (kd D)),x9]
theorem KR(k:Nat){v0 v1 v2 v3 v4 v6:PV}{rows:av}(hr:rows.length=N){i n j:Nat}{x:Str}{c:Int}(ht:told[i]?=some (kF n x j,c))(hf:D8 told i n x j c)(hn:n<N)(hd:(x,j)∈D):pG (run bK (k+2)) (LW v0 v1 v2 v3 v4 v6 rows told D (.val (iN i)))=some (.nx (LW v0 v1 v2 v3 v4 v6 rows told D (.val (iN i)))):=by
 unfold pG;have qM:ak (rd 7) (rd 9) bC (LW v0 v1 v2 v3 v4 v6 rows told D (.val (iN i)))=some (YQ n x j c):=b2 (x:=.ay (told.map toldP)) (y:=.int (i:Int)) rfl rfl (told_at ht);have h1:C6 .tuple (ak (rd 7) (rd 9) bC) (LW v0 v1 v2 v3 v4 v6 rows told D (.val (iN i)))=some (.bl true):=by rw[Sw,qM];rfl
 have h2:ak (dh dZ (ae (ak (rd 7) (rd 9) bC) ao)) (kI 4) CZ (LW v0 v1 v2 v3 v4 v6 rows told D (.val (iN i)))=some (.bl false):=b2 (x:=.int 4) (y:=.int 4) (bV (as:=[YQ n x j c]) (cA qM rfl) rfl) rfl (by rw[Np];rfl)
 have h3:aK (aW 2 (run bK (k+2) "_law_came")) (ae (rd 7) (ae (rd 9) ao)) (LW v0 v1 v2 v3 v4 v6 rows told D (.val (iN i)))=some (.bl true):=g9 (cA rfl (cA rfl rfl)) rfl (S2 k ht hf) rfl;have h4:chain (kI 0) (ak (ak (rd 7) (rd 9) bC) (kI 0) bC) (dh dZ (ae (rd 5) ao)) HX C0 (LW v0 v1 v2 v3 v4 v6 rows told D (.val (iN i)))=some (.bl true):=by
  refine(B7 (f:=0) (j:=n) (g:=N) rfl (b2 (x:=YQ n x j c) qM rfl rfl) (bV (as:=[.aJ rows]) (cA rfl rfl) ?_)).trans ?_
  ·show some (PV.int (rows.length:Int))=_;rw[hr]
  ·rw[fg (dY _),fg hn];rfl
 refine sq (iF (Gf (nB (bT h1)) (Gf (bT h2) (nB (bT h3)))) rfl) (iF (Gf ?_ (nB (bT h4))) rfl)
 ·unfold inB;have hk:cutE (ak (rd 7) (rd 9) bC) (ee (kI 1)) (ee (kI 3)) (LW v0 v1 v2 v3 v4 v6 rows told D (.val (iN i)))=some (pP (x,j)):=by
   rw[DH,qM];rfl
  rw[hk,bo,W8,bo];show some (!qV (kd D) (kD (x,j)))=_;rw[KO,fg hd];rfl
theorem zu(k:Nat){v0 v1 v2 v3 v4 v6:PV}{rows:av}(hr:rows.length=N)(hall:∀i f c,told[i]?=some (f,c)->∃n x j,f=kF n x j/\D8 told i n x j c/\n<N/\(x,j)∈D):∀(L:List Nat) (x9:Ent),(∀i∈L,i<told.length) ->
  ∃W4,fG (aD 9) (pG (run bK (k+2))) (L.map fun(i:Nat)=>.int (0+(i:Int))) (LW v0 v1 v2 v3 v4 v6 rows told D x9)=some (.nx (LW v0 v1 v2 v3 v4 v6 rows told D W4))
 | [],x9,_=>⟨x9,rfl⟩
 | i::L,x9,h=>by
  obtain⟨W4,e⟩:=zu k hr hall L (.val (iN i)) λm hm=>h m (bE _ hm)
  refine⟨W4,?_⟩;obtain⟨⟨f,c⟩,ht⟩:∃t,told[i]?=some t:=⟨_,cx (h i bz)⟩
  obtain⟨n,x,j,rfl,g1,g2,g3⟩:=hall i f c ht;rw[bJ,show(PV.int (0+(i:Int)))=iN i by rw[jm];rfl]
  exact fC (eM:=LW v0 v1 v2 v3 v4 v6 rows told D (.val (iN i))) rfl (KR k hr ht g1 g2 g3) e
theorem Cd{n m:Nat}{x y:Str}{i j:Nat}(h:kF n x i=kF m y j):n=m/\x=y/\i=j:=by
 unfold kF at h;injection h with e1 e2
 injection e2 with e2 e3
 injection e3 with e3 _
 injection e1 with e1
 injection e2 with e2
 injection e3 with e3
 exact⟨by lia,e2,by lia⟩
def zw(D:List (Str×Nat))(l:List Nat):List (List bQ):=l.flatMap λn=>D.map λp=>kF n p.1 p.2
theorem D9(hD:D.Nodup):∀l:List Nat,l.Nodup->(zw D l).Nodup
 | [],_=>nE
 | a::l,h=>by
  rw[cY]at h;unfold zw;rw[lz,uL];refine⟨?_,D9 hD l h.2,λf hf g hg e=>?_⟩
  ·unfold List.Nodup at hD ⊢;rw[uN];exact hD.imp λhne e=>hne (Prod.ext (Cd e).2.1 (Cd e).2.2)
  ·obtain⟨p,_,rfl⟩:=aY.mp hf;obtain⟨b,hb,hg⟩:=gA.mp hg;obtain⟨q,_,rfl⟩:=aY.mp hg;exact h.1 (by rw[(Cd e).1];exact hb)
theorem zx(D:List (Str×Nat)):∀l:List Nat,(zw D l).length=l.length*D.length
 | []=>by simp[zw]
 | a::l=>by
  unfold zw;rw[lz,bX,aB,aZ,uY];have:=zx D l;unfold zw at this
  lia
theorem Ea:∀{R:List Rk},(R.map (·.1)).Nodup->(ib R).Nodup
 | [],_=>nE
 | (x,d)::R,h=>by
  rw[bJ,cY]at h;unfold ib;rw[lz,uL];refine⟨?_,Ea h.2,λp hp q hq e=>?_⟩
  ·unfold List.Nodup;rw[uN];have:(List.range (lW d)).Nodup:=uP;exact this.imp λhne e=>hne (dw Prod.snd e)
  ·obtain⟨i,_,rfl⟩:=aY.mp hp;obtain⟨r,hr,hq⟩:=gA.mp hq;obtain⟨i',_,rfl⟩:=aY.mp hq;exact h.1 (aY.mpr ⟨r,hr,(dw Prod.fst e).symm⟩)
theorem told_len(hD:D.Nodup)(hn:(told.map (·.1)).Nodup)(h1:∀t∈told,∃n x j,t.1=kF n x j/\n<N/\(x,j)∈D)(h2:∀n,n<N->∀p∈D,kF n p.1 p.2∈told.map (·.1)):told.length=N*D.length:=by
 have a:=gO (told.map (·.1)) (zw D (List.range N)) hn λf hf=>by
  obtain⟨t,ht,rfl⟩:=aY.mp hf;obtain⟨n,x,j,e,e1,e2⟩:=h1 t ht;rw[e];exact gA.mpr ⟨n,cZ.mpr e1,aY.mpr ⟨(x,j),e2,rfl⟩⟩
 have b:=gO (zw D (List.range N)) (told.map (·.1)) (D9 hD _ uP) λf hf=>by
  obtain⟨n,hn,hf⟩:=gA.mp hf;obtain⟨p,hp,rfl⟩:=aY.mp hf;exact h2 n (cZ.mp hn) p hp
 rw[zx,fY,aB]at a b
 lia
end
theorem KS(R:List Rk):kr R=(ib R).map λp=>kF 0 p.1 p.2:=by
 unfold kr ib;rw[List.map_flatMap]
 congr 1
 funext r
 rw[dX];rfl
theorem Eb(X:List Str)(Bd:Nat):Tw X Bd rn:=⟨⟨rfl,rfl,Nat.le_of_ble_eq_true rfl⟩,λz=>absurd (show(Str.ofString _==Str.ofString _)=true from z) (by decide +kernel)⟩
theorem NU(l:List Nat):NK rn l=[]:=by
 unfold NK SS;exact if_neg λz=>absurd (show(Str.ofString _==Str.ofString _)=true from z) (by decide +kernel)
theorem NV{x:Str}(h:(x==(Str.ofString ""))=false)(l:List Nat)(j:Nat):Tx rn l x j=l.map λn=>kF n x j:=by
 unfold Tx SU;refine if_neg λz=>?_
 unfold Kx flB at z;rw[Bool.or_eq_true]at z;rcases z with z | z
 ·have z:((Str.ofString "")==x)=true:=z;rw[<-bq z]at h;exact absurd h (by decide +kernel)
 ·rw[aG]at z;exact absurd (show(Str.ofString _==Str.ofString _)=true from z.1) (by decide +kernel)
theorem NW(K:Nat)(hK:20<=K){F0 nm res:PV}{R1 R2:List Rk}{is:List Int}(hi:is.length<=31)(hR:∀r∈R2,wC (cX r.2))(h3:∀r∈R2,lW r.2<=3)(hz:R2.length<=8)(hne:∀r∈R2,(r.1==(Str.ofString ""))=false) :
  ∃told:eJ,run bK K "empties" [.aJ [F0,Ki nm res (.aJ (eF is)) R1 R2],.int 1]=some (.val (.ay (told.map toldP)))/\(told.map (·.1)).Nodup /\
   (∀i f c,told[i]?=some (f,c)->∃n x j,f=kF n x j/\D8 told i n x j c/\n<is.length+1/\(x,j)∈ib R2)/\∀n,n<is.length+1->∀p∈ib R2,kF n p.1 p.2∈told.map (·.1):=by
 obtain⟨K,rfl⟩:∃m,K=m+4:=⟨K-4,by lia⟩
 obtain⟨fs,YO⟩:∃fs,fs=[F0,Ki nm res (.aJ (eF is)) R1 R2]:=⟨_,rfl⟩
 have qM:atI fs 1=some (Ki nm res (.aJ (eF is)) R1 R2):=by rw[YO];rfl
 obtain⟨N,hN⟩:∃N,N=is.length+1:=⟨_,rfl⟩
 have cC:(eF is).length=N:=by rw[hN];simp
 have e1:((eF is).map λp=>(p,([]:List fW))).map (·.1)=eF is:=by rw[dX];exact List.map_id _
 have e2:((eF is).map λp=>(p,([]:List fW))).map (·.2)=List.replicate N []:=by
  rw[dX,<-cC];exact List.map_const' ..
 have Pm:∀m,13<=m->run bK m "acts" [.aJ fs,.int 1]=some (.own (wG 0 (List.replicate N []))):=λm hm=>by
  obtain⟨m,rfl⟩:∃q,m=q+1:=⟨m-1,by lia⟩
  have:=SO m (L:=(eF is).map λp=>(p,([]:List fW))) qM (by rw[e1]) (λq hq=>by
   obtain⟨p,hp,rfl⟩:=aY.mp hq;rcases dM.mp hp with z | z
   ·obtain⟨i,_,rfl⟩:=aY.mp z;exact KN m (by lia) _ i
   ·rw[dW]at z;subst z;exact Ge m (by lia) _) (by rw[aB,cC];lia)
  rw[e2]at this;exact this
 have Ce:∀m,14<=m->run bK m "nexts" [.aJ fs,.int 1]=some (.own (((List.range N).map (rM N)).map nT))/\Kw ((List.range N).map (rM N)) N:=λm hm=>by
  obtain⟨m,rfl⟩:∃q,m=q+2:=⟨m-2,by lia⟩
  have hro:rB (run bK (m+1)) (.aJ (eF is)) (List.replicate N ([]:List fW)).length (rM N):=by
   rw[jP,hN];exact NS m is
  obtain⟨h1,h2,h3⟩:=NG (m+1) qM (Pm (m+1) (by lia)) hro (by rw[m7,ot];lia)
  rw[KL]at h1 h2 h3;rw[m7,ot]at h2 h3;exact⟨h1,⟨h2,h3,by lia,by lia⟩⟩
 have H:=(Ce 14 (by lia)).2
 obtain⟨_,ms,cs,hct,hso,oY,hmd,hin,_⟩:=FZ H;have Xa:∀m,15<=m->run bK m "come_to" [.aJ fs,.int 1]=some (.val (.ay (cs.map iN))):=λm hm=>by
  obtain⟨m,rfl⟩:∃q,m=q+2:=⟨m-2,by lia⟩
  exact hct m _ _ _ (Ce (m+1) (by lia)).1 rfl
 have hcs:∀c∈cs,c<N:=λc hc=>hin c ((oY c).mp hc)
 have hcl:cs.length<128:=by
  have e:=dw List.length hso;rw[aB,(fu _).length_eq,aB]at e;have:=gO ms (List.range N) hmd λn hn=>cZ.mpr (hin n hn)
  rw[fY]at this
  lia
 have hA:∀q∈sg 0 N,Tw (R2.map (·.1)) 3 q.2:=λq hq=>by
  obtain⟨j,hj⟩:=jg hq;have hl:=(cL.mp hj).1;rw[ot]at hl;rw[zr N 0 j hl]at hj;cases hj;exact Eb _ _
 have hU:N*((R2.map (·.1)).length*3)<5000:=by
  rw[aB];have:N*(R2.length*3)<=32*24:=Nat.mul_le_mul (by lia) (by lia)
  lia
 obtain⟨told,t1,t2,t3,t4,t5,t6⟩:=F9 (as:=sg 0 N) (ls:=(List.range N).map (rM N)) (X:=R2.map (·.1)) (Bd:=3) (N:=N) K (by lia) qM hR (by lia) (λr hr=>⟨aY.mpr ⟨r,hr,rfl⟩,h3 r hr⟩) (by rw[<-m7,<-rz];exact Pm (K+3) (by lia)) (Ce (K+3) (by lia)).1 (Xa (K+3) (by lia)) hA H (ot N 0) (by decide) hU hcs hcl
 rw[YO]at t1;have wJ:kr R2++cs.flatMap (cF (sg 0 N) ((List.range N).map (rM N)))=(ib R2).map λp=>kF 0 p.1 p.2:=by
  rw[KS,show cs.flatMap (cF (sg 0 N) ((List.range N).map (rM N)))=[]from List.flatMap_eq_nil_iff.mpr λn hn=>?_,fH]
  unfold cF;rw[zr N 0 n (hcs n hn),bU,jQ (hcs n hn)];exact NU _
 rw[wJ]at t3 t6;have hnm:∀x j,(x,j)∈ib R2->(x==(Str.ofString ""))=false:=λx j h=>by
  obtain⟨r,hr,h⟩:=gA.mp h;obtain⟨i,_,e⟩:=aY.mp h;cases e;exact hne r hr
 have Bm:∀m x j,m<N->(x,j)∈ib R2->lI K (sg 0 N) ((List.range N).map (rM N)) (kF m x j)=some ((rM N m).map λn=>kF n x j):=λm x j hm hx=>by
  rw[D3 K (zr N 0 m hm) (l:=rM N m) (by rw[bU,jQ hm];rfl) (Eb (R2.map (·.1)) 3) KI.1 x j,NV (hnm x j hx)]
 refine⟨told,t1,t5,?_,?_⟩
 ·rw[<-hN];intro i;induction i using Nat.strongRecOn with
  | _ i ih =>
   intro f c ht;rcases t3 i f c ht with⟨z1,z2⟩ | ⟨jj,g,d,S7,z1,z2,z3,z4,z5⟩
   ·obtain⟨p,hp,rfl⟩:=aY.mp z2;exact⟨0,p.1,p.2,rfl,.inl ⟨rfl,z1⟩,by lia,hp⟩
   ·obtain⟨m,x,j,rfl,_,hm,hx⟩:=ih jj z1 g d z3;rw[Bm m x j hm hx]at z4;cases z4;unfold rM at z5;split at z5
    ·rename_i dU;obtain⟨n,hn,rfl⟩:=aY.mp z5;rw[dW]at hn;subst hn;exact⟨m+1,x,j,rfl,.inr ⟨m,jj,d,rfl,z2,z1,z3⟩,dU,hx⟩
    ·cases z5
 ·rw[<-hN];intro n;induction n with
  | zero=>exact λ_ p hp=>t6 _ (aY.mpr ⟨p,hp,rfl⟩)
  | succ n ih =>
   intro hn p hp;obtain⟨⟨f,c⟩,hc,e⟩:=aY.mp (ih (by lia) p hp)
   obtain⟨i,hi⟩:=jg hc;simp only at e;subst e;obtain⟨S7,f1,f2⟩:=t4 i _ c (cL.mp hi).1 hi;rw[Bm n p.1 p.2 (by lia) hp]at f1
   cases f1;refine f2 _ (aY.mpr ⟨n+1,?_,rfl⟩);unfold rM;rw[if_pos hn];exact dW.mpr rfl
theorem Xb:oV (.int 10) (.int 12)=some (.int (10^12)):=by
 rw[q9,if_pos (by decide)]
 rfl
theorem Xc:oV (.int 10) (.int 22)=some (.int (10^22)):=by
 rw[q9,if_pos (by decide)]
 rfl
theorem Xd:oV (.int 10) (.int 30)=some (.int (10^30)):=by
 rw[q9,if_pos (by decide)]
 rfl
theorem Gg(ns:List Int):∃cs:List Int,ij (ns.map PV.int) (some 8) (some 39)=cs.map .int/\cs.length<=31:=by
 have e1:=HT.o9 (ns.map PV.int).length 0 8;have e2:=HT.o9 (ns.map PV.int).length (ns.map PV.int).length 39;unfold ij;rw[show(some 8:Option Int)=some ((8:Nat):Int)from rfl,show(some 39:Option Int)=some ((39:Nat):Int)from rfl,e1,e2,<-List.map_drop,<-List.map_take]
 exact⟨_,rfl,by rw[gR];lia⟩
def Cf(c:Int):Int:=wK c 0*(c%10^22)%10^30
theorem S3(k:Nat)(ns:List Int):∃is:List Int,run bK (k+2) "_law_rows" [Fo ns]=some (.val (.aJ (eF is)))/\is.length<=31:=by
 obtain⟨cs,hcs,hl⟩:=Gg ns;refine⟨cs.map Cf,?_,by rw[aB];exact hl⟩
 rw[FQ,bH];obtain⟨S,hS⟩:∃S,S=Fo ns:=⟨_,rfl⟩
 have aby:Ov (some 8) (some 39) S=some (.ay (cs.map .int)):=by
  rw[hS];show some (PV.ay (ij (ns.map .int) (some 8) (some 39)))=_;rw[hcs]
 rw[<-hS];have hm:∀c:Int,gJ (.int (wK c 0)) (.int (c%10^22))=some (.int (wK c 0*(c%10^22))):=λc=>by
  have h0:=Kz c 0;have h1:wK c 0<2147483647:=nv _ (by decide)
  rw[yO];exact if_pos (.inl ⟨by unfold HU;lia,by unfold HU;lia⟩)
 have e:(cs.map Cf).map Cc=cs.map λc=>Cc (Cf c):=by rw[dX];rfl
 have hc:cq (cW [none,none] (dH (cutE (rd 0) (ee (kI 8)) (ee (kI 39)))) (aD 1) (bM (ae (kS "say") (ae (ak (ak (aK (aW 2 (run bK (k+1) "_law_mixed")) (ae (rd 1) (ae (kI 0) ao))) (ak (rd 1) (ak (kI 10) (kI 22) oV) fq) gJ) (ak (kI 10) (kI 30) oV) fq) ao)))) [.val S,.un]=some (.ay ((cs.map Cf).map Cc)):=by
  rw[e];refine fF (cV (ps:=cs.map .int) (sV (p:=.ay (cs.map .int)) aby rfl) (by rw[aB];lia) (de λc _=>?_))
  have t:aD 1 (.int c) (bB [none,none] [.val S,.un])=some [.un,.val (.int c)]:=rfl;rw[t,bo];exact tU (cA rfl (cA (b2 (b2 (g9 (cA rfl (cA rfl rfl)) rfl (wL k c (i:=0) (by decide)) rfl) (b2 rfl (b2 rfl rfl Xc) (jD (by decide))) (hm c)) (b2 rfl rfl Xd) (jD (by decide))) rfl)) (by simp)
 refine eS (sq (gq:=[.val S,.val (.ay ((cs.map Cf).map Cc))]) (aS hc rfl) (rS (bV (as:=[.ay (eF (cs.map Cf))]) (cA (b2 (x:=.ay ((cs.map Cf).map Cc)) rfl (fF (lS (cA (tU (cA rfl (cA rfl rfl)) (by simp)) rfl) (by simp))) (aL (by simp;lia))) rfl) rfl)))
theorem sQ{n:Nat}{c:av->cz}{ts:bF}{ρ:aE}{as:av}{i:Nat}{kvs:List (List bQ×PV)}(h1:ts ρ=some as)(hn:as.length=n)(hc:c as=some (.cg (.t kvs)))(hi:i<ρ.length):Fh i (aW n c) ts ρ=some (.nx (ρ.set i (.cg (.t kvs)))):=by
 unfold Fh;rw[h1,bo];show(if as.length=n then c as else none).bind _=_
 rw[if_pos hn,hc,bo];exact if_pos hi
theorem zy:∀{told:eJ},(∀t∈told,∃n x j,t.1=kF n x j)->factsOf (told.map λt=>dq t.1)=some (told.map (·.1))
 | [],_=>rfl
 | t::told,h=>by
  obtain⟨n,x,j,e⟩:=h t bz;have i:=zy λq hq=>h q (bE _ hq)
  show(jF (dq t.1)).bind (λk=>(factsOf (told.map λt=>dq t.1)).map λks=>k::ks)=_
  rw[i,e];show some (kF n x j::_)=some (t.1::_);rw[e]
theorem KU(C:Int):∀l:List (Fin 26),l.Nodup->(l.map λi=>fM C i.1).Nodup
 | [],_=>nE
 | i::l,h=>by
  rw[cY]at h;rw[bJ,cY];refine⟨λhm=>?_,KU C l h.2⟩
  obtain⟨j,hj,e⟩:=aY.mp hm;have:=NP j.2 i.2 e;exact h.1 (by rw[<-Fin.ext this];exact hj)
theorem Xe{d:Kd}(h:hZ (cX d)):lW d<=3:=by
 unfold lW;split
 ·lia
 ·exact h.2
theorem KW(ns:List Int)(h:ns.length<=63):run bK 30 "law" [Fo ns]=some (.val (.bl true)):=by
 obtain⟨C,hC⟩:∃C,C=cell ns 0%10^12:=⟨_,rfl⟩
 have hn:=NQ 28 C;obtain⟨d4,d5,d6,d7,Iz,i4,i5,i6,i7⟩:=SY 27 (by lia) C ns
 obtain⟨LT,YR⟩:∃LT:List Rk,LT=[(fM C 0,.ow .num),(fM C 1,.ow (gN (mC ns 0))),(fM C 2,.ow (gN (mC ns 1))),(fM C 3,.ow (gN (mC ns 2))),(fM C 4,d4),(fM C 5,d5),(fM C 6,d6),(fM C 7,d7)]:=⟨_,rfl⟩
 rw[<-YR]at Iz;have hLl:LT.length=8:=by rw[YR];rfl
 have hLn:(LT.map (·.1)).Nodup:=by
  rw[YR];exact KU C [0,1,2,3,4,5,6,7] (by decide)
 have hLf:∀r∈LT,hZ (cX r.2)/\(r.1==(Str.ofString ""))=false:=by
  rw[YR];intro r hr;simp only[aX,dB,dC]at hr;rcases hr with rfl | rfl | rfl | rfl | rfl | rfl | rfl | rfl
  ·exact⟨KC,kx C 0⟩
  ·exact⟨kP _,kx C 1⟩
  ·exact⟨kP _,kx C 2⟩
  ·exact⟨kP _,kx C 3⟩
  ·exact⟨i4.2,kx C 4⟩
  ·exact⟨i5.2,kx C 5⟩
  ·exact⟨i6.2,kx C 6⟩
  ·exact⟨i7.2,kx C 7⟩
 obtain⟨t,ht⟩:∃t:Nat,wK (cell ns 7) 3%8=(t:Int):=⟨(wK (cell ns 7) 3%8).toNat,by lia⟩
 have jY:∀i:Nat,run bK 29 "_law_cell_at" [Fo ns,.int (i:Int)]=some (.val (.int (cell ns i))):=λi=>Kp 28 ns i
 obtain⟨is,KY,abz⟩:=S3 27 ns;obtain⟨R2,hR2⟩:∃R2,R2=LT.drop t++LT.take t:=⟨_,rfl⟩
 have yt:R2.Perm LT:=by
  rw[hR2];exact List.perm_append_comm.trans (by rw[List.take_append_drop])
 have hRl:R2.length=8:=yt.length_eq.trans hLl;have hRn:(R2.map (·.1)).Nodup:=(yt.map _).nodup_iff.mpr hLn;have hRf:∀r∈R2,hZ (cX r.2)/\(r.1==(Str.ofString ""))=false:=λr hr=>hLf r (yt.mem_iff.mp hr)
 have hRk:∀r∈R2,wC (cX r.2):=λr hr=>(hRf r hr).1.1.1
 have hR3:∀r∈R2,lW r.2<=3:=λr hr=>Xe (hRf r hr).1
 have wR:(ib R2).length<=24:=by
  have:=m4 (λr:Rk=>(List.range (lW r.2)).map λj=>(r.1,j)) 3 R2 λr hr=>by rw[aB,fY];exact hR3 r hr
  unfold ib
  lia
 obtain⟨r0,r1,R3,hR⟩:∃r0 r1 R3,R2=r0::r1::R3:=by
  match R2,hRl with
  | a::b::l,_=>exact⟨a,b,l,rfl⟩
 obtain⟨R1,hR1⟩:∃R1:List Rk,R1=[(fM C 8,r0.2),(fM C 9,r1.2),(fM C 10,.ho true .own)]:=⟨_,rfl⟩
 obtain⟨F0,hF0⟩:∃F0,F0=PV.aJ [.str (fM C 11),.aJ [],.cM,.aJ [],.aJ [.aJ [.str "give",.str ""]]]:=⟨_,rfl⟩
 obtain⟨told,t1,t2,t3,t4⟩:=NW 29 (by decide) (F0:=F0) (nm:=.str (fM C 10)) (res:=.cM) (R1:=R1) (R2:=R2) (is:=is) abz hRk hR3 (by lia) λr hr=>(hRf r hr).2
 have Pj:∀q∈told,∃n x j,q.1=kF n x j/\n<is.length+1/\(x,j)∈ib R2:=λq hq=>by
  obtain⟨i,hi⟩:=jg hq;obtain⟨n,x,j,e,_,e1,e2⟩:=t3 i q.1 q.2 hi;exact⟨n,x,j,e,e1,e2⟩
 have hD:=Ea hRn;have htl:=told_len (N:=is.length+1) hD t2 Pj t4;have ZS:told.length<=32*24:=by
  rw[htl];exact Nat.mul_le_mul (by lia) wR
 have abB:=W9 27 (by decide) hRk hRn (by lia)
 obtain⟨S,hS⟩:∃S,S=Fo ns:=⟨_,rfl⟩
 obtain⟨NN,Gq⟩:∃NN,NN=NM C:=⟨_,rfl⟩
 have n8:bC NN (.int 8)=some (.str (fM C 8)):=by rw[Gq];exact uC C (q:=8) (by decide)
 have n9:bC NN (.int 9)=some (.str (fM C 9)):=by rw[Gq];exact uC C (q:=9) (by decide)
 have n10:bC NN (.int 10)=some (.str (fM C 10)):=by rw[Gq];exact uC C (q:=10) (by decide)
 have n11:bC NN (.int 11)=some (.str (fM C 11)):=by rw[Gq];exact uC C (q:=11) (by decide)
 rw[hC]at hn;have fN:oS (.own ((List.range 12).map λq=>.str (fM (cell ns 0%10^12) q)))=some NN:=by rw[Gq,hC];rfl
 rw[<-Gq]at Iz;have hl:(eF is).length=is.length+1:=by simp
 obtain⟨rows,hrw⟩:∃rows,rows=eF is:=⟨_,rfl⟩
 rw[<-hrw]at hl KY t1;rw[<-hS]at Iz KY;have hc0:run bK 29 "_law_cell_at" [S,.int 0]=some (.val (.int (cell ns 0))):=by rw[hS];exact jY 0
 have hc7:run bK 29 "_law_cell_at" [S,.int 7]=some (.val (.int (cell ns 7))):=by rw[hS];exact jY 7
 have hm7:=wL 28 (cell ns 7) (i:=3) (by decide)
 obtain⟨P,hP⟩:∃P,P=PV.aJ (R1.map d0):=⟨_,rfl⟩
 obtain⟨L2,Xf⟩:∃L2,L2=PV.ay (R2.map d0):=⟨_,rfl⟩
 have l0:bC L2 (.int 0)=some (d0 r0):=by rw[Xf,hR];exact cJ (j:=0) rfl
 have l1:bC L2 (.int 1)=some (d0 r1):=by rw[Xf,hR];exact cJ (j:=1) rfl
 obtain⟨x9,hx9⟩:=zu (told:=told) (D:=ib R2) (N:=is.length+1) 27 (v0:=S) (v1:=NN) (v2:=L2) (v3:=.int (t:Int)) (v4:=P) (v6:=F0) (rows:=rows) hl (λi f c hi=>by
  obtain⟨n,x,j,e,e0,e1,e2⟩:=t3 i f c hi;exact⟨n,x,j,e,e0,e1,e2⟩) (List.range told.length) .un λi hi=>cZ.mp hi
 rw[NA,bH,<-hS];show gx (Kf (run bK 29) [.val S,.un,.un,.un,.un,.un,.un,.un,.un,.un])=_;have NC:ak (cutE (rd 2) (ee (rd 3)) C3) (cutE (rd 2) C3 (ee (rd 3))) ck [.val S,.val NN,.val (.ay (LT.map d0)),.val (.int (t:Int)),.un,.un,.un,.un,.un,.un]=some L2:=by
  refine b2 (x:=.ay ((LT.map d0).drop t)) (y:=.ay ((LT.map d0).take t)) ?_ ?_ ?_
  ·show some (PV.ay (ij (LT.map d0) (some (t:Int)) none))=_;rw[J0]
  ·show some (PV.ay (ij (LT.map d0) none (some (t:Int))))=_;rw[J1]
  ·rw[aL (by rw[lA,gR,aB];lia),Xf,hR2,c9,List.map_drop,List.map_take]
 refine eS ?_;unfold Kf;refine sq (gq:=[.val S,.val NN,.un,.un,.un,.un,.un,.un,.un,.un]) (aS (p:=NN) (g9 (cA (b2 (g9 (cA rfl (cA rfl rfl)) rfl hc0 rfl) (b2 rfl rfl Xb) (jD (by decide))) (cA rfl rfl)) rfl hn fN) rfl) ?_
 refine sq (gq:=[.val S,.val NN,.val (.ay (LT.map d0)),.un,.un,.un,.un,.un,.un,.un]) (aS (p:=.ay (LT.map d0)) (g9 (cA rfl (cA rfl rfl)) rfl Iz rfl) rfl) ?_;refine sq (gq:=[.val S,.val NN,.val (.ay (LT.map d0)),.val (.int (t:Int)),.un,.un,.un,.un,.un,.un]) (aS (p:=.int (t:Int)) (b2 (g9 (cA (g9 (cA rfl (cA rfl rfl)) rfl hc7 rfl) (cA rfl rfl)) rfl hm7 rfl) rfl (by rw[jD (by decide),ht])) rfl) ?_
 refine sq (gq:=[.val S,.val NN,.val L2,.val (.int (t:Int)),.un,.un,.un,.un,.un,.un]) (aS (p:=L2) NC rfl) ?_;refine sq (gq:=[.val S,.val NN,.val L2,.val (.int (t:Int)),.val P,.un,.un,.un,.un,.un]) (aS (p:=P) ?_ rfl) ?_
 ·rw[hP,hR1];exact tU (cA (tU (cA (b2 (x:=NN) rfl rfl n8) (cA (b2 (b2 (x:=L2) rfl rfl l0) rfl rfl) rfl)) (by simp)) (cA (tU (cA (b2 (x:=NN) rfl rfl n9) (cA (b2 (b2 (x:=L2) rfl rfl l1) rfl rfl) rfl)) (by simp)) (cA (tU (cA (b2 (x:=NN) rfl rfl n10) (cA rfl rfl)) (by simp)) rfl))) (by simp)
 refine sq (gq:=[.val S,.val NN,.val L2,.val (.int (t:Int)),.val P,.val (.aJ rows),.un,.un,.un,.un]) (aS (p:=.aJ rows) (g9 (cA rfl rfl) rfl KY rfl) rfl) ?_;refine sq (gq:=[.val S,.val NN,.val L2,.val (.int (t:Int)),.val P,.val (.aJ rows),.val F0,.un,.un,.un]) (aS (p:=F0) ?_ rfl) ?_
 ·rw[hF0];exact tU (cA (b2 (x:=NN) rfl rfl n11) (cA rfl (cA rfl (cA rfl (cA rfl rfl))))) (by simp)
 refine sq (gq:=[.val S,.val NN,.val L2,.val (.int (t:Int)),.val P,.val (.aJ rows),.val F0,.val (.ay (told.map toldP)),.un,.un]) (aS (p:=.ay (told.map toldP)) (g9 (as:=[.aJ [F0,Ki (.str (fM C 10)) .cM (.aJ rows) R1 R2],.int 1]) (cA (tU (cA rfl (cA (tU (cA (b2 (x:=NN) rfl rfl n10) (cA (by rw[hP];rfl) (cA rfl (cA (x:=.aJ (R2.map d0)) (bV (as:=[.ay (R2.map d0)]) (cA (by rw[Xf];rfl) rfl) rfl) (cA rfl rfl))))) (by simp)) rfl)) (by simp)) (cA rfl rfl)) rfl t1 rfl) rfl) ?_
 refine sq (gq:=[.val S,.val NN,.val L2,.val (.int (t:Int)),.val P,.val (.aJ rows),.val F0,.val (.ay (told.map toldP)),.un,.un]) (iF (nB (b:=true) (bT (fa:=C6 .list (rd 7)) rfl)) rfl) ?_;refine sq (gq:=LW S NN L2 (.int (t:Int)) P F0 rows told (ib R2) .un) (sQ (as:=[L2]) (cA rfl rfl) rfl (by rw[Xf];exact abB) (by simp)) ?_
 have hr:fQ (ae (dh dZ (ae (rd 7) ao)) ao) (LW S NN L2 (.int (t:Int)) P F0 rows told (ib R2) .un)=some ((List.range told.length).map fun(i:Nat)=>PV.int (0+(i:Int))):=by
  have:=gm (ts:=ae (dh dZ (ae (rd 7) ao)) ao) (ρ:=LW S NN L2 (.int (t:Int)) P F0 rows told (ib R2) .un) (j:=(told.length:Int)) (cA (bV (as:=[.ay (told.map toldP)]) (cA rfl rfl) (by rw[rb,aB])) rfl) (by lia)
  rw[eZ]at this;exact this
 refine sq (fS hr hx9) (rS ?_);have cC:dh dZ (ae (rd 7) ao) (LW S NN L2 (.int (t:Int)) P F0 rows told (ib R2) x9)=some (.int (told.length:Int)):=bV (as:=[.ay (told.map toldP)]) (cA rfl rfl) (by rw[rb,aB])
 refine zl (b:=true) (c:=true) (b2 (x:=.int (told.length:Int)) ?_ cC (by rw[kK,fg rfl])) λ_=>b2 cC (b2 (x:=.int ((kd (ib R2)).length:Int)) (y:=.int (rows.length:Int)) rfl rfl (jx (by lia))) ?_
 ·have hk:cq (cW [none,none] (dH (rd 7)) (aD 1) (cutE (rd 1) C3 (ee (kI 3)))) (LW S NN L2 (.int (t:Int)) P F0 rows told (ib R2) x9)=some (.ay (told.map λt=>dq t.1)):=by
   refine fF (cV (ps:=told.map toldP) (sV (p:=.ay (told.map toldP)) rfl rfl) (by rw[aB];lia) (de λq hq=>?_))
   obtain⟨n,x,j,e,_⟩:=Pj q hq;have e':q=(kF n x j,q.2):=Prod.ext e rfl;rw[e'];rfl
  unfold MV;rw[hk,bo];show(factsOf (told.map λt=>dq t.1)).bind _=_
  rw[zy λq hq=>by
   obtain⟨n,x,j,e,_⟩:=Pj q hq;exact⟨n,x,j,e⟩,bo,aB]
  exact if_pos ⟨t2,by lia⟩
 ·rw[kK,fg];unfold kd;rw[aB,hl,htl]
  push_cast
  exact Int.mul_comm _ _
end cn
namespace cn
open PySem L2 L2.PL
def abC:List Pos:=[⟨49,11,49,17⟩,⟨49,19,49,27⟩,⟨50,4,50,8⟩,⟨50,11,50,13⟩,⟨50,4,50,13⟩,⟨51,4,51,9⟩,⟨51,12,51,14⟩,⟨51,4,51,14⟩,⟨52,4,52,12⟩,⟨52,13,52,17⟩,⟨52,19,52,24⟩,⟨52,26,52,32⟩,⟨52,35,52,36⟩,⟨52,34,52,36⟩,⟨52,4,52,37⟩,⟨52,4,52,37⟩,⟨53,4,53,5⟩,⟨53,8,53,9⟩,⟨53,4,53,9⟩,⟨54,10,54,11⟩,⟨54,14,54,17⟩,⟨54,18,54,22⟩,⟨54,14,54,23⟩,⟨54,10,54,23⟩,⟨55,8,55,16⟩,⟨55,17,55,21⟩,⟨55,23,55,28⟩,⟨55,30,55,38⟩,⟨55,39,55,43⟩,⟨55,44,55,45⟩,⟨55,39,55,46⟩,⟨55,49,55,50⟩,⟨55,48,55,50⟩,⟨55,47,55,50⟩,⟨55,39,55,51⟩,⟨55,30,55,52⟩,⟨55,54,55,55⟩,⟨55,8,55,56⟩,⟨55,8,55,56⟩,⟨56,8,56,9⟩,⟨56,13,56,14⟩,⟨56,8,56,14⟩,⟨54,4,56,14⟩,⟨57,11,57,15⟩,⟨57,4,57,15⟩,⟨49,0,57,15⟩]
def abD:List Pos:=[⟨58,13,58,17⟩,⟨58,19,58,24⟩,⟨58,26,58,31⟩,⟨58,33,58,37⟩,⟨59,8,59,12⟩,⟨59,16,59,21⟩,⟨60,11,60,15⟩,⟨60,23,60,28⟩,⟨60,11,60,28⟩,⟨61,12,61,17⟩,⟨61,18,61,22⟩,⟨61,12,61,23⟩,⟨61,26,61,30⟩,⟨61,12,61,30⟩,⟨62,12,62,16⟩,⟨62,12,62,23⟩,⟨62,24,62,28⟩,⟨62,32,62,36⟩,⟨62,31,62,38⟩,⟨62,24,62,38⟩,⟨62,12,62,39⟩,⟨62,12,62,39⟩,⟨60,8,62,39⟩,⟨59,4,62,39⟩,⟨58,0,62,39⟩]
theorem abE:JK bK:=⟨by kernel_rfl,.inr ⟨λi=>abC.getD i ⟨0,0,0,0⟩,λi=>abD.getD i ⟨0,0,0,0⟩,by kernel_rfl,by kernel_rfl,by kernel_rfl,by kernel_rfl⟩⟩
end cn
open PySem PySem.W PyProof.Rows PySem.Calls
theorem PySem.Challenge.cw_lendrule_k20_ahead_of_the_first_act_holds : PySem.Challenge.rw_lendrule_k20_ahead_of_the_first_act.Holds := by
 exact cn.fin λd h1 h2=>L2.PL.Fq (P:=cn.bK) (N:=30) (st:=cn.G5) (x:="_law_script") (l:=PySem.Challenge.rw_lendrule_k20_ahead_of_the_first_act) (by kernel_rfl) (by kernel_rfl) rfl h1 h2 ⟨rfl,by decide,by decide⟩ cn.abE (λw h Y=>Y) cn.KW
end
